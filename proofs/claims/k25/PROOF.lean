import PyProof.Rows.All
import Wide.All
import OpenK.AllK
import Wide.FinOn
import Lean
import PyProof.EqAt
import PyProof.EqKinds
import PyProof.TupleCall
import PyProof.NeKinds
import PyProof.CompFree
import PyProof.ListRange
import PyProof.Rows.SortWalk
import PyProof.ExcArgsOwn
import PyProof.ExcAttrAll.ValueError
import KE.KTryMore
import PyProof.GenCompD
import PyProof.StrWalks
import PyProof.ConsumeS
import PyProof.StrOps2
import PyProof.CompMap
import KE.KRevIter
import PyProof.ZipIter
import PyProof.DictWalks
import PyProof.DictCompW
import PyProof.DictRoads
import PyProof.MeetsDictList
import KE.KDictList
import PyProof.EnumFor
import PyProof.EnumMake
import PyProof.WalksEnum
import PySem.Challenge.RW_overhaul_k25_how_many_beyond
noncomputable section
set_option Elab.async false
set_option linter.all false
set_option maxRecDepth 100000
namespace L2
open PySem PySem.Spec PyProof.Rows
abbrev Key:=Sum Int Str
def keyIs:Key→Value→Bool
 | .inl k,v=>Value.isInt k v
 | .inr x,v=>Value.isStrOf x v
def keyH (w:World):Key→Int
 | .inl k=>hashInt k
 | .inr x=>hashStr w x
theorem keyIs_shape:∀ {k:Key} {v:Value},keyIs k v=true→(∃ i t,k=Sum.inl i∧v=Value.int i t)∨(∃ x t,k=Sum.inr x∧v=Value.str x t)
 | .inl i,v,h=>by
  obtain ⟨t,e⟩:=Value.isInt_shape (k:=i) (v:=v) h
  exact .inl ⟨i,t,rfl,e⟩
 | .inr x,v,h=>by
  obtain ⟨t,e⟩:=Value.isStrOf_shape (x:=x) (v:=v) h
  exact .inr ⟨x,t,rfl,e⟩
theorem key_ll (a b:Int):decide ((Sum.inl a:Key)=Sum.inl b)=(a == b):=by
 by_cases e:a=b
 ·subst e;simp
 ·have h:¬ (Sum.inl a:Key)=Sum.inl b:=fun q=>e (Sum.inl.inj q)
  rw [decide_eq_false h]
  exact (beq_eq_false_iff_ne.mpr e).symm
theorem key_rr (a b:Str):decide ((Sum.inr a:Key)=Sum.inr b)=decide (a=b):=by
 by_cases e:a=b
 ·subst e;simp
 ·have h:¬ (Sum.inr a:Key)=Sum.inr b:=fun q=>e (Sum.inr.inj q)
  rw [decide_eq_false h,decide_eq_false e]
theorem key_lr (a:Int) (b:Str):decide ((Sum.inl a:Key)=Sum.inr b)=false:=decide_eq_false (fun q=>nomatch q)
theorem key_rl (a:Str) (b:Int):decide ((Sum.inr a:Key)=Sum.inl b)=false:=decide_eq_false (fun q=>nomatch q)
def mixKind (prog:Program) (w:World):PySem.KeyKind prog w Key where
 is:=keyIs
 hash:=keyH w
 inj:=fun v a b ha hb=>by
  rcases keyIs_shape ha with ⟨i,t,rfl,rfl⟩ | ⟨x,t,rfl,rfl⟩
  ·rcases keyIs_shape hb with ⟨j,u,rfl,e⟩ | ⟨y,u,rfl,e⟩
   ·injection e with e1 _;rw [e1]
   ·exact nomatch e
  ·rcases keyIs_shape hb with ⟨j,u,rfl,e⟩ | ⟨y,u,rfl,e⟩
   ·exact nomatch e
   ·injection e with e1 _;rw [e1]
 byValue:=fun k v h=>by
  rcases keyIs_shape h with ⟨i,t,rfl,rfl⟩ | ⟨x,t,rfl,rfl⟩ <;> rfl
 pyHash:=fun hv h=>by
  rcases keyIs_shape hv with ⟨i,t,rfl,rfl⟩ | ⟨x,t,rfl,rfl⟩
  ·exact wpAny_pyHash_int h
  ·exact wpAny_pyHash_str h
 eqBool:=fun hu hv h=>by
  rcases keyIs_shape hu with ⟨i,t,rfl,rfl⟩ | ⟨x,t,rfl,rfl⟩
  ·rcases keyIs_shape hv with ⟨j,u,rfl,rfl⟩ | ⟨y,u,rfl,rfl⟩
   ·rw [key_ll] at h;exact wpAny_eqBool_int h
   ·rw [key_lr] at h;exact SeqAt.EqAt.int_str i t y u _ _ _ _ h
  ·rcases keyIs_shape hv with ⟨j,u,rfl,rfl⟩ | ⟨y,u,rfl,rfl⟩
   ·rw [key_rl] at h;exact SeqAt.EqAt.str_int x t j u _ _ _ _ h
   ·rw [key_rr] at h;exact wpAny_eqBool_str h
 «strs»:=fun k x t v h=>by
  rcases keyIs_shape h with ⟨i,u,rfl,e⟩ | ⟨y,u,rfl,e⟩
  ·exact nomatch e
  ·injection e with e1 _
   subst e1
   cases v <;> rfl
end L2
namespace L2
open PySem PySem.Spec PyProof.Rows
inductive V where
 | non | bl (b:Bool) | int (i:Int) | str (x:Str) | byt (b:Array UInt8) | flt (b:UInt64) | ref (a:Addr) | ty (n:String)
 deriving DecidableEq
def RelV:V→Value→Prop
 | .non,u=>u=Value.none
 | .bl b,u=>u=Value.bool b
 | .int i,u=>∃ t,u=Value.int i t
 | .str x,u=>∃ t,u=Value.str x t
 | .byt b,u=>∃ t,u=Value.bytes b t
 | .flt b,u=>∃ t,u=Value.float b t
 | .ref a,u=>u=Value.ref a
 | .ty n,u=>u=Value.type n
abbrev Vals:List V→List Value→Prop:=Paired RelV
theorem Vals.length {xs:List V} {us:List Value} (r:Vals xs us):xs.length=us.length:=Paired.length r
theorem Vals.get:∀ {xs:List V} {us:List Value} {i:Nat} {x:V},Vals xs us→xs[i]?=some x→∃ u,us[i]?=some u∧RelV x u
 | _,_,_,_,.nil,e=>by simp at e
 | _,_,0,_,.cons r _,e=>by simp at e;subst e;exact ⟨_,rfl,r⟩
 | _,_,i + 1,x,.cons _ t,e=>by
  obtain ⟨u,h1,h2⟩:=Vals.get (i:=i) (x:=x) t (by simpa using e)
  exact ⟨u,by simpa using h1,h2⟩
theorem Vals.set {x:V} {u:Value} (r:RelV x u):∀ {xs:List V} {us:List Value} (i:Nat),Vals xs us→Vals (xs.set i x) (us.set i u)
 | _,_,_,.nil=>.nil
 | _,_,0,.cons _ t=>.cons r t
 | _,_,i + 1,.cons q t=>.cons q (Vals.set r i t)
theorem Vals.append:∀ {xs ys:List V} {us ws:List Value},Vals xs us→Vals ys ws→Vals (xs ++ ys) (us ++ ws)
 | _,_,_,_,.nil,s=>s
 | _,_,_,_,.cons r t,s=>.cons r (Vals.append t s)
theorem Vals.take:∀ {xs:List V} {us:List Value} (n:Nat),Vals xs us→Vals (xs.take n) (us.take n)
 | _,_,0,_=>.nil
 | _,_,_ + 1,.nil=>.nil
 | _,_,n + 1,.cons r t=>.cons r (Vals.take n t)
theorem Vals.drop:∀ {xs:List V} {us:List Value} (n:Nat),Vals xs us→Vals (xs.drop n) (us.drop n)
 | _,_,0,r=>r
 | _,_,_ + 1,.nil=>.nil
 | _,_,n + 1,.cons _ t=>Vals.drop n t
theorem Vals.none_of:∀ {xs:List V} {us:List Value} {i:Nat},Vals xs us→xs[i]?=none→us[i]?=none:=fun {xs us i} r e=>by
 have h1:=r.length
 have h2:xs.length≤i:=List.getElem?_eq_none_iff.mp e
 exact List.getElem?_eq_none_iff.mpr (by omega)
def RelO:Option V→Option Value→Prop
 | some v,some u=>RelV v u
 | none,none=>True
 | _,_=>False
def KV {κ:Type}:List (κ × V)→List (κ × Value)→Prop:=Paired fun (p:κ × V) (q:κ × Value)=>p.1=q.1∧RelV p.2 q.2
def kV:Key→V
 | .inl i=>.int i
 | .inr x=>.str x
inductive HO where
 | lst (xs:List V)
 | tup (xs:List V)
 | dK (kvs:List (Key × V)) | dE (kvs:List (Str × V)) (ep:Nat)
 | set (S:Int→Bool) (n:Nat)
 | ins (C dx:Addr) (fs:List (Str × V))
 | own (x:Addr)
 | xd (fs:List (Str × V))
 | met (f x:Addr)
 | rng (lo hi:Int)
 | frz (o:Obj) (u:HO)
 | tbl (ps:Array Value)
 | ext (φ:Heap→Prop)
abbrev Hp:=Addr→Option HO
def upd (H:Hp) (a:Addr) (o:HO):Hp:=fun b=>if b=a then some o else H b
theorem upd_same {H:Hp} {a:Addr} {o:HO}:upd H a o a=some o:=by unfold upd;rw [if_pos rfl]
theorem upd_ne {H:Hp} {a b:Addr} {o:HO} (h:b≠a):upd H a o b=H b:=by unfold upd;rw [if_neg h]
theorem ne_of_none {H:Hp} {a b:Addr} {o:HO} (h:H a=some o) (h':H b=none):a≠b:=by
 intro e;subst e;rw [h] at h';cases h'
section
variable (P:Program) (w:World)
def ObjOk (H:Hp) (h:Heap) (a:Addr):HO→Prop
 | .lst xs=>xs.length≤sizeLine∧∃ (its:List Value) (n:Nat),Vals xs its∧h.get? a=some { cls:=.type "list",data:=.seq its.toArray n }
 | .tup xs=>xs.length≤sizeLine∧∃ its:List Value,Vals xs its∧IsTup h a its.toArray
 | .dK kvs=>kvs.length≤sizeLine∧(a == sysModules)=false∧∃ vs,KV kvs vs∧h.DictOf (mixKind P w) a vs
 | .dE kvs ep=>kvs.length≤sizeLine∧(a == sysModules)=false∧∃ vs,KV kvs vs∧h.DictAt (strKind P w) a vs ep
 | .set S n=>h.SetOf (intKind P w) a S n
 | .ins C dx fs=>H dx=some (.own a)∧fs.length≤1000∧dx≠a∧h.get? a=some (PySem.W.instObj C dx) ∧
   ∃ mA,h.Ns1 dx mA∧(∀ f,RelO (fs.lookup f) (mA f))∧PySem.Within mA (fs.map (·.1))
 | .own _=>∃ o,h.get? a=some o
 | .xd fs=>∃ mA,h.Ns1 a mA∧∀ f,RelO (fs.lookup f) (mA f)
 | .rng lo hi=>∃ t u v,h.get? a=some { cls:=.type "range",data:=.fields #[.int lo t,.int hi u,.int 1 v] }
 | .frz o u=>h.get? a=some o∧ObjOk H h a u
 | .tbl ps=>h.get? a=some { cls:=.none,data:=.fields ps }
 | .met f x=>h.get? a=some (PySem.W.methodObj (.ref f) (.ref x))
 | .ext φ=>φ h∧(∃ o,h.get? a=some o)∧∀ h1 h2:Heap,φ h1→(∀ o,h1.get? a=some o→h2.get? a=some o)→φ h2
def HOk (H:Hp) (h:Heap):Prop:=∀ a o,H a=some o→ObjOk P w H h a o
end
section
variable {P:Program} {w:World} {H H':Hp} {h h':Heap} {a:Addr} {o:HO}
theorem ObjOk.lt (x:ObjOk P w H h a o):a < h.objs.size:=by
 cases o with
 | lst xs=>obtain ⟨_,_,_,_,e⟩:=x;exact Heap.lt_size e
 | tup xs=>obtain ⟨_,_,_,p⟩:=x;exact p.lt
 | dK kvs=>obtain ⟨_,_,_,_,o,_,_,e,_⟩:=x;exact Heap.lt_size e
 | dE kvs ep=>obtain ⟨_,_,_,_,o,_,e,_⟩:=x;exact Heap.lt_size e
 | set S n=>obtain ⟨o,_,_,_,e,_⟩:=x;exact Heap.lt_size e
 | ins C dx fs=>obtain ⟨_,_,_,e,_⟩:=x;exact Heap.lt_size e
 | own y=>obtain ⟨_,e⟩:=x;exact Heap.lt_size e
 | xd fs=>obtain ⟨_,⟨_,_,_,e,_⟩,_⟩:=x;exact Heap.lt_size e
 | rng lo hi=>obtain ⟨_,_,_,e⟩:=x;exact Heap.lt_size e
 | frz ob u=>obtain ⟨e,_⟩:=x;exact Heap.lt_size e
 | tbl ps=>exact Heap.lt_size (show h.get? a=some _ from x)
 | met f y=>exact Heap.lt_size (show h.get? a=some _ from x)
 | ext φ=>obtain ⟨_,⟨_,e⟩,_⟩:=x;exact Heap.lt_size e
theorem ObjOk.stay (x:ObjOk P w H h a o) (k:∀ b u,(b=a∨H b=some (.own a))→h.get? b=some u→h'.get? b=some u)
  (ho:∀ b,H b=some (.own a)→H' b=some (.own a)) (ht:∀ b xs,H b=some (.tup xs)→H' b=some (.tup xs)):ObjOk P w H' h' a o:=by
 induction o with
 | lst xs=>obtain ⟨z,its,n,r,e⟩:=x;exact ⟨z,its,n,r,k _ _ (.inl rfl) e⟩
 | tup xs=>obtain ⟨z,its,r,ob,e,c⟩:=x;exact ⟨z,its,r,ob,k _ _ (.inl rfl) e,c⟩
 | dK kvs=>obtain ⟨z,y,vs,r,ob,es,ep,e,c⟩:=x;exact ⟨z,y,vs,r,ob,es,ep,k _ _ (.inl rfl) e,c⟩
 | dE kvs ep=>obtain ⟨z,y,vs,r,ob,es,e,c⟩:=x;exact ⟨z,y,vs,r,ob,es,k _ _ (.inl rfl) e,c⟩
 | set S n=>obtain ⟨ob,es,ep,t,e,c⟩:=x;exact ⟨ob,es,ep,t,k _ _ (.inl rfl) e,c⟩
 | ins C dx fs =>
  obtain ⟨d,z,ne,e,mA,⟨od,es,ep,e2,c⟩,r⟩:=x
  exact ⟨ho _ d,z,ne,k _ _ (.inl rfl) e,mA,⟨od,es,ep,k _ _ (.inr d) e2,c⟩,r⟩
 | own y=>obtain ⟨ob,e⟩:=x;exact ⟨ob,k _ _ (.inl rfl) e⟩
 | xd fs=>obtain ⟨mA,⟨od,es,ep,e,c⟩,r⟩:=x;exact ⟨mA,⟨od,es,ep,k _ _ (.inl rfl) e,c⟩,r⟩
 | rng lo hi=>obtain ⟨t,u,v,e⟩:=x;exact ⟨t,u,v,k _ _ (.inl rfl) e⟩
 | frz ob u ih=>obtain ⟨e,q⟩:=x;exact ⟨k _ _ (.inl rfl) e,ih q⟩
 | tbl ps =>
  have e:h.get? a=some { cls:=.none,data:=.fields ps }:=x
  show h'.get? a=some { cls:=.none,data:=.fields ps }
  exact k a _ (.inl rfl) e
 | met f y =>
  have e:h.get? a=some (PySem.W.methodObj (.ref f) (.ref y)):=x
  show h'.get? a=some (PySem.W.methodObj (.ref f) (.ref y))
  exact k a _ (.inl rfl) e
 | ext φ=>obtain ⟨p,⟨o,e⟩,st⟩:=x;exact ⟨st _ _ p fun o q=>k _ _ (.inl rfl) q,⟨o,k _ _ (.inl rfl) e⟩,st⟩
theorem HOk.lt (x:HOk P w H h) (e:H a=some o):a < h.objs.size:=(x a o e).lt
theorem HOk.fresh (x:HOk P w H h) (e:h.objs.size≤a):H a=none:=by
 cases q:H a with
 | none=>rfl
 | some u=>exact absurd (Nat.lt_of_lt_of_le (x.lt q) e) (Nat.lt_irrefl _)
theorem HOk.kept (x:HOk P w H h) (k:∀ b u,h.get? b=some u→h'.get? b=some u):HOk P w H h':=fun a o e =>
 (x a o e).stay (fun b u _ q=>k b u q) (fun _ q=>q) fun _ _ q=>q
theorem HOk.laid (x:HOk P w H h) (k:∀ b u,h.get? b=some u→h'.get? b=some u) (hp:h.objs.size≤a) (new:ObjOk P w (upd H a o) h' a o):HOk P w (upd H a o) h':=fun b u e=>by
 have hn:=x.fresh hp
 by_cases hb:b=a
 ·subst hb;rw [upd_same] at e;cases e;exact new
 ·rw [upd_ne hb] at e
  exact (x b u e).stay (fun c v _ q=>k c v q) (fun c q=>by rw [upd_ne (ne_of_none q hn)];exact q) fun c xs q=>by rw [upd_ne (ne_of_none q hn)];exact q
end
def Rd (H:Hp) (a:Addr) (u:HO):Prop:=H a=some u∨∃ o,H a=some (.frz o u)
theorem Rd.of {H:Hp} {a:Addr} {u:HO} (h:H a=some u):Rd H a u:=.inl h
theorem Rd.ok {P:Program} {w:World} {H:Hp} {h:Heap} {a:Addr} {u:HO} (r:Rd H a u) (x:HOk P w H h):ObjOk P w H h a u:=by
 rcases r with r | ⟨o,r⟩
 ·exact x a u r
 ·obtain ⟨_,q⟩:=x a _ r
  exact q
def Mut:Option HO→Prop
 | some (.lst _)=>True
 | some (.dK _)=>True
 | some (.dE _ _)=>True
 | some (.set _ _)=>True
 | some (.ins _ _ _)=>True
 | some (.ext _)=>True
 | _=>False
section
variable {P:Program} {w:World} {H:Hp} {h h':Heap} {x e:Addr} {o':HO}
theorem HOk.write (ok:HOk P w H h) (mu:Mut (H x)) (he:e=x∨H e=some (.own x)) (k:∀ b u,b≠e→h.get? b=some u→h'.get? b=some u) (heo:∃ u,h'.get? e=some u)
  (new:ObjOk P w (upd H x o') h' x o'):HOk P w (upd H x o') h':=fun b u q=>by
 have nown:∀ c y,H c=some (.own y)→c≠x:=fun c y r z=>by subst z;rw [r] at mu;exact mu
 have ntup:∀ c xs,H c=some (.tup xs)→c≠x:=fun c xs r z=>by subst z;rw [r] at mu;exact mu
 by_cases hb:b=x
 ·subst hb;rw [upd_same] at q;cases q;exact new
 ·rw [upd_ne hb] at q
  by_cases hbe:b=e
  ·have q':H b=some (.own x):=by
    rcases he with z | z
    ·exact absurd (hbe.trans z) hb
    ·rw [hbe];exact z
   rw [q] at q';cases q'
   obtain ⟨v,hv⟩:=heo
   exact ⟨v,by rw [hbe];exact hv⟩
  ·refine (ok b u q).stay (fun c v hc r=>k c v ?_ r) (fun c r=>by rw [upd_ne (nown c b r)];exact r) fun c xs r=>by rw [upd_ne (ntup c xs r)];exact r
   rcases hc with rfl | hc
   ·exact hbe
   ·rintro rfl
    rcases he with z | z
    ·exact nown c b hc z
    ·rw [hc] at z;cases z;exact hb rfl
end
structure Un (fs ex:List Addr) (H H':Hp) (h h':Heap):Prop where
 keep:∀ b o,h.get? b=some o→H b=none→b ∉ fs→b ∉ ex→h'.get? b=some o
 slot:∀ b o,h.get? b=some o→H b=none→b∈fs→b ∉ ex→∃ sl,h'.get? b=some { o with slots:=sl }
 free:∀ b o,h.get? b=some o→H b=none→b ∉ ex→H' b=none
 there:∀ b o,h.get? b=some o→b ∉ ex→∃ o',h'.get? b=some o'
 tups:∀ b xs,H b=some (.tup xs)→H' b=some (.tup xs)
 frzs:∀ b o u,H b=some (.frz o u)→H' b=some (.frz o u)
 tbls:∀ b ps,H b=some (.tbl ps)→∃ more,H' b=some (.tbl (ps ++ more))
section
variable {fs fs' ex ex':List Addr} {H H1 H2:Hp} {h h1 h2 h':Heap} {a x e:Addr} {o:HO}
theorem Un.any (u:Un fs ex H H1 h h1) {b:Addr} {ob:Obj} (q:h.get? b=some ob) (n:H b=none) (hx:b ∉ ex):∃ sl,h1.get? b=some { ob with slots:=sl }:=by
 by_cases hb:b∈fs
 ·exact u.slot b ob q n hb hx
 ·exact ⟨ob.slots,u.keep b ob q n hb hx⟩
theorem Un.trans (a:Un fs ex H H1 h h1) (b:Un fs ex H1 H2 h1 h2):Un fs ex H H2 h h2 where
 keep:=fun c ob q n hc hx=>b.keep c ob (a.keep c ob q n hc hx) (a.free c ob q n hx) hc hx
 slot:=fun c ob q n hc hx=>by
  obtain ⟨sl,e1⟩:=a.slot c ob q n hc hx
  obtain ⟨sl',e2⟩:=b.slot c _ e1 (a.free c ob q n hx) hc hx
  exact ⟨sl',e2⟩
 free:=fun c ob q n hx=>by
  obtain ⟨o',e1⟩:=a.there c ob q hx
  exact b.free c o' e1 (a.free c ob q n hx) hx
 there:=fun c ob q hx=>by
  obtain ⟨o',e1⟩:=a.there c ob q hx
  exact b.there c o' e1 hx
 tups:=fun c xs q=>b.tups c xs (a.tups c xs q)
 frzs:=fun c ob xs q=>b.frzs c ob xs (a.frzs c ob xs q)
 tbls:=fun c ps q=>by
  obtain ⟨m1,e1⟩:=a.tbls c ps q
  obtain ⟨m2,e2⟩:=b.tbls c _ e1
  exact ⟨m1 ++ m2,by rw [e2,Array.append_assoc]⟩
theorem Un.kept (k:∀ b u,h.get? b=some u→h'.get? b=some u):Un fs ex H H h h' :=
 ⟨fun b ob q _ _ _=>k b ob q,fun b ob q _ _ _=>⟨ob.slots,k b ob q⟩,fun _ _ _ n _=>n,fun b ob q _=>⟨ob,k b ob q⟩,fun _ _ q=>q,fun _ _ _ q=>q,fun _ ps q=>⟨#[],by rw [q];simp⟩⟩
theorem Un.refl:Un fs ex H H h h:=Un.kept fun _ _ q=>q
theorem Un.laid (k:∀ b u,h.get? b=some u→h'.get? b=some u) (hp:h.objs.size≤a) (hn:H a=none):Un fs ex H (upd H a o) h h' where
 keep:=fun b u q _ _ _=>k b u q
 slot:=fun b u q _ _ _=>⟨u.slots,k b u q⟩
 free:=fun b u q n _=>by rw [upd_ne (Nat.ne_of_lt (Nat.lt_of_lt_of_le (Heap.lt_size q) hp))];exact n
 there:=fun b u q _=>⟨u,k b u q⟩
 tups:=fun b xs q=>by rw [upd_ne (ne_of_none q hn)];exact q
 frzs:=fun b u xs q=>by rw [upd_ne (ne_of_none q hn)];exact q
 tbls:=fun b ps q=>⟨#[],by rw [upd_ne (ne_of_none q hn),q];simp⟩
theorem Un.write (mu:Mut (H x)) (he:e=x∨H e=some (.own x)) (k:∀ b u,b≠e→h.get? b=some u→h'.get? b=some u) (heo:∃ u,h'.get? e=some u):Un fs ex H (upd H x o) h h':=by
 have hx:∀ b,H b=none→b≠x:=fun b n z=>by subst z;rw [n] at mu;exact mu
 have hb:∀ b,H b=none→b≠e:=fun b n z=>by
  subst z
  rcases he with r | r
  ·exact hx b n r
  ·rw [n] at r;cases r
 have hm:∀ b u,H b=some u→¬ Mut (some u)→b≠x:=fun b u q nm z=>by subst z;rw [q] at mu;exact nm mu
 refine ⟨fun b u q n _ _=>k b u (hb b n) q,fun b u q n _ _=>⟨u.slots,k b u (hb b n) q⟩,fun b u q n _=>by rw [upd_ne (hx b n)];exact n,fun b u q _=>?_,
  fun b xs q=>by rw [upd_ne (hm b _ q fun z=>z)];exact q,fun b u xs q=>by rw [upd_ne (hm b _ q fun z=>z)];exact q,fun b ps q=>⟨#[],by rw [upd_ne (hm b _ q fun z=>z),q];simp⟩⟩
 by_cases hbe:b=e
 ·subst hbe;exact heo
 ·exact ⟨u,k b u hbe q⟩
theorem Un.mono (u:Un fs ex H H1 h h1) (hs:∀ b∈fs,b∈fs') (hx:∀ b∈ex,b∈ex'):Un fs' ex' H H1 h h1 :=
 ⟨fun b ob q n hb he=>u.keep b ob q n (fun z=>hb (hs b z)) fun z=>he (hx b z),fun _ _ q n _ he=>u.any q n fun z=>he (hx _ z),fun b ob q n he=>u.free b ob q n fun z=>he (hx b z),fun b ob q he=>u.there b ob q fun z=>he (hx b z),u.tups,u.frzs,u.tbls⟩
end
def trk (h:Heap) (H:Hp):List Addr:=(List.range h.objs.size).filter fun a=>(H a).isSome
def hidT (h:Heap) (H:Hp):Heap:=PySem.W.hideAll h (trk h H)
theorem hidT_size (h:Heap) (H:Hp):(hidT h H).objs.size=h.objs.size:=PySem.W.hideAll_size _ _
theorem hidT_get {h:Heap} {H:Hp} {b:Addr} {o:Obj} (e:h.get? b=some o) (n:H b=none):(hidT h H).get? b=some o :=
 PySem.W.hideAll_get _ e fun hm=>by
  have q:(H b).isSome=true:=(List.mem_filter.mp hm).2
  rw [n] at q;simp at q
theorem of_hidT {h:Heap} {H:Hp} {b:Addr} {o:Obj} (e:(hidT h H).get? b=some o):h.get? b=some o∧H b=none:=by
 have e':h.get? b=some o:=PySem.W.of_hideAll (trk h H) e
 refine ⟨e',?_⟩
 cases q:H b with
 | none=>rfl
 | some x =>
  have hm:b∈trk h H:=List.mem_filter.mpr ⟨List.mem_range.mpr (Heap.lt_size e'),by simp [q]⟩
  have z:(hidT h H).get? b=none:=PySem.W.hideAll_none (trk h H) hm
  rw [z] at e;cases e
def allNews (g h:Heap) (L:Addr):List (Addr × Obj):=(List.range h.objs.size).filterMap fun a=>if a=L∨(g.get? a).isSome=true then none else (h.get? a).map fun o=>(a,o)
def rest (g h:Heap) (L d:Addr):List (Addr × Obj):=(allNews g h L).filter fun p=>decide (p.1≠d)
end L2
namespace L2
open PySem PySem.Spec PyProof.Rows
structure Mod (K:PySem.W.Frag) (mg:Str→Option Value) (base:Heap):Prop where
 kin:K.In base
 glob:base.Ns mainGlobals mg
 blt:∃ mb,base.Ns builtinsNs mb∧∀ x:Str,x≠"__name__"→mb x=bootBuiltins x
 nolimit:base.NoLimit
structure Cx where
 prog:Program
 w:World
 K:PySem.W.Frag
 mg:Str→Option Value
 base:Heap
 A:Around
 N:List Str
 s₀:Shared
 H₀:Hp
 env:Env
 outer:List Env
 stack:List Env
 ex:List Addr
 fn:Str→Bool
 calm:Bool
 pn:List (Addr × Obj)
 xe:Value→Shared→Prop
def frs (l:List Env):List Addr:=l.filterMap (·.frame)
abbrev Cx.fs (X:Cx):List Addr:=frs X.outer
def Vis (sc:Scope) (x:Str):Prop:=sc.names.lookup x=some .local∨sc.names.lookup x=some .cell∨sc.names.lookup x=some .free
def Loc (sc:Scope) (x:Str):Prop:=sc.names.lookup x=some .local∨sc.names.lookup x=some .cell
def Look (env:Env) (h:Heap) (m:Str→Option Value) (x:Str) (u:Value):Prop :=
 (env.kindOf x=some .local∧m x=some u)∨((env.kindOf x=some .cell∨env.kindOf x=some .free)∧∃ c,env.cells.lookup x=some c∧h.IsCell c (some u))
structure Cx.Ok (X:Cx):Prop where
 mod:Mod X.K X.mg X.base
 kind:X.env.scope.kind=.function
 glob:X.env.globals=mainGlobals
 blt:X.env.builtins=builtinsNs
 above:X.s₀.heap.objs.size≤X.env.locals
 inj:∀ x y c,X.env.cells.lookup x=some c→X.env.cells.lookup y=some c→x=y
 has:∀ x,(X.env.kindOf x=some .cell∨X.env.kindOf x=some .free)→∃ c,X.env.cells.lookup x=some c
 cab:∀ x c,X.fn x=true→X.env.cells.lookup x=some c→X.s₀.heap.objs.size≤c
 hd:X.calm=true→X.A.handled=none
 frames:X.A.frames=some X.stack
 stk:X.stack=X.outer∨(X.stack=X.env :: X.outer∧X.env.frame=some X.env.locals)
 exf:∀ b∈X.ex,b≠X.env.locals∧∀ x c,X.env.cells.lookup x=some c→c≠b
 bs:∀ b o,X.base.get? b=some o→X.s₀.heap.get? b=some o∧X.H₀ b=none
 bsz:X.base.objs.size≤X.s₀.heap.objs.size
 noex:∀ b o,X.base.get? b=some o→b ∉ X.ex
 exfs:∀ b∈X.ex,b ∉ X.fs
 funs:X.s₀.heap.FunFrames X.base X.outer
 frf:∀ b∈X.fs,X.H₀ b=none
structure Inv (X:Cx) (pins:List (Addr × Obj)) (σ:List (Option V)) (H:Hp) (s:Shared):Prop where
 ok:X.Ok
 os:s.os=X.s₀.os
 bare:AllBare s.gens
 base:Un X.fs X.ex X.H₀ H X.s₀.heap s.heap
 loc:∃ m,s.heap.Ns X.env.locals m∧∀ (i:Nat) (x:Str) (v:V),X.N[i]?=some x→σ[i]?=some (some v)→Vis X.env.scope x→∃ u,RelV v u∧Look X.env s.heap m x u
 cell:∀ x c,X.env.cells.lookup x=some c→∃ v,s.heap.IsCell c v
 free:H X.env.locals=none
 freeC:∀ x c,X.env.cells.lookup x=some c→H c=none
 pin:∀ p∈X.pn ++ pins,s.heap.get? p.1=some p.2∧H p.1=none∧p.1≠X.env.locals∧p.1 ∉ X.fs∧∀ v,p.2.data≠.cell v
 hok:HOk X.prog X.w H s.heap
 len:σ.length=X.N.length
section
variable {X:Cx} {pins:List (Addr × Obj)} {σ:List (Option V)} {H H':Hp} {s:Shared} {h':Heap}
theorem Cx.Ok.nofr (ok:X.Ok) {b:Addr} {o:Obj} (e:X.base.get? b=some o):b ∉ X.fs:=fun hb=>by
 have:=(ok.funs.mem hb).1
 rw [e] at this;cases this
theorem Inv.bs (I:Inv X pins σ H s):∀ b o,X.base.get? b=some o→s.heap.get? b=some o∧H b=none:=fun b o e =>
 ⟨I.base.keep b o (I.ok.bs b o e).1 (I.ok.bs b o e).2 (I.ok.nofr e) (I.ok.noex b o e),I.base.free b o (I.ok.bs b o e).1 (I.ok.bs b o e).2 (I.ok.noex b o e)⟩
theorem Inv.bk (I:Inv X pins σ H s):∀ b o,X.base.get? b=some o→s.heap.get? b=some o:=fun b o e=>(I.bs b o e).1
theorem Inv.mod (I:Inv X pins σ H s):Mod X.K X.mg X.base:=I.ok.mod
theorem Inv.kIn (I:Inv X pins σ H s):X.K.In s.heap:=I.ok.mod.kin.keeps I.bk
theorem Inv.nolimit (I:Inv X pins σ H s):s.heap.NoLimit:=I.ok.mod.nolimit.keeps I.bk
theorem Inv.lt (I:Inv X pins σ H s):X.env.locals < s.heap.objs.size:=let ⟨_,hn,_⟩:=I.loc;hn.lt
theorem Inv.sz (I:Inv X pins σ H s):X.s₀.heap.objs.size≤s.heap.objs.size:=Nat.le_trans I.ok.above (Nat.le_of_lt I.lt)
theorem Inv.nofs (I:Inv X pins σ H s) {a:Addr} (h:s.heap.objs.size≤a):a ∉ X.fs:=fun hb=>by
 obtain ⟨_,o,ho,_⟩:=I.ok.funs.mem hb
 exact absurd (Nat.lt_of_lt_of_le (Heap.lt_size ho) (Nat.le_trans I.sz h)) (Nat.lt_irrefl _)
theorem Inv.cne (I:Inv X pins σ H s):∀ x c,X.env.cells.lookup x=some c→c≠X.env.locals:=fun x c e z=>by
 obtain ⟨v,o,ho,hd⟩:=I.cell x c e
 obtain ⟨m,⟨o',es,ep,ho',hd',_⟩,_⟩:=I.loc
 rw [z,ho'] at ho;cases ho;rw [hd'] at hd;cases hd
theorem Inv.funs (I:Inv X pins σ H s):s.heap.FunFrames X.base X.outer:=by
 have all:∀ (l:List Env),(∀ b∈frs l,b∈X.fs)→X.s₀.heap.FunFrames X.base l→s.heap.FunFrames X.base l:=by
  intro l
  induction l with
  | nil=>intro _ _;trivial
  | cons env r ih =>
   intro hs hl
   obtain ⟨hk,⟨L,o,hf,hn,ho,hd⟩,hr⟩:=hl
   have hL:L∈X.fs:=hs L (by unfold frs;rw [List.filterMap_cons,hf];exact List.mem_cons_self)
   obtain ⟨sl,e⟩:=I.base.slot L o ho (I.ok.frf L hL) hL fun z=>I.ok.exfs L z hL
   exact ⟨hk,⟨L,_,hf,hn,e,hd⟩,ih (fun b hb=>hs b (by unfold frs;rw [List.filterMap_cons,hf];exact List.mem_cons_of_mem _ hb)) hr⟩
 exact all X.outer (fun _ hb=>hb) I.ok.funs
theorem Inv.stack (I:Inv X pins σ H s):s.heap.FunFrames X.base X.stack:=by
 rcases I.ok.stk with e | ⟨e,hf⟩
 ·rw [e];exact I.funs
 ·rw [e]
  obtain ⟨m,hn,_⟩:=I.loc
  refine .cons (by rw [I.ok.kind];decide) hf hn ?_ I.funs
  exact Heap.get?_none_of_le (Nat.le_trans I.ok.bsz I.ok.above)
theorem Inv.stkSub (I:Inv X pins σ H s):∀ b∈frs X.stack,b∈X.env.locals :: X.fs:=fun b hb=>by
 rcases I.ok.stk with e | ⟨e,hf⟩
 ·rw [e] at hb;exact List.mem_cons_of_mem _ hb
 ·rw [e] at hb
  unfold frs at hb
  rw [List.filterMap_cons,hf] at hb
  exact hb
theorem Inv.stkFree (I:Inv X pins σ H s):∀ b∈frs X.stack,H b=none:=fun b hb=>by
 rcases List.mem_cons.mp (I.stkSub b hb) with e | hb
 ·rw [e];exact I.free
 ·obtain ⟨_,o,ho,_⟩:=I.ok.funs.mem hb
  exact I.base.free b o ho (I.ok.frf b hb) fun z=>I.ok.exfs b z hb
theorem Inv.step {g':Array GenState} {t':Nat} {d':Drawn} {ch:List Addr} (I:Inv X pins σ H s)
  (hch:∀ b∈ch,(b∈X.ex∨X.s₀.heap.objs.size≤b)∧b≠X.env.locals∧(∀ x c,X.env.cells.lookup x=some c→c≠b)∧∀ p∈X.pn ++ pins,p.1≠b)
  (keep:∀ b o,b≠X.env.locals→b ∉ X.fs→b ∉ ch→s.heap.get? b=some o→H b=none→h'.get? b=some o)
  (slot:∀ b o,b≠X.env.locals→b∈X.fs→b ∉ ch→s.heap.get? b=some o→H b=none→∃ sl,h'.get? b=some { o with slots:=sl }) (free:∀ b o,b ∉ ch→s.heap.get? b=some o→H b=none→H' b=none)
  (there:∀ b o,b ∉ ch→s.heap.get? b=some o→∃ o',h'.get? b=some o')
  (tups:∀ b xs,H b=some (.tup xs)→H' b=some (.tup xs)) (frzs:∀ b o u,H b=some (.frz o u)→H' b=some (.frz o u)) (tbls:∀ b ps,H b=some (.tbl ps)→∃ more,H' b=some (.tbl (ps ++ more)))
  (ns:∀ m,s.heap.Ns X.env.locals m→h'.Ns X.env.locals m) (hok:HOk X.prog X.w H' h') (hg:AllBare g') :
  Inv X pins σ H' { s with heap:=h',gens:=g',drawn:=d',toks:=t' }:=by
 have neL:∀ b o,X.s₀.heap.get? b=some o→b≠X.env.locals:=fun b o e=>Nat.ne_of_lt (Nat.lt_of_lt_of_le (Heap.lt_size e) I.ok.above)
 have neC:∀ b o,X.s₀.heap.get? b=some o→b ∉ X.ex→b ∉ ch:=fun b o e hx hb=>by
  rcases (hch b hb).1 with z | z
  ·exact hx z
  ·exact absurd (Nat.lt_of_lt_of_le (Heap.lt_size e) z) (Nat.lt_irrefl _)
 have cellK:∀ x c,X.env.cells.lookup x=some c→∀ v,s.heap.IsCell c v→h'.IsCell c v:=fun x c e v ⟨o,ho,hd⟩=>by
  have nch:c ∉ ch:=fun z=>(hch c z).2.2.1 x c e rfl
  by_cases hc:c∈X.fs
  ·obtain ⟨sl,q⟩:=slot c o (I.cne x c e) hc nch ho (I.freeC x c e)
   exact ⟨_,q,hd⟩
  ·exact ⟨o,keep c o (I.cne x c e) hc nch ho (I.freeC x c e),hd⟩
 refine ⟨I.ok,I.os,hg,⟨fun b o e n hb hx=>?_,fun b o e n hb hx=>?_,fun b o e n hx=>?_,fun b o e hx=>?_,fun b xs e=>tups b xs (I.base.tups b xs e),fun b o xs e=>frzs b o xs (I.base.frzs b o xs e),fun b ps e=>?_⟩,?_,fun x c e=>?_,?_,fun x c e=>?_,fun p hp=>?_,hok,I.len⟩
 ·exact keep b o (neL b o e) hb (neC b o e hx) (I.base.keep b o e n hb hx) (I.base.free b o e n hx)
 ·obtain ⟨sl,e1⟩:=I.base.slot b o e n hb hx
  obtain ⟨sl',e2⟩:=slot b _ (neL b o e) hb (neC b o e hx) e1 (I.base.free b o e n hx)
  exact ⟨sl',e2⟩
 ·obtain ⟨o',e1⟩:=I.base.there b o e hx
  exact free b o' (neC b o e hx) e1 (I.base.free b o e n hx)
 ·obtain ⟨o',e1⟩:=I.base.there b o e hx
  exact there b o' (neC b o e hx) e1
 ·obtain ⟨m1,e1⟩:=I.base.tbls b ps e
  obtain ⟨m2,e2⟩:=tbls b _ e1
  exact ⟨m1 ++ m2,by rw [e2,Array.append_assoc]⟩
 ·obtain ⟨m,hn,hl⟩:=I.loc
  refine ⟨m,ns m hn,fun i x v e1 e2 e3=>?_⟩
  obtain ⟨u,r,l⟩:=hl i x v e1 e2 e3
  refine ⟨u,r,?_⟩
  rcases l with l | ⟨k,c,e,z⟩
  ·exact .inl l
  ·exact .inr ⟨k,c,e,cellK x c e _ z⟩
 ·obtain ⟨v,z⟩:=I.cell x c e
  exact ⟨v,cellK x c e v z⟩
 ·obtain ⟨m,⟨o,_,_,ho,_⟩,_⟩:=I.loc
  exact free _ o (fun z=>(hch _ z).2.1 rfl) ho I.free
 ·obtain ⟨v,o,ho,hd⟩:=I.cell x c e
  exact free c o (fun z=>(hch c z).2.2.1 x c e rfl) ho (I.freeC x c e)
 ·obtain ⟨e,n,ne,nf,d⟩:=I.pin p hp
  have nch:p.1 ∉ ch:=fun z=>(hch p.1 z).2.2.2 p hp rfl
  exact ⟨keep p.1 p.2 ne nf nch e n,free p.1 p.2 nch e n,ne,nf,d⟩
theorem Inv.un {t':Nat} (I:Inv X pins σ H s) (u:Un X.fs [] H H' s.heap h') (hok:HOk X.prog X.w H' h'):Inv X pins σ H' { s with heap:=h',toks:=t' }:=by
 obtain ⟨m,⟨o,es,ep,ho,r⟩,_⟩:=id I.loc
 obtain ⟨sl,hL⟩:=u.any ho I.free (by simp)
 exact I.step (g':=s.gens) (d':=s.drawn) (ch:=[]) (fun _ z=>nomatch z) (fun b o _ hb _ e n=>u.keep b o e n hb (by simp)) (fun b o _ hb _ e n=>u.slot b o e n hb (by simp)) (fun b o _ e n=>u.free b o e n (by simp)) (fun b o _ e=>u.there b o e (by simp)) u.tups u.frzs u.tbls (fun m' hm=>by
  obtain ⟨o',es',ep',ho',r'⟩:=hm
  rw [ho] at ho';cases ho'
  exact ⟨_,es',ep',hL,r'⟩) hok I.bare
theorem Inv.call {g':Array GenState} {t':Nat} {d':Drawn} {ch:List Addr} (I:Inv X pins σ H s) (u:Un (frs X.stack) ch H H' s.heap h') (hok:HOk X.prog X.w H' h') (hg:AllBare g')
  (hch:∀ b∈ch,(b∈X.ex∨X.s₀.heap.objs.size≤b)∧b≠X.env.locals∧(∀ x c,X.env.cells.lookup x=some c→c≠b)∧∀ p∈X.pn ++ pins,p.1≠b) :
  Inv X pins σ H' { s with heap:=h',gens:=g',drawn:=d',toks:=t' }:=by
 obtain ⟨m,⟨o,es,ep,ho,r⟩,_⟩:=id I.loc
 obtain ⟨sl,hL⟩:=u.any ho I.free fun z=>(hch _ z).2.1 rfl
 exact I.step (ch:=ch) hch (fun b o hL hb hc e n=>u.keep b o e n (fun z=>(List.mem_cons.mp (I.stkSub b z)).elim hL hb) hc) (fun b o _ _ hc e n=>u.any e n hc) (fun b o hc e n=>u.free b o e n hc) (fun b o hc e=>u.there b o e hc) u.tups u.frzs u.tbls (fun m' hm=>by
  obtain ⟨o',es',ep',ho',r'⟩:=hm
  rw [ho] at ho';cases ho'
  exact ⟨_,es',ep',hL,r'⟩) hok hg
theorem Inv.turned {t':Nat} {it:Addr} (I:Inv X pins σ H s) (k:∀ b o,b≠it→s.heap.get? b=some o→h'.get? b=some o) (hn:H it=none) (hL:it≠X.env.locals)
  (h1:it∈X.ex∨X.s₀.heap.objs.size≤it) (h2:∀ x c,X.env.cells.lookup x=some c→c≠it) (h3:∀ p∈X.pn ++ pins,p.1≠it):Inv X pins σ H { s with heap:=h',toks:=t' }:=by
 have nit:∀ b u,H b=some u→b≠it:=fun b u e z=>by rw [z,hn] at e;cases e
 refine I.step (g':=s.gens) (d':=s.drawn) (ch:=[it]) (fun b hb=>?_) (fun b o _ _ hc e _=>k b o (fun z=>hc (by simp [z])) e) (fun b o _ _ hc e _=>⟨o.slots,k b o (fun z=>hc (by simp [z])) e⟩) (fun _ _ _ _ n=>n)
  (fun b o hc e=>⟨o,k b o (fun z=>hc (by simp [z])) e⟩) (fun _ _ e=>e) (fun _ _ _ e=>e) (fun b ps e=>⟨#[],by rw [e];simp⟩) (fun m hm=>?_) (fun b u e=>?_) I.bare
 ·have e:b=it:=by simpa using hb
  subst e
  exact ⟨h1,hL,h2,h3⟩
 ·obtain ⟨o,es,ep,ho,r⟩:=hm
  exact ⟨o,es,ep,k _ o (Ne.symm hL) ho,r⟩
 ·refine (I.hok b u e).stay (fun c v hc q=>k c v ?_ q) (fun _ q=>q) fun _ _ q=>q
  rcases hc with z | z
  ·rw [z];exact nit b u e
  ·exact nit c _ z
theorem Inv.tok (I:Inv X pins σ H s) (t:Nat):Inv X pins σ H { s with toks:=t }:=I.un (h':=s.heap) (t':=t) Un.refl I.hok
theorem Inv.kept {t':Nat} (I:Inv X pins σ H s) (k:∀ b u,s.heap.get? b=some u→h'.get? b=some u):Inv X pins σ H { s with heap:=h',toks:=t' }:=I.un (Un.kept k) (I.hok.kept k)
theorem Inv.laid {a:Addr} {o:HO} {t':Nat} (I:Inv X pins σ H s) (k:∀ b u,s.heap.get? b=some u→h'.get? b=some u) (hp:s.heap.objs.size≤a) (new:ObjOk X.prog X.w (upd H a o) h' a o) :
  Inv X pins σ (upd H a o) { s with heap:=h',toks:=t' }:=I.un (Un.laid k hp (I.hok.fresh hp)) (I.hok.laid k hp new)
theorem Inv.write {x e:Addr} {o:HO} {t':Nat} (I:Inv X pins σ H s) (mu:Mut (H x)) (he:e=x∨H e=some (.own x)) (k:∀ b u,b≠e→s.heap.get? b=some u→h'.get? b=some u) (heo:∃ u,h'.get? e=some u)
  (new:ObjOk X.prog X.w (upd H x o) h' x o):Inv X pins σ (upd H x o) { s with heap:=h',toks:=t' }:=I.un (Un.write mu he k heo) (I.hok.write mu he k heo new)
theorem Inv.pins_of {pins':List (Addr × Obj)} (I:Inv X pins σ H s) (h:∀ p∈pins',s.heap.get? p.1=some p.2∧H p.1=none∧p.1≠X.env.locals∧p.1 ∉ X.fs∧∀ v,p.2.data≠.cell v):Inv X pins' σ H s :=
 ⟨I.ok,I.os,I.bare,I.base,I.loc,I.cell,I.free,I.freeC,fun p hp=>(List.mem_append.mp hp).elim (fun z=>I.pin p (List.mem_append_left _ z)) (h p),I.hok,I.len⟩
theorem nodup_ix {N:List Str} (hN:N.Nodup) {i j:Nat} {x:Str} (a:N[i]?=some x) (b:N[j]?=some x):i=j:=by
 obtain ⟨h1,e1⟩:=List.getElem?_eq_some_iff.mp a
 obtain ⟨h2,e2⟩:=List.getElem?_eq_some_iff.mp b
 exact (List.getElem_inj hN).mp (e1.trans e2.symm)
theorem store_ok2 {M:Model} {A:Around} {E:Value→Shared→Prop} {i:Nat} {x:Str} {v:V} {u:Value} {Q:Unit→Shared→Prop} (I:Inv X pins σ H s) (hN:X.N.Nodup) (hi:X.N[i]?=some x) (hx:Loc X.env.scope x) (r:RelV v u)
  (h:∀ s',Inv X pins (σ.set i (some v)) H s'→(∃ a,Heap.SameBut a s.heap s'.heap∧(a=X.env.locals∨X.env.cells.lookup x=some a))→Q () s') (hf:X.fn x=true∨X.env.scope.names.lookup x=some .local:=by first | exact .inl rfl | exact .inr rfl | assumption):wpAny M A (storeName X.env x u) Q E s:=by
 obtain ⟨m,hn,hl⟩:=id I.loc
 have hcls:(X.env.scope.kind == .class || (X.env.scope.kind == .module && X.env.locals != X.env.globals))=false:=by rw [I.ok.kind];rfl
 have hiσ:i < σ.length:=by rw [I.len];exact (List.getElem?_eq_some_iff.mp hi).1
 have cne:=I.cne
 have tracked:∀ {a:Addr} {h':Heap},(∃ o,s.heap.get? a=some o∧H a=none)→Heap.SameBut a s.heap h'→HOk X.prog X.w H h':=fun {a h'} ha hs b ob e=>by
  obtain ⟨_,_,hfree⟩:=ha
  refine (I.hok b ob e).stay (fun c w' hc q=>(hs.2 c ?_).trans q) (fun _ q=>q) fun _ _ q=>q
  rintro rfl
  rcases hc with rfl | hc
  ·rw [hfree] at e;cases e
  ·rw [hfree] at hc;cases hc
 rcases hx with hk | hk
 ·refine wpAny_storeName_local hk hn (fun h' hn' hs=>?_) hcls
  obtain ⟨oL,_,_,hoL,_⟩:=id hn
  refine h _ ⟨I.ok,I.os,I.bare,⟨fun b o e n hb hx=>?_,fun b o e n hb hx=>?_,I.base.free,fun b o e hx=>?_,I.base.tups,I.base.frzs,I.base.tbls⟩,⟨_,hn',fun j y v' e1 e2 e3=>?_⟩,fun y c e=>?_,I.free,I.freeC,fun p hp=>?_,tracked ⟨oL,hoL,I.free⟩ hs,by simpa using I.len⟩ ⟨_,hs,.inl rfl⟩
  ·exact (hs.2 b (Nat.ne_of_lt (Nat.lt_of_lt_of_le (Heap.lt_size e) I.ok.above))).trans (I.base.keep b o e n hb hx)
  ·obtain ⟨sl,e1⟩:=I.base.slot b o e n hb hx
   exact ⟨sl,(hs.2 b (Nat.ne_of_lt (Nat.lt_of_lt_of_le (Heap.lt_size e) I.ok.above))).trans e1⟩
  ·obtain ⟨o',e1⟩:=I.base.there b o e hx
   exact ⟨o',(hs.2 b (Nat.ne_of_lt (Nat.lt_of_lt_of_le (Heap.lt_size e) I.ok.above))).trans e1⟩
  ·by_cases hj:j=i
   ·subst hj
    rw [hi] at e1;cases e1
    rw [List.getElem?_set_self hiσ] at e2
    cases e2
    exact ⟨u,r,.inl ⟨hk,by simp⟩⟩
   ·rw [List.getElem?_set_ne (Ne.symm hj)] at e2
    obtain ⟨u',r',q⟩:=hl j y v' e1 e2 e3
    refine ⟨u',r',?_⟩
    rcases q with ⟨k,e⟩ | ⟨k,c,e,z⟩
    ·refine .inl ⟨k,?_⟩
     have:y≠x:=fun e=>hj (nodup_ix hN e1 (e ▸ hi))
     simp [this,e]
    ·exact .inr ⟨k,c,e,z.sameBut hs (cne y c e)⟩
  ·obtain ⟨w',z⟩:=I.cell y c e
   exact ⟨w',z.sameBut hs (cne y c e)⟩
  ·obtain ⟨e,n,ne,nf,d⟩:=I.pin p hp
   exact ⟨(hs.2 p.1 ne).trans e,n,ne,nf,d⟩
 ·have hfn:X.fn x=true:=by
   rcases hf with z | z
   ·exact z
   ·rw [z] at hk;cases hk
  obtain ⟨c,hc⟩:=I.ok.has x (.inl hk)
  obtain ⟨w',z⟩:=I.cell x c hc
  refine wpAny_storeName_cell I.ok.kind hk hc z (fun h' hc' hs=>?_)
  obtain ⟨oc,hoc,hocd⟩:=id z
  refine h { s with heap:=h' } ⟨I.ok,I.os,I.bare,⟨fun b o e n hb hx=>?_,fun b o e n hb hx=>?_,I.base.free,fun b o e hx=>?_,I.base.tups,I.base.frzs,I.base.tbls⟩,⟨m,hn.sameBut hs (Ne.symm (cne x c hc)),fun j y v' e1 e2 e3=>?_⟩,fun y c' e=>?_,I.free,I.freeC,fun p hp=>?_,tracked ⟨oc,hoc,I.freeC x c hc⟩ hs,by simpa using I.len⟩ ⟨c,hs,.inr hc⟩
  ·exact (hs.2 b (Nat.ne_of_lt (Nat.lt_of_lt_of_le (Heap.lt_size e) (I.ok.cab x c hfn hc)))).trans (I.base.keep b o e n hb hx)
  ·obtain ⟨sl,e1⟩:=I.base.slot b o e n hb hx
   exact ⟨sl,(hs.2 b (Nat.ne_of_lt (Nat.lt_of_lt_of_le (Heap.lt_size e) (I.ok.cab x c hfn hc)))).trans e1⟩
  ·obtain ⟨o',e1⟩:=I.base.there b o e hx
   exact ⟨o',(hs.2 b (Nat.ne_of_lt (Nat.lt_of_lt_of_le (Heap.lt_size e) (I.ok.cab x c hfn hc)))).trans e1⟩
  ·by_cases hj:j=i
   ·subst hj
    rw [hi] at e1;cases e1
    rw [List.getElem?_set_self hiσ] at e2
    cases e2
    exact ⟨u,r,.inr ⟨.inl hk,c,hc,hc'⟩⟩
   ·rw [List.getElem?_set_ne (Ne.symm hj)] at e2
    obtain ⟨u',r',q⟩:=hl j y v' e1 e2 e3
    refine ⟨u',r',?_⟩
    rcases q with q | ⟨k,c',e,z'⟩
    ·exact .inl q
    ·refine .inr ⟨k,c',e,z'.sameBut hs ?_⟩
     rintro rfl
     exact hj (nodup_ix hN e1 (I.ok.inj _ _ _ e hc ▸ hi))
  ·by_cases hcc:c'=c
   ·subst hcc;exact ⟨_,hc'⟩
   ·obtain ⟨w2,z2⟩:=I.cell y c' e
    exact ⟨w2,z2.sameBut hs hcc⟩
  ·obtain ⟨e,n,ne,nf,d⟩:=I.pin p hp
   refine ⟨(hs.2 p.1 ?_).trans e,n,ne,nf,d⟩
   intro q
   rw [q,hoc] at e
   have q':oc=p.2:=Option.some.inj e
   exact d w' (by rw [← q'];exact hocd)
theorem store_ok {M:Model} {A:Around} {E:Value→Shared→Prop} {i:Nat} {x:Str} {v:V} {u:Value} {Q:Unit→Shared→Prop} (I:Inv X pins σ H s) (hN:X.N.Nodup) (hi:X.N[i]?=some x) (hx:Loc X.env.scope x) (r:RelV v u)
  (h:∀ s',Inv X pins (σ.set i (some v)) H s'→Q () s') (hf:X.fn x=true∨X.env.scope.names.lookup x=some .local:=by first | exact .inl rfl | exact .inr rfl | assumption):wpAny M A (storeName X.env x u) Q E s :=
 store_ok2 I hN hi hx r (fun s' I' _=>h s' I') hf
theorem Inv.call' {s':Shared} {ch:List Addr} (I:Inv X pins σ H s) (ho:s'.os=s.os) (u:Un (frs X.stack) ch H H' s.heap s'.heap) (hok:HOk X.prog X.w H' s'.heap) (hg:AllBare s'.gens)
  (hch:∀ b∈ch,(b∈X.ex∨X.s₀.heap.objs.size≤b)∧b≠X.env.locals∧(∀ x c,X.env.cells.lookup x=some c→c≠b)∧∀ p∈X.pn ++ pins,p.1≠b):Inv X pins σ H' s':=by
 obtain ⟨h',g',d',t',o'⟩:=s'
 have e:o'=s.os:=ho
 subst e
 exact I.call (g':=g') (t':=t') (d':=d') u hok hg hch
end
abbrev XK:=Value→Option Addr→Hp→Prop
abbrev St:=List (Option V)
abbrev VK:=V→Hp→Prop
abbrev TE:=St→Hp→VK→Prop
abbrev TT:=St→Hp→(Bool→Hp→Prop)→Prop
abbrev TA:=St→Hp→(List V→Hp→Prop)→Prop
structure Ends where
 nx:St→Hp→Prop
 rt:VK
 bk:St→Hp→Prop:=fun _ _=>False
 ct:St→Hp→Prop:=fun _ _=>False
abbrev TS:=Ends→St→Hp→Prop
def EP (X:Cx) (pins:List (Addr × Obj)) (σ:St) (Q:VK) (u:Value) (s':Shared):Prop:=∃ v H',Inv X pins σ H' s'∧RelV v u∧Q v H'
def TP (X:Cx) (pins:List (Addr × Obj)) (σ:St) (Q:Bool→Hp→Prop) (b:Bool) (s':Shared):Prop:=∃ H',Inv X pins σ H' s'∧Q b H'
def AP (X:Cx) (pins:List (Addr × Obj)) (σ:St) (Q:List V→Hp→Prop) (us:List Value) (s':Shared):Prop:=∃ vs H',Inv X pins σ H' s'∧Vals vs us∧Q vs H'
def SP (X:Cx) (pins:List (Addr × Obj)) (D:Ends) (f:Flow) (s':Shared):Prop :=
 match f with
 | .next=>∃ σ' H',Inv X pins σ' H' s'∧D.nx σ' H'
 | .brk=>∃ σ' H',Inv X pins σ' H' s'∧D.bk σ' H'
 | .cont=>∃ σ' H',Inv X pins σ' H' s'∧D.ct σ' H'
 | .ret u=>∃ v σ' H',Inv X pins σ' H' s'∧RelV v u∧D.rt v H'
def PE (X:Cx) (e:Expr) (t:TE):Prop :=
 ∀ (pins:List (Addr × Obj)) (s:Shared) (σ:St) (H:Hp) (Q:VK),Inv X pins σ H s→t σ H Q→wpAny (model X.prog X.w) X.A (eval e X.env) (EP X pins σ Q) X.xe s
def PT (X:Cx) (e:Expr) (t:TT):Prop :=
 ∀ (pins:List (Addr × Obj)) (s:Shared) (σ:St) (H:Hp) (Q:Bool→Hp→Prop),Inv X pins σ H s→t σ H Q→wpAny (model X.prog X.w) X.A (isTrue e X.env (eval e X.env)) (TP X pins σ Q) X.xe s
def PW (X:Cx) (e:Expr) (t:TT):Prop :=
 ∀ (whole:Sem Value) (pins:List (Addr × Obj)) (s:Shared) (σ:St) (H:Hp) (Q:Bool→Hp→Prop),Inv X pins σ H s→t σ H Q→wpAny (model X.prog X.w) X.A (isTrue e X.env whole) (TP X pins σ Q) X.xe s
theorem PW.pt {X:Cx} {e:Expr} {t:TT} (h:PW X e t):PT X e t:=h _
def PA (X:Cx) (es:List Expr) (t:TA):Prop :=
 ∀ (pos:Pos) (pins:List (Addr × Obj)) (s:Shared) (σ:St) (H:Hp) (Q:List V→Hp→Prop),Inv X pins σ H s→t σ H Q→wpAny (model X.prog X.w) X.A (spliced (backTo pos (starEach es X.env))) (AP X pins σ Q) X.xe s
def PS (X:Cx) (st:Stmt) (t:TS):Prop :=
 ∀ (pins:List (Addr × Obj)) (s:Shared) (σ:St) (H:Hp) (D:Ends),Inv X pins σ H s→t D σ H→wpAny (model X.prog X.w) X.A (exec st X.env) (SP X pins D) X.xe s
def PSs (X:Cx) (st:List Stmt) (t:TS):Prop :=
 ∀ (pins:List (Addr × Obj)) (s:Shared) (σ:St) (H:Hp) (D:Ends),Inv X pins σ H s→t D σ H→wpAny (model X.prog X.w) X.A (execs st X.env) (SP X pins D) X.xe s
theorem thn {α:Type} {t:Sem α} {Q Q':α→Shared→Prop} {M:Model} {A:Around} {E:Value→Shared→Prop} {s:Shared} (h:wpAny M A t Q E s) (hQ:∀ a s,Q a s→Q' a s):wpAny M A t Q' E s:=wpAny_mono h hQ fun _ _ x=>x
end L2
namespace L2
open PySem PySem.Spec PyProof.Rows
section
variable {X:Cx}
def tVar (i:Nat):TE:=fun σ H Q=>∃ v,σ[i]?=some (some v)∧Q v H
def tC (v:V):TE:=fun _ H Q=>Q v H
theorem pe_var {i:Nat} {x:Str} {pos:Pos} (hN:X.N[i]?=some x) (hv:Vis X.env.scope x) (hd:(x == ("__debug__":Str))=false:=by decide) (hcd:(x == ("__classdict__":Str))=false:=by decide):PE X (.Name x pos) (tVar i):=by
 intro pins s σ H Q I h
 obtain ⟨v,e,h⟩:=h
 obtain ⟨m,hn,hl⟩:=I.loc
 obtain ⟨u,r,l⟩:=hl i x v hN e hv
 have fin:EP X pins σ Q u s:=⟨v,H,I,r,h⟩
 rcases l with ⟨hk,hm⟩ | ⟨hk,c,hc,hcell⟩
 ·exact wpAny_Name (wpAny_loadName_local I.ok.kind hk hn hm fin) hd
 ·rcases hk with hk | hk
  ·exact wpAny_Name (wpAny_loadName_cell I.ok.kind hk hc hcell fin) hd
  ·exact wpAny_Name (wpAny_loadName_free I.ok.kind hk hc hcell fin hcd) hd
theorem pe_int {i j pos}:PE X (.Constant (.int i) j pos) (tC (.int i)):=fun _ _ _ H _ I h=>wpAny_Constant_int ⟨.int i,H,I.tok _,⟨_,rfl⟩,h⟩
theorem pe_bl {b j pos}:PE X (.Constant (.bool b) j pos) (tC (.bl b)):=fun _ _ _ H _ I h=>Constant_bool ⟨.bl b,H,I,rfl,h⟩
theorem pe_non {j pos}:PE X (.Constant .none j pos) (tC .non):=fun _ _ _ H _ I h=>Constant_none ⟨.non,H,I,rfl,h⟩
theorem pe_str {x j pos}:PE X (.Constant (.str x) j pos) (tC (.str x)):=fun _ _ _ H _ I h=>Calls.Constant_str ⟨.str x,H,I.tok _,⟨_,rfl⟩,h⟩
def Gl (X:Cx) (x:Str):Prop:=X.env.kindOf x=some .globalImplicit
theorem ld_glob {E:Value→Shared→Prop} {pins:List (Addr × Obj)} {s:Shared} {σ:St} {H:Hp} {x:Str} {u:Value} {pos:Pos} {Q:Value→Shared→Prop} (I:Inv X pins σ H s) (hg:Gl X x) (hm:X.mg x=some u) (h:Q u s)
  (hd:(x == ("__debug__":Str))=false:=by decide):wpAny (model X.prog X.w) X.A (eval (.Name x pos) X.env) Q E s :=
 Calls.Name_function_global I.ok.kind hg (Calls.loadGlobal_global (by rw [I.ok.glob];exact I.mod.glob.keeps I.bk) hm h) hd
theorem ld_blt {E:Value→Shared→Prop} {pins:List (Addr × Obj)} {s:Shared} {σ:St} {H:Hp} {x:Str} {u:Value} {pos:Pos} {Q:Value→Shared→Prop} (I:Inv X pins σ H s) (hg:Gl X x) (hm:X.mg x=none) (hv:bootBuiltins x=some u) (h:Q u s)
  (hn:x≠"__name__":=by decide) (hd:(x == ("__debug__":Str))=false:=by decide):wpAny (model X.prog X.w) X.A (eval (.Name x pos) X.env) Q E s:=by
 obtain ⟨mb,h1,h2⟩:=I.mod.blt
 exact Calls.Name_function_global I.ok.kind hg (Calls.loadGlobal_builtin (by rw [I.ok.glob];exact I.mod.glob.keeps I.bk) hm (by rw [I.ok.blt];exact h1.keeps I.bk) ((h2 x hn).trans hv) h) hd
theorem pe_glob {x:Str} {v:V} {u:Value} {pos:Pos} (hg:Gl X x) (hm:X.mg x=some u) (r:RelV v u) (hd:(x == ("__debug__":Str))=false:=by decide):PE X (.Name x pos) (tC v) :=
 fun _ _ _ H _ I h=>ld_glob I hg hm ⟨v,H,I,r,h⟩ hd
theorem pe_bltn {x:Str} {v:V} {u:Value} {pos:Pos} (hg:Gl X x) (hm:X.mg x=none) (hv:bootBuiltins x=some u) (r:RelV v u) (hn:x≠"__name__":=by decide) (hd:(x == ("__debug__":Str))=false:=by decide):PE X (.Name x pos) (tC v) :=
 fun _ _ _ H _ I h=>ld_blt I hg hm hv ⟨v,H,I,r,h⟩ hn hd
variable {a b:Expr} {ta tb:TE} {pos:Pos}
def tB (t:TE):TT:=fun σ H Q=>t σ H fun x H1=>∃ c,x=.bl c∧Q c H1
theorem pt_val {e:Expr} {t:TE} (h:PE X e t) (he:∀ whole,isTrue e X.env whole=(do let v ← whole;standAt e.pos;holding [v] (truthy v)):=by intro _;rfl):PT X e (tB t):=by
 intro pins s σ H Q I hw
 refine isTrue_plain (thn (h pins s σ H _ I hw) fun v s1 ⟨x,H1,I1,r1,q1⟩=>?_) (he _)
 obtain ⟨d,rfl,q⟩:=q1
 cases r1
 exact wpAny_truthy_bool ⟨H1,I1,q⟩
variable {tA tB':TT} {rest:List Expr}
def tAnd (t u:TT):TT:=fun σ H Q=>t σ H fun c H1=>if c=true then u σ H1 Q else Q false H1
def tOr (t u:TT):TT:=fun σ H Q=>t σ H fun c H1=>if c=true then Q true H1 else u σ H1 Q
def tNot (t:TT):TT:=fun σ H Q=>t σ H fun c H1=>Q (!c) H1
theorem pw_and1 (ha:PT X a tA):PW X (.BoolOp .And [a] pos) tA:=by
 intro wh pins s σ H Q I h
 refine isTrue_and (thn (ha pins s σ H Q I h) fun c s1 e=>?_)
 cases c with
 | true=>exact isTrue_and_nil e
 | false=>exact e
theorem pw_or1 (ha:PT X a tA):PW X (.BoolOp .Or [a] pos) tA:=by
 intro wh pins s σ H Q I h
 refine isTrue_or (thn (ha pins s σ H Q I h) fun c s1 e=>?_)
 cases c with
 | false=>exact isTrue_or_nil e
 | true=>exact e
theorem pw_and (ha:PT X a tA) (hb:PW X (.BoolOp .And (b :: rest) pos) tB'):PW X (.BoolOp .And (a :: b :: rest) pos) (tAnd tA tB'):=by
 intro wh pins s σ H Q I h
 refine isTrue_and (thn (ha pins s σ H _ I h) fun c s1 ⟨H1,I1,q1⟩=>?_)
 cases c with
 | true=>exact hb wh pins s1 σ H1 Q I1 q1
 | false=>exact ⟨H1,I1,q1⟩
theorem pw_or (ha:PT X a tA) (hb:PW X (.BoolOp .Or (b :: rest) pos) tB'):PW X (.BoolOp .Or (a :: b :: rest) pos) (tOr tA tB'):=by
 intro wh pins s σ H Q I h
 refine isTrue_or (thn (ha pins s σ H _ I h) fun c s1 ⟨H1,I1,q1⟩=>?_)
 cases c with
 | true=>exact ⟨H1,I1,q1⟩
 | false=>exact hb wh pins s1 σ H1 Q I1 q1
theorem pt_not (ha:PT X a tA):PT X (.UnaryOp .Not a pos) (tNot tA):=by
 intro pins s σ H Q I h
 exact isTrue_not (ha pins s σ H (fun c H1=>Q (!c) H1) I h)
def tAndV (ta tb:TE):TE:=fun σ H Q=>ta σ H fun x H1=>∃ c,x=.bl c∧if c=true then tb σ H1 Q else Q (.bl false) H1
def tOrV (ta tb:TE):TE:=fun σ H Q=>ta σ H fun x H1=>∃ c,x=.bl c∧if c=true then Q (.bl true) H1 else tb σ H1 Q
def tNotV (ta:TE):TE:=fun σ H Q=>ta σ H fun x H1=>∃ c,x=.bl c∧Q (.bl (!c)) H1
theorem pe_one {op} {t:TE} (h:PE X a t):PE X (.BoolOp op [a] pos) t:=fun pins s σ H Q I hw=>BoolOp_one (h pins s σ H Q I hw)
theorem pe_and (ha:PE X a ta) (hb:PE X (.BoolOp .And (b :: rest) pos) tb):PE X (.BoolOp .And (a :: b :: rest) pos) (tAndV ta tb):=by
 intro pins s σ H Q I h
 refine BoolOp_and (thn (ha pins s σ H _ I h) fun v s1 ⟨x,H1,I1,r1,q1⟩=>?_)
 obtain ⟨c,rfl,q1⟩:=q1
 cases r1
 refine wpAny_truthy_bool ?_
 cases c with
 | true=>exact hb pins s1 σ H1 Q I1 q1
 | false=>exact ⟨.bl false,H1,I1,rfl,q1⟩
theorem pe_or (ha:PE X a ta) (hb:PE X (.BoolOp .Or (b :: rest) pos) tb):PE X (.BoolOp .Or (a :: b :: rest) pos) (tOrV ta tb):=by
 intro pins s σ H Q I h
 refine BoolOp_or (thn (ha pins s σ H _ I h) fun v s1 ⟨x,H1,I1,r1,q1⟩=>?_)
 obtain ⟨c,rfl,q1⟩:=q1
 cases r1
 refine wpAny_truthy_bool ?_
 cases c with
 | false=>exact hb pins s1 σ H1 Q I1 q1
 | true=>exact ⟨.bl true,H1,I1,rfl,q1⟩
theorem pe_not (ha:PE X a ta):PE X (.UnaryOp .Not a pos) (tNotV ta):=by
 intro pins s σ H Q I h
 refine UnaryOp_ (thn (ha pins s σ H _ I h) fun v s1 ⟨x,H1,I1,r1,q1⟩=>?_)
 obtain ⟨c,rfl,q1⟩:=q1
 cases r1
 exact not_of (wpAny_truthy_bool ⟨.bl (!c),H1,I1,rfl,q1⟩)
def tIf (t:TT) (ta tb:TE):TE:=fun σ H Q=>t σ H fun c H1=>if c=true then ta σ H1 Q else tb σ H1 Q
theorem pe_ifExp {c:Expr} (hc:PT X c tA) (ha:PE X a ta) (hb:PE X b tb):PE X (.IfExp c a b pos) (tIf tA ta tb):=by
 intro pins s σ H Q I h
 refine wpAny_IfExp (thn (hc pins s σ H _ I h) fun d s1 ⟨H1,I1,q1⟩=>?_)
 cases d with
 | true=>exact ha pins s1 σ H1 Q I1 q1
 | false=>exact hb pins s1 σ H1 Q I1 q1
end
end L2
namespace L2
open PySem PySem.Spec PyProof.Rows
def SqL (K:PySem.W.Frag) (H:Hp) (a:Addr) (xs:List V):Prop :=
 Rd H a (.lst xs) ∨
  ∃ (o:Obj) (its:Array Value) (n:Nat),K.lookup a=some o∧o.cls=.type "list"∧o.dict=none∧o.data=.seq its n∧its.size≤sizeLine∧Vals xs its.toList
def SqT (K:PySem.W.Frag) (H:Hp) (a:Addr) (xs:List V):Prop :=
 Rd H a (.tup xs) ∨
  ∃ (o:Obj) (its:Array Value) (n:Nat),K.lookup a=some o∧o.cls=.type "tuple"∧o.data=.seq its n∧its.size≤sizeLine∧Vals xs its.toList
def absV:Value→Option V
 | .none=>some .non
 | .bool b=>some (.bl b)
 | .int i _=>some (.int i)
 | .str x _=>some (.str x)
 | .bytes b _=>some (.byt b)
 | .float b _=>some (.flt b)
 | .ref a=>some (.ref a)
 | .type n=>some (.ty n)
 | _=>none
theorem RelV.abs {x:V} {u:Value} (r:RelV x u):absV u=some x:=by
 cases x with
 | non=>cases r;rfl
 | bl _=>cases r;rfl
 | int _=>obtain ⟨t,rfl⟩:=r;rfl
 | str _=>obtain ⟨t,rfl⟩:=r;rfl
 | byt _=>obtain ⟨t,rfl⟩:=r;rfl
 | flt _=>obtain ⟨t,rfl⟩:=r;rfl
 | ref _=>cases r;rfl
 | ty _=>cases r;rfl
theorem RelV.inj {x y:V} {u:Value} (r:RelV x u) (q:RelV y u):x=y:=Option.some.inj (r.abs.symm.trans q.abs)
theorem Vals.inj:∀ {xs ys:List V} {us:List Value},Vals xs us→Vals ys us→xs=ys
 | _,_,_,.nil,.nil=>rfl
 | _,_,_,.cons r t,.cons r' t'=>by rw [r.inj r',Vals.inj t t']
section
variable {X:Cx} {pins:List (Addr × Obj)} {σ:St} {H:Hp} {s:Shared} {a:Addr} {xs ys:List V}
theorem SqL.of {K:PySem.W.Frag} (h:H a=some (.lst xs)):SqL K H a xs:=.inl (.inl h)
theorem SqT.of {K:PySem.W.Frag} (h:H a=some (.tup xs)):SqT K H a xs:=.inl (.inl h)
theorem Inv.list (I:Inv X pins σ H s) (h:SqL X.K H a xs):∃ its:List Value,Vals xs its∧PlainL s.heap a its.toArray∧xs.length≤sizeLine:=by
 rcases h with h | ⟨o,its,n,hk,hc,hd,hs,hz,r⟩
 ·obtain ⟨z,its,n,r,e⟩:=h.ok I.hok
  exact ⟨its,r,⟨_,n,e,rfl,rfl,rfl⟩,z⟩
 ·refine ⟨its.toList,r,⟨o,n,I.kIn a o hk,hc,hd,by simpa using hs⟩,?_⟩
  have e:=r.length
  simp only [Array.length_toList] at e
  omega
theorem Inv.tuple (I:Inv X pins σ H s) (h:SqT X.K H a xs):∃ its:List Value,Vals xs its∧IsTup s.heap a its.toArray∧xs.length≤sizeLine:=by
 rcases h with h | ⟨o,its,n,hk,hc,hs,hz,r⟩
 ·obtain ⟨z,its,r,p⟩:=h.ok I.hok
  exact ⟨its,r,p,z⟩
 ·refine ⟨its.toList,r,⟨o,I.kIn a o hk,hc,n,by simpa using hs⟩,?_⟩
  have e:=r.length
  simp only [Array.length_toList] at e
  omega
theorem Inv.list_inj (I:Inv X pins σ H s) (h:SqL X.K H a xs) (h':SqL X.K H a ys):xs=ys:=by
 obtain ⟨its,r,⟨o,n,e,_,_,d⟩,_⟩:=I.list h
 obtain ⟨its',r',⟨o',n',e',_,_,d'⟩,_⟩:=I.list h'
 rw [e] at e';cases e'
 rw [d] at d'
 injection d' with d1 _
 have:its=its':=by simpa using congrArg Array.toList d1
 subst this
 exact r.inj r'
theorem Inv.tuple_inj (I:Inv X pins σ H s) (h:SqT X.K H a xs) (h':SqT X.K H a ys):xs=ys:=by
 obtain ⟨its,r,⟨o,e,_,n,d⟩,_⟩:=I.tuple h
 obtain ⟨its',r',⟨o',e',_,n',d'⟩,_⟩:=I.tuple h'
 rw [e] at e';cases e'
 rw [d] at d'
 injection d' with d1 _
 have:its=its':=by simpa using congrArg Array.toList d1
 subst this
 exact r.inj r'
end
abbrev Cx.wish (X:Cx) (E:Value→Shared→Prop):Cx:={ X with xe:=E }
abbrev Cx.nox (X:Cx):Cx:=X.wish fun _ _=>False
theorem Cx.Ok.wish {X:Cx} (ok:X.Ok) (E:Value→Shared→Prop):(X.wish E).Ok :=
 ⟨ok.mod,ok.kind,ok.glob,ok.blt,ok.above,ok.inj,ok.has,ok.cab,ok.hd,ok.frames,ok.stk,ok.exf,ok.bs,ok.bsz,ok.noex,ok.exfs,ok.funs,ok.frf⟩
theorem Cx.Ok.unwish {X:Cx} {E:Value→Shared→Prop} (ok:(X.wish E).Ok):X.Ok :=
 ⟨ok.mod,ok.kind,ok.glob,ok.blt,ok.above,ok.inj,ok.has,ok.cab,ok.hd,ok.frames,ok.stk,ok.exf,ok.bs,ok.bsz,ok.noex,ok.exfs,ok.funs,ok.frf⟩
section
variable {X:Cx} {pins:List (Addr × Obj)} {σ:St} {H:Hp} {s:Shared} {E:Value→Shared→Prop}
theorem Inv.wish (I:Inv X pins σ H s) (E:Value→Shared→Prop):Inv (X.wish E) pins σ H s:=⟨I.ok.wish E,I.os,I.bare,I.base,I.loc,I.cell,I.free,I.freeC,I.pin,I.hok,I.len⟩
theorem Inv.unwish (I:Inv (X.wish E) pins σ H s):Inv X pins σ H s:=⟨I.ok.unwish,I.os,I.bare,I.base,I.loc,I.cell,I.free,I.freeC,I.pin,I.hok,I.len⟩
theorem SP.unwish {D:Ends} {f:Flow} {s':Shared} (h:SP (X.wish E) pins D f s'):SP X pins D f s':=by
 cases f with
 | next=>obtain ⟨σ',H',I,q⟩:=h;exact ⟨σ',H',I.unwish,q⟩
 | brk=>obtain ⟨σ',H',I,q⟩:=h;exact ⟨σ',H',I.unwish,q⟩
 | cont=>obtain ⟨σ',H',I,q⟩:=h;exact ⟨σ',H',I.unwish,q⟩
 | ret u=>obtain ⟨v,σ',H',I,r,q⟩:=h;exact ⟨v,σ',H',I.unwish,r,q⟩
theorem PE.nox {e:Expr} {t:TE} (h:PE X.nox e t):PE X e t:=fun pins s σ H Q I hw =>
 wpAny_mono (h pins s σ H Q (I.wish _) hw) (fun _ _ ⟨v,H',I',r,q⟩=>⟨v,H',I'.unwish,r,q⟩) fun _ _ z=>False.elim z
theorem PT.nox {e:Expr} {t:TT} (h:PT X.nox e t):PT X e t:=fun pins s σ H Q I hw =>
 wpAny_mono (h pins s σ H Q (I.wish _) hw) (fun _ _ ⟨H',I',q⟩=>⟨H',I'.unwish,q⟩) fun _ _ z=>False.elim z
theorem PSs.nox {st:List Stmt} {t:TS} (h:PSs X.nox st t):PSs X st t:=fun pins s σ H D I hw =>
 wpAny_mono (h pins s σ H D (I.wish _) hw) (fun _ _ q=>q.unwish) fun _ _ z=>False.elim z
end
section
variable {X:Cx} {st:Stmt} {rest:List Stmt} {t u:TS} {e:Expr} {te:TE} {pos:Pos}
def tNext:TS:=fun D σ H=>D.nx σ H
def tSeq (t u:TS):TS:=fun D σ H=>t { D with nx:=u D } σ H
theorem pss_nil:PSs X [] tNext:=fun _ _ σ H _ I h=>wpAny_execs_nil ⟨σ,H,I,h⟩
theorem pss_cons (h1:PS X st t) (h2:PSs X rest u):PSs X (st :: rest) (tSeq t u):=by
 intro pins s σ H D I h
 refine wpAny_execs_cons (thn (h1 pins s σ H { D with nx:=u D } I h) fun f s1 q=>?_)
 cases f with
 | next =>
  obtain ⟨σ',H',I',q⟩:=q
  exact h2 pins s1 σ' H' D I' q
 | ret v=>exact q
 | brk=>exact q
 | cont=>exact q
theorem pss_one (h1:PS X st t):PSs X [st] t:=by
 intro pins s σ H D I h
 refine wpAny_execs_cons (thn (h1 pins s σ H D I h) fun f s1 q=>?_)
 cases f with
 | next=>exact wpAny_execs_nil q
 | ret v=>exact q
 | brk=>exact q
 | cont=>exact q
def tBreak:TS:=fun D σ H=>D.bk σ H
def tCont:TS:=fun D σ H=>D.ct σ H
theorem Inv.quiet {pins:List (Addr × Obj)} {σ:St} {H:Hp} {s:Shared} (I:Inv X pins σ H s):interactive X.env=false:=by simp [interactive,I.ok.kind]
def tDrop (te:TE):TS:=fun D σ H=>te σ H fun _ H1=>D.nx σ H1
theorem ps_expr (he:PE X e te) (hs:swapsWith e none pos.line X.env=pure false:=by rfl):PS X (.Expr e pos) (tDrop te):=by
 intro pins s σ H D I h
 exact wpAny_Expr_any (thn (he pins s σ H _ I h) fun v s1 ⟨x,H1,I1,r1,q1⟩=>⟨σ,H1,I1,q1⟩) I.quiet hs
def tRet (te:TE):TS:=fun D σ H=>te σ H D.rt
theorem ps_ret (he:PE X e te):PS X (.Return (some e) pos) (tRet te):=by
 intro pins s σ H D I h
 exact wpAny_Return_some (thn (he pins s σ H _ I h) fun v s1 ⟨x,H1,I1,r1,q1⟩=>⟨x,σ,H1,I1,r1,q1⟩)
def tRetN:TS:=fun D _ H=>D.rt .non H
theorem ps_retN:PS X (.Return none pos) tRetN:=fun _ _ σ H _ I h=>wpAny_Return_none ⟨.non,σ,H,I,rfl,h⟩
def tIfS (c:TT) (t u:TS):TS:=fun D σ H=>c σ H fun b H1=>if b=true then t D σ H1 else u D σ H1
theorem ps_if {c:Expr} {a b:List Stmt} {tc:TT} (hc:PT X c tc) (ha:PSs X a t) (hb:PSs X b u):PS X (.If c a b pos) (tIfS tc t u):=by
 intro pins s σ H D I h
 refine wpAny_If (thn (hc pins s σ H _ I h) fun d s1 ⟨H1,I1,q1⟩=>?_)
 cases d with
 | true=>exact ha pins s1 σ H1 D I1 q1
 | false=>exact hb pins s1 σ H1 D I1 q1
def tNever:TS:=fun _ _ _=>False
theorem pss_never {sts:List Stmt}:PSs X sts tNever:=fun _ _ _ _ _ _ h=>h.elim
end
abbrev TG:=V→St→Hp→(St→Hp→Prop)→Prop
abbrev TGs:=List V→St→Hp→(St→Hp→Prop)→Prop
def PG (X:Cx) (target:Expr) (t:TG):Prop :=
 ∀ (pins:List (Addr × Obj)) (s:Shared) (σ:St) (H:Hp) (v:V) (u:Value) (Q:St→Hp→Prop),Inv X pins σ H s→RelV v u→t v σ H Q →
  wpAny (model X.prog X.w) X.A (assign target X.env u) (fun _ s'=>∃ σ' H',Inv X pins σ' H' s'∧Q σ' H') X.xe s
def PGs (X:Cx) (ts:List Expr) (t:TGs):Prop :=
 ∀ (pins:List (Addr × Obj)) (s:Shared) (σ:St) (H:Hp) (vs:List V) (us:List Value) (Q:St→Hp→Prop),Inv X pins σ H s→Vals vs us→t vs σ H Q →
  wpAny (model X.prog X.w) X.A (assignInOrder ((assignEach ts X.env).map (·.2)) us) (fun _ s'=>∃ σ' H',Inv X pins σ' H' s'∧Q σ' H') X.xe s
abbrev TSet:=V→V→V→Hp→(Hp→Prop)→Prop
def PSet (X:Cx) (t:TSet):Prop :=
 ∀ (pins:List (Addr × Obj)) (s:Shared) (σ:St) (H:Hp) (o i v:V) (ov iv u:Value) (Q:Hp→Prop),Inv X pins σ H s→RelV o ov→RelV i iv→RelV v u→t o i v H Q →
  wpAny (model X.prog X.w) X.A (setItem ov iv u) (fun _ s'=>∃ H',Inv X pins σ H' s'∧Q H') X.xe s
abbrev TIp:=V→V→Hp→VK→Prop
def PIp (X:Cx) (op:Operator) (t:TIp):Prop :=
 ∀ (pins:List (Addr × Obj)) (s:Shared) (σ:St) (H:Hp) (x y:V) (v u:Value) (Q:VK),Inv X pins σ H s→RelV x v→RelV y u→t x y H Q →
  wpAny (model X.prog X.w) X.A (inplaceOp op v u) (EP X pins σ Q) X.xe s
section
variable {X:Cx} {pos:Pos}
def gName (i:Nat):TG:=fun v σ H Q=>Q (σ.set i (some v)) H
theorem pg_name {i:Nat} {x:Str} (hN:X.N.Nodup) (hi:X.N[i]?=some x) (hx:Loc X.env.scope x) (hf:X.fn x=true∨X.env.scope.names.lookup x=some .local:=by first | exact .inl rfl | exact .inr rfl | assumption):PG X (.Name x pos) (gName i):=by
 intro pins s σ H v u Q I r h
 exact wpAny_assign_Name (store_ok I hN hi hx r (fun s' I'=>⟨_,H,I',h⟩) hf)
def gNil:TGs:=fun vs σ H Q=>vs=[]∧Q σ H
def gCons (t:TG) (u:TGs):TGs:=fun vs σ H Q=>∃ v r,vs=v :: r∧t v σ H fun σ' H'=>u r σ' H' Q
theorem pgs_nil:PGs X [] gNil:=by
 intro pins s σ H vs us Q I r h
 obtain ⟨e,h⟩:=h
 subst e
 cases r
 exact assignInOrder_nil ⟨σ,H,I,h⟩
theorem pgs_cons {e:Expr} {es:List Expr} {t:TG} {u:TGs} (h1:PG X e t) (h2:PGs X es u)
  (hs:(assignEach (e :: es) X.env).map (·.2)=assign e X.env :: (assignEach es X.env).map (·.2):=by rfl):PGs X (e :: es) (gCons t u):=by
 intro pins s σ H vs us Q I r h
 obtain ⟨v,vr,e1,h⟩:=h
 subst e1
 cases r with
 | cons r rr =>
  rw [hs]
  refine assignInOrder_cons (thn (h1 pins s σ H _ _ _ I r h) fun _ s1 ⟨σ1,H1,I1,q1⟩=>?_)
  exact h2 pins s1 σ1 H1 _ _ Q I1 rr q1
def gTup (K:PySem.W.Frag) (n:Nat) (t:TGs):TG:=fun v σ H Q=>∃ a xs,v=.ref a∧SqT K H a xs∧xs.length=n∧t xs σ H Q
theorem pg_tup {es:List Expr} {k:Nat} {t:TGs} {n:Nat} (hc:X.calm=true) (h:PGs X es t)
  (hn:(assignEach es X.env).length=n:=by rfl) (hst:(assignEach es X.env).findIdx? (·.1)=none:=by rfl):PG X (.Tuple es k pos) (gTup X.K n t):=by
 intro pins s σ H v u Q I r hw
 obtain ⟨a,xs,e1,hq,hl,hw⟩:=hw
 subst e1
 cases r
 obtain ⟨its,rv,ht,hz⟩:=I.tuple hq
 refine assign_Tuple_tuple (I.ok.hd hc) ht (by simp [hn,← hl,rv.length]) hst fun h' hx=>?_
 have I1:Inv X pins σ H { s with heap:=h' }:=I.kept (t':=s.toks) fun b o e=>hx b o (Nat.ne_of_lt (Heap.lt_size e)) e
 exact h pins _ σ H xs _ Q I1 (by simpa using rv) hw
def gSub (to ti:TE) (t:TSet):TG:=fun v σ H Q=>to σ H fun o H1=>ti σ H1 fun i H2=>t o i v H2 fun H3=>Q σ H3
theorem pg_sub {o i:Expr} {to ti:TE} {t:TSet} (ho:PE X o to) (hi:PE X i ti) (hs:PSet X t)
  (ha:∀ v,assign (.Subscript o i pos) X.env v=(do
   let ov ← holding [v] (eval o X.env)
   let iv ← holding [v,ov] (eval i X.env)
   standAt pos
   holding [v,ov,iv] (setItem ov iv v)
   release [v,ov,iv] []):=by intro _;rfl):PG X (.Subscript o i pos) (gSub to ti t):=by
 intro pins s σ H v u Q I r h
 rw [ha]
 refine wpAny_bind (wpAny_holding (thn (ho pins s σ H _ I h) fun ov s1 ⟨x,H1,I1,r1,q1⟩=>?_))
 refine wpAny_bind (wpAny_holding (thn (hi pins s1 σ H1 _ I1 q1) fun iv s2 ⟨y,H2,I2,r2,q2⟩=>?_))
 refine wpAny_bind (wpAny_standAt (wpAny_bind (wpAny_holding (thn (hs pins s2 σ H2 x y v ov iv u _ I2 r1 r2 r q2) fun _ s3 ⟨H3,I3,q3⟩=>?_))))
 exact wpAny_release ⟨σ,H3,I3,q3⟩
def tAsg (te:TE) (g:TG):TS:=fun D σ H=>te σ H fun x H1=>g x σ H1 D.nx
theorem ps_asg {tg e:Expr} {te:TE} {g:TG} (he:PE X e te) (hg:PG X tg g) (hs:swapsWithSole [tg] e pos.line X.env=pure false:=by rfl) (hw:swappedStores [tg] e X.env=pure none:=by rfl)
  (h1:(assignEach [tg] X.env).map (·.2)=[assign tg X.env]:=by rfl):PS X (.Assign [tg] e pos) (tAsg te g):=by
 intro pins s σ H D I h
 refine wpAny_Assign_stores (thn (he pins s σ H _ I h) fun v s1 ⟨x,H1,I1,r1,q1⟩=>?_) hs hw
 rw [h1]
 exact thn (hg pins s1 σ H1 x v _ I1 r1 q1) fun _ s2 q=>q
theorem ps_set {i:Nat} {x:Str} {e:Expr} {te:TE} {pos':Pos} (hN:X.N.Nodup) (hi:X.N[i]?=some x) (hx:Loc X.env.scope x) (he:PE X e te) (hs:swapsWith e (some (.Name x pos')) pos.line X.env=pure false:=by rfl) (hf:X.fn x=true∨X.env.scope.names.lookup x=some .local:=by first | exact .inl rfl | exact .inr rfl | assumption) :
  PS X (.Assign [.Name x pos'] e pos) (tAsg te (gName i)):=by
 intro pins s σ H D I h
 refine wpAny_Assign_Name (thn (he pins s σ H _ I h) fun v s1 ⟨y,H1,I1,r1,q1⟩=>?_) hs
 exact store_ok I1 hN hi hx r1 (fun s2 I2=>⟨_,H1,I2,q1⟩) hf
def tPar (i j:Nat) (ta:TA):TS:=fun D σ H=>ta σ H fun vs H1=>∃ v w,vs=[v,w]∧D.nx ((σ.set i (some v)).set j (some w)) H1
theorem ps_par {i j:Nat} {x y:Str} {a b:Expr} {ta:TA} {px py pt:Pos} {kt k2 pt2} (hc:X.calm=true) (hN:X.N.Nodup) (hi:X.N[i]?=some x) (hj:X.N[j]?=some y) (hij:i≠j)
  (hx:X.env.scope.names.lookup x=some .local) (hy:X.env.scope.names.lookup y=some .local) (ha:PA X [a,b] ta)
  (hw:swappedStores [.Tuple [.Name x px,.Name y py] kt pt] (.Tuple [a,b] k2 pt2) X.env=pure (some [x,y]))
  (hs:swapsWithSole [.Tuple [.Name x px,.Name y py] kt pt] (.Tuple [a,b] k2 pt2) pos.line X.env=pure false:=by rfl) :
  PS X (.Assign [.Tuple [.Name x px,.Name y py] kt pt] (.Tuple [a,b] k2 pt2) pos) (tPar i j ta):=by
 intro pins s σ H D I h
 rw [exec_Assign_arm]
 refine wpAny_bind (wpAny_standAt ?_)
 rw [hs]
 refine wpAny_bind (wpAny_pure ?_)
 rw [if_neg (by decide)]
 refine wpAny_bind (Tuple_ (thn (ha _ pins s σ H _ I h) fun us s1 ⟨vs,H1,I1,r1,q1⟩=>?_))
 obtain ⟨v,w,e1,q1⟩:=q1
 subst e1
 obtain ⟨u1,u2,rfl,rv,rw'⟩:∃ u1 u2,us=[u1,u2]∧RelV v u1∧RelV w u2:=by
  cases r1 with
  | cons p q =>
   cases q with
   | cons p' q' =>
    cases q'
    exact ⟨_,_,rfl,p,p'⟩
 refine wpAny_newObj_type ?_ (by show 2≤sizeLine;decide)
 have I2:Inv X pins σ H1 { s1 with heap:=s1.heap.push { cls:=.type "tuple",data:=.seq [u1,u2].toArray } }:=I1.kept (t':=s1.toks) fun b o e=>Heap.get?_push_of_some _ e
 rw [hw]
 refine wpAny_bind (wpAny_pure ?_)
 show wpAny (model X.prog X.w) X.A (do rule "assign.swapped-stores";let items ← unpackItems (.ref s1.heap.objs.size) 2 none;assignInOrder [fun v=>bindName X.env y v,fun v=>bindName X.env x v] items.reverse;pure Flow.next) _ _ _
 refine wpAny_bind (wpAny_rule (wpAny_bind (unpackItems_tuple (items:=#[u1,u2]) (I.ok.hd hc) (IsTup.new s1.heap _) fun h' hx'=>?_)))
 have I3:=I2.kept (h':=h') (t':=s1.toks) fun b o e=>hx' b o (Nat.ne_of_lt (Heap.lt_size e)) e
 show wpAny _ _ (assignInOrder [fun v=>bindName X.env y v,fun v=>bindName X.env x v] [u2,u1] >>= fun _=>pure Flow.next) _ _ _
 refine wpAny_bind (assignInOrder_cons (wpAny_bindName (store_ok I3 hN hj (.inl hy) rw' (fun s2 I4=>?_) (.inr hy))))
 refine assignInOrder_cons (wpAny_bindName (store_ok I4 hN hi (.inl hx) rv (fun s3 I5=>assignInOrder_nil (wpAny_pure ?_)) (.inr hx)))
 rw [List.set_comm _ _ (Ne.symm hij)] at I5
 exact ⟨_,H1,I5,q1⟩
def tAug (i:Nat) (te:TE) (ti:TIp):TS:=fun D σ H=>∃ x,σ[i]?=some (some x)∧te σ H fun y H1=>ti x y H1 fun z H2=>D.nx (σ.set i (some z)) H2
theorem ps_aug {i:Nat} {x:Str} {e:Expr} {te:TE} {op:Operator} {ti:TIp} {pos':Pos} (hN:X.N.Nodup) (hi:X.N[i]?=some x) (hx:Loc X.env.scope x) (he:PE X e te) (ho:PIp X op ti) (hf:X.fn x=true∨X.env.scope.names.lookup x=some .local:=by first | exact .inl rfl | exact .inr rfl | assumption) :
  PS X (.AugAssign (.Name x pos') op e pos) (tAug i te ti):=by
 intro pins s σ H D I h
 obtain ⟨v,e1,h⟩:=h
 obtain ⟨m,hn,hl⟩:=I.loc
 have vis:Vis X.env.scope x:=by rcases hx with k | k;exact .inl k;exact .inr (.inl k)
 obtain ⟨u,r,l⟩:=hl i x v hi e1 vis
 refine wpAny_AugAssign_Name ?_
 have go:wpAny (model X.prog X.w) X.A (eval e X.env) (fun w s₂=>wpAny (model X.prog X.w) X.A (inplaceOp op u w) (fun r s₃=>wpAny (model X.prog X.w) X.A (storeName X.env x r) (fun _=>SP X pins D .next) X.xe s₃) X.xe s₂) X.xe s:=by
  refine thn (he pins s σ H _ I h) fun w s1 ⟨y,H1,I1,r1,q1⟩=>?_
  refine thn (ho pins s1 σ H1 v y u w _ I1 r r1 q1) fun z s2 ⟨zv,H2,I2,r2,q2⟩=>?_
  exact store_ok I2 hN hi hx r2 (fun s3 I3=>⟨_,H2,I3,q2⟩) hf
 rcases l with ⟨hk,hm⟩ | ⟨hk,c,hc,hcell⟩
 ·exact wpAny_loadName_local I.ok.kind hk hn hm go
 ·rcases hk with hk | hk
  ·exact wpAny_loadName_cell I.ok.kind hk hc hcell go
  ·rcases hx with k | k
   ·have:X.env.scope.names.lookup x=some .free:=hk
    rw [k] at this;cases this
   ·have:X.env.scope.names.lookup x=some .free:=hk
    rw [k] at this;cases this
def ipI (f:Int→Int→Int):TIp:=fun x y H Q=>∃ i j,x=.int i∧y=.int j∧Q (.int (f i j)) H
theorem ip_sub:PIp X .Sub (ipI fun i j=>i - j):=by
 intro pins s σ H x y v u Q I r1 r2 h
 obtain ⟨i,j,e1,e2,q⟩:=h
 subst e1;subst e2
 obtain ⟨t,rfl⟩:=r1
 obtain ⟨t',rfl⟩:=r2
 exact isub_int ⟨.int _,H,I.tok _,⟨_,rfl⟩,q⟩
end
section
variable {X:Cx} {pos:Pos}
def tWhile (c:TT) (tb:TS):TS:=fun D σ H=>∃ W:Nat→St→Hp→Prop,(∃ m,W m σ H)∧∀ m σ H,W m σ H →
 c σ H fun b H1=>if b=true then ∃ N:St→Hp→Prop,(∀ σ' H',N σ' H'→∃ m',m' < m∧W m' σ' H')∧tb { D with nx:=N,ct:=N,bk:=D.nx } σ H1 else D.nx σ H1
theorem ps_while {c:Expr} {body:List Stmt} {tc:TT} {tb:TS} (hp:PassesOwn (model X.prog X.w) X.A X.env X.xe) (hc:PT X c tc) (hb:PSs X body tb):PS X (.While c body [] pos) (tWhile tc tb):=by
 intro pins s σ H D I h
 obtain ⟨W,⟨m0,w0⟩,turn⟩:=h
 refine wpAny_While (codeAny_whileLoop (fun n s'=>∃ σ' H',Inv X pins σ' H' s'∧W n σ' H') ?_ m0 ⟨σ,H,I,w0⟩)
 rintro n s1 ⟨σ1,H1,I1,w1⟩
 refine wpAny_passesOwn hp (thn (hc pins s1 σ1 H1 _ I1 (turn n σ1 H1 w1)) fun b s2 ⟨H2,I2,q2⟩=>?_)
 cases b with
 | true =>
  obtain ⟨N,hN,q2⟩:=q2
  rw [if_pos rfl]
  refine wpAny_passesOwn hp (thn (hb pins s2 σ1 H2 _ I2 q2) fun f s3 q3=>?_)
  cases f with
  | next =>
   obtain ⟨σ3,H3,I3,n3⟩:=q3
   obtain ⟨m',hm,w3⟩:=hN σ3 H3 n3
   exact ⟨m',hm,σ3,H3,I3,w3⟩
  | cont =>
   obtain ⟨σ3,H3,I3,n3⟩:=q3
   obtain ⟨m',hm,w3⟩:=hN σ3 H3 n3
   exact ⟨m',hm,σ3,H3,I3,w3⟩
  | brk=>exact q3
  | ret v=>exact q3
 | false =>
  rw [if_neg Bool.false_ne_true]
  exact wpAny_execs_nil ⟨σ1,H2,I2,q2⟩
end
structure It where
 go:Nat→Hp→Prop
 yld:Nat→Hp→V→Hp→Prop
 stop:Nat→Hp→Prop
def FpOk (X:Cx) (pins:List (Addr × Obj)) (H:Hp) (b:Addr):Prop :=
 H b=none∧b≠X.env.locals∧b ∉ X.fs∧(b∈X.ex∨X.s₀.heap.objs.size≤b)∧(∀ x c,X.env.cells.lookup x=some c→c≠b)∧∀ p∈X.pn ++ pins,p.1≠b
theorem Inv.fpOk {X:Cx} {pins:List (Addr × Obj)} {σ:St} {H H':Hp} {s:Shared} {b:Addr} (I:Inv X pins σ H s) (hb:s.heap.objs.size≤b) (hn:H' b=none):FpOk X pins H' b:=by
 refine ⟨hn,Nat.ne_of_gt (Nat.lt_of_lt_of_le I.lt hb),I.nofs hb,.inr (Nat.le_trans I.sz hb),fun x c e z=>?_,fun p hp z=>?_⟩
 ·obtain ⟨v,q⟩:=I.cell x c e
  exact absurd (Nat.lt_of_lt_of_le q.lt (by rw [z];exact hb)) (Nat.lt_irrefl _)
 ·exact absurd (Nat.lt_of_lt_of_le (Heap.lt_size (I.pin p hp).1) (by rw [z];exact hb)) (Nat.lt_irrefl _)
structure Turn (P:Program) (w:World) (K:PySem.W.Frag) (tg:Expr) (J:It) (fp:List Addr) (it:Addr) (tn:Nat→Heap→Prop):Prop where
 mem:it∈fp
 obj:∀ i h,tn i h→∀ b∈fp,∃ o,h.get? b=some o∧∀ v,o.data≠.cell v
 keep:∀ i h h',tn i h→(∀ b∈fp,∀ o,h.get? b=some o→h'.get? b=some o)→tn i h'
 item:∀ (X:Cx),X.prog=P→X.w=w→X.K=K→X.calm=true→∀ (i:Nat) (pins:List (Addr × Obj)) (s:Shared) (σ:St) (H:Hp) (E:Value→Shared→Prop),Inv X pins σ H s→(∀ b∈fp,FpOk X pins H b)→tn i s.heap→J.go i H →
  wpAny (model P w) X.A (pyNext (.ref it)) (fun r s1=>∃ u,r=some u ∧
   wpAny (model P w) X.A (letOwnedTupleGo tg (.ref it) u) (fun _ s2=>∃ x H',Inv X pins σ H' s2∧RelV x u∧J.yld i H x H'∧tn (i + 1) s2.heap∧∀ b∈fp,H' b=none) E s1) E s
 done:∀ (X:Cx),X.prog=P→X.w=w→X.K=K→X.calm=true→∀ (i:Nat) (pins:List (Addr × Obj)) (s:Shared) (σ:St) (H:Hp) (E:Value→Shared→Prop),Inv X pins σ H s→(∀ b∈fp,FpOk X pins H b)→tn i s.heap→J.stop i H →
  wpAny (model P w) X.A (pyNext (.ref it)) (fun r s1=>r=none∧Inv X pins σ H s1) E s
 self:∀ (A:Around) (i:Nat) (s:Shared) (Q:Value→Shared→Prop) (E:Value→Shared→Prop),tn i s.heap→Q (.ref it) s→wpAny (model P w) A (pyIter (.ref it)) Q E s
abbrev TI:=St→Hp→(It→Hp→Prop)→Prop
def PIE (X:Cx) (pins:List (Addr × Obj)) (σ:St) (tg:Expr) (R:It→Hp→Prop) (itv:Value) (s2:Shared):Prop :=
 ∃ (it:Addr) (fp:List Addr) (tn:Nat→Heap→Prop) (J:It) (H':Hp),itv=.ref it∧Inv X pins σ H' s2∧Turn X.prog X.w X.K tg J fp it tn∧tn 0 s2.heap∧(∀ b∈fp,FpOk X pins H' b)∧R J H'
def PI (X:Cx) (tg iter:Expr) (wi:TI):Prop :=
 ∀ (pins:List (Addr × Obj)) (s:Shared) (σ:St) (H:Hp) (R:It→Hp→Prop),Inv X pins σ H s→wi σ H R →
  wpAny (model X.prog X.w) X.A (eval iter X.env) (fun v s1=>wpAny (model X.prog X.w) X.A (pyIter v) (PIE X pins σ tg R) X.xe s1) X.xe s
theorem go_of {M:Model} {A:Around} {E:Value→Shared→Prop} {s:Shared} {tg:Expr} {it:Addr} {u:Value} {o:Obj} {n:String} {vs:Array Value} {Q:Unit→Shared→Prop} (ho:s.heap.get? it=some o) (hc:o.cls=.type n) (hd:o.data=.fields vs)
  (hn:["enumerate","zip","dict_itemiterator","dict_reverseitemiterator","odict_iterator","itertools.zip_longest","itertools.pairwise"].contains n=false) (hQ:Q () s):wpAny M A (letOwnedTupleGo tg (.ref it) u) Q E s:=by
 unfold letOwnedTupleGo
 cases tg <;> first
  | exact wpAny_pure hQ
  | (cases u <;> first
    | exact wpAny_pure hQ
    | (refine wpAny_bind (wpAny_load ho ?_)
       rw [hc,hd]
       show wpAny M A (if (["enumerate","zip","dict_itemiterator","dict_reverseitemiterator","odict_iterator","itertools.zip_longest","itertools.pairwise"].contains n && vs[0]? == some (rawInt _))=true then _ else _) Q E s
       rw [if_neg (by intro h;rw [hn,Bool.false_and] at h;cases h)]
       exact wpAny_pure hQ))
def Itl (K:PySem.W.Frag) (a:Addr):It :=
 ⟨fun i H=>∃ xs x,SqL K H a xs∧xs[i]?=some x,fun i H x H'=>H'=H∧∀ xs,SqL K H a xs→xs[i]?=some x,fun i H=>∃ xs,SqL K H a xs∧xs.length≤i⟩
def Itt (K:PySem.W.Frag) (a:Addr):It :=
 ⟨fun i H=>∃ xs x,SqT K H a xs∧xs[i]?=some x,fun i H x H'=>H'=H∧∀ xs,SqT K H a xs→xs[i]?=some x,fun i H=>∃ xs,SqT K H a xs∧xs.length≤i⟩
def Itr (lo:Int) (n:Nat):It:=⟨fun i _=>i < n,fun i H x H'=>H'=H∧x=.int (lo + i),fun i _=>n≤i⟩
theorem turn_list {P:Program} {w:World} {K:PySem.W.Frag} {tg:Expr} (a it:Addr):Turn P w K tg (Itl K a) [it] it (fun i h=>h.IsListIter it a i) where
 mem:=by simp
 obj:=fun i h st b hb=>by
  have e:b=it:=by simpa using hb
  subst e
  obtain ⟨o,e,c,d⟩:=st
  exact ⟨o,e,fun v z=>by rw [d] at z;cases z⟩
 keep:=fun i h h' st k=>st.at fun o e=>k it (by simp) o e
 item:=by
  intro X hP hw hK hc i pins s σ H E I hf st hg
  subst hP hw hK
  obtain ⟨xs,x,hq,hx⟩:=hg
  obtain ⟨its,rv,p,hz⟩:=I.list hq
  obtain ⟨u,hu,ru⟩:=rv.get hx
  obtain ⟨f0,f1,f2,f3,f4,f5⟩:=hf it (by simp)
  refine wpAny_pyNext_list_item st p.isList (x:=u) (by simpa using hu) fun h' st' sb=>?_
  have I1:Inv X pins σ H { s with heap:=h' }:=I.turned (t':=s.toks) (fun b o hb e=>(sb.2 b hb).trans e) f0 f1 f3 f4 f5
  obtain ⟨o,e,c,d⟩:=id st'
  exact ⟨u,rfl,go_of (s:={ s with heap:=h' }) e c d (by decide) ⟨x,H,I1,ru,⟨rfl,fun ys hy=>by rw [I.list_inj hy hq];exact hx⟩,st',fun b hb=>(hf b hb).1⟩⟩
 done:=by
  intro X hP hw hK hc i pins s σ H E I hf st hg
  subst hP hw hK
  obtain ⟨xs,hq,hx⟩:=hg
  obtain ⟨its,rv,p,hz⟩:=I.list hq
  obtain ⟨f0,f1,f2,f3,f4,f5⟩:=hf it (by simp)
  have hl:=rv.length
  exact wpAny_pyNext_list_end (I.ok.hd hc) st p.isList (by simp;omega) fun h' eb=>⟨rfl,I.turned (t':=s.toks) (fun b o hb e=>eb b o hb e) f0 f1 f3 f4 f5⟩
 self:=fun _ _ _ _ _ st h=>wpAny_pyIter_listiter st h
theorem turn_range {P:Program} {w:World} {K:PySem.W.Frag} {tg:Expr} (it:Addr) (lo:Int) (n:Nat):Turn P w K tg (Itr lo n) [it] it (fun i h=>IsRangeIter h it (lo + (i:Nat) * 1) ((n:Int) - (i:Nat)) 1) where
 mem:=by simp
 obj:=fun i h st b hb=>by
  have e:b=it:=by simpa using hb
  subst e
  exact ⟨_,st,fun v z=>by
   have z':Data.fields _=Data.cell v:=z
   cases z'⟩
 keep:=fun i h h' st k=>k it (by simp) _ st
 item:=by
  intro X hP hw hK hc i pins s σ H E I hf st hg
  subst hP hw hK
  obtain ⟨f0,f1,f2,f3,f4,f5⟩:=hf it (by simp)
  have W:=Walks.range (prog:=X.prog) (w:=X.w) (I.ok.hd hc) it lo 1 n
  refine W.item i s _ _ hg st fun v h' tk hv st' kk=>?_
  obtain ⟨t,rfl⟩:=hv
  have I1:Inv X pins σ H { s with heap:=h',toks:=tk }:=I.turned (fun b o hb e=>kk b o (by simpa using hb) e) f0 f1 f3 f4 f5
  refine ⟨_,rfl,go_of (s:={ s with heap:=h',toks:=tk }) (n:="range_iterator") st' rfl rfl (by decide) ⟨.int (lo + i),H,I1,⟨t,?_⟩,⟨rfl,rfl⟩,st',fun b hb=>(hf b hb).1⟩⟩
  rw [Int.mul_one]
 done:=by
  intro X hP hw hK hc i pins s σ H E I hf st hg
  subst hP hw hK
  obtain ⟨f0,f1,f2,f3,f4,f5⟩:=hf it (by simp)
  exact wpAny_pyNext_range_end (I.ok.hd hc) st (by have:n≤i:=hg;omega) fun h' eb=>⟨rfl,I.turned (t':=s.toks) (fun b o hb e=>eb b o hb e) f0 f1 f3 f4 f5⟩
 self:=fun _ _ _ _ _ st h=>wpAny_pyIter_rangeiter st h
end L2
namespace L2
open PySem PySem.Spec PyProof.Rows
section
variable {X:Cx} {tg:Expr}
def iList (K:PySem.W.Frag) (tl:TE):TI:=fun σ H R=>tl σ H fun x H1=>∃ a,x=.ref a∧(∃ xs,SqL K H1 a xs)∧R (Itl K a) H1
def iTup (K:PySem.W.Frag) (tl:TE):TI:=fun σ H R=>tl σ H fun x H1=>∃ a,x=.ref a∧(∃ xs,SqT K H1 a xs)∧R (Itt K a) H1
theorem pi_list {l:Expr} {tl:TE} (hl:PE X l tl):PI X tg l (iList X.K tl):=by
 intro pins s σ H R I h
 refine thn (hl pins s σ H _ I h) fun v s1 ⟨x,H1,I1,r1,q1⟩=>?_
 obtain ⟨a,e,⟨xs,hq⟩,q⟩:=q1
 subst e
 cases r1
 obtain ⟨its,rv,p,hz⟩:=I1.list hq
 refine wpAny_pyIter_list p.isList ?_
 refine ⟨s1.heap.objs.size,[s1.heap.objs.size],_,_,H1,rfl,I1.kept (t':=s1.toks) fun b o e=>Heap.get?_push_of_some _ e,turn_list a _,⟨_,Heap.get?_push_size _ rfl,rfl,rfl⟩,fun b hb=>?_,q⟩
 have e:b=s1.heap.objs.size:=by simpa using hb
 subst e
 exact I1.fpOk (Nat.le_refl _) (I1.hok.fresh (Nat.le_refl _))
theorem range_it {pins:List (Addr × Obj)} {σ:St} {H:Hp} {s:Shared} {R:It→Hp→Prop} {E:Value→Shared→Prop} {lo hi:Int} {t u v:Tok} {tk:Nat} (I:Inv X pins σ H s) (h1:-(2 ^ 62)≤lo) (h2:lo < 2 ^ 62) (h3:-(2 ^ 62)≤hi) (h4:hi < 2 ^ 62)
  (q:R (Itr lo (hi - lo).toNat) H):wpAny (model X.prog X.w) X.A (pyIter (.ref s.heap.objs.size)) (PIE X pins σ tg R) E { s with heap:=s.heap.push { cls:=.type "range",data:=.fields #[.int lo t,.int hi u,.int 1 v] },toks:=tk }:=by
 refine wpAny_pyIter_range (IsRange.new ..) (small_one h1 h2 h3 h4) ?_
 have I1:Inv X pins σ H { s with heap:=s.heap.push { cls:=.type "range",data:=.fields #[.int lo t,.int hi u,.int 1 v] },toks:=tk }:=I.kept fun b o e=>Heap.get?_push_of_some _ e
 refine ⟨(s.heap.push { cls:=.type "range",data:=.fields #[.int lo t,.int hi u,.int 1 v] }).objs.size,[(s.heap.push { cls:=.type "range",data:=.fields #[.int lo t,.int hi u,.int 1 v] }).objs.size],_,_,H,rfl,
  I1.kept (t':=tk) fun b o e=>Heap.get?_push_of_some _ e,turn_range _ lo (hi - lo).toNat,?_,fun b hb=>?_,q⟩
 ·have e1:lo + ((0:Nat):Int) * 1=lo:=by simp
  have e2:(((hi - lo).toNat:Nat):Int) - ((0:Nat):Int)=Builtin.Range.rangeSize lo hi 1:=by rw [rangeSize_one];split <;> omega
  show IsRangeIter _ _ (lo + ((0:Nat):Int) * 1) ((((hi - lo).toNat:Nat):Int) - ((0:Nat):Int)) 1
  rw [e1,e2]
  exact Heap.get?_push_size _ rfl
 ·have e:b=(s.heap.push { cls:=.type "range",data:=.fields #[.int lo t,.int hi u,.int 1 v] }).objs.size:=by simpa using hb
  subst e
  exact I1.fpOk (Nat.le_refl _) (I1.hok.fresh (Nat.le_refl _))
def iRng1 (ta:TA):TI:=fun σ H R=>ta σ H fun vs H1=>∃ j:Int,vs=[.int j]∧-(2 ^ 62)≤j∧j < 2 ^ 62∧R (Itr 0 j.toNat) H1
def iRng2 (ta:TA):TI:=fun σ H R=>ta σ H fun vs H1=>∃ i j:Int,vs=[.int i,.int j]∧(-(2 ^ 62)≤i∧i < 2 ^ 62∧-(2 ^ 62)≤j∧j < 2 ^ 62)∧R (Itr i (j - i).toNat) H1
theorem pi_range1 {a:Expr} {ta:TA} {p pos:Pos} (hg:Gl X "range") (hm:X.mg "range"=none) (ha:PA X [a] ta) (hs:starEach [a] X.env=[(false,eval a X.env)]:=by rfl):PI X tg (.Call (.Name "range" p) [a] [] pos) (iRng1 ta):=by
 intro pins s σ H R I h
 refine Call_ (ld_blt I hg hm boot_range (PyProof.Rows.callWith_type1 (thn (ha pos pins s σ H _ I h) fun us s1 ⟨vs,H1,I1,r1,q1⟩=>?_) hs rfl))
 obtain ⟨j,e,q1,q2,q⟩:=q1
 subst e
 cases r1 with
 | cons r rr =>
  cases rr
  obtain ⟨t,rfl⟩:=r
  exact call_range_1 (range_it I1 (by omega) (by omega) q1 q2 (by simpa using q))
def tFor (wi:TI) (g:TG) (tb:TS):TS:=fun D σ H=>wi σ H fun J H1=>∃ W:Nat→Nat→St→Hp→Prop,(∃ m,W 0 m σ H1)∧∀ i m σ H,W i m σ H →
 (J.stop i H∧D.nx σ H)∨(J.go i H∧∃ N:St→Hp→Prop,(∀ σ' H',N σ' H'→∃ m',m' < m∧W (i + 1) m' σ' H')∧∀ x H',J.yld i H x H'→g x σ H' fun σ2 H2=>tb { D with nx:=N,ct:=N,bk:=D.nx } σ2 H2)
def pinsAt (fp:List Addr) (h:Heap):List (Addr × Obj):=fp.filterMap fun b=>(h.get? b).map fun o=>(b,o)
theorem mem_pinsAt {fp:List Addr} {h:Heap} {b:Addr} {o:Obj} (hb:b∈fp) (e:h.get? b=some o):(b,o)∈pinsAt fp h:=List.mem_filterMap.mpr ⟨b,hb,by rw [e];rfl⟩
theorem of_pinsAt {fp:List Addr} {h:Heap} {p:Addr × Obj} (hp:p∈pinsAt fp h):p.1∈fp∧h.get? p.1=some p.2:=by
 obtain ⟨b,hb,e⟩:=List.mem_filterMap.mp hp
 cases q:h.get? b with
 | none=>rw [q] at e;cases e
 | some o =>
  rw [q] at e
  have e':(b,o)=p:=Option.some.inj e
  subst e'
  exact ⟨hb,q⟩
theorem Inv.pinned {pins:List (Addr × Obj)} {σ:St} {H:Hp} {s:Shared} {fp:List Addr} (I:Inv X pins σ H s) (hf:∀ b∈fp,FpOk X pins H b) (ho:∀ b∈fp,∃ o,s.heap.get? b=some o∧∀ v,o.data≠.cell v):Inv X (pins ++ pinsAt fp s.heap) σ H s :=
 I.pins_of fun p hp=>(List.mem_append.mp hp).elim (fun z=>I.pin p (List.mem_append_right _ z)) fun z=>by
  obtain ⟨hb,e⟩:=of_pinsAt z
  obtain ⟨f0,f1,f2,_⟩:=hf p.1 hb
  obtain ⟨o,e',d⟩:=ho p.1 hb
  rw [e] at e';cases e'
  exact ⟨e,f0,f1,f2,d⟩
theorem Inv.unpinned {pins pl:List (Addr × Obj)} {σ:St} {H:Hp} {s:Shared} (I:Inv X (pins ++ pl) σ H s):Inv X pins σ H s:=I.pins_of fun p hp=>I.pin p (List.mem_append_right _ (List.mem_append_left _ hp))
theorem ps_for {iter:Expr} {body:List Stmt} {wi:TI} {g:TG} {tb:TS} {pos:Pos} (hp:PassesOwn (model X.prog X.w) X.A X.env X.xe) (hc:X.calm=true) (hi:PI X tg iter wi) (hg:PG X tg g) (hb:PSs X body tb)
  (hs:∀ x,foldedSetIterable iter X.env x=pure x:=by intro _;rfl):PS X (.For tg iter body [] pos) (tFor wi g tb):=by
 intro pins s σ H D I h
 refine wpAny_For (thn (hi pins s σ H _ I h) fun v s1 h1=>thn h1 fun itv s2 h2=>?_) hs
 obtain ⟨it,fp,tn,J,H2,e,I2,T,st2,f2,W,⟨m0,w0⟩,turn⟩:=h2
 subst e
 have stat:∀ {H':Hp},(∀ b∈fp,H' b=none)→∀ b∈fp,FpOk X pins H' b:=fun hn b hb=>⟨hn b hb,(f2 b hb).2⟩
 refine codeAny_forLoop_any (fun n s'=>∃ i σ' H',Inv X pins σ' H' s'∧tn i s'.heap∧(∀ b∈fp,H' b=none)∧W i n σ' H') ?_ m0 ⟨0,σ,H2,I2,st2,fun b hb=>(f2 b hb).1,w0⟩
 rintro n s3 ⟨i,σ3,H3,I3,st3,fr3,w3⟩
 rcases turn i n σ3 H3 w3 with ⟨stop,qn⟩ | ⟨go,N,hN,step⟩
 ·refine wpAny_passesOwn hp (thn (T.done X rfl rfl rfl hc i pins s3 σ3 H3 X.xe I3 (stat fr3) st3 stop) fun r s4 ⟨hr,I4⟩=>?_)
  subst hr
  exact wpAny_execs_nil ⟨σ3,H3,I4,qn⟩
 ·refine wpAny_passesOwn hp (thn (T.item X rfl rfl rfl hc i pins s3 σ3 H3 X.xe I3 (stat fr3) st3 go) fun r s4 ⟨u,hr,h4⟩=>?_)
  subst hr
  refine wpAny_passesOwn hp (thn h4 fun _ s5 ⟨x,H5,I5,r5,y5,st5,fr5⟩=>?_)
  have I5':=I5.pinned (stat fr5) (T.obj _ _ st5)
  refine wpAny_passesOwn hp (thn (hg _ s5 σ3 H5 x u _ I5' r5 (step x H5 y5)) fun _ s6 ⟨σ6,H6,I6,q6⟩=>?_)
  refine wpAny_passesOwn hp (thn (hb _ s6 σ6 H6 _ I6 q6) fun f s7 q7=>?_)
  have again:∀ {σ7:St} {H7:Hp},Inv X (pins ++ pinsAt fp s5.heap) σ7 H7 s7→N σ7 H7→∃ m,m < n∧∃ i σ' H',Inv X pins σ' H' s7∧tn i s7.heap∧(∀ b∈fp,H' b=none)∧W i m σ' H':=fun {σ7 H7} I7 n7=>by
   obtain ⟨m',hm,w7⟩:=hN σ7 H7 n7
   refine ⟨m',hm,i + 1,σ7,H7,I7.unpinned,T.keep _ _ _ st5 fun b hb o e=>(I7.pin (b,o) (List.mem_append_right _ (List.mem_append_right _ (mem_pinsAt hb e)))).1,fun b hb=>?_,w7⟩
   obtain ⟨o,e,d⟩:=T.obj _ _ st5 b hb
   exact (I7.pin (b,o) (List.mem_append_right _ (List.mem_append_right _ (mem_pinsAt hb e)))).2.1
  cases f with
  | next=>obtain ⟨σ7,H7,I7,n7⟩:=q7;exact again I7 n7
  | cont=>obtain ⟨σ7,H7,I7,n7⟩:=q7;exact again I7 n7
  | brk=>obtain ⟨σ7,H7,I7,q7⟩:=q7;exact ⟨σ7,H7,I7.unpinned,q7⟩
  | ret v=>obtain ⟨x7,σ7,H7,I7,r7,q7⟩:=q7;exact ⟨x7,σ7,H7,I7.unpinned,r7,q7⟩
end
theorem for_list {K:PySem.W.Frag} {a:Addr} {xs:List V} {g:TG} {tb:TS} {D:Ends} {σ:St} {H:Hp} (Pv:Nat→St→Hp→Prop) (h0:Pv 0 σ H) (hl:∀ i σ H,i≤xs.length→Pv i σ H→SqL K H a xs)
  (hs:∀ i x σ H,xs[i]?=some x→Pv i σ H→g x σ H fun σ2 H2=>tb { D with nx:=Pv (i + 1),ct:=Pv (i + 1),bk:=D.nx } σ2 H2) (hd:∀ σ H,Pv xs.length σ H→D.nx σ H) :
  ∃ W:Nat→Nat→St→Hp→Prop,(∃ m,W 0 m σ H)∧∀ i m σ H,W i m σ H →
   ((Itl K a).stop i H∧D.nx σ H)∨((Itl K a).go i H∧∃ N:St→Hp→Prop,(∀ σ' H',N σ' H'→∃ m',m' < m∧W (i + 1) m' σ' H')∧∀ x H',(Itl K a).yld i H x H'→g x σ H' fun σ2 H2=>tb { D with nx:=N,ct:=N,bk:=D.nx } σ2 H2):=by
 refine ⟨fun i m σ H=>m=xs.length - i∧i≤xs.length∧Pv i σ H,⟨xs.length,by simp,Nat.zero_le _,h0⟩,?_⟩
 rintro i m σ H ⟨rfl,hi,p⟩
 have q:=hl i σ H hi p
 by_cases hlt:i < xs.length
 ·refine .inr ⟨⟨xs,xs[i],q,by simp [hlt]⟩,Pv (i + 1),fun σ' H' p'=>⟨xs.length - (i + 1),by omega,rfl,hlt,p'⟩,fun x H' y=>?_⟩
  obtain ⟨e,y⟩:=y
  subst e
  exact hs i x σ _ (y xs q) p
 ·have e:i=xs.length:=by omega
  subst e
  exact .inl ⟨⟨xs,q,Nat.le_refl _⟩,hd σ H p⟩
theorem for_range {lo:Int} {n:Nat} {g:TG} {tb:TS} {D:Ends} {σ:St} {H:Hp} (Pv:Nat→St→Hp→Prop) (h0:Pv 0 σ H)
  (hs:∀ i σ H,i < n→Pv i σ H→g (.int (lo + i)) σ H fun σ2 H2=>tb { D with nx:=Pv (i + 1),ct:=Pv (i + 1),bk:=D.nx } σ2 H2) (hd:∀ σ H,Pv n σ H→D.nx σ H) :
  ∃ W:Nat→Nat→St→Hp→Prop,(∃ m,W 0 m σ H)∧∀ i m σ H,W i m σ H →
   ((Itr lo n).stop i H∧D.nx σ H)∨((Itr lo n).go i H∧∃ N:St→Hp→Prop,(∀ σ' H',N σ' H'→∃ m',m' < m∧W (i + 1) m' σ' H')∧∀ x H',(Itr lo n).yld i H x H'→g x σ H' fun σ2 H2=>tb { D with nx:=N,ct:=N,bk:=D.nx } σ2 H2):=by
 refine ⟨fun i m σ H=>m=n - i∧i≤n∧Pv i σ H,⟨n,by simp,Nat.zero_le _,h0⟩,?_⟩
 rintro i m σ H ⟨rfl,hi,p⟩
 by_cases hlt:i < n
 ·refine .inr ⟨hlt,Pv (i + 1),fun σ' H' p'=>⟨n - (i + 1),by omega,rfl,hlt,p'⟩,fun x H' y=>?_⟩
  obtain ⟨e,y⟩:=y
  subst e y
  exact hs i σ _ hlt p
 ·have e:i=n:=by omega
  subst e
  exact .inl ⟨Nat.le_refl _,hd σ H p⟩
theorem while_by {c:TT} {tb:TS} {D:Ends} {σ:St} {H:Hp} (Pv:St→Hp→Prop) (μ:St→Hp→Nat) (h0:Pv σ H)
  (hs:∀ σ H,Pv σ H→c σ H fun b H1=>if b=true then tb { D with nx:=fun σ' H'=>Pv σ' H'∧μ σ' H' < μ σ H,ct:=fun σ' H'=>Pv σ' H'∧μ σ' H' < μ σ H,bk:=D.nx } σ H1 else D.nx σ H1)
  (mono:∀ σ H Q Q',(∀ b H1,Q b H1→Q' b H1)→c σ H Q→c σ H Q'):tWhile c tb D σ H:=by
 refine ⟨fun m σ H=>m=μ σ H∧Pv σ H,⟨_,rfl,h0⟩,?_⟩
 rintro m σ H ⟨rfl,p⟩
 refine mono σ H _ _ (fun b H1 q=>?_) (hs σ H p)
 cases b with
 | true=>exact ⟨_,fun σ' H' ⟨p',l⟩=>⟨_,l,rfl,p'⟩,q⟩
 | false=>exact q
end L2
namespace L2
open PySem PySem.Spec PyProof.Rows
abbrev R2:=V→V→Hp→VK→Prop
def OpR (X:Cx) (f:Value→Value→Sem Value) (r:R2):Prop :=
 ∀ (pins:List (Addr × Obj)) (s:Shared) (σ:St) (H:Hp) (x y:V) (v u:Value) (Q:VK),Inv X pins σ H s→RelV x v→RelV y u→r x y H Q →
  wpAny (model X.prog X.w) X.A (f v u) (EP X pins σ Q) X.xe s
def UnR (X:Cx) (f:Value→Sem Value) (r:V→Hp→VK→Prop):Prop :=
 ∀ (pins:List (Addr × Obj)) (s:Shared) (σ:St) (H:Hp) (x:V) (v:Value) (Q:VK),Inv X pins σ H s→RelV x v→r x H Q →
  wpAny (model X.prog X.w) X.A (f v) (EP X pins σ Q) X.xe s
def CallR (X:Cx) (f:Value) (r:List V→Hp→VK→Prop):Prop :=
 ∀ (pins:List (Addr × Obj)) (s:Shared) (σ:St) (H:Hp) (xs:List V) (us:List Value) (Q:VK),Inv X pins σ H s→Vals xs us→r xs H Q →
  wpAny (model X.prog X.w) X.A (call f us) (EP X pins σ Q) X.xe s
def TruR (X:Cx) (r:V→Hp→(Bool→Hp→Prop)→Prop):Prop :=
 ∀ (pins:List (Addr × Obj)) (s:Shared) (σ:St) (H:Hp) (x:V) (v:Value) (Q:Bool→Hp→Prop),Inv X pins σ H s→RelV x v→r x H Q →
  wpAny (model X.prog X.w) X.A (truthy v) (TP X pins σ Q) X.xe s
def tOp (r:R2) (ta tb:TE):TE:=fun σ H Q=>ta σ H fun x H1=>tb σ H1 fun y H2=>r x y H2 Q
def tUn (r:V→Hp→VK→Prop) (ta:TE):TE:=fun σ H Q=>ta σ H fun x H1=>r x H1 Q
def rI (C:Int→Int→Prop) (g:Int→Int→V):R2:=fun x y H Q=>∃ i j,x=.int i∧y=.int j∧C i j∧Q (g i j) H
def rI0 (g:Int→Int→V):R2:=fun x y H Q=>∃ i j,x=.int i∧y=.int j∧Q (g i j) H
def rU (g:Int→V):V→Hp→VK→Prop:=fun x H Q=>∃ i,x=.int i∧Q (g i) H
section
variable {X:Cx} {a b c:Expr} {ta tb tc:TE} {pos:Pos}
theorem binT (ha:PE X a ta) (hb:PE X b tb) {pins:List (Addr × Obj)} {s:Shared} {σ:St} {H:Hp} {R:V→V→Hp→Prop} (I:Inv X pins σ H s)
  (h:ta σ H fun x H1=>tb σ H1 fun y H2=>R x y H2) {Q:Value→Shared→Prop} {f:Value→Value→Sem Value}
  (hf:∀ v u s2 x y H2,Inv X pins σ H2 s2→RelV x v→RelV y u→R x y H2→wpAny (model X.prog X.w) X.A (f v u) Q X.xe s2) :
  wpAny (model X.prog X.w) X.A (eval a X.env) (fun v s₁=>wpAny (model X.prog X.w) X.A (eval b X.env) (fun u s₂=>wpAny (model X.prog X.w) X.A (f v u) Q X.xe s₂) X.xe s₁) X.xe s:=by
 refine thn (ha pins s σ H _ I h) fun v s1 ⟨x,H1,I1,r1,q1⟩=>?_
 refine thn (hb pins s1 σ H1 _ I1 q1) fun u s2 ⟨y,H2,I2,r2,q2⟩=>?_
 exact hf v u s2 x y H2 I2 r1 r2 q2
theorem pe_op {op:Operator} {r:R2} (ho:OpR X (binaryOp op) r) (ha:PE X a ta) (hb:PE X b tb):PE X (.BinOp a op b pos) (tOp r ta tb):=by
 intro pins s σ H Q I h
 exact wpAny_BinOp (binT ha hb I h fun v u s2 x y H2 I2 rx ry q=>ho pins s2 σ H2 x y v u Q I2 rx ry q)
theorem pe_un {op:UnaryOp} {r:V→Hp→VK→Prop} (ho:UnR X (unaryOp op) r) (ha:PE X a ta):PE X (.UnaryOp op a pos) (tUn r ta):=by
 intro pins s σ H Q I h
 exact UnaryOp_ (thn (ha pins s σ H _ I h) fun v s1 ⟨x,H1,I1,r1,q1⟩=>ho pins s1 σ H1 x v Q I1 r1 q1)
theorem opI {f:Value→Value→Sem Value} {C:Int→Int→Prop} {g:Int→Int→Int}
  (rule:∀ (i j:Int) (t u:Tok) (s:Shared) (Q:Value→Shared→Prop) (E:Value→Shared→Prop),C i j→Q (.int (g i j) s.toks) { s with toks:=s.toks + 1 }→wpAny (model X.prog X.w) X.A (f (.int i t) (.int j u)) Q E s) :
  OpR X f (rI C fun i j=>.int (g i j)):=by
 intro pins s σ H x y v u Q I rx ry h
 obtain ⟨i,j,rfl,rfl,hc,q⟩:=h
 obtain ⟨t,rfl⟩:=rx
 obtain ⟨t',rfl⟩:=ry
 exact rule i j t t' s _ _ hc ⟨.int (g i j),H,I.tok _,⟨_,rfl⟩,q⟩
theorem opI0 {f:Value→Value→Sem Value} {g:Int→Int→Int}
  (rule:∀ (i j:Int) (t u:Tok) (s:Shared) (Q:Value→Shared→Prop) (E:Value→Shared→Prop),Q (.int (g i j) s.toks) { s with toks:=s.toks + 1 }→wpAny (model X.prog X.w) X.A (f (.int i t) (.int j u)) Q E s) :
  OpR X f (rI0 fun i j=>.int (g i j)):=by
 intro pins s σ H x y v u Q I rx ry h
 obtain ⟨i,j,rfl,rfl,q⟩:=h
 obtain ⟨t,rfl⟩:=rx
 obtain ⟨t',rfl⟩:=ry
 exact rule i j t t' s _ _ ⟨.int (g i j),H,I.tok _,⟨_,rfl⟩,q⟩
theorem opB0 {f:Value→Value→Sem Value} {g:Int→Int→Bool}
  (rule:∀ (i j:Int) (t u:Tok) (s:Shared) (Q:Value→Shared→Prop) (E:Value→Shared→Prop),Q (.bool (g i j)) s→wpAny (model X.prog X.w) X.A (f (.int i t) (.int j u)) Q E s) :
  OpR X f (rI0 fun i j=>.bl (g i j)):=by
 intro pins s σ H x y v u Q I rx ry h
 obtain ⟨i,j,rfl,rfl,q⟩:=h
 obtain ⟨t,rfl⟩:=rx
 obtain ⟨t',rfl⟩:=ry
 exact rule i j t t' s _ _ ⟨.bl (g i j),H,I,rfl,q⟩
def CPow (i j:Int):Prop:=0≤j∧j≤1000000∧i.natAbs < 2 ^ 64
def CMul (i j:Int):Prop:=(-(2 ^ 64) < i∧i < 2 ^ 64)∨(-(2 ^ 64) < j∧j < 2 ^ 64)
theorem CMul.ok {i j:Int} (h:CMul i j):IntMulOk i j:=by
 rcases h with ⟨h1,h2⟩ | ⟨h1,h2⟩
 ·exact .of_left (intBits_le_64 h1 h2)
 ·exact .of_right (intBits_le_64 h1 h2)
theorem op_add:OpR X (binaryOp .Add) (rI0 fun i j=>.int (i + j)):=opI0 fun _ _ _ _ _ _ _ q=>add_int q
theorem op_sub:OpR X (binaryOp .Sub) (rI0 fun i j=>.int (i - j)):=opI0 fun _ _ _ _ _ _ _ q=>sub_int q
theorem op_mod:OpR X (binaryOp .Mod) (rI (fun _ j=>0 < j) fun i j=>.int (i % j)):=opI fun i j _ _ _ _ _ hc q=>by
 have h1:(0:Int) < j:=hc
 exact mod_int' (by omega) (by rw [Int.fmod_eq_emod_of_nonneg i (by omega)];exact q)
theorem op_pow:OpR X (binaryOp .Pow) (rI CPow fun i j=>.int (i ^ j.toNat)):=opI fun _ _ _ _ _ _ _ hc q=>pow_int_small hc.1 hc.2.1 hc.2.2 q
theorem unI {f:Value→Sem Value} {g:Int→Int}
  (rule:∀ (i:Int) (t:Tok) (s:Shared) (Q:Value→Shared→Prop) (E:Value→Shared→Prop),Q (.int (g i) s.toks) { s with toks:=s.toks + 1 }→wpAny (model X.prog X.w) X.A (f (.int i t)) Q E s) :
  UnR X f (rU fun i=>.int (g i)):=by
 intro pins s σ H x v Q I rx h
 obtain ⟨i,rfl,q⟩:=h
 obtain ⟨t,rfl⟩:=rx
 exact rule i t s _ _ ⟨.int (g i),H,I.tok _,⟨_,rfl⟩,q⟩
theorem un_neg:UnR X (unaryOp .USub) (rU fun i=>.int (-i)):=unI fun _ _ _ _ _ q=>neg_int q
end
def scal:V→V→Bool
 | .non,.non=>true | .non,.int _=>true | .int _,.non=>true | .non,.bl _=>true | .bl _,.non=>true | .non,.str _=>true | .str _,.non=>true
 | .int _,.int _=>true | .bl _,.bl _=>true | .str _,.str _=>true | .byt _,.byt _=>true
 | .int _,.str _=>true | .str _,.int _=>true | .bl _,.str _=>true | .str _,.bl _=>true
 | _,_=>false
def rEq:R2:=fun x y H Q=>scal x y=true∧Q (.bl (decide (x=y))) H
def rNe:R2:=fun x y H Q=>scal x y=true∧Q (.bl (!decide (x=y))) H
theorem dec_int {i j:Int}:decide (V.int i=V.int j)=(i == j):=by
 rw [Bool.eq_iff_iff]
 simp
theorem dec_bl {i j:Bool}:decide (V.bl i=V.bl j)=(i == j):=by
 rw [Bool.eq_iff_iff]
 simp
theorem dec_str {i j:Str}:decide (V.str i=V.str j)=(i == j):=by
 rw [Bool.eq_iff_iff]
 simp
theorem dec_byt {i j:Array UInt8}:decide (V.byt i=V.byt j)=(i.toList == j.toList):=by
 rw [Bool.eq_iff_iff]
 cases i
 cases j
 simp
section
variable {X:Cx} {a b c:Expr} {ta tb tc:TE} {pos:Pos}
theorem fin_bl {pins:List (Addr × Obj)} {σ:St} {H:Hp} {s:Shared} {Q:VK} {k k':Bool} (I:Inv X pins σ H s) (q:Q (.bl k) H) (e:k=k'):EP X pins σ Q (.bool k') s:=by
 subst e
 exact ⟨.bl k,H,I,rfl,q⟩
theorem op_eq:OpR X (compareOp .Eq) rEq:=by
 intro pins s σ H x y v u Q I rx ry h
 obtain ⟨hs,q⟩:=h
 cases x with
 | non =>
  cases rx
  cases y with
  | non=>cases ry;exact PySem.EqNone.eq_none_none (fin_bl I q (by simp))
  | bl j=>cases ry;exact PySem.EqNone.eq_none_bool (fin_bl I q (by simp))
  | int j=>obtain ⟨t',rfl⟩:=ry;exact PySem.EqNone.eq_none_int (fin_bl I q (by simp))
  | str j=>obtain ⟨t',rfl⟩:=ry;exact PySem.EqNone.eq_none_str (fin_bl I q (by simp))
  | _=>exact absurd (show false=true from hs) Bool.false_ne_true
 | bl i =>
  cases rx
  cases y with
  | non=>cases ry;exact PySem.EqNone.eq_bool_none (fin_bl I q (by simp))
  | bl j=>cases ry;exact eq_bool (fin_bl I q dec_bl)
  | str j=>obtain ⟨t',rfl⟩:=ry;exact PySem.EqMixed.eq_bool_str (fin_bl I q (by simp))
  | _=>exact absurd (show false=true from hs) Bool.false_ne_true
 | int i =>
  obtain ⟨t,rfl⟩:=rx
  cases y with
  | non=>cases ry;exact PySem.EqNone.eq_int_none (fin_bl I q (by simp))
  | int j=>obtain ⟨t',rfl⟩:=ry;exact eq_int (fin_bl I q dec_int)
  | str j=>obtain ⟨t',rfl⟩:=ry;exact PySem.EqMixed.eq_int_str (fin_bl I q (by simp))
  | _=>exact absurd (show false=true from hs) Bool.false_ne_true
 | str i =>
  obtain ⟨t,rfl⟩:=rx
  cases y with
  | non=>cases ry;exact PySem.EqNone.eq_str_none (fin_bl I q (by simp))
  | bl j=>cases ry;exact PySem.EqMixed.eq_str_bool (fin_bl I q (by simp))
  | int j=>obtain ⟨t',rfl⟩:=ry;exact PySem.EqMixed.eq_str_int (fin_bl I q (by simp))
  | str j=>obtain ⟨t',rfl⟩:=ry;exact eq_str (fin_bl I q dec_str)
  | _=>exact absurd (show false=true from hs) Bool.false_ne_true
 | byt i =>
  obtain ⟨t,rfl⟩:=rx
  cases y with
  | byt j=>obtain ⟨t',rfl⟩:=ry;exact PySem.W.eq_bytes (fin_bl I q dec_byt)
  | _=>exact absurd (show false=true from hs) Bool.false_ne_true
 | _=>cases y <;> exact absurd (show false=true from hs) Bool.false_ne_true
theorem op_ne:OpR X (compareOp .NotEq) rNe:=by
 intro pins s σ H x y v u Q I rx ry h
 obtain ⟨hs,q⟩:=h
 cases x with
 | non =>
  cases rx
  cases y with
  | non=>cases ry;exact PySem.EqNone.ne_none_none (fin_bl I q (by simp))
  | bl j=>cases ry;exact PySem.EqNone.ne_none_bool (fin_bl I q (by simp))
  | int j=>obtain ⟨t',rfl⟩:=ry;exact PySem.EqNone.ne_none_int (fin_bl I q (by simp))
  | str j=>obtain ⟨t',rfl⟩:=ry;exact PySem.EqNone.ne_none_str (fin_bl I q (by simp))
  | _=>exact absurd (show false=true from hs) Bool.false_ne_true
 | bl i =>
  cases rx
  cases y with
  | non=>cases ry;exact PySem.EqNone.ne_bool_none (fin_bl I q (by simp))
  | bl j=>cases ry;exact ne_bool (fin_bl I q (congrArg not dec_bl))
  | str j=>obtain ⟨t',rfl⟩:=ry;exact PySem.EqMixed.ne_bool_str (fin_bl I q (by simp))
  | _=>exact absurd (show false=true from hs) Bool.false_ne_true
 | int i =>
  obtain ⟨t,rfl⟩:=rx
  cases y with
  | non=>cases ry;exact PySem.EqNone.ne_int_none (fin_bl I q (by simp))
  | int j=>obtain ⟨t',rfl⟩:=ry;exact ne_int (fin_bl I q (congrArg not dec_int))
  | str j=>obtain ⟨t',rfl⟩:=ry;exact PySem.EqMixed.ne_int_str (fin_bl I q (by simp))
  | _=>exact absurd (show false=true from hs) Bool.false_ne_true
 | str i =>
  obtain ⟨t,rfl⟩:=rx
  cases y with
  | non=>cases ry;exact PySem.EqNone.ne_str_none (fin_bl I q (by simp))
  | bl j=>cases ry;exact PySem.EqMixed.ne_str_bool (fin_bl I q (by simp))
  | int j=>obtain ⟨t',rfl⟩:=ry;exact PySem.EqMixed.ne_str_int (fin_bl I q (by simp))
  | str j=>obtain ⟨t',rfl⟩:=ry;exact ne_str (fin_bl I q (congrArg not dec_str))
  | _=>exact absurd (show false=true from hs) Bool.false_ne_true
 | byt i =>
  obtain ⟨t,rfl⟩:=rx
  cases y with
  | byt j=>obtain ⟨t',rfl⟩:=ry;exact PySem.W.ne_bytes (fin_bl I q (congrArg not dec_byt))
  | _=>exact absurd (show false=true from hs) Bool.false_ne_true
 | _=>cases y <;> exact absurd (show false=true from hs) Bool.false_ne_true
theorem op_lt:OpR X (compareOp .Lt) (rI0 fun i j=>.bl (decide (i < j))):=opB0 fun _ _ _ _ _ _ _ q=>lt_int q
theorem op_le:OpR X (compareOp .LtE) (rI0 fun i j=>.bl (decide (i≤j))):=opB0 fun _ _ _ _ _ _ _ q=>le_int q
theorem op_gt:OpR X (compareOp .Gt) (rI0 fun i j=>.bl (decide (j < i))):=opB0 fun _ _ _ _ _ _ _ q=>gt_int q
theorem op_ge:OpR X (compareOp .GtE) (rI0 fun i j=>.bl (decide (j≤i))):=opB0 fun _ _ _ _ _ _ _ q=>ge_int q
theorem op_lt_str:OpR X (compareOp .Lt) (fun x y H Q=>∃ i j,x=.str i∧y=.str j∧Q (.bl (decide (i.cps.toList < j.cps.toList))) H):=by
 intro pins s σ H x y v u Q I rx ry h
 obtain ⟨i,j,rfl,rfl,q⟩:=h
 obtain ⟨t,rfl⟩:=rx
 obtain ⟨t',rfl⟩:=ry
 exact lt_str (fin_bl I q rfl)
theorem op_isN:OpR X (compareOp .Is) (fun x y H Q=>y=.non∧Q (.bl (decide (x=.non))) H):=by
 intro pins s σ H x y v u Q I rx ry h
 obtain ⟨rfl,q⟩:=h
 cases ry
 refine is_none_gen (fin_bl I q ?_)
 cases x <;> first
  | (cases rx;rfl)
  | (obtain ⟨t,rfl⟩:=rx;rfl)
theorem op_notN:OpR X (compareOp .IsNot) (fun x y H Q=>y=.non∧Q (.bl (!decide (x=.non))) H):=by
 intro pins s σ H x y v u Q I rx ry h
 obtain ⟨rfl,q⟩:=h
 cases ry
 refine isnot_none_gen (fin_bl I q ?_)
 cases x <;> first
  | (cases rx;rfl)
  | (obtain ⟨t,rfl⟩:=rx;rfl)
theorem nomark (b:Expr) {op:CmpOp} (h:op≠.In:=by decide) (h2:op≠.NotIn:=by decide):behindInMarks op b=false:=by
 have e1:(op == CmpOp.In)=false:=by cases op <;> first | rfl | exact absurd rfl h
 have e2:(op == CmpOp.NotIn)=false:=by cases op <;> first | rfl | exact absurd rfl h2
 cases b <;> simp [behindInMarks,e1,e2]
theorem pe_cmpR {op:CmpOp} {r:R2} (ho:OpR X (compareOp op) r) (ha:PE X a ta) (hb:PE X b tb) (hm:behindInMarks op b=false):PE X (.Compare a [op] [b] pos) (tOp r ta tb):=by
 intro pins s σ H Q I h
 exact wpAny_Compare1 (binT ha hb I h fun v u s2 x y H2 I2 rx ry q=>ho pins s2 σ H2 x y v u Q I2 rx ry q) hm
def tTest (t:TE):TT:=fun σ H Q=>t σ H fun x H'=>∃ k,x=.bl k∧Q k H'
theorem pt_cmpR {op:CmpOp} {r:R2} (ho:OpR X (compareOp op) r) (ha:PE X a ta) (hb:PE X b tb) (hm:behindInMarks op b=false):PT X (.Compare a [op] [b] pos) (tTest (tOp r ta tb)):=by
 intro pins s σ H Q I h
 refine wpAny_isTrue_Compare1 (thn (ha pins s σ H _ I h) fun v s1 ⟨x,H1,I1,r1,q1⟩=>thn (hb pins s1 σ H1 _ I1 q1) fun u s2 ⟨y,H2,I2,r2,q2⟩ =>
  thn (ho pins s2 σ H2 x y v u _ I2 r1 r2 q2) fun c s3 ⟨z,H3,I3,r3,k,e,q3⟩=>?_) hm
 subst e
 cases r3
 exact wpAny_truthy_bool ⟨H3,I3,q3⟩
def tChain (r r':R2) (ta tb tc:TE):TE:=fun σ H Q=>ta σ H fun x H1=>tb σ H1 fun y H2=>r x y H2 fun z H3=>∃ k,z=.bl k ∧
 (if k=true then tc σ H3 fun w' H4=>r' y w' H4 Q else Q (.bl false) H3)
theorem pe_chain {op op':CmpOp} {r r':R2} (ho:OpR X (compareOp op) r) (ho':OpR X (compareOp op') r') (ha:PE X a ta) (hb:PE X b tb) (hc:PE X c tc)
  (hm:lastMarks [op,op'] [b,c]=false:=by with_unfolding_all rfl):PE X (.Compare a [op,op'] [b,c] pos) (tChain r r' ta tb tc):=by
 intro pins s σ H Q I h
 refine Compare_chain (thn (ha pins s σ H _ I h) fun v s1 ⟨x,H1,I1,r1,q1⟩=>chain_link (thn (hb pins s1 σ H1 _ I1 q1) fun u s2 ⟨y,H2,I2,r2,q2⟩ =>
  thn (ho pins s2 σ H2 x y v u _ I2 r1 r2 q2) fun d s3 ⟨z,H3,I3,r3,k,e,q3⟩=>?_)) hm
 subst e
 cases r3
 refine wpAny_truthy_bool ?_
 cases k with
 | false=>exact ite_ff ⟨.bl false,H3,I3,rfl,q3⟩
 | true=>exact ite_tt (chain_last (thn (hc pins s3 σ H3 _ I3 q3) fun w' s4 ⟨z',H4,I4,r4,q4⟩=>ho' pins s4 σ H4 y z' u w' Q I4 r2 r4 q4))
def TruV (K:PySem.W.Frag) (x:V) (H:Hp) (k:Bool):Prop :=
 match x with
 | .non=>k=false
 | .bl b=>k=b
 | .int i=>k=(i != 0)
 | .str y=>y.length≤sizeLine∧k=((y.length:Int) != 0)
 | .byt y=>y.size≤sizeLine∧k=((y.size:Int) != 0)
 | .ref p=>(∃ xs,SqL K H p xs∧k=!xs.isEmpty)∨(∃ xs,SqT K H p xs∧k=!xs.isEmpty)∨∃ kvs ep,H p=some (.dE kvs ep)∧k=!kvs.isEmpty
 | _=>False
theorem isEmpty_kv {κ:Type} {kvs:List (κ × V)} {vs:List (κ × Value)} (r:KV kvs vs):(!vs.isEmpty)=!kvs.isEmpty:=by
 cases r <;> rfl
theorem isEmpty_of {xs:List V} {its:List Value} (r:Vals xs its):(!its.toArray.isEmpty)=!xs.isEmpty:=by
 cases r <;> simp
theorem line63:(sizeLine:Nat) < 2 ^ 63:=by rw [sizeLine_eq];decide
theorem tru_ok:TruR X (fun x H Q=>∃ k,TruV X.K x H k∧Q k H):=by
 intro pins s σ H x v Q I rx h
 obtain ⟨k,e,q⟩:=h
 have hl:=line63
 have hs:sizeLine=16777216:=sizeLine_eq
 cases x with
 | non =>
  cases rx
  have e':k=false:=e
  subst e'
  exact truthy_none ⟨H,I,q⟩
 | bl b =>
  cases rx
  have e':k=b:=e
  subst e'
  exact wpAny_truthy_bool ⟨H,I,q⟩
 | int i =>
  obtain ⟨t,rfl⟩:=rx
  have e':k=(i != 0):=e
  subst e'
  exact PySem.P.truthy_int ⟨H,I,q⟩
 | str y =>
  obtain ⟨t,rfl⟩:=rx
  obtain ⟨hy,e'⟩:y.length≤sizeLine∧k=((y.length:Int) != 0):=e
  subst e'
  exact PySem.P.truthy_str (by omega) ⟨H,I.tok _,q⟩
 | byt y =>
  obtain ⟨t,rfl⟩:=rx
  obtain ⟨hy,e'⟩:y.size≤sizeLine∧k=((y.size:Int) != 0):=e
  subst e'
  exact PySem.W.truthy_bytes (by omega) ⟨H,I.tok _,q⟩
 | ref p =>
  cases rx
  have e':(∃ xs,SqL X.K H p xs∧k=!xs.isEmpty)∨(∃ xs,SqT X.K H p xs∧k=!xs.isEmpty)∨∃ kvs ep,H p=some (.dE kvs ep)∧k=!kvs.isEmpty:=e
  rcases e' with ⟨xs,hx,e'⟩ | ⟨xs,hx,e'⟩ | ⟨kvs,ep,hx,e'⟩
  ·subst e'
   obtain ⟨its,r,pl,hz⟩:=I.list hx
   have hlen:=r.length
   exact wpAny_truthy_list pl.isList (by simp only [List.size_toArray];omega) ⟨H,I.tok _,by rw [isEmpty_of r];exact q⟩
  ·subst e'
   obtain ⟨its,r,pl,hz⟩:=I.tuple hx
   have hlen:=r.length
   exact truthy_tuple pl (by simp only [List.size_toArray];omega) ⟨H,I.tok _,by rw [isEmpty_of r];exact q⟩
  ·subst e'
   obtain ⟨hz,hS,vs,r,m⟩:kvs.length≤sizeLine∧(p == sysModules)=false∧∃ vs,KV kvs vs∧s.heap.DictAt (strKind X.prog X.w) p vs ep:=I.hok p _ hx
   have hlen:kvs.length=vs.length:=Paired.length r
   exact wpAny_truthy_dict hS m.dictOf (by omega) ⟨H,I.tok _,by rw [isEmpty_kv r];exact q⟩
 | _=>exact (show False from e).elim
theorem pt_truth (ha:PE X a ta) (he:∀ whole,isTrue a X.env whole=(do let v ← whole;standAt a.pos;holding [v] (truthy v))) :
  PT X a (fun σ H Q=>ta σ H fun x H'=>∃ k,TruV X.K x H' k∧Q k H'):=by
 intro pins s σ H Q I h
 exact isTrue_plain (thn (ha pins s σ H _ I h) fun v s1 ⟨x,H1,I1,r1,q1⟩=>tru_ok pins s1 σ H1 x v Q I1 r1 q1) (he _)
theorem vals1 {x:V} {us:List Value} (r:Vals [x] us):∃ u,us=[u]∧RelV x u:=by
 cases r with
 | cons r1 r2=>cases r2;exact ⟨_,rfl,r1⟩
theorem vals2 {x y:V} {us:List Value} (r:Vals [x,y] us):∃ u w',us=[u,w']∧RelV x u∧RelV y w':=by
 cases r with
 | cons r1 r2 =>
  cases r2 with
  | cons r3 r4=>cases r4;exact ⟨_,_,rfl,r1,r3⟩
theorem call_abs:CallR X (.builtin "abs") (fun xs H Q=>∃ i,xs=[.int i]∧Q (.int (if i < 0 then -i else i)) H):=by
 intro pins s σ H xs us Q I r h
 obtain ⟨i,rfl,q⟩:=h
 obtain ⟨u,rfl,t,rfl⟩:=vals1 r
 exact call_abs_int fun u tk=>⟨.int (if i < 0 then -i else i),H,I.tok _,⟨_,rfl⟩,q⟩
end
end L2
namespace L2
open PySem PySem.Spec PyProof.Rows
structure ObjM (h:Heap) (x dx C:Addr) (mA:Str→Option Value):Prop where
 obj:h.get? x=some (PySem.W.instObj C dx)
 ns:h.Ns1 dx mA
 ne:dx≠x
theorem lookIn_ns {h:Heap} {dx:Addr} {mA:Str→Option Value} (n:h.Ns1 dx mA):∃ od,h.get? dx=some od∧∀ name,PySem.W.lookIn name od=some (mA name):=by
 obtain ⟨o,es,ep,ho,hd,hk,_,hm⟩:=n
 refine ⟨o,ho,fun name=>?_⟩
 have e:=hm name
 unfold nsFind findBy at e
 rw [← Array.find?_toList] at e
 unfold PySem.W.lookIn
 rw [hd]
 dsimp only
 split
 ·rename_i y q
  rw [q] at e
  exact congrArg some e
 ·rename_i q
  rw [q] at e
  have a:es.toList.any (·.refKey)=false:=by
   rw [List.any_eq_false]
   intro y hy
   obtain ⟨z,t,hkey⟩:=hk y (Array.mem_toList_iff.mp hy)
   simp [DictEntry.refKey,hkey]
  have a':¬ es.toList.any (·.refKey)=true:=by rw [a];exact Bool.false_ne_true
  rw [if_neg a']
  exact congrArg some e
theorem ObjM.look {h:Heap} {x dx C:Addr} {mA:Str→Option Value} (I:ObjM h x dx C mA):∃ od,PySem.W.InstAt h x (PySem.W.instObj C dx) C (some od)∧∀ name,PySem.W.lookIn name od=some (mA name) :=
 let ⟨od,ho,hl⟩:=lookIn_ns I.ns
 ⟨od,⟨I.obj,rfl,rfl,ho⟩,hl⟩
section
variable {prog:Program} {w:World} {A:Around} {E:Value→Shared→Prop} {s:Shared} {K:PySem.W.Frag} {x dx C f:Addr} {mA:Str→Option Value} {name:Str} {v:Value}
theorem get_map {expr:Bool} {Q:Value→Shared→Prop} (X:K.In s.heap) (I:ObjM s.heap x dx C mA) (hg:PySem.W.plainGet K C name=true) (hh:PySem.W.hasDictIn K C=true)
  (ha:PySem.W.findIn K (.ref C) name=some none) (hv:mA name=some v) (hv':PySem.W.handedIn v=true) (h:Q v { s with toks:=s.toks + 1 }) :
  wpAny (model prog w) A (getAttr (.ref x) name expr) Q E s:=by
 obtain ⟨od,J,hl⟩:=I.look
 exact PySem.W.get_value X J (PySem.W.plainGet_of hg).1 (PySem.W.findObj_own hh ha rfl (by rw [hl,hv])) hv' h
theorem get_meth {pl:Sem Bool} {Q:Value × List Value→Shared→Prop} (X:K.In s.heap) (I:ObjM s.heap x dx C mA) (hg:PySem.W.plainGet K C name=true)
  (hf:PySem.W.findIn K (.ref C) name=some (some (.ref f))) (ht:PySem.W.isFn K (.ref f)=true) (hv:mA name=none) (h:Q (.ref f,[.ref x]) s) :
  wpAny (model prog w) A (getMethod (.ref x) name pl) Q E s:=by
 obtain ⟨od,J,hl⟩:=I.look
 exact PySem.W.method_fn X J (PySem.W.plainGet_of hg).1 (PySem.W.plainGet_of hg).2 hf (beq_iff_eq.mp ht) (by show (PySem.W.lookIn name od).map (·.isSome)=some false;rw [hl,hv];rfl) h
theorem set_map {ns:List Str} {Q:Unit→Shared→Prop} (X:K.In s.heap) (I:ObjM s.heap x dx C mA)
  (hs:PySem.W.findIn K (.ref C) "__setattr__"=some (some (.builtin "object.__setattr__"))) (hp:PySem.W.plainOver K C=true) (ht:PySem.W.takerIn K C name=some none) (hh:PySem.W.hasDictIn K C=true)
  (hw:PySem.Within mA ns) (hsz:ns.length≤sizeLine)
  (h:∀ h',ObjM h' x dx C (fun y=>if y=name then some v else mA y)→Heap.SameBut dx s.heap h'→Q () { s with heap:=h',toks:=s.toks + 2 }) :
  wpAny (model prog w) A (setAttr (.ref x) name v) Q E s:=by
 obtain ⟨od,J,hl⟩:=I.look
 refine PySem.W.set_plain X J hs (PySem.W.osa_open (s:={ s with toks:=s.toks + 1 }) (r:=none) X J hp ht fun b=>?_)
 obtain ⟨cd,hc,hd'⟩:=PySem.W.any_some hh
 have hx:s.heap.get? x=some ⟨.ref C,some dx,.plain,#[]⟩:=I.obj
 refine wpAny_bind (wpAny_pure (wpAny_bind (wpAny_bind (wpAny_loadPart hx (wpAny_bind (PySem.W.Looks.here (s:={ s with toks:=s.toks + 1 }) (PySem.W.looks_clsIn X hc) ?_))))))
 rw [hd']
 refine wpAny_pure (a:=some dx) (wpAny_bind (wpAny_pure (wpAny_bind ?_)))
 refine wpAny_nsSet1 (s:={ s with toks:=s.toks + 1 }) I.ns fun h' hn2 hs2=>?_
 obtain ⟨oD,esD,epD,hoD,hdD,hcD⟩:=hn2.count (PySem.Within.cons name v hw)
 refine wpAny_bind (wpAny_lookBehind hoD (by rw [hdD];exact pastItsLine_dict (Nat.le_trans hcD (by rw [List.length_cons];omega))) ?_)
 exact wpAny_pure (h _ ⟨(hs2.2 _ (Ne.symm I.ne)).trans I.obj,hn2,I.ne⟩ hs2)
theorem make_map {R:Result→Shared→Prop} {vs:List Value} {kw:List (Str × Value)} (X:K.In s.heap) (hm:PySem.W.makesIn K C=true)
  (hi:PySem.W.findIn K (.ref C) "__init__"=some (some (.ref f))) (hf:PySem.W.typeIn K (.ref f)=some (.type "function"))
  (h:codeAny (model prog w) (A.under (.builtin "type.__call__" ⟨.ref C :: vs,kw⟩)) (.call (.ref f) ⟨.ref (s.heap.objs.size + 1) :: vs,kw⟩) (PySem.W.InitBack (s.heap.objs.size + 1) R)
   { s with heap:=(s.heap.push PySem.W.emptyDict).push (PySem.W.instObj C s.heap.objs.size) }) :
  codeAny (model prog w) A (.call (.ref C) ⟨vs,kw⟩) R s:=by
 obtain ⟨hh,g,d,t,os⟩:=s
 exact PySem.W.make_core (PySem.W.makes_of X hm) (PySem.W.looks_findIn X hi) (fun self=>PySem.W.bind_fn X self hf) (.inl rfl) h
end
def putF (f:Str) (v:V):List (Str × V)→List (Str × V)
 | []=>[(f,v)]
 | (g,x) :: r=>if g=f then (g,v) :: r else (g,x) :: putF f v r
theorem lookup_putF (f g:Str) (v:V):∀ fs:List (Str × V),(putF f v fs).lookup g=if g=f then some v else fs.lookup g
 | []=>by
  show List.lookup g [(f,v)]=_
  by_cases h:g=f
  ·have hb:(g == f)=true:=beq_iff_eq.mpr h
   simp only [List.lookup,hb,if_pos h]
  ·have hb:(g == f)=false:=beq_eq_false_iff_ne.mpr h
   simp only [List.lookup,hb,if_neg h]
 | (k,x) :: r=>by
  have ih:=lookup_putF f g v r
  rw [show putF f v ((k,x) :: r)=(if k=f then (k,v) :: r else (k,x) :: putF f v r) from rfl]
  by_cases hk:k=f
  ·rw [if_pos hk]
   by_cases h:g=k
   ·have hb:(g == k)=true:=beq_iff_eq.mpr h
    simp only [List.lookup,hb,if_pos (h.trans hk)]
   ·have hb:(g == k)=false:=beq_eq_false_iff_ne.mpr h
    simp only [List.lookup,hb,if_neg (fun e:g=f=>h (e.trans hk.symm))]
  ·rw [if_neg hk]
   by_cases h:g=k
   ·have hb:(g == k)=true:=beq_iff_eq.mpr h
    simp only [List.lookup,hb,if_neg (fun e:g=f=>hk (h.symm.trans e))]
   ·have hb:(g == k)=false:=beq_eq_false_iff_ne.mpr h
    simp only [List.lookup,hb]
    exact ih
theorem keys_putF (f:Str) (v:V):∀ fs:List (Str × V),f∈(putF f v fs).map (·.1)∧∀ g,g∈fs.map (·.1)→g∈(putF f v fs).map (·.1)
 | []=>⟨by simp [putF],fun g h=>by simp at h⟩
 | (k,x) :: r=>by
  obtain ⟨i1,i2⟩:=keys_putF f v r
  rw [show putF f v ((k,x) :: r)=(if k=f then (k,v) :: r else (k,x) :: putF f v r) from rfl]
  by_cases hk:k=f
  ·rw [if_pos hk]
   subst hk
   exact ⟨by simp,fun g h=>by simpa using h⟩
  ·rw [if_neg hk]
   refine ⟨?_,fun g h=>?_⟩
   ·rw [List.map_cons]
    exact List.mem_cons_of_mem _ i1
   ·rw [List.map_cons] at h ⊢
    rcases List.mem_cons.mp h with e | e
    ·exact List.mem_cons.mpr (.inl e)
    ·exact List.mem_cons_of_mem _ (i2 g e)
theorem length_putF (f:Str) (v:V):∀ fs:List (Str × V),(putF f v fs).length≤fs.length + 1
 | []=>by simp [putF]
 | (k,x) :: r=>by
  have ih:=length_putF f v r
  rw [show putF f v ((k,x) :: r)=(if k=f then (k,v) :: r else (k,x) :: putF f v r) from rfl]
  by_cases hk:k=f
  ·rw [if_pos hk,List.length_cons,List.length_cons];omega
  ·rw [if_neg hk,List.length_cons,List.length_cons];omega
theorem RelO.some_of {v:V} {o:Option Value} (r:RelO (some v) o):∃ u,o=some u∧RelV v u:=by
 cases o with
 | none=>exact (show False from r).elim
 | some u=>exact ⟨u,rfl,r⟩
theorem RelO.none_of {o:Option Value} (r:RelO none o):o=none:=by
 cases o with
 | none=>rfl
 | some u=>exact (show False from r).elim
theorem handed_of {v:V} {u:Value} (r:RelV v u):PySem.W.handedIn u=true:=by
 cases v with
 | non=>cases (show u=Value.none from r);rfl
 | bl b=>cases (show u=Value.bool b from r);rfl
 | int i=>obtain ⟨t,e⟩:=(show ∃ t,u=Value.int i t from r);cases e;rfl
 | str x=>obtain ⟨t,e⟩:=(show ∃ t,u=Value.str x t from r);cases e;rfl
 | byt b=>obtain ⟨t,e⟩:=(show ∃ t,u=Value.bytes b t from r);cases e;rfl
 | flt b=>obtain ⟨t,e⟩:=(show ∃ t,u=Value.float b t from r);cases e;rfl
 | ref a=>cases (show u=Value.ref a from r);rfl
 | ty n=>cases (show u=Value.type n from r);rfl
section
variable {P:Program} {w:World} {H H':Hp} {h h':Heap} {a C dx:Addr} {fs fs':List (Str × V)}
theorem ins_get (hok:HOk P w H h) (e:H a=some (.ins C dx fs)):∃ mA,ObjM h a dx C mA∧(∀ f,RelO (fs.lookup f) (mA f))∧PySem.Within mA (fs.map (·.1))∧fs.length≤1000∧H dx=some (.own a):=by
 obtain ⟨d,z,ne,ob,mA,n,r,q⟩:=(show ObjOk P w H h a (.ins C dx fs) from hok a _ e)
 exact ⟨mA,⟨ob,n,ne⟩,r,q,z,d⟩
end
structure Cls (K:PySem.W.Frag) (C:Addr):Prop where
 pg:PySem.W.plainGet K C Str.empty=true
 hd:PySem.W.hasDictIn K C=true
 po:PySem.W.plainOver K C=true
 sa:PySem.W.findIn K (.ref C) "__setattr__"=some (some (.builtin "object.__setattr__"))
theorem Cls.get {K:PySem.W.Frag} {C:Addr} (c:Cls K C) (f:Str):PySem.W.plainGet K C f=true:=c.pg
def NoAttr (K:PySem.W.Frag) (C:Addr) (f:Str):Prop:=PySem.W.findIn K (.ref C) f=some none
theorem NoAttr.taker {K:PySem.W.Frag} {C:Addr} {f:Str} (n:NoAttr K C f):PySem.W.takerIn K C f=some none:=by
 unfold PySem.W.takerIn
 rw [show PySem.W.findIn K (.ref C) f=some none from n]
 rfl
structure Meth (K:PySem.W.Frag) (C:Addr) (m:Str) (f:Addr):Prop where
 at_:PySem.W.findIn K (.ref C) m=some (some (.ref f))
 fn:PySem.W.isFn K (.ref f)=true
 kp:PySem.W.keepIn K (.ref f)=true
section
variable {X:Cx} {pins:List (Addr × Obj)} {σ:St} {H:Hp} {s:Shared} {a C dx:Addr} {fs:List (Str × V)} {f:Str} {v:V} {A:Around} {E:Value→Shared→Prop}
theorem getattr_ok {b:Bool} {Q:Value→Shared→Prop} (I:Inv X pins σ H s) (e:H a=some (.ins C dx fs)) (c:Cls X.K C) (n:NoAttr X.K C f) (l:fs.lookup f=some v)
  (h:∀ u s',Inv X pins σ H s'→RelV v u→Q u s'):wpAny (model X.prog X.w) A (getAttr (.ref a) f b) Q E s:=by
 obtain ⟨mA,O,r,_,_,_⟩:=ins_get I.hok e
 obtain ⟨u,hu,ru⟩:=RelO.some_of (v:=v) (o:=mA f) (by rw [← l];exact r f)
 exact get_map I.kIn O (c.get f) c.hd n hu (handed_of ru) (h u _ (I.tok _) ru)
theorem getmeth_ok {m:Str} {g:Addr} {pl:Sem Bool} {Q:Value × List Value→Shared→Prop} (I:Inv X pins σ H s) (e:H a=some (.ins C dx fs)) (c:Cls X.K C) (k:Meth X.K C m g) (l:fs.lookup m=none)
  (h:Q (.ref g,[.ref a]) s):wpAny (model X.prog X.w) A (getMethod (.ref a) m pl) Q E s:=by
 obtain ⟨mA,O,r,_,_,_⟩:=ins_get I.hok e
 have hn:mA m=none:=RelO.none_of (by rw [← l];exact r m)
 exact get_meth I.kIn O (c.get m) k.at_ k.fn hn h
theorem setattr_ok {y:V} {u:Value} {Q:Unit→Shared→Prop} (I:Inv X pins σ H s) (e:H a=some (.ins C dx fs)) (c:Cls X.K C) (n:NoAttr X.K C f) (hl:fs.length < 1000) (ry:RelV y u)
  (h:∀ s',Inv X pins σ (upd H a (.ins C dx (putF f y fs))) s'→Q () s'):wpAny (model X.prog X.w) A (setAttr (.ref a) f u) Q E s:=by
 obtain ⟨mA,O,r,wi,_,ho⟩:=ins_get I.hok e
 have hz:(fs.map (·.1)).length≤sizeLine:=by rw [List.length_map,sizeLine_eq];omega
 refine set_map I.kIn O c.sa c.po n.taker c.hd wi hz fun h' O' sb=>h _ ?_
 have hd:∃ o,h'.get? dx=some o:=let ⟨o,_,_,e',_⟩:=O'.ns;⟨o,e'⟩
 refine I.write (x:=a) (e:=dx) (by rw [e];exact True.intro) (.inr ho) (fun b q hb z=>(sb.2 b hb).trans z) hd ?_
 refine ⟨by rw [upd_ne O.ne];exact ho,?_,O.ne,O'.obj,_,O'.ns,fun g=>?_,fun g hg=>?_⟩
 ·have:=length_putF f y fs;omega
 ·show RelO ((putF f y fs).lookup g) (if g=f then some u else mA g)
  rw [lookup_putF]
  by_cases q:g=f
  ·rw [if_pos q,if_pos q];exact ry
  ·rw [if_neg q,if_neg q];exact r g
 ·by_cases q:g=f
  ·rw [q];exact (keys_putF f y fs).1
  ·refine (keys_putF f y fs).2 g (wi g fun z=>hg ?_)
   show (if g=f then some u else mA g)=none
   rw [if_neg q];exact z
theorem Inv.made (I:Inv X pins σ H s):Inv X pins σ (upd (upd H s.heap.objs.size (.own (s.heap.objs.size + 1))) (s.heap.objs.size + 1) (.ins C s.heap.objs.size []))
  { s with heap:=(s.heap.push PySem.W.emptyDict).push (PySem.W.instObj C s.heap.objs.size) }:=by
 have e1:(s.heap.push PySem.W.emptyDict).get? s.heap.objs.size=some PySem.W.emptyDict:=Heap.get?_push_size s.heap rfl
 have e2:((s.heap.push PySem.W.emptyDict).push (PySem.W.instObj C s.heap.objs.size)).get? (s.heap.objs.size + 1)=some (PySem.W.instObj C s.heap.objs.size):=by
  have:=Heap.get?_push_size (s.heap.push PySem.W.emptyDict) (o:=PySem.W.instObj C s.heap.objs.size) rfl
  rwa [Heap.size_push] at this
 have e3:(s.heap.push PySem.W.emptyDict).Ns s.heap.objs.size (fun _=>none):=⟨PySem.W.emptyDict,#[],_,e1,rfl,(fun e he=>absurd he (by simp)),fun _=>rfl⟩
 have I1:=I.laid (a:=s.heap.objs.size) (o:=.own (s.heap.objs.size + 1)) (h':=s.heap.push PySem.W.emptyDict) (t':=s.toks) (fun b u q=>Heap.get?_push_of_some _ q) (Nat.le_refl _) ⟨_,e1⟩
 refine I1.laid (a:=s.heap.objs.size + 1) (o:=.ins C s.heap.objs.size []) (t':=s.toks) (fun b u q=>Heap.get?_push_of_some _ q) (Nat.le_of_eq (Heap.size_push _ _)) ?_
 have ne:s.heap.objs.size≠s.heap.objs.size + 1:=Nat.ne_of_lt (Nat.lt_succ_self _)
 refine ⟨by rw [upd_ne ne,upd_same],Nat.zero_le _,ne,e2,fun _=>none,(Heap.Ns1.of_empty e3).at fun o q=>Heap.get?_push_of_some _ q,fun _=>True.intro,fun y hy=>absurd rfl hy⟩
theorem attr_of {prog:Program} {w:World} {env:Env} {e:Expr} {f:Str} {pos:Pos} {s:Shared} {Q:Value→Shared→Prop} (hb:attributeBase e f env (eval e env)=eval e env)
  (h:wpAny (model prog w) A (eval e env) (fun o s₁=>wpAny (model prog w) A (getAttr o f true) Q E s₁) E s):wpAny (model prog w) A (eval (.Attribute e f pos) env) Q E s :=
 Attribute_any_ h (by rw [arm_eval_Attribute,hb])
end
def tFld (K:PySem.W.Frag) (ta:TE) (f:Str):TE:=fun σ H Q=>ta σ H fun x H1=>∃ a C dx fs v,x=.ref a∧H1 a=some (.ins C dx fs)∧Cls K C∧NoAttr K C f∧fs.lookup f=some v∧Q v H1
def sFld (K:PySem.W.Frag) (ta tv:TE) (f:Str):TS:=fun D σ H=>tv σ H fun y H1=>ta σ H1 fun x H2=>∃ a C dx fs,x=.ref a∧H2 a=some (.ins C dx fs)∧Cls K C∧NoAttr K C f∧fs.length < 1000 ∧
 D.nx σ (upd H2 a (.ins C dx (putF f y fs)))
section
variable {X:Cx} {o e value:Expr} {f:Str} {pos pos' tpos:Pos} {ta tv:TE}
theorem pe_fld (he:PE X e ta) (hb:attributeBase e f X.env (eval e X.env)=eval e X.env):PE X (.Attribute e f pos) (tFld X.K ta f):=by
 intro pins s σ H Q I h
 refine attr_of hb (thn (he pins s σ H _ I h) fun u s1 ⟨x,H1,I1,rx,a,C,dx,fs,v,ex,ea,c,n,l,q⟩=>?_)
 subst ex
 obtain rfl:u=Value.ref a:=rx
 exact getattr_ok I1 ea c n l fun u' s2 I2 ru=>⟨v,H1,I2,ru,q⟩
theorem ps_fld (ha:PE X o ta) (hv:PE X value tv) (hs:swapsWith value (some (.Attribute o f pos')) pos.line X.env=pure false):PS X (.Assign [.Attribute o f pos'] value pos) (sFld X.K ta tv f):=by
 intro pins s σ H D I h
 refine plainObj_wpAny_Assign_Attribute (thn (hv pins s σ H _ I h) fun u s1 ⟨y,H1,I1,ry,q⟩=>thn (ha pins s1 σ H1 _ I1 q) fun ov s2 ⟨x,H2,I2,rx,a,C,dx,fs,ex,ea,c,n,l,q2⟩=>?_) hs
 subst ex
 obtain rfl:ov=Value.ref a:=rx
 exact setattr_ok I2 ea c n l ry fun s3 I3=>⟨σ,_,I3,q2⟩
end
section
variable {X:Cx} {pins:List (Addr × Obj)} {σ:St} {H:Hp} {s:Shared} {A:Around} {E:Value→Shared→Prop} {Q:Value→Shared→Prop} {c:Value} {b:Bool}
inductive TyOf (K:PySem.W.Frag) (H:Hp):V→Value→Prop where
 | non:TyOf K H .non (.type "NoneType")
 | bl (x:Bool):TyOf K H (.bl x) (.type "bool")
 | int (i:Int):TyOf K H (.int i) (.type "int")
 | str (x:Str):TyOf K H (.str x) (.type "str")
 | flt (x:UInt64):TyOf K H (.flt x) (.type "float")
 | lst {a:Addr} {xs:List V} (e:H a=some (.lst xs)):TyOf K H (.ref a) (.type "list")
 | frz {a:Addr} {o:Obj} {xs:List V} (e:H a=some (.frz o (.lst xs))):TyOf K H (.ref a) (.type "list")
 | tup {a:Addr} {xs:List V} (e:H a=some (.tup xs)):TyOf K H (.ref a) (.type "tuple")
 | dK {a:Addr} {kvs:List (Key × V)} (e:H a=some (.dK kvs)):TyOf K H (.ref a) (.type "dict")
 | dE {a:Addr} {kvs:List (Str × V)} {ep:Nat} (e:H a=some (.dE kvs ep)):TyOf K H (.ref a) (.type "dict")
 | ins {a C dx:Addr} {fs:List (Str × V)} (e:H a=some (.ins C dx fs)) (cl:Cls K C) (ha:PySem.W.findIn K (.ref C) "__class__"=some (some (.builtin "object.__class__")))
   (hn:PySem.W.specialIn K (.builtin "object.__class__") "__get__"=some (some (.builtin "getset_descriptor.__get__"))) (htk:PySem.W.takesIn K (.builtin "object.__class__")=some true)
   (hm:PySem.W.mroIn K C (.type "object")=some true):TyOf K H (.ref a) (.ref C)
theorem isinst_ok {x:V} {u t:Value} (I:Inv X pins σ H s) (rx:RelV x u) (ty:TyOf X.K H x t) (e:PySem.W.kitOne X.K t c=some b) (h:∀ tk,Q (.bool b) { s with toks:=tk }) :
  wpAny (model X.prog X.w) A (call (.builtin "isinstance") [u,c]) Q E s:=by
 cases ty with
 | non=>cases (show u=Value.none from rx);exact PySem.W.kia_one PySem.W.kitx_none I.kIn True.intro e (fun z=>nomatch z) h
 | bl y=>cases (show u=Value.bool y from rx);exact PySem.W.kia_one PySem.W.kitx_bool I.kIn True.intro e (fun z=>nomatch z) h
 | int i=>obtain ⟨t,q⟩:=(show ∃ t,u=Value.int i t from rx);cases q;exact PySem.W.kia_one PySem.W.kitx_int I.kIn True.intro e (fun z=>nomatch z) h
 | str y=>obtain ⟨t,q⟩:=(show ∃ t,u=Value.str y t from rx);cases q;exact PySem.W.kia_one PySem.W.kitx_str I.kIn True.intro e (fun z=>nomatch z) h
 | flt y=>obtain ⟨t,q⟩:=(show ∃ t,u=Value.float y t from rx);cases q;exact PySem.W.kia_one PySem.W.kitx_float I.kIn True.intro e (fun z=>nomatch z) h
 | @lst a xs ea =>
  cases (show u=Value.ref a from rx)
  obtain ⟨_,_,n,_,h1⟩:=(show ObjOk X.prog X.w H s.heap a (.lst xs) from I.hok a _ ea)
  exact PySem.W.kia_one PySem.W.kitx_list I.kIn ⟨_,h1,rfl⟩ e (fun z=>nomatch z) h
 | @frz a ob xs ea =>
  cases (show u=Value.ref a from rx)
  obtain ⟨_,_,_,n,_,h1⟩:=(show ObjOk X.prog X.w H s.heap a (.frz ob (.lst xs)) from I.hok a _ ea)
  exact PySem.W.kia_one PySem.W.kitx_list I.kIn ⟨_,h1,rfl⟩ e (fun z=>nomatch z) h
 | @tup a xs ea =>
  cases (show u=Value.ref a from rx)
  obtain ⟨_,_,_,p⟩:=(show ObjOk X.prog X.w H s.heap a (.tup xs) from I.hok a _ ea)
  obtain ⟨o,h1,h2,_⟩:=p
  exact PySem.W.kia_one PySem.W.kitx_tuple I.kIn ⟨o,h1,h2⟩ e (fun z=>nomatch z) h
 | @dK a kvs ea =>
  cases (show u=Value.ref a from rx)
  obtain ⟨_,_,vs,_,p⟩:=(show ObjOk X.prog X.w H s.heap a (.dK kvs) from I.hok a _ ea)
  obtain ⟨o,es,ep,h1,h2,_⟩:=p
  exact PySem.W.kia_one PySem.W.kitx_dict I.kIn ⟨o,h1,h2.1⟩ e (fun z=>nomatch z) h
 | @dE a kvs ep ea =>
  cases (show u=Value.ref a from rx)
  obtain ⟨_,_,vs,_,o,es,h1,h2,_⟩:=(show ObjOk X.prog X.w H s.heap a (.dE kvs ep) from I.hok a _ ea)
  exact PySem.W.kia_one PySem.W.kitx_dict I.kIn ⟨o,h1,h2.1⟩ e (fun z=>nomatch z) h
 | @ins a C dx fs ea cl ha hn htk hm =>
  cases (show u=Value.ref a from rx)
  obtain ⟨mA,O,_⟩:=ins_get I.hok ea
  obtain ⟨od,J,_⟩:=O.look
  exact PySem.W.kia_one (PySem.W.kitx_own (cl.get _) cl.hd ha hn htk hm) I.kIn J e (fun z=>nomatch z) h
end
end L2
namespace L2
open PySem PySem.Spec PyProof.Rows
structure Room (k:Nat) (A:Around):Prop where
 hd:A.handled=none
 dp:A.depth + 3 * k + 5 < recursionLimit
 un:A.units + 16 * k + 200 < cLine
theorem Room.mono {j k:Nat} {A:Around} (r:Room k A) (h:j≤k):Room j A:=⟨r.hd,by have:=r.dp;omega,by have:=r.un;omega⟩
theorem Room.deeper {k:Nat} {A:Around} (r:Room (k + 1) A) (env:Env):Room k (A.deeper env) :=
 ⟨r.hd,by have:=r.dp;show A.depth + 1 + 3 * k + 5 < _;omega,by have:=r.un;show A.units + 3 + 16 * k + 200 < _;omega⟩
theorem Room.in1 {k:Nat} {A:Around} (r:Room (k + 1) A):Room k A.in1 :=
 ⟨r.hd,by have:=r.dp;show A.depth + 3 * k + 5 < _;omega,by have:=r.un;show A.units + 1 + 16 * k + 200 < _;omega⟩
theorem make_depth {A:Around} {C:Addr} {us:List Value} {kw:List (Str × Value)}:(A.under (.builtin "type.__call__" ⟨.ref C :: us,kw⟩)).depth=A.depth + 1:=by
 first | rfl | simp [Around.under,Code.weight,Code.isCreation,Code.isGuard,Code.isCaller,Code.frames,Code.isFrame,guardIds]
theorem make_units {A:Around} {C:Addr} {us:List Value} {kw:List (Str × Value)}:(A.under (.builtin "type.__call__" ⟨.ref C :: us,kw⟩)).units=A.units + 1:=by
 first | rfl | simp [Around.under,Code.cUnits,Code.frames,Code.isFrame]
theorem Room.make {k:Nat} {A:Around} (r:Room (k + 1) A) (C:Addr) (us:List Value) (kw:List (Str × Value)):Room k (A.under (.builtin "type.__call__" ⟨.ref C :: us,kw⟩)) :=
 ⟨r.hd,by have:=r.dp;rw [make_depth];omega,by have:=r.un;rw [make_units];omega⟩
theorem Room.depth {k:Nat} {A:Around} (r:Room k A):A.depth < recursionLimit:=by have:=r.dp;omega
theorem Room.units {k:Nat} {A:Around} (r:Room k A):A.units + 64 < cLine:=by have:=r.un;omega
theorem Room.units0 {k:Nat} {A:Around} (r:Room k A):A.units < cLine:=by have:=r.un;omega
def tNil:TA:=fun _ H Q=>Q [] H
def tCons (ta:TE) (tr:TA):TA:=fun σ H Q=>ta σ H fun x H1=>tr σ H1 fun xs H2=>Q (x :: xs) H2
section
variable {X:Cx} {e:Expr} {es:List Expr} {te:TE} {t:TA} {pos:Pos}
theorem pa_nil:PA X [] tNil:=fun _ _ _ _ H Q I h=>Calls.spliced_nil ⟨[],H,I,.nil,h⟩
theorem pa_cons (ha:PE X e te) (hr:PA X es t) (hs:starEach (e :: es) X.env=(false,eval e X.env) :: starEach es X.env:=by rfl):PA X (e :: es) (tCons te t):=by
 intro pos pins s σ H Q I h
 rw [hs]
 show wpAny _ _ (spliced ((false,eval e X.env) :: backTo pos (starEach es X.env))) _ _ s
 refine Calls.spliced_cons (thn (ha pins s σ H _ I h) fun u s1 ⟨x,H1,I1,r1,q1⟩=>?_)
 exact thn (hr pos pins s1 σ H1 _ I1 q1) fun us s2 ⟨xs,H2,I2,r2,q2⟩=>⟨x :: xs,H2,I2,.cons r1 r2,q2⟩
def tTup (t:TA):TE:=fun σ H Q=>t σ H fun xs H1=>xs.length≤sizeLine∧∀ p,H1 p=none→Q (.ref p) (upd H1 p (.tup xs))
def tLst (t:TA):TE:=fun σ H Q=>t σ H fun xs H1=>xs.length≤sizeLine∧∀ p,H1 p=none→Q (.ref p) (upd H1 p (.lst xs))
theorem pe_tup {x1} (h:PA X es t):PE X (.Tuple es x1 pos) (tTup t):=by
 intro pins s σ H Q I hq
 refine wpAny_Tuple_spliced (thn (h pos pins s σ H _ I hq) fun us s1 ⟨xs,H1,I1,r,z,q⟩=>⟨by rw [← r.length];exact z,?_⟩)
 have hf:H1 s1.heap.objs.size=none:=I1.hok.fresh (Nat.le_refl _)
 refine ⟨.ref s1.heap.objs.size,upd H1 s1.heap.objs.size (.tup xs),I1.laid (t':=s1.toks) (fun b u e=>Heap.get?_push_of_some _ e) (Nat.le_refl _) ?_,rfl,q _ hf⟩
 exact ⟨z,us,r,⟨_,Heap.get?_push_size _ rfl,rfl,_,rfl⟩⟩
theorem pe_lst (h:PA X es t):PE X (.List es pos) (tLst t):=by
 intro pins s σ H Q I hq
 refine wpAny_List_spliced (thn (h pos pins s σ H _ I hq) fun us s1 ⟨xs,H1,I1,r,z,q⟩=>⟨by rw [← r.length];exact z,?_⟩)
 have hf:H1 s1.heap.objs.size=none:=I1.hok.fresh (Nat.le_refl _)
 refine ⟨.ref s1.heap.objs.size,upd H1 s1.heap.objs.size (.lst xs),I1.laid (t':=s1.toks) (fun b u e=>Heap.get?_push_of_some _ e) (Nat.le_refl _) ?_,rfl,q _ hf⟩
 exact ⟨z,us,0,r,Heap.get?_push_size _ rfl⟩
end
abbrev Sp:=List V→Hp→VK→XK→Prop
abbrev CXT:=List Env→Hp→Shared→XK→Value→Shared→Prop
structure Env0 (P:Program) (w:World) (K:PySem.W.Frag) (mg:Str→Option Value) (base:Heap) (A:Around) (outer:List Env) (s:Shared) (H:Hp):Prop where
 frames:A.frames=some outer
 mod:Mod K mg base
 bs:∀ b o,base.get? b=some o→s.heap.get? b=some o∧H b=none
 bsz:base.objs.size≤s.heap.objs.size
 funs:s.heap.FunFrames base outer
 frf:∀ b∈frs outer,H b=none
 hok:HOk P w H s.heap
 bare:AllBare s.gens
def CE (outer:List Env) (P:Program) (w:World) (H:Hp) (s:Shared) (Q:VK) (u:Value) (s':Shared):Prop :=
 ∃ v H',s'.os=s.os∧AllBare s'.gens∧Un (frs outer) [] H H' s.heap s'.heap∧HOk P w H' s'.heap∧RelV v u∧Q v H'
def CR (CX:CXT) (outer:List Env) (P:Program) (w:World) (H:Hp) (s:Shared) (Q:VK) (E:XK) (r:Result) (s':Shared):Prop :=
 match r with
 | .ok (.ret u)=>CE outer P w H s Q u s'
 | .ok _=>False
 | .error e=>CX outer H s E e s'
structure FnOk (P:Program) (w:World) (K:PySem.W.Frag) (mg:Str→Option Value) (base:Heap) (CX:CXT) (k:Nat) (f:Addr) (fd:FuncData) (ps:List Str) (sp:Sp):Prop where
 len:∀ vs H Q E,sp vs H Q E→vs.length=ps.length
 run:∀ (A:Around) (outer:List Env) (s:Shared) (H:Hp) (args:Args) (us:List Value) (vs:List V) (Q:VK) (E:XK),Room k A→Env0 P w K mg base A outer s H→BindsTo s fd args (ps.zip us)→Vals vs us→sp vs H Q E →
  codeAny (model P w) A (.call (.ref f) args) (CR CX outer P w H s Q E) s
theorem FnOk.mono {P:Program} {w:World} {K:PySem.W.Frag} {mg:Str→Option Value} {base:Heap} {CX:CXT} {j k:Nat} {f:Addr} {fd:FuncData} {ps:List Str} {sp:Sp} (F:FnOk P w K mg base CX j f fd ps sp) (h:j≤k) :
  FnOk P w K mg base CX k f fd ps sp:=⟨F.len,fun A outer s H args us vs Q E hr=>F.run A outer s H args us vs Q E (hr.mono h)⟩
theorem FnOk.imp {P:Program} {w:World} {K:PySem.W.Frag} {mg:Str→Option Value} {base:Heap} {CX:CXT} {k:Nat} {f:Addr} {fd:FuncData} {ps:List Str} {sp sp':Sp} (F:FnOk P w K mg base CX k f fd ps sp)
  (h:∀ vs H Q E,sp' vs H Q E→sp vs H Q E):FnOk P w K mg base CX k f fd ps sp' :=
 ⟨fun vs H Q E q=>F.len vs H Q E (h _ _ _ _ q),fun A outer s H args us vs Q E hr he hb hv hs=>F.run A outer s H args us vs Q E hr he hb hv (h _ _ _ _ hs)⟩
theorem Env0.make {P:Program} {w:World} {K:PySem.W.Frag} {mg:Str→Option Value} {base:Heap} {A:Around} {outer:List Env} {s:Shared} {H:Hp} (e:Env0 P w K mg base A outer s H) (C:Addr) (us:List Value) (kw:List (Str × Value)) :
  Env0 P w K mg base (A.under (.builtin "type.__call__" ⟨.ref C :: us,kw⟩)) outer s H:=⟨by first | exact e.frames | (simpa [Around.under,Code.envs,Code.isFrame,pushEnvs] using e.frames),e.mod,e.bs,e.bsz,e.funs,e.frf,e.hok,e.bare⟩
theorem Env0.in1 {P:Program} {w:World} {K:PySem.W.Frag} {mg:Str→Option Value} {base:Heap} {A:Around} {outer:List Env} {s:Shared} {H:Hp} (e:Env0 P w K mg base A outer s H) :
  Env0 P w K mg base A.in1 outer s H:=⟨e.frames,e.mod,e.bs,e.bsz,e.funs,e.frf,e.hok,e.bare⟩
section
variable {X:Cx} {pins:List (Addr × Obj)} {σ:St} {H:Hp} {s s':Shared}
theorem Inv.env0 (I:Inv X pins σ H s):Env0 X.prog X.w X.K X.mg X.base X.A X.stack s H :=
 ⟨I.ok.frames,I.ok.mod,I.bs,Nat.le_trans I.ok.bsz I.sz,I.stack,I.stkFree,I.hok,I.bare⟩
theorem Inv.after {Q:VK} {u:Value} (I:Inv X pins σ H s) (h:CE X.stack X.prog X.w H s Q u s'):EP X pins σ Q u s':=by
 obtain ⟨v,H',os,bare,un,hok,r,q⟩:=h
 obtain ⟨hh,g,d,t,os'⟩:=s'
 obtain rfl:os'=s.os:=os
 exact ⟨v,H',I.call (h':=hh) (g':=g) (d':=d) (t':=t) (ch:=[]) un hok bare (fun b z=>absurd z (by simp)),r,q⟩
end
def tCall (sp:Sp) (dvs:List V) (E:XK) (t:TA):TE:=fun σ H Q=>t σ H fun vs H1=>sp (vs ++ dvs) H1 Q E
def tMeth (C:Addr) (m:Str) (sp:Sp) (dvs:List V) (E:XK) (ta:TE) (t:TA):TE:=fun σ H Q=>ta σ H fun x H1=>∃ a dx fs,x=.ref a∧H1 a=some (.ins C dx fs)∧fs.lookup m=none ∧
 t σ H1 fun vs H2=>sp (x :: (vs ++ dvs)) H2 Q E
def tMake (C:Addr) (sp:Sp) (dvs:List V) (E:XK) (t:TA):TE:=fun σ H Q=>t σ H fun vs H1=>∀ x dx,H1 x=none→H1 dx=none→dx≠x →
 sp (.ref x :: (vs ++ dvs)) (upd (upd H1 dx (.own x)) x (.ins C dx [])) (fun v H2=>v=.non∧Q (.ref x) H2) E
def Binds (K:PySem.W.Frag) (fd:FuncData) (ps:List Str) (ds:List Value):Prop :=
 ∀ (s:Shared) (us:List Value),K.In s.heap→(us ++ ds).length=ps.length→BindsTo s fd ⟨us,[]⟩ (ps.zip (us ++ ds))
theorem Binds.all {K:PySem.W.Frag} {fd:FuncData} {ps:List Str} (h:∀ us:List Value,us.length=ps.length→bindArgs fd ⟨us,[]⟩=pure (ps.zip us)):Binds K fd ps []:=fun s us _ hl=>by
 rw [List.append_nil] at hl ⊢
 exact .of_eq (h us hl)
def Passes (CX:CXT) (X:Cx) (E:XK):Prop:=∀ (pins:List (Addr × Obj)) (σ:St) (H:Hp) (s:Shared) (e:Value) (s':Shared),Inv X pins σ H s→CX X.stack H s E e s'→X.xe e s'
section
variable {X:Cx} {CX:CXT} {k:Nat} {f C:Addr} {fd:FuncData} {ps:List Str} {sp:Sp} {dvs:List V} {ds:List Value} {E:XK} {x m:Str} {p pos apos:Pos} {e o:Expr} {es:List Expr} {ta:TE} {t:TA}
theorem run_fn {pins:List (Addr × Obj)} {σ:St} {H:Hp} {s:Shared} {Q:VK} {us:List Value} {vs:List V} (F:FnOk X.prog X.w X.K X.mg X.base CX k f fd ps sp) (hr:Room k X.A) (hb:Binds X.K fd ps ds) (hd:Vals dvs ds) (hx:Passes CX X E)
  (I:Inv X pins σ H s) (r:Vals vs us) (h:sp (vs ++ dvs) H Q E):wpAny (model X.prog X.w) X.A (call (.ref f) us) (EP X pins σ Q) X.xe s:=by
 have r2:Vals (vs ++ dvs) (us ++ ds):=r.append hd
 have hl:(us ++ ds).length=ps.length:=by rw [← r2.length];exact F.len _ _ _ _ h
 refine wpAny_call (codeAny_mono (F.run X.A X.stack s H ⟨us,[]⟩ (us ++ ds) (vs ++ dvs) Q E hr I.env0 (hb s us I.kIn hl) r2 h) fun r s' hq=>?_)
 cases r with
 | error e=>exact hx pins σ H s e s' I hq
 | ok fl =>
  cases fl with
  | ret u=>exact I.after hq
  | next=>exact False.elim hq
  | brk=>exact False.elim hq
  | cont=>exact False.elim hq
theorem pe_call (F:FnOk X.prog X.w X.K X.mg X.base CX k f fd ps sp) (hr:Room k X.A) (hg:Gl X x) (hm:X.mg x=some (.ref f)) (hk:PySem.W.keepIn X.K (.ref f)=true) (hb:Binds X.K fd ps ds) (hd:Vals dvs ds) (hx:Passes CX X E)
  (ha:PA X (e :: es) t) (hdb:(x == ("__debug__":Str))=false:=by decide) (he:starEach (e :: es) X.env=(false,eval e X.env) :: starEach es X.env:=by rfl) (hpl:(backTo pos (starEach es X.env)).any (·.1)=false:=by rfl) :
  PE X (.Call (.Name x p) (e :: es) [] pos) (tCall sp dvs E t):=by
 intro pins s σ H Q I h
 refine wpAny_Call_Name_kw (ld_glob I hg hm ?_ hdb)
 refine PySem.W.callWith_K (h₀:=X.base) I.ok.mod.kin hk (thn (ha pos pins s σ H _ I h) fun us s1 ⟨vs,H1,I1,r,q⟩=>⟨I1.kIn,?_⟩) he hpl
 exact run_fn F hr hb hd hx I1 r q
theorem pe_meth {pl:Sem Bool} (he:PE X o ta) (c:Cls X.K C) (hm:Meth X.K C m f) (F:FnOk X.prog X.w X.K X.mg X.base CX k f fd ps sp) (hr:Room k X.A) (hb:Binds X.K fd ps ds) (hd:Vals dvs ds) (hx:Passes CX X E) (ha:PA X (e :: es) t)
  (hst:starEach (e :: es) X.env=(false,eval e X.env) :: starEach es X.env:=by rfl) (hpl:(backTo pos (starEach es X.env)).any (·.1)=false:=by rfl)
  (ht:eval (.Call (.Attribute o m apos) (e :: es) [] pos) X.env=(do
   let ov ← eval o X.env
   standAt apos.atName
   let (f,first) ← holding [ov] (getMethod ov m pl)
   callWith pos f first (backTo pos (starEach (e :: es) X.env)) (backToKw pos (keywordEach [] X.env))):=by rfl) :
  PE X (.Call (.Attribute o m apos) (e :: es) [] pos) (tMeth C m sp dvs E ta t):=by
 intro pins s σ H Q I h
 refine PySem.W.methodCall_KW (pl:=pl) (thn (he pins s σ H _ I h) fun u s1 ⟨x,H1,I1,rx,a,dx,fs,ex,ea,l,q⟩=>?_) ht
 subst ex
 obtain rfl:u=Value.ref a:=rx
 refine getmeth_ok I1 ea c hm l ?_
 refine PySem.W.callWith_K (first:=[.ref a]) (h₀:=X.base) I.ok.mod.kin hm.kp (thn (ha pos pins s1 σ H1 _ I1 q) fun us s2 ⟨vs,H2,I2,r,q2⟩=>⟨I2.kIn,?_⟩) hst hpl
 exact run_fn (us:=.ref a :: us) (vs:=.ref a :: vs) F hr hb hd hx I2 (.cons rfl r) q2
theorem pe_meth0 {pl:Sem Bool} (he:PE X o ta) (c:Cls X.K C) (hm:Meth X.K C m f) (F:FnOk X.prog X.w X.K X.mg X.base CX k f fd ps sp) (hr:Room k X.A) (hb:Binds X.K fd ps ds) (hd:Vals dvs ds) (hx:Passes CX X E)
  (ht:eval (.Call (.Attribute o m apos) [] [] pos) X.env=(do
   let ov ← eval o X.env
   standAt apos.atName
   let (f,first) ← holding [ov] (getMethod ov m pl)
   callWith pos f first (backTo pos (starEach [] X.env)) (backToKw pos (keywordEach [] X.env))):=by rfl) :
  PE X (.Call (.Attribute o m apos) [] [] pos) (tMeth C m sp dvs E ta tNil):=by
 intro pins s σ H Q I h
 refine PySem.W.methodCall_KW (pl:=pl) (thn (he pins s σ H _ I h) fun u s1 ⟨x,H1,I1,rx,a,dx,fs,ex,ea,l,q⟩=>?_) ht
 subst ex
 obtain rfl:u=Value.ref a:=rx
 refine getmeth_ok I1 ea c hm l ?_
 exact PySem.W.callWith_K0 (first:=[.ref a]) I1.kIn hm.kp (run_fn (us:=[.ref a]) (vs:=[.ref a]) F hr hb hd hx I1 (.cons rfl .nil) q)
structure Mk (K:PySem.W.Frag) (C f:Addr):Prop where
 makes:PySem.W.makesIn K C=true
 init:PySem.W.findIn K (.ref C) "__init__"=some (some (.ref f))
 fn:PySem.W.isFn K (.ref f)=true
 kp:PySem.W.keepIn K (.ref C)=true
theorem run_make {pins:List (Addr × Obj)} {σ:St} {H:Hp} {s:Shared} {Q:VK} {us:List Value} {vs:List V} (M:Mk X.K C f) (F:FnOk X.prog X.w X.K X.mg X.base CX k f fd ps sp) (hr:Room (k + 1) X.A) (hb:Binds X.K fd ps ds) (hd:Vals dvs ds)
  (hx:Passes CX X E) (I:Inv X pins σ H s) (r:Vals vs us)
  (h:∀ x dx,H x=none→H dx=none→dx≠x→sp (.ref x :: (vs ++ dvs)) (upd (upd H dx (.own x)) x (.ins C dx [])) (fun v H2=>v=.non∧Q (.ref x) H2) E) :
  wpAny (model X.prog X.w) X.A (call (.ref C) us) (EP X pins σ Q) X.xe s:=by
 have hq:=h (s.heap.objs.size + 1) s.heap.objs.size (I.hok.fresh (Nat.le_succ _)) (I.hok.fresh (Nat.le_refl _)) (Nat.ne_of_lt (Nat.lt_succ_self _))
 have I2:=Inv.made (C:=C) I
 have r2:Vals (V.ref (s.heap.objs.size + 1) :: (vs ++ dvs)) (Value.ref (s.heap.objs.size + 1) :: (us ++ ds)):=.cons rfl (r.append hd)
 have hl:(Value.ref (s.heap.objs.size + 1) :: us ++ ds).length=ps.length:=by
  have e:=r2.length
  rw [F.len _ _ _ _ hq] at e
  exact e.symm
 refine wpAny_call (make_map (f:=f) I.kIn M.makes M.init (beq_iff_eq.mp M.fn) (codeAny_mono (F.run _ X.stack _ _ ⟨Value.ref (s.heap.objs.size + 1) :: us,[]⟩ (Value.ref (s.heap.objs.size + 1) :: (us ++ ds)) _ _ E (hr.make C us [])
  (I2.env0.make C us []) (hb _ (Value.ref (s.heap.objs.size + 1) :: us) I2.kIn hl) r2 hq) fun r s' hq'=>?_))
 cases r with
 | error e=>exact hx pins σ _ _ e s' I2 hq'
 | ok fl =>
  cases fl with
  | ret u =>
   obtain ⟨v,H',I3,rv,ev,q3⟩:=I2.after hq'
   subst ev
   exact ⟨rv,⟨V.ref (s.heap.objs.size + 1),H',I3,rfl,q3⟩⟩
  | next=>exact False.elim hq'
  | brk=>exact False.elim hq'
  | cont=>exact False.elim hq'
theorem pe_make (M:Mk X.K C f) (F:FnOk X.prog X.w X.K X.mg X.base CX k f fd ps sp) (hr:Room (k + 1) X.A) (hg:Gl X x) (hm:X.mg x=some (.ref C)) (hb:Binds X.K fd ps ds) (hd:Vals dvs ds) (hx:Passes CX X E)
  (ha:PA X (e :: es) t) (hdb:(x == ("__debug__":Str))=false:=by decide) (he:starEach (e :: es) X.env=(false,eval e X.env) :: starEach es X.env:=by rfl) (hpl:(backTo pos (starEach es X.env)).any (·.1)=false:=by rfl) :
  PE X (.Call (.Name x p) (e :: es) [] pos) (tMake C sp dvs E t):=by
 intro pins s σ H Q I h
 refine wpAny_Call_Name_kw (ld_glob I hg hm ?_ hdb)
 refine PySem.W.callWith_K (h₀:=X.base) I.ok.mod.kin M.kp (thn (ha pos pins s σ H _ I h) fun us s1 ⟨vs,H1,I1,r,q⟩=>⟨I1.kIn,?_⟩) he hpl
 exact run_make M F hr hb hd hx I1 r q
theorem pe_make0 (M:Mk X.K C f) (F:FnOk X.prog X.w X.K X.mg X.base CX k f fd ps sp) (hr:Room (k + 1) X.A) (hg:Gl X x) (hm:X.mg x=some (.ref C)) (hb:Binds X.K fd ps ds) (hd:Vals dvs ds) (hx:Passes CX X E)
  (hdb:(x == ("__debug__":Str))=false:=by decide):PE X (.Call (.Name x p) [] [] pos) (tMake C sp dvs E tNil):=by
 intro pins s σ H Q I h
 refine wpAny_Call_Name_kw (ld_glob I hg hm ?_ hdb)
 exact PySem.W.callWith_K0 I.kIn M.kp (run_make (us:=[]) M F hr hb hd hx I .nil h)
end
section
variable {X:Cx} {CX:CXT} {k:Nat} {f C:Addr} {fd:FuncData} {ps ks:List Str} {sp:Sp} {E:XK} {x m:Str} {p pos apos kpos:Pos} {e o:Expr} {es:List Expr} {kws:List Keyword} {te ta:TE} {t tk:TA} {nm:Option Str}
variable {g:List Value→List Value→List Value} {gV:List V→List V→List V}
end
structure FnScope (N P:List Str) (sc:Scope):Prop where
 kind:sc.kind=.function
 co:sc.isCoroutine=false
 gen:sc.isGenerator=false
 nd:N.Nodup
 pre:N.take P.length=P
 par:∀ x∈P,sc.names.lookup x=some .local∨sc.names.lookup x=some .cell
 nofree:∀ y∈sc.names,y.2≠.free
theorem bindL_out {kindOf:Str→Option NameKind} {x:Str}:∀ {binds:List (Str × Value)} {m:Str→Option Value},(∀ v,(x,v) ∉ binds)→bindL kindOf binds m x=m x
 | [],_,_=>rfl
 | (n,v) :: r,m,h=>by
  unfold bindL
  rw [bindL_out fun w hw=>h w (List.mem_cons_of_mem _ hw)]
  split
  ·have:x≠n:=by rintro rfl;exact h v List.mem_cons_self
   simp [this]
  ·rfl
theorem bindC_out {kindOf:Str→Option NameKind} {x:Str}:∀ {binds:List (Str × Value)} {m:Str→Option Value},(∀ v,(x,v) ∉ binds)→bindC kindOf binds m x=m x
 | [],_,_=>rfl
 | (n,v) :: r,m,h=>by
  unfold bindC
  rw [bindC_out fun w hw=>h w (List.mem_cons_of_mem _ hw)]
  split
  ·rfl
  ·have:x≠n:=by rintro rfl;exact h v List.mem_cons_self
   simp [this]
theorem bindL_get {kindOf:Str→Option NameKind} {x:Str} {v:Value}:∀ {P:List Str} {vs:List Value} {i:Nat} {m:Str→Option Value},P.Nodup→P[i]?=some x→vs[i]?=some v→kindOf x=some .local →
  bindL kindOf (P.zip vs) m x=some v
 | [],_,_,_,_,h,_,_=>by simp at h
 | _ :: _,[],_,_,_,_,h,_=>by simp at h
 | p :: P,w :: vs,0,m,nd,h1,h2,hk=>by
  simp at h1 h2;subst h1;subst h2
  show bindL kindOf ((p,w) :: P.zip vs) m p=_
  unfold bindL
  rw [bindL_out fun v hv=>(List.nodup_cons.mp nd).1 (List.of_mem_zip hv).1,if_pos hk]
  simp
 | p :: P,w :: vs,i + 1,m,nd,h1,h2,hk=>by
  show bindL kindOf ((p,w) :: P.zip vs) m x=_
  unfold bindL
  exact bindL_get (i:=i) (List.nodup_cons.mp nd).2 (by simpa using h1) (by simpa using h2) hk
theorem bindC_get {kindOf:Str→Option NameKind} {x:Str} {v:Value}:∀ {P:List Str} {vs:List Value} {i:Nat} {m:Str→Option Value},P.Nodup→P[i]?=some x→vs[i]?=some v→kindOf x≠some .local →
  bindC kindOf (P.zip vs) m x=some v
 | [],_,_,_,_,h,_,_=>by simp at h
 | _ :: _,[],_,_,_,_,h,_=>by simp at h
 | p :: P,w :: vs,0,m,nd,h1,h2,hk=>by
  simp at h1 h2;subst h1;subst h2
  show bindC kindOf ((p,w) :: P.zip vs) m p=_
  unfold bindC
  rw [bindC_out fun v hv=>(List.nodup_cons.mp nd).1 (List.of_mem_zip hv).1,if_neg hk]
  simp
 | p :: P,w :: vs,i + 1,m,nd,h1,h2,hk=>by
  show bindC kindOf ((p,w) :: P.zip vs) m x=_
  unfold bindC
  exact bindC_get (i:=i) (List.nodup_cons.mp nd).2 (by simpa using h1) (by simpa using h2) hk
def start (N:List Str) (vs:List V):St:=vs.map some ++ List.replicate (N.length - vs.length) none
def cxOf (CX:CXT) (P:Program) (w:World) (K:PySem.W.Frag) (mg:Str→Option Value) (base:Heap) (N:List Str) (qual:Str) (scope:Scope) (f:Addr) (cd:Value) (A:Around) (outer:List Env) (s:Shared) (H:Hp) (E:XK):Cx where
 prog:=P
 w:=w
 K:=K
 mg:=mg
 base:=base
 A:=A.deeper (envOfC qual scope s.heap.objs.size f cd)
 N:=N
 s₀:=s
 H₀:=H
 env:=envOfC qual scope s.heap.objs.size f cd
 outer:=outer
 stack:=envOfC qual scope s.heap.objs.size f cd :: outer
 ex:=[]
 calm:=true
 fn:=fun _=>true
 pn:=[]
 xe:=fun e s'=>wpAny (model P w) (A.deeper (envOfC qual scope s.heap.objs.size f cd)) (leaving (envOfC qual scope s.heap.objs.size f cd) e) (fun _ s''=>CX outer H s E e s'') (fun e' s''=>CX outer H s E e' s'') s'
theorem cell_has {sc:Scope} {n:Nat} {x:Str} (h:sc.names.lookup x=some .cell):∃ c,(cellsFrom n sc.names []).lookup x=some c:=by
 have q:=PySem.W.cellsFrom_some sc.names n [] (.inl h)
 exact Option.isSome_iff_exists.mp q
theorem inv_start {CX:CXT} {P:Program} {w:World} {K:PySem.W.Frag} {mg:Str→Option Value} {base:Heap} {N ps:List Str} {qual:Str} {scope:Scope} {f:Addr} {cd:Value} {A:Around} {outer:List Env} {s s1:Shared} {H:Hp} {E:XK} {us:List Value} {vs:List V}
  (S:FnScope N ps scope) (hd:A.handled=none) (e0:Env0 P w K mg base A outer s H) (hl:vs.length=ps.length) (r:Vals vs us)
  (x:InCallC s s.heap.objs.size (bindL (envOfC qual scope s.heap.objs.size f cd).kindOf (ps.zip us) fun _=>none) (cellsFrom (s.heap.objs.size + 1) scope.names []) (bindC (envOfC qual scope s.heap.objs.size f cd).kindOf (ps.zip us) fun _=>none) s1) :
  Inv (cxOf CX P w K mg base N qual scope f cd A outer s H E) [] (start N vs) H s1:=by
 have hpl:ps.length≤N.length:=by have:=congrArg List.length S.pre;rw [List.length_take] at this;omega
 obtain ⟨h1,tk,rfl,hk⟩:=x.done
 have noA:∀ b:Addr,b ∉ (cxOf CX P w K mg base N qual scope f cd A outer s H E).ex:=fun b z=>absurd (show b∈([]:List Addr) from z) (by simp)
 refine ⟨⟨e0.mod,S.kind,rfl,rfl,Nat.le_refl _,fun y z c h1 h2=>?_,fun y hy=>?_,fun y c _ h=>?_,fun _=>hd,Around.frames_deeper e0.frames,.inr ⟨rfl,rfl⟩,fun b z=>absurd z (noA b),e0.bs,e0.bsz,fun b _ _=>noA b,fun b z=>absurd z (noA b),e0.funs,e0.frf⟩,
  rfl,e0.bare,Un.kept hk,⟨_,x.toInCall.ns,fun i y v h1 h2 h3=>?_⟩,fun y c h=>⟨_,x.cell y c h⟩,e0.hok.fresh (Nat.le_refl _),fun y c h=>?_,fun p hp=>absurd (show p∈([]:List (Addr × Obj)) from hp) (by simp),e0.hok.kept hk,?_⟩
 ·exact name_of_addr x.apart (PySem.mem_of_lookup h1) (PySem.mem_of_lookup h2)
 ·have hy:scope.names.lookup y=some .cell∨scope.names.lookup y=some .free:=hy
  rcases hy with hy | hy
  ·exact cell_has hy
  ·exact absurd rfl (S.nofree _ (PySem.mem_of_lookup hy))
 ·exact Nat.le_of_lt (x.above y c (PySem.mem_of_lookup h))
 ·have hi:i < vs.length:=by
   unfold start at h2
   by_cases hi:i < vs.length
   ·exact hi
   ·rw [List.getElem?_append_right (by simpa using hi)] at h2
    rw [List.getElem?_replicate] at h2
    split at h2 <;> cases h2
  have ha:vs[i]?=some v:=by
   unfold start at h2
   rw [List.getElem?_append_left (by simpa using hi),List.getElem?_map] at h2
   cases e:vs[i]? with
   | none=>rw [e] at h2;cases h2
   | some a=>rw [e] at h2;cases h2;rfl
  obtain ⟨u,hu,rv⟩:=r.get ha
  have hp:ps[i]?=some y:=by
   rw [← S.pre,List.getElem?_take_of_lt (by omega)];exact h1
  have ndP:ps.Nodup:=by rw [← S.pre];exact S.nd.sublist (List.take_sublist _ _)
  refine ⟨u,rv,?_⟩
  rcases S.par y (List.mem_of_getElem? hp) with k | k
  ·exact .inl ⟨k,bindL_get ndP hp hu k⟩
  ·obtain ⟨c,e⟩:=cell_has (n:=s.heap.objs.size + 1) k
   refine .inr ⟨.inl k,c,e,?_⟩
   have q:=x.cell y c e
   rw [bindC_get ndP hp hu (by show scope.names.lookup y≠_;rw [k];decide)] at q
   exact q
 ·exact e0.hok.fresh (Nat.le_of_lt (x.above y c (PySem.mem_of_lookup h)))
 ·unfold start
  show _=N.length
  rw [List.length_append,List.length_map,List.length_replicate]
  omega
theorem fn_of {CX:CXT} {P:Program} {w:World} {K:PySem.W.Frag} {mg:Str→Option Value} {base:Heap} {k:Nat} {f:Addr} {name qual:Str} {params:Arguments} {body:List Stmt} {scope:Scope} {dV kV doc pm cdv ct oc:Value} {an od:Option Addr}
  {osl:Array (Option Value)} {N ps:List Str} {sp:Sp} (lk:K.lookup f=some ⟨oc,od,.func (PySem.W.fnOf name qual params body scope dV kV doc pm an cdv ct),osl⟩) (hcd:PySem.W.codeIn K cdv qual=true) (S:FnScope N ps scope)
  (len:∀ vs H Q E,sp vs H Q E→vs.length=ps.length)
  (hbody:∀ (A:Around) (outer:List Env) (s:Shared) (H:Hp) (vs:List V) (Q:VK) (E:XK),Room k (A.deeper (envOfC qual scope s.heap.objs.size f cdv))→sp vs H Q E →
   ∃ t,PSs (cxOf CX P w K mg base N qual scope f cdv A outer s H E) body t∧t { nx:=fun _ H'=>Q .non H',rt:=Q } (start N vs) H) :
  FnOk P w K mg base CX (k + 1) f (PySem.W.fnOf name qual params body scope dV kV doc pm an cdv ct) ps sp:=by
 refine ⟨len,fun A outer s H args us vs Q E hr e0 hb r hsp=>?_⟩
 have hl:=len _ _ _ _ hsp
 have KX:K.In s.heap:=e0.mod.kin.keeps fun b o e=>(e0.bs b o e).1
 have lim:s.heap.NoLimit:=e0.mod.nolimit.keeps fun b o e=>(e0.bs b o e).1
 have hkind:∀ y∈ps.zip us,scope.names.lookup y.1=some .local∨(scope.names.lookup y.1=some .cell∧((cellsFrom (s.heap.objs.size + 1) scope.names []).lookup y.1).isSome=true):=fun ⟨n,v⟩ hy=>by
  rcases S.par n (List.of_mem_zip hy).1 with q | q
  ·exact .inl q
  ·exact .inr ⟨q,PySem.W.cellsFrom_some _ _ _ (.inl q)⟩
 refine codeAny_call_function hr.depth (KX _ _ lk) rfl S.co S.gen rfl (PySem.W.codeRec_of KX hcd) (hb _ _ _ _ ?_)
 refine wpAny_newFunctionEnv_cells S.kind hkind fun env he s1 x=>?_
 subst he
 refine ⟨lim.keeps x.toInCall.keep,codeAny_func ?_⟩
 obtain ⟨t,ht,hq⟩:=hbody A outer s H vs Q E (hr.deeper _) hsp
 have I:Inv (cxOf CX P w K mg base N qual scope f cdv A outer s H E) [] (start N vs) H s1:=inv_start S hr.hd e0 hl r x
 refine wpAny_mono (ht [] s1 (start N vs) H _ I hq) (fun fl s' hs=>?_) fun e s' hs=>hs
 have fin:∀ {σ':St} {H':Hp} {v:V} {u:Value},Inv (cxOf CX P w K mg base N qual scope f cdv A outer s H E) [] σ' H' s'→RelV v u→Q v H'→CE outer P w H s Q u s' :=
  fun {σ' H' v u} J rv q=>⟨v,H',J.os,J.bare,J.base,J.hok,rv,q⟩
 cases fl with
 | ret u =>
  obtain ⟨v,σ',H',J,rv,q⟩:=hs
  exact fin J rv q
 | next =>
  obtain ⟨σ',H',J,q⟩:=hs
  exact fin (v:=V.non) (u:=Value.none) J rfl q
 | brk =>
  obtain ⟨_,_,_,q⟩:=hs
  exact False.elim q
 | cont =>
  obtain ⟨_,_,_,q⟩:=hs
  exact False.elim q
end L2
namespace L2
open PySem PySem.Spec PyProof.Rows
section
variable {X:Cx} {x:Str} {p pos:Pos} {e:Expr} {es:List Expr} {t:TA} {id T:String} {r:List V→Hp→VK→Prop}
def tCB (r:List V→Hp→VK→Prop) (t:TA):TE:=fun σ H Q=>t σ H fun vs H1=>r vs H1 Q
theorem pe_callB (hc:CallR X (.builtin id) r) (hg:Gl X x) (hm:X.mg x=none) (hv:bootBuiltins x=some (.builtin id)) (ha:PA X (e :: es) t) (hn:x≠"__name__":=by decide) (hdb:(x == ("__debug__":Str))=false:=by decide)
  (he:starEach (e :: es) X.env=(false,eval e X.env) :: starEach es X.env:=by rfl) (hpl:(backTo pos (starEach es X.env)).any (·.1)=false:=by rfl):PE X (.Call (.Name x p) (e :: es) [] pos) (tCB r t):=by
 intro pins s σ H Q I h
 refine wpAny_Call_Name_kw (ld_blt I hg hm hv ?_ hn hdb)
 exact PyProof.Rows.callWith_builtin1 (thn (ha pos pins s σ H _ I h) fun us s1 ⟨vs,H1,I1,r1,q1⟩=>hc pins s1 σ H1 vs us Q I1 r1 q1) he hpl
theorem pe_callTy (hc:CallR X (.type T) r) (hg:Gl X x) (hm:X.mg x=none) (hv:bootBuiltins x=some (.type T)) (ha:PA X (e :: es) t) (hn:x≠"__name__":=by decide) (hdb:(x == ("__debug__":Str))=false:=by decide)
  (he:starEach (e :: es) X.env=(false,eval e X.env) :: starEach es X.env:=by rfl) (hpl:(backTo pos (starEach es X.env)).any (·.1)=false:=by rfl):PE X (.Call (.Name x p) (e :: es) [] pos) (tCB r t):=by
 intro pins s σ H Q I h
 refine wpAny_Call_Name_kw (ld_blt I hg hm hv ?_ hn hdb)
 exact PyProof.Rows.callWith_type1 (thn (ha pos pins s σ H _ I h) fun us s1 ⟨vs,H1,I1,r1,q1⟩=>hc pins s1 σ H1 vs us Q I1 r1 q1) he hpl
end
end L2
namespace HT
open PySem PyProof.Rows
def lexLt:List Int→List Int→Bool
 | [],[]=>false
 | [],_ :: _=>true
 | _ :: _,[]=>false
 | x :: xs,y :: ys=>if x=y then lexLt xs ys else decide (x < y)
section
open PySem.SeqAt
open PySem.AutoSeq1 (wpAny_loadPart')
open PySem.MeetsSeq PySem.MeetsSeq2 PySem.MeetsSeq3
end
section
variable {prog:Program} {w:World} {A:Around} {E:Value→Shared→Prop} {s:Shared}
def sIx (n d:Nat):Option Int→Nat
 | none=>d
 | some v=>if v < 0 then (v + (n:Int)).toNat else min v.toNat n
theorem sIx_none (n d:Nat):sIx n d none=d:=rfl
theorem sIx_nat (n d k:Nat):sIx n d (some (k:Int))=min k n:=by
 show (if (k:Int) < 0 then ((k:Int) + (n:Int)).toNat else min (k:Int).toNat n)=min k n
 rw [if_neg (by omega),Int.toNat_natCast]
theorem sIx_le (n d:Nat) (hd:d≤n) (o:Option Int):sIx n d o≤n:=by
 cases o with
 | none=>exact hd
 | some v =>
  show (if v < 0 then (v + (n:Int)).toNat else min v.toNat n)≤n
  by_cases hv:v < 0
  ·rw [if_pos hv];omega
  ·rw [if_neg hv];exact Nat.min_le_right _ _
theorem clip_eq (v:Int) (n d:Nat):(if v < 0 then max (v + (n:Int)) 0 else min v (n:Int))=((sIx n d (some v):Nat):Int):=by
 show (if v < 0 then max (v + (n:Int)) 0 else min v (n:Int))=(((if v < 0 then (v + (n:Int)).toNat else min v.toNat n):Nat):Int)
 by_cases hv:v < 0
 ·simp only [if_pos hv];omega
 ·simp only [if_neg hv];omega
theorem adjust_gen (lo hi:Option Int) (n:Nat):Builtin.Slice.sliceAdjust lo hi 1 (n:Int)=(((sIx n 0 lo:Nat):Int),((sIx n n hi:Nat):Int)):=by
 have h1:¬ ((1:Int) < 0):=by omega
 unfold Builtin.Slice.sliceAdjust
 simp only [h1,if_false]
 refine Prod.ext ?_ ?_
 ·cases lo with
  | none=>rfl
  | some v=>exact clip_eq v n 0
 ·cases hi with
  | none=>rfl
  | some v=>exact clip_eq v n n
theorem places_gen (i j:Nat):Builtin.Slice.slicePlaces (i:Int) (j:Int) 1=j - i:=by
 unfold Builtin.Slice.slicePlaces
 have h1:(1:Int) > 0:=by omega
 simp only [h1,if_true,Int.ediv_one]
 split <;> omega
theorem slicePart_ {v:Value} {o:Option Int} {Q:Option Int→Shared→Prop} (p:IsPart v o) (h:Q o s):wpAny (model prog w) A (Builtin.Slice.slicePartIndex v) Q E s:=by
 cases p with
 | none=>exact slicePart_none h
 | int i t=>exact slicePart_int h
theorem sliceApplied_gen {sl:Addr} {vl vu:Value} {lo hi:Option Int} {n:Nat} {Q:Int × Int × Nat→Shared→Prop} (hs:s.heap.IsSliceOf sl vl vu .none) (pl:IsPart vl lo) (pu:IsPart vu hi)
  (h:Q (((sIx n 0 lo:Nat):Int),1,sIx n n hi - sIx n 0 lo) s):wpAny (model prog w) A (Builtin.Slice.sliceApplied (.ref sl) (pure (n:Int))) Q E s:=by
 obtain ⟨os,hos,hcs,hds⟩:=id hs
 unfold Builtin.Slice.sliceApplied Builtin.Slice.sliceFields
 refine wpAny_bind (wpAny_bind (wpAny_field hos hds (x:=vl) rfl (wpAny_bind (wpAny_field hos hds (x:=vu) rfl (wpAny_bind (wpAny_field hos hds (x:=.none) rfl (wpAny_pure ?_)))))))
 refine wpAny_bind (slicePart_none ?_)
 show wpAny _ _ (if ((1:Int) == 0)=true then _ else _) _ _ s
 rw [if_neg (by decide)]
 refine wpAny_bind (slicePart_ pl (wpAny_bind (slicePart_ pu (wpAny_bind (wpAny_pure ?_)))))
 show wpAny _ _ (match Builtin.Slice.sliceAdjust lo hi 1 (n:Int) with | (lo,hi)=>pure (lo,(1:Int),Builtin.Slice.slicePlaces lo hi 1)) _ _ s
 rw [adjust_gen lo hi n]
 show wpAny _ _ (pure (((sIx n 0 lo:Nat):Int),(1:Int),Builtin.Slice.slicePlaces ((sIx n 0 lo:Nat):Int) ((sIx n n hi:Nat):Int) 1)) _ _ s
 rw [places_gen]
 exact wpAny_pure h
theorem pick_gen (xs:Array Value) (i k:Nat):((List.range k).filterMap fun (m:Nat)=>xs[((i:Int) + (m:Int) * 1).toNat]?).toArray=((xs.toList.drop i).take k).toArray:=by
 have e:(fun (m:Nat)=>xs[((i:Int) + (m:Int) * 1).toNat]?)=fun m=>xs[i + m]?:=by
  funext m
  have:((i:Int) + (m:Int) * 1).toNat=i + m:=by omega
  rw [this]
 rw [e]
 have:=pick_run xs i k
 rw [List.filterMap_map] at this
 have e2:((fun x=>xs[x]?) ∘ fun x=>i + x)=fun m=>xs[i + m]?:=rfl
 rw [e2] at this
 rw [this]
theorem getItem_tuple_cut {t sl:Addr} {items:Array Value} {vl vu:Value} {lo hi:Option Int} {Q:Value→Shared→Prop} (ht:IsTup s.heap t items) (hs:s.heap.IsSliceOf sl vl vu .none) (pl:IsPart vl lo) (pu:IsPart vu hi)
  (hw:¬ (sIx items.size 0 lo=0∧sIx items.size items.size hi=items.size))
  (h:Q (.ref s.heap.objs.size) { s with heap:=s.heap.push { cls:=.type "tuple",data:=.seq ((items.toList.drop (sIx items.size 0 lo)).take (sIx items.size items.size hi - sIx items.size 0 lo)).toArray } })
  (hsz:items.size≤sizeLine):wpAny (model prog w) A (getItem (.ref t) (.ref sl)) Q E s:=by
 have htake:sizeOk (.seq ((items.toList.drop (sIx items.size 0 lo)).take (sIx items.size items.size hi - sIx items.size 0 lo)).toArray):=by
  show ((items.toList.drop (sIx items.size 0 lo)).take (sIx items.size items.size hi - sIx items.size 0 lo)).toArray.size≤sizeLine
  rw [List.size_toArray,List.length_take,List.length_drop,Array.length_toList]
  omega
 have hj:sIx items.size items.size hi≤items.size:=sIx_le _ _ (Nat.le_refl _) hi
 obtain ⟨os,hos,hcs,hds⟩:=id hs
 have hTs:s.TypeIs (.ref sl) "slice":=⟨os,hos,hcs⟩
 unfold getItem
 try with_reducible refine wpAny_holding ?_
 first | refine wpAny_bind (wpAny_pure ?_) | skip
 refine wpAny_bind (wpAny_sequenceKey ht.typeIs (by decide) ?_)
 refine wpAny_bind (wpAny_callSpecial?_slot (name:=Str.ofString "__getitem__") ht.typeIs PyProof.Rows.slot_tuple_getitem
  (wpAny_call_entry PyProof.Rows.slot_tuple_getitem ht.typeIs entry_tuple_getitem ?_ (args_tuple_getitem _ _)))
 show wpAny _ _ (Builtin.Tuple.tupleItemsOf (.ref t) >>= _) _ _ s
 refine wpAny_bind (tupleItemsOf_ ht ?_)
 refine wpAny_bind (wpAny_typeOf hTs ?_)
 rw [if_pos (by decide)]
 refine wpAny_bind (sliceApplied_gen hs pl pu ?_)
 have hno:¬ ((((sIx items.size 0 lo:Nat):Int) == 0 && (1:Int) == 1 && (sIx items.size items.size hi - sIx items.size 0 lo) == items.size)=true):=by
  intro q
  rw [Bool.and_eq_true,Bool.and_eq_true] at q
  have q1:((sIx items.size 0 lo:Nat):Int)=0:=eq_of_beq q.1.1
  have q2:sIx items.size items.size hi - sIx items.size 0 lo=items.size:=eq_of_beq q.2
  exact hw ⟨by omega,by omega⟩
 show wpAny _ _ (if (((sIx items.size 0 lo:Nat):Int) == 0 && (1:Int) == 1 && (sIx items.size items.size hi - sIx items.size 0 lo) == items.size)=true then _ else _) _ _ s
 rw [if_neg hno,pick_gen]
 first
  | exact wpAny_bind (m:=Builtin.Tuple.tupleExact _) (wpAny_newObj_type (wpAny_pure ⟨_,rfl,wpAny_pure h⟩) htake)
  | exact wpAny_bind (m:=Builtin.Tuple.tupleExact _) (wpAny_newObj_type (wpAny_bind (wpAny_pure (wpAny_pure ⟨_,rfl,wpAny_pure h⟩))) htake)
  | exact wpAny_bind (wpAny_bind (m:=Builtin.Tuple.tupleExact _) (wpAny_newObj_type (wpAny_pure (wpAny_pure ⟨_,rfl,wpAny_pure h⟩)) htake))
  | exact wpAny_bind (wpAny_bind (m:=Builtin.Tuple.tupleExact _) (wpAny_newObj_type (wpAny_pure ⟨_,rfl,wpAny_pure h⟩) htake))
end
end HT
namespace L2
open PySem PySem.Spec PyProof.Rows
abbrev TO:=St→Hp→(Option Int→Hp→Prop)→Prop
def PO (X:Cx) (e:Option Expr) (t:TO):Prop :=
 ∀ (pins:List (Addr × Obj)) (s:Shared) (σ:St) (H:Hp) (Q:Option Int→Hp→Prop),Inv X pins σ H s→t σ H Q →
  wpAny (model X.prog X.w) X.A (evalPart e X.env) (fun u s'=>∃ o H',Inv X pins σ H' s'∧IsPart u o∧Q o H') X.xe s
def tNoPart:TO:=fun _ H Q=>Q none H
def tPart (t:TE):TO:=fun σ H Q=>t σ H fun x H1=>∃ i,x=.int i∧Q (some i) H1
theorem intsAre_of {ns:List Int}:∀ {us:List Value},Vals (ns.map V.int) us→IntsAre us ns:=by
 induction ns with
 | nil=>intro us r;rw [List.map_nil] at r;cases r;exact .nil
 | cons n ns ih =>
  intro us r
  rw [List.map_cons] at r
  cases r with
  | cons r1 r2 =>
   obtain ⟨t,e⟩:=r1
   subst e
   exact .cons n t (ih r2)
section
variable {X:Cx} {e:Expr} {te:TE} {lo hi:Option Expr} {tl th:TO} {pos p2:Pos}
theorem po_none:PO X none tNoPart:=by
 intro pins s σ H Q I h
 rw [evalPart_none]
 exact wpAny_pure ⟨none,H,I,.none,h⟩
theorem po_some (h:PE X e te):PO X (some e) (tPart te):=by
 intro pins s σ H Q I hw
 rw [evalPart_some]
 refine thn (h pins s σ H _ I hw) fun u s1 ⟨x,H1,I1,r1,q1⟩=>?_
 obtain ⟨i,rfl,q⟩:=q1
 obtain ⟨t,rfl⟩:=r1
 exact ⟨some i,H1,I1,.int i t,q⟩
def SlR (X:Cx) (r:V→Option Int→Option Int→Hp→VK→Prop):Prop :=
 ∀ (pins:List (Addr × Obj)) (s:Shared) (σ:St) (H:Hp) (x:V) (v vl vu:Value) (lo hi:Option Int) (sl:Addr) (Q:VK),Inv X pins σ H s→RelV x v→s.heap.IsSliceOf sl vl vu .none→IsPart vl lo→IsPart vu hi→r x lo hi H Q →
  ∃ T id,typeLookup (.type T) "__getitem__"=pure (some (.builtin id))∧s.TypeIs v T∧wpAny (model X.prog X.w) X.A (getItem v (.ref sl)) (EP X pins σ Q) X.xe s
def tSl (r:V→Option Int→Option Int→Hp→VK→Prop) (te:TE) (tl th:TO):TE:=fun σ H Q=>te σ H fun x H1=>tl σ H1 fun l H2=>th σ H2 fun u H3=>r x l u H3 Q
theorem pe_slice {r:V→Option Int→Option Int→Hp→VK→Prop} (hr:SlR X r) (he:PE X e te) (hl:PO X lo tl) (hu:PO X hi th):PE X (.Subscript e (.Slice lo hi none p2) pos) (tSl r te tl th):=by
 intro pins s σ H Q I h
 refine Subscript_ (thn (he pins s σ H _ I h) fun v s1 ⟨x,H1,I1,r1,q1⟩=>?_)
 refine wpAny_Slice (thn (hl pins s1 σ H1 _ I1 q1) fun vl s2 ⟨l,H2,I2,pl,q2⟩=>thn (hu pins s2 σ H2 _ I2 q2) fun vu s3 ⟨u,H3,I3,pu,q3⟩=>?_)
 rw [evalPart_none]
 refine wpAny_pure ?_
 have I4:Inv X pins σ H3 { s3 with heap:=s3.heap.push { cls:=.type "slice",data:=.fields #[vl,vu,.none] } }:=I3.kept (t':=s3.toks) fun b ob q=>Heap.get?_push_of_some _ q
 obtain ⟨T,id,hT,ht,hg⟩:=hr pins { s3 with heap:=s3.heap.push { cls:=.type "slice",data:=.fields #[vl,vu,.none] } } σ H3 x v vl vu l u s3.heap.objs.size Q I4 r1 (Heap.IsSliceOf.new ..) pl pu q3
 show wpAny (model X.prog X.w) X.A (subscriptTail e (.Slice lo hi none p2) v (.ref s3.heap.objs.size)) (EP X pins σ Q) X.xe { s3 with heap:=s3.heap.push { cls:=.type "slice",data:=.fields #[vl,vu,.none] } }
 exact tail_any (ops:=[.ref s3.heap.objs.size,v]) ht hT hg (by with_unfolding_all rfl)
def cutV (xs:List V) (lo hi:Option Int):List V:=(xs.drop (HT.sIx xs.length 0 lo)).take (HT.sIx xs.length xs.length hi - HT.sIx xs.length 0 lo)
theorem cutV_length (xs:List V) (lo hi:Option Int):(cutV xs lo hi).length≤xs.length:=by
 unfold cutV
 rw [List.length_take,List.length_drop]
 omega
def rSlT (K:PySem.W.Frag):V→Option Int→Option Int→Hp→VK→Prop:=fun x lo hi H Q=>∃ a xs,x=.ref a∧SqT K H a xs ∧
 ¬ (HT.sIx xs.length 0 lo=0∧HT.sIx xs.length xs.length hi=xs.length)∧∀ p,H p=none→Q (.ref p) (upd H p (.tup (cutV xs lo hi)))
theorem sl_tup:SlR X (rSlT X.K):=by
 intro pins s σ H x v vl vu lo hi sl Q I rx hs pl pu h
 obtain ⟨a,xs,rfl,hx,hw,q⟩:=h
 cases rx
 obtain ⟨its,r,ht,hz⟩:=I.tuple hx
 have hlen:its.toArray.size=xs.length:=by rw [List.size_toArray];exact r.length.symm
 refine ⟨"tuple",_,PyProof.Rows.slot_tuple_getitem.lookup,ht.typeIs,?_⟩
 refine HT.getItem_tuple_cut ht hs pl pu (by rw [hlen];exact hw) ?_ (by rw [hlen];exact hz)
 rw [hlen]
 refine ⟨.ref s.heap.objs.size,_,I.laid (t':=s.toks) (o:=.tup (cutV xs lo hi)) (fun b ob q=>Heap.get?_push_of_some _ q) (Nat.le_refl _) ?_,rfl,q _ (I.hok.fresh (Nat.le_refl _))⟩
 exact ⟨Nat.le_trans (cutV_length xs lo hi) hz,_,(r.drop (HT.sIx xs.length 0 lo)).take (HT.sIx xs.length xs.length hi - HT.sIx xs.length 0 lo),IsTup.new _ _⟩
end
end L2
namespace L2
open PySem PySem.Spec PyProof.Rows
def ixN (n:Nat) (i:Int):Option Nat:=if 0≤i then (if i < n then some i.toNat else none) else if -(n:Int)≤i then some (i + n).toNat else none
def atI {α:Type} (xs:List α) (i:Int):Option α:=(ixN xs.length i).bind fun j=>xs[j]?
theorem ixN_seq {n:Nat} {i:Int} {j:Nat} (h:ixN n i=some j):seqIndex? i n=some j∧j < n∧-(n:Int)≤i∧i < n:=by
 unfold ixN at h
 by_cases h0:0≤i
 ·rw [if_pos h0] at h
  by_cases h1:i < n
  ·rw [if_pos h1] at h
   have e:i.toNat=j:=Option.some.inj h
   exact ⟨by rw [seqIndex_of h0 h1,e],by omega,by omega,h1⟩
  ·rw [if_neg h1] at h;cases h
 ·rw [if_neg h0] at h
  by_cases h1:-(n:Int)≤i
  ·rw [if_pos h1] at h
   have e:(i + n).toNat=j:=Option.some.inj h
   exact ⟨by rw [seqIndex_neg (by omega) h1,e],by omega,h1,by omega⟩
  ·rw [if_neg h1] at h;cases h
theorem atI_get {α:Type} {xs:List α} {i:Int} {v:α} (h:atI xs i=some v):∃ j,seqIndex? i xs.length=some j∧xs[j]?=some v∧j < xs.length∧-(xs.length:Int)≤i∧i < xs.length:=by
 unfold atI at h
 cases e:ixN xs.length i with
 | none=>rw [e] at h;cases h
 | some j =>
  rw [e] at h
  obtain ⟨h1,h2,h3,h4⟩:=ixN_seq e
  exact ⟨j,h1,h,h2,h3,h4⟩
theorem atI_nat {α:Type} {xs:List α} {j:Nat} {v:α} (h:xs[j]?=some v):atI xs (j:Int)=some v:=by
 have hj:j < xs.length:=(List.getElem?_eq_some_iff.mp h).1
 have e:ixN xs.length (j:Int)=some j:=by
  unfold ixN
  rw [if_pos (by omega),if_pos (by omega)];simp
 unfold atI;rw [e];exact h
def PlainIx (b:Expr):Prop:=∀ o i,subscripted b false o i=operate [o,i] (getItem o i)
def IxR (X:Cx) (r:R2):Prop :=
 ∀ (value slice:Expr) (pins:List (Addr × Obj)) (s:Shared) (σ:St) (H:Hp) (x y:V) (v u:Value) (Q:VK),Inv X pins σ H s→RelV x v→RelV y u→r x y H Q →
  subscripted slice false v u=operate [v,u] (getItem v u)→wpAny (model X.prog X.w) X.A (subscriptTail value slice v u) (EP X pins σ Q) X.xe s
def MtR (X:Cx) (id:String) (r:V→List V→Hp→VK→Prop):Prop :=
 ∀ (pins:List (Addr × Obj)) (s:Shared) (σ:St) (H:Hp) (x:V) (xs:List V) (v:Value) (us:List Value) (Q:VK),Inv X pins σ H s→RelV x v→Vals xs us→r x xs H Q →
  wpAny (model X.prog X.w) X.A (call (.builtin id) (v :: us)) (EP X pins σ Q) X.xe s
section
variable {X:Cx} {a b:Expr} {ta tb:TE} {pos:Pos}
theorem IxR.or {r r':R2} (h:IxR X r) (h':IxR X r'):IxR X (fun x y H Q=>r x y H Q∨r' x y H Q):=by
 intro value slice pins s σ H x y v u Q I rx ry q hs
 rcases q with q | q
 ·exact h value slice pins s σ H x y v u Q I rx ry q hs
 ·exact h' value slice pins s σ H x y v u Q I rx ry q hs
theorem pe_ix {r:R2} (hr:IxR X r) (ha:PE X a ta) (hb:PE X b tb) (hs:PlainIx b):PE X (.Subscript a b pos) (tOp r ta tb):=by
 intro pins s σ H Q I h
 exact Subscript_ (binT ha hb I h fun v u s2 x y H2 I2 rx ry q=>hr a b pins s2 σ H2 x y v u Q I2 rx ry q (hs _ _))
def rIxL (K:PySem.W.Frag):R2:=fun x y H Q=>∃ p xs i v,x=.ref p∧y=.int i∧SqL K H p xs∧atI xs i=some v∧Q v H
def rIxT (K:PySem.W.Frag):R2:=fun x y H Q=>∃ p xs i v,x=.ref p∧y=.int i∧SqT K H p xs∧atI xs i=some v∧Q v H
def rIxS:R2:=fun x y H Q=>∃ z i c,x=.str z∧y=.int i∧z.length≤sizeLine∧atI z.cps.toList i=some c∧Q (.str ⟨#[c]⟩) H
theorem ix_list:IxR X (rIxL X.K):=by
 intro value slice pins s σ H x y v u Q I rx ry h hs
 obtain ⟨p,xs,i,z,rfl,rfl,hq,he,q⟩:=h
 cases rx
 obtain ⟨t,rfl⟩:=ry
 obtain ⟨its,r,pl,hz⟩:=I.list hq
 obtain ⟨j,h1,h2,h3,h4,h5⟩:=atI_get he
 obtain ⟨w,ew,rw'⟩:=r.get h2
 have hl:=r.length
 have hn:=line63
 have fin:EP X pins σ Q w s:=⟨z,H,I,rw',q⟩
 by_cases h0:0≤i
 ·have hj:i.toNat=j:=by
   rw [seqIndex_of h0 h5] at h1
   exact Option.some.inj h1
  exact item_listR pl.isList h0 (by omega) (by rw [hj];simpa using ew) fin hs
 ·have hj:(i + (its.toArray.size:Int)).toNat=j:=by
   rw [seqIndex_neg (by omega) h4] at h1
   rw [List.size_toArray,← hl]
   exact Option.some.inj h1
  exact subscriptTail_builtinR (x:=w) pl.isList.typeIs slot_list_getitem.lookup
   (wpAny_getItem_list_neg (Q:=fun r s'=>r=w∧EP X pins σ Q r s') pl.isList (by omega) (by rw [List.size_toArray] <;> omega) (by omega) (by rw [hj];simpa using ew) ⟨rfl,fin⟩) hs
theorem ix_tup:IxR X (rIxT X.K):=by
 intro value slice pins s σ H x y v u Q I rx ry h hs
 obtain ⟨p,xs,i,z,rfl,rfl,hq,he,q⟩:=h
 cases rx
 obtain ⟨t,rfl⟩:=ry
 obtain ⟨its,r,pl,hz⟩:=I.tuple hq
 obtain ⟨j,h1,h2,h3,h4,h5⟩:=atI_get he
 obtain ⟨w,ew,rw'⟩:=r.get h2
 have hl:=r.length
 have hn:=line63
 have fin:EP X pins σ Q w s:=⟨z,H,I,rw',q⟩
 exact subscriptTail_builtinR (x:=w) pl.typeIs slot_tuple_getitem.lookup
  (getItem_tuple (j:=j) (Q:=fun r s'=>r=w∧EP X pins σ Q r s') pl (by omega) (by omega) (by rw [List.size_toArray,← hl];exact h1) (by simpa using ew) ⟨rfl,fin⟩) hs
theorem ix_str:IxR X rIxS:=by
 intro value slice pins s σ H x y v u Q I rx ry h hs
 obtain ⟨z,i,c,rfl,rfl,hz,he,q⟩:=h
 obtain ⟨t,rfl⟩:=rx
 obtain ⟨t',rfl⟩:=ry
 obtain ⟨j,h1,h2,h3,h4,h5⟩:=atI_get he
 have hl:z.cps.toList.length=z.length:=by simp [Str.length]
 rw [hl] at h1 h4 h5
 have hn:=line63
 exact tail_any (typeIs_str s z t) slot_str_getitem.lookup (getItem_str (c:=c) (by
  have e1:decide (i < -(2 ^ 63:Int))=false:=decide_eq_false (by omega)
  have e2:decide (i ≥ 2 ^ 63)=false:=decide_eq_false (by omega)
  rw [e1,e2,Bool.or_false]) (by rw [h1];simpa using h2) ⟨.str ⟨#[c]⟩,H,I.tok _,⟨_,rfl⟩,q⟩) hs
theorem mapSeq_set (its:List Value) (n j:Nat) (u:Value):Obj.mapSeq (·.setIfInBounds j u) { cls:=.type "list",data:=.seq its.toArray n }={ cls:=.type "list",data:=.seq (its.set j u).toArray n }:=by
 simp [Obj.mapSeq]
theorem Inv.lst {pins:List (Addr × Obj)} {σ:St} {H:Hp} {s:Shared} {p:Addr} {xs:List V} (I:Inv X pins σ H s) (h:H p=some (.lst xs)) :
  ∃ (its:List Value) (n:Nat),Vals xs its∧s.heap.get? p=some { cls:=.type "list",data:=.seq its.toArray n }∧xs.length≤sizeLine:=by
 obtain ⟨z,its,n,r,e⟩:=I.hok p _ h
 exact ⟨its,n,r,e,z⟩
theorem Inv.lstUpd {pins:List (Addr × Obj)} {σ:St} {H:Hp} {s:Shared} {p:Addr} {xs ys:List V} {its its':List Value} {n n':Nat} {f:Obj→Obj} (I:Inv X pins σ H s) (h:H p=some (.lst xs))
  (ho:s.heap.get? p=some { cls:=.type "list",data:=.seq its.toArray n }) (hf:f { cls:=.type "list",data:=.seq its.toArray n }={ cls:=.type "list",data:=.seq its'.toArray n' }) (r:Vals ys its') (hz:ys.length≤sizeLine) (t:Nat) :
  Inv X pins σ (upd H p (.lst ys)) { s with heap:=s.heap.update p f,toks:=t }:=by
 have e:(s.heap.update p f).get? p=some { cls:=.type "list",data:=.seq its'.toArray n' }:=by
  rw [Heap.get?_update_self f ho (by rw [hf] <;> rfl),hf]
 refine I.write (x:=p) (e:=p) (by rw [h];trivial) (.inl rfl) (fun b u hb q=>(Heap.get?_update_other _ _ (Ne.symm hb)).trans q) ⟨_,e⟩ ?_
 exact ⟨hz,its',n',r,e⟩
def rSetL:V→V→V→Hp→(Hp→Prop)→Prop:=fun o i v H Q=>∃ p xs k j,o=.ref p∧i=.int k∧H p=some (.lst xs)∧ixN xs.length k=some j∧Q (upd H p (.lst (xs.set j v)))
theorem set_list:PSet X rSetL:=by
 intro pins s σ H o i v ov iv u Q I ro ri rv h
 obtain ⟨p,xs,k,j,rfl,rfl,hp,hj,q⟩:=h
 cases ro
 obtain ⟨t,rfl⟩:=ri
 obtain ⟨its,n,r,ho,hz⟩:=I.lst hp
 obtain ⟨h1,h2,h3,h4⟩:=ixN_seq hj
 have hl:=r.length
 have hn:=line63
 have I':Inv X pins σ (upd H p (.lst (xs.set j v))) { s with heap:=s.heap.update p (Obj.mapSeq (·.setIfInBounds j u)) } :=
  I.lstUpd hp ho (mapSeq_set its n j u) (r.set rv j) (by rw [List.length_set];exact hz) s.toks
 by_cases h0:0≤k
 ·have hk:k.toNat=j:=by
   rw [seqIndex_of h0 h4] at h1
   exact Option.some.inj h1
  exact PySem.W.ki_setAt ho h0 (by omega) (by rw [List.size_toArray,← hl];exact h4) (by rw [hk];exact ⟨_,I',q⟩)
 ·have hk:(k + (its.toArray.size:Int)).toNat=j:=by
   rw [seqIndex_neg (by omega) h3] at h1
   rw [List.size_toArray,← hl]
   exact Option.some.inj h1
  exact PySem.W.ki_setBack ho (by omega) (by rw [List.size_toArray,← hl];exact h3) (by omega) (by rw [hk];exact ⟨_,I',q⟩)
theorem slice_bounds (lo hi:Option Int) (n:Nat):(sliceBounds lo hi none n).1=((HT.sIx n 0 lo:Nat):Int)∧(sliceBounds lo hi none n).2.1=((HT.sIx n n hi:Nat):Int)∧(sliceBounds lo hi none n).2.2=1:=by
 refine ⟨?_,?_,rfl⟩
 ·cases lo with
  | none=>simp [sliceBounds,HT.sIx]
  | some i =>
   simp only [sliceBounds,HT.sIx,Option.getD_none,show (1:Int) > 0 by decide,if_true]
   by_cases h:i < 0
   ·simp only [h,if_true] <;> omega
   ·simp only [h,if_false] <;> omega
 ·cases hi with
  | none=>simp [sliceBounds,HT.sIx]
  | some i =>
   simp only [sliceBounds,HT.sIx,Option.getD_none,show (1:Int) > 0 by decide,if_true]
   by_cases h:i < 0
   ·simp only [h,if_true] <;> omega
   ·simp only [h,if_false] <;> omega
theorem slicePick_cut (its:List Value) (lo hi:Option Int):slicePick its.toArray lo hi none=((its.drop (HT.sIx its.length 0 lo)).take (HT.sIx its.length its.length hi - HT.sIx its.length 0 lo)).toArray:=by
 obtain ⟨h1,h2,h3⟩:=slice_bounds lo hi its.toArray.size
 unfold slicePick
 rw [h1,h2,h3]
 simp only [sliceRange_one,pick_run,List.size_toArray] <;> rfl
def rSlL (K:PySem.W.Frag):V→Option Int→Option Int→Hp→VK→Prop:=fun x lo hi H Q=>∃ a xs,x=.ref a∧SqL K H a xs∧∀ p,H p=none→Q (.ref p) (upd H p (.lst (cutV xs lo hi)))
theorem sl_list:SlR X (rSlL X.K):=by
 intro pins s σ H x v vl vu lo hi sl Q I rx hs pl pu h
 obtain ⟨a,xs,rfl,hx,q⟩:=h
 cases rx
 obtain ⟨its,r,ht,hz⟩:=I.list hx
 have hlen:=r.length
 refine ⟨"list",_,slot_list_getitem.lookup,ht.isList.typeIs,?_⟩
 refine wpAny_getItem_list_slice ht.isList hs pl pu .none (by simp) ?_ (by rw [List.size_toArray] <;> omega)
 rw [slicePick_cut,← hlen]
 refine ⟨.ref s.heap.objs.size,_,I.laid (t':=s.toks) (o:=.lst (cutV xs lo hi)) (fun b ob q=>Heap.get?_push_of_some _ q) (Nat.le_refl _) ?_,rfl,q _ (I.hok.fresh (Nat.le_refl _))⟩
 exact ⟨Nat.le_trans (cutV_length xs lo hi) hz,_,0,(r.drop (HT.sIx xs.length 0 lo)).take (HT.sIx xs.length xs.length hi - HT.sIx xs.length 0 lo),Heap.get?_push_size _ rfl⟩
def flatV:V→Bool
 | .non=>true
 | .bl _=>true
 | .int _=>true
 | .str _=>true
 | _=>false
def eqV:V→V→Bool
 | .non,.non=>true
 | .bl a,.bl b=>a == b
 | .bl a,.int b=>(if a then 1 else 0) == b
 | .int a,.bl b=>a == (if b then 1 else 0)
 | .int a,.int b=>a == b
 | .str a,.str b=>a == b
 | _,_=>false
theorem eqAt_V {A:Around} {s:Shared} {y x:V} {u v:Value} (ry:RelV y u) (rx:RelV x v) (fy:flatV y=true) (fx:flatV x=true):SeqAt.EqAt A s u v (eqV y x):=by
 cases y with
 | non =>
  cases ry
  cases x with
  | non=>cases rx;exact SeqAt.EqAt.same _
  | bl b=>cases rx;exact SeqAt.EqAt.none_bool b
  | int b=>obtain ⟨t,rfl⟩:=rx;exact SeqAt.EqAt.none_int b t
  | str b=>obtain ⟨t,rfl⟩:=rx;exact SeqAt.EqAt.none_str b t
  | _=>exact absurd (show false=true from fx) Bool.false_ne_true
 | bl a =>
  cases ry
  cases x with
  | non=>cases rx;exact SeqAt.EqAt.bool_none a
  | bl b=>cases rx;exact SeqAt.EqAt.bool_bool a b
  | int b=>obtain ⟨t,rfl⟩:=rx;exact SeqAt.EqAt.bool_int a b t
  | str b=>obtain ⟨t,rfl⟩:=rx;exact SeqAt.EqAt.bool_str a b t
  | _=>exact absurd (show false=true from fx) Bool.false_ne_true
 | int a =>
  obtain ⟨t',rfl⟩:=ry
  cases x with
  | non=>cases rx;exact SeqAt.EqAt.int_none a t'
  | bl b=>cases rx;exact SeqAt.EqAt.int_bool a t' b
  | int b=>obtain ⟨t,rfl⟩:=rx;exact SeqAt.EqAt.int_int a t' b t
  | str b=>obtain ⟨t,rfl⟩:=rx;exact SeqAt.EqAt.int_str a t' b t
  | _=>exact absurd (show false=true from fx) Bool.false_ne_true
 | str a =>
  obtain ⟨t',rfl⟩:=ry
  cases x with
  | non=>cases rx;exact SeqAt.EqAt.str_none a t'
  | bl b=>cases rx;exact SeqAt.EqAt.str_bool a t' b
  | int b=>obtain ⟨t,rfl⟩:=rx;exact SeqAt.EqAt.str_int a t' b t
  | str b=>obtain ⟨t,rfl⟩:=rx;exact SeqAt.EqAt.str_str a t' b t
  | _=>exact absurd (show false=true from fx) Bool.false_ne_true
 | _=>exact absurd (show false=true from fy) Bool.false_ne_true
def eqU (x:V) (u:Value):Bool:=match u with
 | .none=>eqV .non x
 | .bool b=>eqV (.bl b) x
 | .int i _=>eqV (.int i) x
 | .str z _=>eqV (.str z) x
 | _=>false
theorem eqU_of {x y:V} {u:Value} (r:RelV y u) (f:flatV y=true):eqU x u=eqV y x:=by
 cases y with
 | non=>cases r;rfl
 | bl b=>cases r;rfl
 | int i=>obtain ⟨t,rfl⟩:=r;rfl
 | str z=>obtain ⟨t,rfl⟩:=r;rfl
 | _=>exact absurd (show false=true from f) Bool.false_ne_true
theorem any_eqU {x:V}:∀ {xs:List V} {us:List Value},Vals xs us→xs.all flatV=true→us.any (eqU x)=xs.any fun y=>eqV y x
 | _,_,.nil,_=>rfl
 | y :: xs,u :: us,.cons r t,f=>by
  rw [List.all_cons,Bool.and_eq_true] at f
  rw [List.any_cons,List.any_cons,eqU_of r f.1,any_eqU t f.2]
theorem mem_eqAt {A:Around} {s:Shared} {x:V} {v:Value} (rx:RelV x v) (fx:flatV x=true):∀ {xs:List V} {us:List Value},Vals xs us→xs.all flatV=true→∀ u∈us,SeqAt.EqAt A s u v (eqU x u)
 | _,_,.nil,_=>fun u hu=>by cases hu
 | y :: xs,u :: us,.cons r t,f=>fun u' hu=>by
  rw [List.all_cons,Bool.and_eq_true] at f
  rcases List.mem_cons.mp hu with rfl | hu
  ·rw [eqU_of r f.1];exact eqAt_V r rx f.1 fx
  ·exact mem_eqAt rx fx t f.2 u' hu
def inV (x:V) (xs:List V):Bool:=xs.any fun y=>eqV y x
def rIn (K:PySem.W.Frag) (neg:Bool):R2:=fun x y H Q=>∃ p xs,y=.ref p∧(SqL K H p xs∨SqT K H p xs)∧flatV x=true∧xs.all flatV=true∧Q (.bl (if neg then !inV x xs else inV x xs)) H
theorem op_in_seq:OpR X (compareOp .In) (rIn X.K false):=by
 intro pins s σ H x y v u Q I rx ry h
 obtain ⟨p,xs,rfl,hq,fx,fs,q⟩:=h
 cases ry
 rcases hq with hq | hq
 ·obtain ⟨its,r,pl,hz⟩:=I.list hq
  refine SeqAt.in_listAt (eqU x) pl.isList (fun w hw=>mem_eqAt rx fx r fs w (by simpa using hw)) ⟨.bl _,H,I,rfl,?_⟩
  rw [show its.toArray.any (eqU x)=its.any (eqU x) by simp,any_eqU r fs]
  exact q
 ·obtain ⟨its,r,pl,hz⟩:=I.tuple hq
  refine SeqAt.in_tupleAt (eqU x) pl (fun w hw=>mem_eqAt rx fx r fs w (by simpa using hw)) ⟨.bl _,H,I,rfl,?_⟩
  rw [show its.toArray.any (eqU x)=its.any (eqU x) by simp,any_eqU r fs]
  exact q
theorem op_notIn_seq:OpR X (compareOp .NotIn) (rIn X.K true):=by
 intro pins s σ H x y v u Q I rx ry h
 obtain ⟨p,xs,rfl,hq,fx,fs,q⟩:=h
 cases ry
 rcases hq with hq | hq
 ·obtain ⟨its,r,pl,hz⟩:=I.list hq
  refine SeqAt.notIn_listAt (eqU x) pl.isList (fun w hw=>mem_eqAt rx fx r fs w (by simpa using hw)) ⟨.bl _,H,I,rfl,?_⟩
  rw [show its.toArray.any (eqU x)=its.any (eqU x) by simp,any_eqU r fs]
  exact q
 ·obtain ⟨its,r,pl,hz⟩:=I.tuple hq
  refine SeqAt.notIn_tupleAt (eqU x) pl (fun w hw=>mem_eqAt rx fx r fs w (by simpa using hw)) ⟨.bl _,H,I,rfl,?_⟩
  rw [show its.toArray.any (eqU x)=its.any (eqU x) by simp,any_eqU r fs]
  exact q
theorem call_len_seq:CallR X (.builtin "len") (fun xs H Q=>∃ p ys,xs=[.ref p]∧(SqL X.K H p ys∨SqT X.K H p ys)∧Q (.int ys.length) H):=by
 intro pins s σ H xs us Q I r h
 obtain ⟨p,ys,rfl,hq,q⟩:=h
 obtain ⟨u,rfl,rx⟩:=vals1 r
 cases rx
 have hn:=line63
 rcases hq with hq | hq
 ·obtain ⟨its,r',pl,hz⟩:=I.list hq
  have hlen:=r'.length
  exact Calls.call_len_list pl.isList (by simp only [List.size_toArray] <;> omega) ⟨.int ys.length,H,I.tok _,⟨s.toks + 1,by rw [List.size_toArray,hlen]⟩,q⟩
 ·obtain ⟨its,r',pl,hz⟩:=I.tuple hq
  have hlen:=r'.length
  exact len_tuple pl (by simp only [List.size_toArray] <;> omega) ⟨.int ys.length,H,I.tok _,⟨s.toks + 1,by rw [List.size_toArray,hlen]⟩,q⟩
theorem call_len_str:CallR X (.builtin "len") (fun xs H Q=>∃ z,xs=[.str z]∧z.length≤sizeLine∧Q (.int z.length) H):=by
 intro pins s σ H xs us Q I r h
 obtain ⟨z,rfl,hz,q⟩:=h
 obtain ⟨u,rfl,t,rfl⟩:=vals1 r
 have hn:=line63
 exact len_str (by omega) ⟨.int z.length,H,I.tok _,⟨_,rfl⟩,q⟩
theorem call_list_of:CallR X (.type "list") (fun xs H Q=>∃ p ys,xs=[.ref p]∧(SqL X.K H p ys∨SqT X.K H p ys)∧∀ l,H l=none→Q (.ref l) (upd H l (.lst ys))):=by
 intro pins s σ H xs us Q I r h
 obtain ⟨p,ys,rfl,hq,q⟩:=h
 obtain ⟨u,rfl,rx⟩:=vals1 r
 cases rx
 have fin:∀ (its:List Value),Vals ys its→ys.length≤sizeLine→∀ (h':Heap) (c':Nat),(∀ b o',s.heap.get? b=some o'→h'.get? b=some o') →
   h'.get? s.heap.objs.size=some { cls:=.type "list",dict:=none,data:=.seq its.toArray c',slots:=#[] }→EP X pins σ Q (.ref s.heap.objs.size) { s with heap:=h' }:=fun its r' hz h' c' kp e =>
  ⟨.ref s.heap.objs.size,_,I.laid (t':=s.toks) kp (Nat.le_refl _) (show ObjOk X.prog X.w _ h' _ (.lst ys) from ⟨hz,its,c',r',e⟩),rfl,q _ (I.hok.fresh (Nat.le_refl _))⟩
 rcases hq with hq | hq
 ·obtain ⟨its,r',pl,hz⟩:=I.list hq
  have hlen:=r'.length
  obtain ⟨o,ho,hc,n,hd⟩:=pl.isList
  exact call_list_seq p (.inl rfl) ho hc hd (fun h' c' kp e=>fin its r' hz h' c' kp e) (by simp only [List.size_toArray] <;> omega)
 ·obtain ⟨its,r',pl,hz⟩:=I.tuple hq
  have hlen:=r'.length
  obtain ⟨o,ho,hc,n,hd⟩:=pl
  exact call_list_seq p (.inr rfl) ho hc hd (fun h' c' kp e=>fin its r' hz h' c' kp e) (by simp only [List.size_toArray] <;> omega)
def tyV (K:PySem.W.Frag) (T:String) (x:V) (H:Hp):Prop:=match x with
 | .str _=>T="str"
 | .int _=>T="int"
 | .ref p=>(T="list"∧∃ xs,SqL K H p xs)∨(T="tuple"∧∃ o,K.lookup p=some o∧o.cls=.type "tuple"∧o.dict=none) ∨
   (T="dict"∧((∃ kvs,H p=some (.dK kvs))∨∃ kvs ep,H p=some (.dE kvs ep)))∨(T="set"∧∃ S n,H p=some (.set S n))
 | _=>False
theorem tyV_is {pins:List (Addr × Obj)} {σ:St} {H:Hp} {s:Shared} {T:String} {x:V} {v:Value} (I:Inv X pins σ H s) (r:RelV x v) (ty:tyV X.K T x H) :
  s.TypeIs v T∧∀ a,v=.ref a→∃ ob,s.heap.get? a=some ob∧ob.dict=none:=by
 cases x with
 | str z =>
  obtain ⟨t,rfl⟩:=r
  cases (show T="str" from ty)
  exact ⟨typeIs_str s z t,fun _ e=>nomatch e⟩
 | int i =>
  obtain ⟨t,rfl⟩:=r
  cases (show T="int" from ty)
  exact ⟨typeIs_int s i t,fun _ e=>nomatch e⟩
 | ref p =>
  cases r
  rcases ty with ⟨rfl,xs,hq⟩ | ⟨rfl,o,hk,hc,hd⟩ | ⟨rfl,hk⟩ | ⟨rfl,S,n,hk⟩
  ·obtain ⟨its,_,pl,_⟩:=I.list hq
   refine ⟨pl.isList.typeIs,fun a e=>?_⟩
   cases e
   obtain ⟨o,n,e,c,hd,_⟩:=pl
   exact ⟨o,e,hd⟩
  ·refine ⟨⟨o,I.kIn p o hk,hc⟩,fun a e=>?_⟩
   cases e
   exact ⟨o,I.kIn _ o hk,hd⟩
  ·have z:∃ o,s.heap.get? p=some o∧o.ExactDict:=by
    rcases hk with ⟨kvs,hk⟩ | ⟨kvs,ep,hk⟩
    ·obtain ⟨_,_,_,_,o,_,_,e,ex,_⟩:=I.hok p _ hk
     exact ⟨o,e,ex⟩
    ·obtain ⟨_,_,_,_,o,_,e,ex,_⟩:=I.hok p _ hk
     exact ⟨o,e,ex⟩
   obtain ⟨o,e,ex⟩:=z
   refine ⟨⟨o,e,ex.1⟩,fun a e2=>?_⟩
   cases e2
   exact ⟨o,e,ex.2.1⟩
  ·obtain ⟨o,_,_,_,e,ex,_⟩:=I.hok p _ hk
   refine ⟨⟨o,e,ex.1⟩,fun a e2=>?_⟩
   cases e2
   exact ⟨o,e,ex.2.1⟩
 | _=>exact False.elim ty
def tBM0 (K:PySem.W.Frag) (T:String) (r:V→List V→Hp→VK→Prop) (to:TE):TE:=fun σ H Q=>to σ H fun x H1=>tyV K T x H1∧r x [] H1 Q
def tBM (K:PySem.W.Frag) (T:String) (r:V→List V→Hp→VK→Prop) (to:TE) (t:TA):TE:=fun σ H Q=>to σ H fun x H1=>tyV K T x H1∧t σ H1 fun xs H2=>r x xs H2 Q
variable {o e:Expr} {es:List Expr} {to:TE} {t:TA} {name:Str} {apos cpos:Pos} {T id:String} {r:V→List V→Hp→VK→Prop}
theorem pe_bm0 (pa:PlainAttrs T) (slot:Slot T name id) (hty:typeOf (.builtin id)=pure (.type "method_descriptor")) (hm:MtR X id r) (ho:PE X o to)
  (hbase:attributeBase o name X.env (eval o X.env)=eval o X.env:=by rfl) (hline:(apos.endLine == cpos.line)=true:=by rfl):PE X (.Call (.Attribute o name apos) [] [] cpos) (tBM0 X.K T r to):=by
 intro pins s σ H Q I h
 refine wpAny_Call_method0_late hbase hline (thn (ho pins s σ H _ I h) fun v s1 ⟨x,H1,I1,r1,ty,q1⟩=>?_)
 obtain ⟨h1,h2⟩:=tyV_is I1 r1 ty
 exact ⟨T,id,pa,slot,hty,h1,h2,Calls.callWith_builtin rfl (PySem.evalArgs_none (hm pins s1 σ H1 x [] v [] Q I1 r1 .nil q1))⟩
theorem pe_bm (pa:PlainAttrs T) (slot:Slot T name id) (hty:typeOf (.builtin id)=pure (.type "method_descriptor")) (hm:MtR X id r) (ho:PE X o to) (ha:PA X (e :: es) t)
  (hbase:attributeBase o name X.env (eval o X.env)=eval o X.env:=by rfl)
  (hfew:((backTo cpos (starEach (e :: es) X.env)).all (fun x=>!x.1) && (backToKw cpos (keywordEach [] X.env)).all (fun x=>x.1.isSome)
   && decide ((e :: es).length + ([]:List Keyword).length + (if ([]:List Keyword).isEmpty then 0 else 1) < 30))=true:=by rfl)
  (hline:(apos.endLine == cpos.line)=true:=by rfl) (hs:starEach (e :: es) X.env=(false,eval e X.env) :: starEach es X.env:=by rfl) (hplain:(backTo cpos (starEach es X.env)).any (·.1)=false:=by rfl) :
  PE X (.Call (.Attribute o name apos) (e :: es) [] cpos) (tBM X.K T r to t):=by
 intro pins s σ H Q I h
 refine wpAny_Call_method_late hbase hfew hline rfl (thn (ho pins s σ H _ I h) fun v s1 ⟨x,H1,I1,r1,ty,q1⟩=>?_)
 obtain ⟨h1,h2⟩:=tyV_is I1 r1 ty
 refine ⟨T,id,pa,slot,hty,h1,h2,?_⟩
 have hA:=ha cpos pins s1 σ H1 _ I1 q1
 rw [hs] at hA ⊢
 refine Calls.callWith_builtin (by show (false || (backTo cpos (starEach es X.env)).any (·.1))=false;rw [hplain] <;> rfl) (Calls.evalArgs_plain ?_)
 exact thn hA fun us s2 ⟨vs,H2,I2,r2,q2⟩=>hm pins s2 σ H2 x vs v us Q I2 r1 r2 q2
end
end L2
namespace L2
open PySem PySem.Spec PyProof.Rows
def MtM (X:Cx) (id:String) (r:V→List V→Hp→VK→Prop):Prop :=
 ∀ (pins:List (Addr × Obj)) (s:Shared) (σ:St) (H:Hp) (x:V) (xs:List V) (v:Value) (us:List Value) (Q:VK),Inv X pins σ H s→RelV x v→Vals xs us→r x xs H Q →
  wpAny (model X.prog X.w) X.A (call (.builtin id) (v :: us)) (EP X pins σ Q) X.xe s
theorem Vals.one:∀ {x:V} {us:List Value},Vals [x] us→∃ u,us=[u]∧RelV x u
 | _,_,.cons r .nil=>⟨_,rfl,r⟩
theorem Vals.zero:∀ {us:List Value},Vals [] us→us=[]
 | _,.nil=>rfl
theorem Vals.dropLast {xs:List V} {us:List Value} (h:Vals xs us):Vals xs.dropLast us.dropLast:=by
 induction h with
 | nil=>exact .nil
 | cons r t ih =>
  cases t with
  | nil=>exact .nil
  | cons q t'=>exact .cons r ih
theorem Vals.eraseIdx:∀ {xs:List V} {us:List Value} (i:Nat),Vals xs us→Vals (xs.eraseIdx i) (us.eraseIdx i)
 | _,_,_,.nil=>.nil
 | _,_,0,.cons _ t=>t
 | _,_,i + 1,.cons r t=>.cons r (Vals.eraseIdx i t)
theorem Vals.reverse {xs:List V} {us:List Value} (h:Vals xs us):Vals xs.reverse us.reverse:=by
 induction h with
 | nil=>exact .nil
 | cons r t ih=>rw [List.reverse_cons,List.reverse_cons];exact Vals.append ih (.cons r .nil)
theorem Vals.rep {xs:List V} {us:List Value} (h:Vals xs us):∀ k:Nat,Vals (List.replicate k xs).flatten (List.replicate k us).flatten
 | 0=>.nil
 | k + 1=>by
  rw [List.replicate_succ,List.replicate_succ,List.flatten_cons,List.flatten_cons]
  exact Vals.append h (Vals.rep h k)
theorem erase_last {α:Type} (l:List α):l.eraseIdx (l.length - 1)=l.dropLast:=by
 induction l with
 | nil=>rfl
 | cons a r ih =>
  cases r with
  | nil=>rfl
  | cons b r =>
   have e:(a :: b :: r).length - 1=((b :: r).length - 1) + 1:=by
    have h1:(a :: b :: r).length=r.length + 2:=rfl
    have h2:(b :: r).length=r.length + 1:=rfl
    omega
   rw [e,List.eraseIdx_cons_succ,ih]
   all_goals rfl
section
variable {X:Cx} {pins:List (Addr × Obj)} {σ:St} {H:Hp} {s:Shared} {l b:Addr} {xs ys zs:List V}
theorem Inv.lset {its its':List Value} {n:Nat} {f:Array Value→Array Value} {t':Nat} (I:Inv X pins σ H s) (hH:H l=some (.lst xs))
  (e:s.heap.get? l=some { cls:=.type "list",data:=.seq its.toArray n }) (hf:f its.toArray=its'.toArray) (hv:Vals ys its') (hz:ys.length≤sizeLine) :
  Inv X pins σ (upd H l (.lst ys)) { s with heap:=s.heap.update l (Obj.mapSeq f),toks:=t' }:=by
 have q:=PySem.IsL.update e f
 rw [hf] at q
 refine I.write (x:=l) (e:=l) (by rw [hH];exact trivial) (.inl rfl) (fun b' u hb hu=>(Heap.get?_update_other s.heap (Obj.mapSeq f) (Ne.symm hb)).trans hu) ⟨_,q⟩ ?_
 exact ⟨hz,its',_,hv,q⟩
theorem Inv.fresh (I:Inv X pins σ H s):H s.heap.objs.size=none:=I.hok.fresh (Nat.le_refl _)
theorem Inv.lstM (I:Inv X pins σ H s) (hH:H l=some (.lst xs)):xs.length≤sizeLine∧∃ (its:List Value) (n:Nat),Vals xs its∧xs.length=its.length∧s.heap.get? l=some { cls:=.type "list",data:=.seq its.toArray n }:=by
 obtain ⟨z,its,n,r,e⟩:=I.hok l _ hH
 exact ⟨z,its,n,r,r.length,e⟩
end
section
variable {X:Cx}
def rAppend:V→List V→Hp→VK→Prop:=fun x vs H Q=>∃ l xs y,x=.ref l∧vs=[y]∧H l=some (.lst xs)∧xs.length < sizeLine∧Q .non (upd H l (.lst (xs ++ [y])))
theorem mt_append:MtM X "list.append" rAppend:=by
 intro pins s σ H x vs v us Q I rx rv h
 obtain ⟨l,xs,y,rfl,rfl,hH,hz,q⟩:=h
 cases rx
 obtain ⟨u,rfl,ru⟩:=rv.one
 obtain ⟨z,its,n,r,hl,e⟩:=I.lstM hH
 refine call_meets F.slot_list_append ⟨_,e,rfl⟩ F.entry_list_append (F.args_list_append_2 _ _) (PySem.list_append l its.toArray n u (by rw [List.size_toArray];omega)) ⟨e,?_⟩
 refine ⟨.non,_,I.lset (its':=its ++ [u]) hH e (by simp) (r.append (.cons ru .nil)) ?_,rfl,q⟩
 rw [List.length_append,List.length_singleton]
 omega
def rPop:V→List V→Hp→VK→Prop:=fun x vs H Q=>∃ l xs y,x=.ref l∧vs=[]∧H l=some (.lst xs)∧xs[xs.length - 1]?=some y∧Q y (upd H l (.lst xs.dropLast))
theorem mt_pop:MtM X "list.pop" rPop:=by
 intro pins s σ H x vs v us Q I rx rv h
 obtain ⟨l,xs,y,rfl,rfl,hH,hy,q⟩:=h
 cases rx
 have hus:=rv.zero
 subst hus
 obtain ⟨z,its,n,r,hl,e⟩:=I.lstM hH
 obtain ⟨u,hu,ru⟩:=r.get hy
 have hy':its.toArray[its.toArray.size - 1]?=some u:=by
  show its.toArray[its.length - 1]?=some u
  rw [← Array.getElem?_toList,← hl]
  exact hu
 refine call_meets F.slot_list_pop ⟨_,e,rfl⟩ F.entry_list_pop (F.args_list_pop_1 _) (MeetsSeq.list_pop_last l its.toArray n u hy' (by rw [List.size_toArray];omega)) ⟨e,?_⟩
 refine ⟨y,_,I.lset (its':=its.dropLast) hH e ?_ r.dropLast ?_,ru,q⟩
 ·show its.toArray.eraseIdxIfInBounds (its.toArray.size - 1)=its.dropLast.toArray
  rw [List.size_toArray,List.eraseIdxIfInBounds_toArray,erase_last]
 ·rw [List.length_dropLast]
  omega
end
section
variable {prog:Program} {w:World} {A:Around} {E:Value→Shared→Prop} {s:Shared}
end
section
variable {X:Cx}
end
end L2
namespace Att
open PySem PySem.W PySem.Calls PyProof.Rows
theorem ints_of_wellAll {P:Params} {h:Heap}:∀ (ns:List Int) (vs:List Value),WellAll P h vs (ns.map WData.int)→IntsAre vs ns:=by
 intro ns
 induction ns with
 | nil =>
  intro vs w
  rw [List.map_nil] at w
  cases w
  exact .nil
 | cons n ns ih =>
  intro vs w
  rw [List.map_cons] at w
  cases w with
  | cons a b =>
   cases a
   exact .cons _ _ (ih _ b)
theorem script_of {l:OpenLaw} {n:Nat} (hn:l.most=some n) {P:Params} {h:Heap} {args:List WData} {vals:List Value}
  (hpre:l.row.toRowW.claim.pre args=true) (hwl:WellAll P h vals args) :
  ∃ a vs ns,vals=[Value.ref a]∧args=[WData.list (ns.map WData.int)]∧h.get? a=some { cls:=.type "list",data:=.seq vs.toArray }∧IntsAre vs ns∧ns.length≤n:=by
 have hsh:WShape.hasAll [] args [.list .int]=true:=(pre_splitW hpre).1
 have hc:l.pre.holds [] { args:=args }=true:=(pre_splitW hpre).2
 obtain ⟨d,r,rfl,h1,h2⟩:=hasAllW_cons hsh
 obtain rfl:=hasAllW_nil h2
 obtain ⟨xs,rfl,h3⟩:=hasW_list h1
 obtain ⟨ns,rfl⟩:=items_int h3
 have hlen:ns.length≤n:=by
  unfold OpenLaw.pre at hc
  have h4:(WTm.not (.lt (.lit (.int (n:Int))) (.len (.arg 0)))).holds [] { args:=[.list (ns.map .int)] }=true:=by
   have h4:=(holds_andW hc).1
   rw [hn] at h4
   exact h4
  have h5:=condW_of h4 (w_not (w_lt w_lit (w_len_list (w_arg rfl))))
  rw [List.length_map] at h5
  refine Nat.le_of_not_lt fun q=>?_
  have q':(n:Int) < ((ns.length:Nat):Int):=by omega
  first
   | (rw [decide_eq_true q'] at h5;exact absurd h5 (by decide))
   | (simp at h5;omega)
 cases hwl with
 | cons w1 w2 =>
  cases w2
  cases w1 with
  | list ho hall=>exact ⟨_,_,ns,rfl,rfl,ho,ints_of_wellAll ns _ hall,hlen⟩
theorem post_true (l:OpenLaw) (args:List WData):l.row.toRowW.claim.post args (.bool true) args=true :=
 postW_of (r:=l.row.toRowW) (X:=(true == true))
  (show WShape.has [] (.bool true) .bool=true by first | rfl | decide | simp [WShape.has,WShape.arms,WShape.armsAll])
  (show (WTm.eq .res (.lit (.bool true))).value [] { args:=args,res:=some (.bool true),after:=args }=some (.bool (true == true)) from w_eq_bool (w_res rfl) w_lit) rfl
theorem attach_call {l:OpenLaw} {n:Nat} {q:Program} {loose:List Str} {XP:(Str→Option Value)→Heap→Prop} {YP:World→Heap→Prop} {d:DefRec}
  (hn:l.most=some n) (hdf:d.params.defaults=[])
  (call:∀ (w:World) (s₀ s₁:Shared) (mg mb:Str→Option Value) (fa:Addr) (o:Obj) (pm cd doc:Value) (a:Addr) (vs:List Value) (ns:List Int),
   Ground q loose [] XP w s₀ mg mb s₁.heap→YP w s₁.heap →
   s₁.heap.get? fa=some o→o.data=.func (docDef d.name d.params d.body d.scope pm cd doc)→s₁.heap.CodeRec cd d.name→mg d.name=some (.ref fa) →
   s₁.heap.get? a=some { cls:=.type "list",data:=.seq vs.toArray }→IntsAre vs ns→ns.length≤n→s₁.gens=#[] →
   codeAny (model l.prog w) callerA (.call (.ref fa) ⟨[.ref a],[]⟩) (fun r s'=>r=.ok (.ret (.bool true))∧OldK s₁.heap s'.heap∧s'.os=s₁.os∧AllBare s'.gens) s₁) :
  WalkO q loose XP YP l.row.toRowW d [] (fun f vs=>PySem.call f vs):=by
 intro w s₀ s₁ mg mb G Y fa o pm cd doc dV kV ho hd hcd hD hmg hg args vals as hpre hlay hrd hwl hlo
 obtain rfl:dV=.none:=Dflts.none hD hdf
 obtain rfl:kV=.none:=Dflts.noKw hD
 obtain ⟨a,vs,ns,rfl,rfl,hobj,hints,hlen⟩:=script_of hn hpre hwl
 refine enter_call (codeAny_mono (call w s₀ s₁ mg mb fa o pm cd doc a vs ns G Y ho (fd_plain hd) hcd hmg hobj hints hlen hg) fun r s' hq=>?_)
 obtain ⟨rfl,h2,h3,h4⟩:=hq
 exact ⟨.inl ⟨.bool true,.bool true,[],rfl,fun _=>rfl,.bool true,post_true l _,fun _=>⟨List.Pairwise.nil,fun _ hm=>(nomatch hm)⟩⟩,h2,h3,h4⟩
section
variable {prog:Program} {w:World} {A:Around} {E:Value→Shared→Prop} {s:Shared} {K:Frag}
end
end Att
namespace L2
open PySem PySem.Spec PyProof.Rows
theorem vals_ints:∀ {vs:List Value} {ns:List Int},IntsAre vs ns→Vals (ns.map V.int) vs
 | _,_,.nil=>.nil
 | _,_,.cons n t h=>.cons ⟨t,rfl⟩ (vals_ints h)
end L2
namespace L2
open PySem PySem.Spec PyProof.Rows
abbrev KOf {K:PySem.W.Frag} {h:Heap} (_:K.In h):PySem.W.Frag:=K
end L2
namespace L2
open PySem PySem.Spec PyProof.Rows
def inClass (s:Stmt) (j:Nat):Stmt:=match s with
 | .ClassDef _ _ _ body _ _ _ _ _ _ _=>body.getD j (.Pass ⟨0,0,0,0⟩)
 | _=>.Pass ⟨0,0,0,0⟩
def defArgs (s:Stmt):Arguments:=match s with
 | .FunctionDef _ a _ _ _ _ _ _ _ _=>a
 | _=>{ posonlyargs:=[],args:=[],vararg:=none,kwonlyargs:=[],kw_defaults:=[],kwarg:=none,defaults:=[] }
def defBody (s:Stmt):List Stmt:=match s with
 | .FunctionDef _ _ b _ _ _ _ _ _ _=>b
 | _=>[]
def defScope (s:Stmt):Scope:=match s with
 | .FunctionDef _ _ _ _ _ _ sc _ _ _=>sc
 | _=>{ kind:=.function,names:=[],isGenerator:=false,isCoroutine:=false }
abbrev CX0:CXT:=fun _ _ _ _ _ _=>False
abbrev E0:XK:=fun _ _ _=>False
theorem pass0 {X:Cx}:Passes CX0 X E0:=fun _ _ _ _ _ _ _ h=>h.elim
structure Fun (K:PySem.W.Frag) (x qual:Str) (st:Stmt) (f:Addr) (fd:FuncData):Prop where
 ex:∃ (oc:Value) (od:Option Addr) (kV doc pm:Value) (an:Option Addr) (cdv ct:Value) (osl:Array (Option Value)),
  fd=PySem.W.fnOf x qual (defArgs st) (defBody st) (defScope st) .none kV doc pm an cdv ct∧K.lookup f=some ⟨oc,od,.func fd,osl⟩∧PySem.W.codeIn K cdv qual=true
 kp:PySem.W.keepIn K (.ref f)=true
section
variable {P:Program} {w:World} {K:PySem.W.Frag} {mg:Str→Option Value} {base:Heap}
theorem Fun.ok {x qual:Str} {st:Stmt} {f:Addr} {fd:FuncData} {N ps:List Str} {k:Nat} {sp:Sp} (F:Fun K x qual st f fd) (S:FnScope N ps (defScope st)) (len:∀ vs H Q E,sp vs H Q E→vs.length=ps.length)
  (hbody:∀ (cdv:Value) (A:Around) (outer:List Env) (s:Shared) (H:Hp) (vs:List V) (Q:VK) (E:XK),Room k (A.deeper (envOfC qual (defScope st) s.heap.objs.size f cdv))→sp vs H Q E →
   ∃ t,PSs (cxOf CX0 P w K mg base N qual (defScope st) f cdv A outer s H E).nox (defBody st) t∧t { nx:=fun _ H'=>Q .non H',rt:=Q } (start N vs) H):FnOk P w K mg base CX0 (k + 1) f fd ps sp:=by
 obtain ⟨oc,od,kV,doc,pm,an,cdv,ct,osl,rfl,lk,hcd⟩:=F.ex
 refine fn_of lk hcd S len fun A outer s H vs Q E hr hsp=>?_
 obtain ⟨t,h,q⟩:=hbody cdv A outer s H vs Q E hr hsp
 exact ⟨t,h.nox,q⟩
theorem Fun.binds {x qual:Str} {st:Stmt} {f:Addr} {fd:FuncData} {ps:List Str} (F:Fun K x qual st f fd)
  (h:∀ (kV doc pm:Value) (an:Option Addr) (cdv ct:Value) (us:List Value),us.length=ps.length→bindArgs (PySem.W.fnOf x qual (defArgs st) (defBody st) (defScope st) .none kV doc pm an cdv ct) ⟨us,[]⟩=pure (ps.zip us)):Binds K fd ps []:=by
 obtain ⟨oc,od,kV,doc,pm,an,cdv,ct,osl,rfl,lk,hcd⟩:=F.ex
 exact .all (h kV doc pm an cdv ct)
theorem fun_mk {x qual:Str} {st:Stmt} {f:Addr} {oc:Value} {od an:Option Addr} {osl:Array (Option Value)} {kV doc pm cdv ct:Value} (l:K.lookup f=some ⟨oc,od,.func (PySem.W.fnOf x qual (defArgs st) (defBody st) (defScope st) .none kV doc pm an cdv ct),osl⟩)
  (c:PySem.W.codeIn K cdv qual=true) (k:PySem.W.keepIn K (.ref f)=true):Fun K x qual st f (PySem.W.fnOf x qual (defArgs st) (defBody st) (defScope st) .none kV doc pm an cdv ct):=⟨⟨oc,od,kV,doc,pm,an,cdv,ct,osl,rfl,l,c⟩,k⟩
end
theorem small1000 {n:Nat} (h:n≤1000):n < sizeLine:=Nat.lt_of_le_of_lt h (by decide)
section
variable {X:Cx}
theorem pv (i:Nat) {x:Str} {pos:Pos} (hN:X.N[i]?=some x:=by rfl) (hv:Vis X.env.scope x:=by first | exact Or.inl rfl | exact Or.inr (Or.inl rfl) | exact Or.inr (Or.inr rfl)) (hd:(x == ("__debug__":Str))=false:=by decide)
  (hcd:(x == ("__classdict__":Str))=false:=by decide):PE X (.Name x pos) (tVar i):=pe_var hN hv hd hcd
end
theorem ite2 {c A B:Prop} [Decidable c] (h1:c→A) (h2:¬ c→B):if c then A else B:=by
 by_cases h:c
 ·rw [if_pos h]
  exact h1 h
 ·rw [if_neg h]
  exact h2 h
def Same (H H':Hp):Prop:=∀ b o,H b=some o→H' b=some o
theorem Same.refl (H:Hp):Same H H:=fun _ _ h=>h
theorem Same.trans {H H1 H2:Hp} (a:Same H H1) (b:Same H1 H2):Same H H2:=fun c o h=>b c o (a c o h)
theorem Same.free {H H':Hp} (e:Same H H') {l:Addr} (h:H' l=Option.none):H l=Option.none:=by
 cases q:H l with
 | none=>rfl
 | some o =>
  rw [e l o q] at h
  cases h
theorem Same.seq {K:PySem.W.Frag} {H H':Hp} {a:Addr} {xs:List V} (e:Same H H') (h:SqL K H a xs):SqL K H' a xs:=by
 rcases h with (h | ⟨o,h⟩) | h
 ·exact .inl (.inl (e _ _ h))
 ·exact .inl (.inr ⟨o,e _ _ h⟩)
 ·exact .inr h
end L2
namespace Ov
theorem gcd_step {a b:Int} (h:b≠0):Int.gcd b (a % b)=Int.gcd a b:=by
 have e:a=b * (a / b) + a % b:=(Int.mul_ediv_add_emod a b).symm
 have d1:((Int.gcd b (a % b):Nat):Int) ∣ a:=by
  rw [e]
  exact Int.dvd_add (Int.dvd_trans (Int.gcd_dvd_left ..) (Int.dvd_mul_right ..)) (by rw [← e];exact Int.gcd_dvd_right ..)
 have d2:((Int.gcd a b:Nat):Int) ∣ a % b:=by
  have e2:a % b=a - b * (a / b):=by omega
  rw [e2]
  exact Int.dvd_sub (Int.gcd_dvd_left ..) (Int.dvd_trans (Int.gcd_dvd_right ..) (Int.dvd_mul_right ..))
 exact Nat.dvd_antisymm (Int.dvd_gcd d1 (Int.gcd_dvd_left ..)) (Int.dvd_gcd (Int.gcd_dvd_right ..) d2)
theorem gcd_end {a:Int} (h:0≤a):((Int.gcd a 0:Nat):Int)=a:=by
 rw [Int.gcd_zero_right];omega
theorem gcd_abs (a b:Int):Int.gcd (if a < 0 then -a else a) (if b < 0 then -b else b)=Int.gcd a b:=by
 split <;> split <;> simp [Int.gcd_neg,Int.neg_gcd]
theorem gcd_abs1 (a b:Int):Int.gcd (if a < 0 then -a else a) b=Int.gcd a b:=by
 split <;> simp [Int.gcd_neg,Int.neg_gcd]
theorem gcd_pos {t b:Int} (h:b≠0):0 < ((Int.gcd t b:Nat):Int):=by
 have:0 < Int.gcd t b:=Int.gcd_pos_of_ne_zero_right t h
 omega
theorem gcd_le {t b:Int} (h:b≠0):Int.gcd t b≤b.natAbs:=Nat.le_of_dvd (by omega) (Int.ofNat_dvd.mp (by rw [Int.dvd_natAbs];exact Int.gcd_dvd_right ..))
theorem num_pos {t b:Int} (h:0 < b):t.fdiv ((Int.gcd t b:Nat):Int)=(Rat.divInt t b).num:=by
 rw [Rat.num_divInt,Int.sign_eq_one_of_pos h,Int.one_mul,Int.gcd_comm b t,Int.fdiv_eq_ediv_of_nonneg _ (Int.natCast_nonneg _)]
theorem den_pos {t b:Int} (h:0 < b):b.fdiv ((Int.gcd t b:Nat):Int)=((Rat.divInt t b).den:Int):=by
 rw [Rat.den_divInt,if_neg (by omega),Int.gcd_comm b t,Int.fdiv_eq_ediv_of_nonneg _ (Int.natCast_nonneg _)]
 rw [Int.natCast_ediv]
 congr 1
 omega
theorem num_neg {t b:Int} (h:b < 0):t.fdiv (-((Int.gcd t b:Nat):Int))=(Rat.divInt t b).num:=by
 have e:t.fdiv (-((Int.gcd t b:Nat):Int))=(-t).fdiv ((Int.gcd t b:Nat):Int):=by
  have:=Int.neg_fdiv_neg (a:=-t) (b:=((Int.gcd t b:Nat):Int))
  rw [← this];simp
 rw [e,Rat.num_divInt,Int.sign_eq_neg_one_of_neg h,Int.gcd_comm b t,Int.fdiv_eq_ediv_of_nonneg _ (Int.natCast_nonneg _)]
 congr 1
 omega
theorem den_neg {t b:Int} (h:b < 0):b.fdiv (-((Int.gcd t b:Nat):Int))=((Rat.divInt t b).den:Int):=by
 have e:b.fdiv (-((Int.gcd t b:Nat):Int))=(-b).fdiv ((Int.gcd t b:Nat):Int):=by
  have:=Int.neg_fdiv_neg (a:=-b) (b:=((Int.gcd t b:Nat):Int))
  rw [← this];simp
 rw [e,Rat.den_divInt,if_neg (by omega),Int.gcd_comm b t,Int.fdiv_eq_ediv_of_nonneg _ (Int.natCast_nonneg _)]
 rw [Int.natCast_ediv]
 congr 1
 omega
theorem num_abs (t b:Int):(Rat.divInt t b).num.natAbs≤t.natAbs:=by
 rcases Int.lt_trichotomy b 0 with h | h | h
 ·rw [← num_neg h]
  exact Int.natAbs_fdiv_le_natAbs ..
 ·subst h;simp
 ·rw [← num_pos h,Int.fdiv_eq_ediv_of_nonneg _ (Int.natCast_nonneg _)]
  exact Int.natAbs_ediv_le_natAbs ..
theorem den_abs {t b:Int} (h:b≠0):(((Rat.divInt t b).den:Int)).natAbs≤b.natAbs:=by
 rw [Rat.den_divInt,if_neg h]
 exact Nat.div_le_self ..
theorem self_eq (p:Rat):Rat.divInt p.num p.den=p:=Rat.num_divInt_den p
theorem den_ne (p:Rat):(p.den:Int)≠0:=by have:=p.den_pos;omega
theorem den_gt (p:Rat):(0:Int) < p.den:=by have:=p.den_pos;omega
theorem add_eq (p q:Rat):Rat.divInt (p.num * q.den + q.num * p.den) (p.den * q.den)=p + q:=by
 rw [← Rat.divInt_add_divInt _ _ (den_ne p) (den_ne q),self_eq,self_eq]
theorem sub_eq (p q:Rat):Rat.divInt (p.num * q.den - q.num * p.den) (p.den * q.den)=p - q:=by
 rw [← Rat.divInt_sub_divInt _ _ (den_ne p) (den_ne q),self_eq,self_eq]
theorem mul_eq (p:Rat) (m:Int):Rat.divInt (p.num * m) p.den=p * m:=by
 have:=Rat.divInt_mul_divInt p.num m (d₁:=p.den) (d₂:=1)
 rw [self_eq,Int.mul_one] at this
 rw [← this,Rat.divInt_eq_div]
 congr 1
 grind
theorem cast_eq (p:Rat):(p.num:Rat)=p * (p.den:Int):=by
 have h:((p.den:Int):Rat)≠0:=by
  intro e
  exact den_ne p (by exact_mod_cast e)
 have e:=self_eq p
 rw [Rat.divInt_eq_div] at e
 grind
theorem den_cast (p:Rat):((p.den:Int):Rat)≠0:=fun e=>den_ne p (by exact_mod_cast e)
theorem at_eq (b p m:Rat) (v:Int):Rat.divInt (p.num * (m.den * b.den) + v * (m.num * b.den - b.num * m.den) * p.den) (p.den * (m.den * b.den))=p + (m - b) * v:=by
 have h:=den_cast p
 have g:=den_cast b
 have k:=den_cast m
 simp only [Rat.divInt_eq_div,Rat.intCast_add,Rat.intCast_sub,Rat.intCast_mul,cast_eq p,cast_eq b,cast_eq m]
 generalize ((p.den:Int):Rat)=d at h ⊢
 generalize ((b.den:Int):Rat)=e at g ⊢
 generalize ((m.den:Int):Rat)=f at k ⊢
 generalize (v:Rat)=v
 grind
theorem int_cast_ne {n:Int} (h:n≠0):(n:Rat)≠0:=fun e=>h (by exact_mod_cast e)
theorem quo_eq (g:Rat) (n:Int) (h:n≠0):Rat.divInt g.num (g.den * n)=g / n:=by
 have k:=den_cast g
 have l:=int_cast_ne h
 simp only [Rat.divInt_eq_div,Rat.intCast_mul,cast_eq g]
 generalize ((g.den:Int):Rat)=d at k ⊢
 generalize (n:Rat)=n at l ⊢
 grind
end Ov
namespace Ov
open PySem PySem.Spec PyProof.Rows L2
structure Bd (n:Nat) (x:Int):Prop where
 lt:x.natAbs < 2 ^ n
theorem Bd.bits {n:Nat} {x:Int} (h:Bd n x):Builtin.Int.intBits x≤n:=intBits_le_iff.mpr h.lt
theorem Bd.of {n:Nat} {x:Int} (h:Builtin.Int.intBits x≤n):Bd n x:=⟨intBits_le_iff.mp h⟩
theorem Bd.mono {m n:Nat} {x:Int} (h:Bd m x) (hmn:m≤n):Bd n x:=.of (Nat.le_trans h.bits hmn)
theorem Bd.neg {n:Nat} {x:Int} (h:Bd n x):Bd n (-x):=.of (intBits_neg_le h.bits)
theorem Bd.add {m n k:Nat} {x y:Int} (h:Bd m x) (g:Bd n y) (hk:max m n + 1≤k:=by decide):Bd k (x + y):=(Bd.of (intBits_add_le h.bits g.bits)).mono hk
theorem Bd.sub {m n k:Nat} {x y:Int} (h:Bd m x) (g:Bd n y) (hk:max m n + 1≤k:=by decide):Bd k (x - y):=(Bd.of (intBits_sub_le h.bits g.bits)).mono hk
theorem Bd.mul {m n k:Nat} {x y:Int} (h:Bd m x) (g:Bd n y) (hk:m + n≤k:=by decide):Bd k (x * y):=(Bd.of (intBits_mul_le h.bits g.bits)).mono hk
theorem Bd.le {n:Nat} {x y:Int} (g:Bd n y) (h:x.natAbs≤y.natAbs):Bd n x:=⟨Nat.lt_of_le_of_lt h g.lt⟩
theorem Bd.small {x:Int} (h1:-(2 ^ 64) < x) (h2:x < 2 ^ 64):Bd 64 x:=.of (intBits_le_64 h1 h2)
theorem Bd.log {n:Nat} {x:Int} (h:Bd n x) (hn:n≤9000) (h0:x≠0):x.natAbs.log2 < 9000 :=
 Nat.lt_of_lt_of_le ((Nat.log2_lt (by omega)).mpr h.lt) hn
section
variable {X:Cx}
def CM (i j:Int):Prop:=∃ m n,Bd m i∧Bd n j∧m + n≤134217728
theorem CM.of {m n:Nat} {i j:Int} (h:Bd m i) (g:Bd n j) (hk:m + n≤134217728:=by decide):CM i j:=⟨m,n,h,g,hk⟩
theorem op_mulB:OpR X (binaryOp .Mult) (rI CM fun i j=>.int (i * j)):=opI fun _ _ _ _ _ _ _ hc q=>by
 obtain ⟨m,n,h,g,hk⟩:=hc
 exact mul_int q (IntMulOk.of_le h.bits g.bits hk)
def CQ (_ j:Int):Prop:=j≠0∧Bd 9000 j
theorem op_fdivB:OpR X (binaryOp .FloorDiv) (rI CQ fun i j=>.int (i.fdiv j)):=opI fun _ _ _ _ _ _ _ hc q =>
 floordiv_int hc.1 q (.inl (PyProof.noPylong_of_log2 (hc.2.log (Nat.le_refl _) hc.1)))
def rT2 (f:Bool→Bool):R2:=fun x y H Q=>∃ (p q:Addr) (a b c d:Int),x=.ref p∧y=.ref q∧H p=some (.tup [.int a,.int b])∧H q=some (.tup [.int c,.int d])∧Q (.bl (f (decide (a=c∧b=d)))) H
def tCut (t u:TS):TS:=fun D σ H=>∃ M:L2.St→Hp→Prop,t { D with nx:=M } σ H∧∀ σ' H',M σ' H'→u D σ' H'
theorem pss_cut {st:Stmt} {rest:List Stmt} {t u:TS} (h1:PS X st t) (h2:PSs X rest u):PSs X (st :: rest) (tCut t u):=by
 intro pins s σ H D I h
 obtain ⟨M,h,k⟩:=h
 refine wpAny_execs_cons (thn (h1 pins s σ H { D with nx:=M } I h) fun f s1 q=>?_)
 cases f with
 | next =>
  obtain ⟨σ',H',I',q⟩:=q
  exact h2 pins s1 σ' H' D I' (k _ _ q)
 | ret v=>exact q
 | brk=>exact q
 | cont=>exact q
end
section
variable {X:Cx}
def rIxLH:R2:=fun x y H Q=>∃ p xs i v,x=.ref p∧y=.int i∧H p=some (.lst xs)∧atI xs i=some v∧Q v H
def rIxTH:R2:=fun x y H Q=>∃ p xs i v,x=.ref p∧y=.int i∧H p=some (.tup xs)∧atI xs i=some v∧Q v H
theorem ix_listH:IxR X rIxLH:=fun value slice pins s σ H x y v u Q I rx ry ⟨p,xs,i,z,e1,e2,h,e3,q⟩ hs =>
 ix_list value slice pins s σ H x y v u Q I rx ry ⟨p,xs,i,z,e1,e2,SqL.of h,e3,q⟩ hs
end
theorem atI_0 {α:Type} (x:α) (xs:List α):atI (x :: xs) 0=some x:=atI_nat (j:=0) rfl
theorem atI_1 {α:Type} (x y:α) (xs:List α):atI (x :: y :: xs) 1=some y:=atI_nat (j:=1) rfl
theorem atI_2 {α:Type} (x y z:α) (xs:List α):atI (x :: y :: z :: xs) 2=some z:=atI_nat (j:=2) rfl
theorem atI_3 {α:Type} (x y z u:α) (xs:List α):atI (x :: y :: z :: u :: xs) 3=some u:=atI_nat (j:=3) rfl
theorem scal_ii (i j:Int):scal (.int i) (.int j)=true:=rfl
theorem scal_bb (i j:Bool):scal (.bl i) (.bl j)=true:=rfl
theorem scal_ss (i j:Str):scal (.str i) (.str j)=true:=rfl
def Can (P:Program) (w:World) (K:PySem.W.Frag) (mg:Str→Option Value) (base:Heap) (k:Nat) (x:Str) (ps:List Str) (sp:Sp):Prop :=
 ∃ f fd,FnOk P w K mg base CX0 k f fd ps sp∧Binds K fd ps []∧PySem.W.keepIn K (.ref f)=true∧mg x=some (.ref f)
theorem pe_can {X:Cx} {k k':Nat} {x:Str} {ps:List Str} {sp:Sp} {p pos:Pos} {e:Expr} {es:List Expr} {t:TA} (C:Can X.prog X.w X.K X.mg X.base k x ps sp) (hr:Room k' X.A) (hk:k≤k') (hg:Gl X x) (ha:PA X (e :: es) t)
  (hdb:(x == ("__debug__":Str))=false:=by decide) (he:starEach (e :: es) X.env=(false,eval e X.env) :: starEach es X.env:=by rfl) (hpl:(backTo pos (starEach es X.env)).any (·.1)=false:=by rfl) :
  PE X (.Call (.Name x p) (e :: es) [] pos) (tCall sp [] E0 t):=by
 obtain ⟨f,fd,F,b,kp,m⟩:=C
 exact pe_call F (hr.mono hk) hg m kp b .nil pass0 ha hdb he hpl
def Def (K:PySem.W.Frag) (mg:Str→Option Value) (x:Str) (st:Stmt):Prop:=∃ f fd,Fun K x x st f fd∧mg x=some (.ref f)
theorem def_mk {K:PySem.W.Frag} {h:Heap} {mg:Str→Option Value} {x:Str} {st:Stmt} (X:K.In h) (G:h.Ns mainGlobals mg) {f:Addr} {od an:Option Addr} {sl:Array (Option Value)} {oc kV dc pm cd ct:Value}
  (a:PySem.W.nsIn K mainGlobals x=some (some (.ref f))) (l:K.lookup f=some ⟨oc,od,.func (PySem.W.fnOf x x (defArgs st) (defBody st) (defScope st) .none kV dc pm an cd ct),sl⟩) (c:PySem.W.codeIn K cd x=true) (k:PySem.W.keepIn K (.ref f)=true) :
  Def K mg x st:=⟨f,_,fun_mk l c k,PySem.W.mg_of X G a⟩
theorem Def.can {P:Program} {w:World} {K:PySem.W.Frag} {mg:Str→Option Value} {base:Heap} {x:Str} {st:Stmt} {k:Nat} {ps:List Str} {sp:Sp} (D:Def K mg x st)
  (h:∀ f fd,Fun K x x st f fd→FnOk P w K mg base CX0 k f fd ps sp)
  (hb:∀ (kV doc pm:Value) (an:Option Addr) (cdv ct:Value) (us:List Value),us.length=ps.length→bindArgs (PySem.W.fnOf x x (defArgs st) (defBody st) (defScope st) .none kV doc pm an cdv ct) ⟨us,[]⟩=pure (ps.zip us)) :
  Can P w K mg base k x ps sp:=by
 obtain ⟨f,fd,F,m⟩:=D
 exact ⟨f,fd,h f fd F,F.binds hb,F.kp,m⟩
theorem law_fd {K:PySem.W.Frag} {mg:Str→Option Value} {st:Stmt} {fa:Addr} {p:Str} (D:Def K mg "law" st) (hfa:mg "law"=some (.ref fa))
  (hb:∀ (kV doc pm:Value) (an:Option Addr) (cdv ct:Value) (u:Value),bindArgs (PySem.W.fnOf "law" "law" (defArgs st) (defBody st) (defScope st) .none kV doc pm an cdv ct) ⟨[u],[]⟩=pure [(p,u)]) :
  ∃ fd,Fun K "law" "law" st fa fd∧∀ (s:Shared) (u:Value),BindsTo s fd ⟨[u],[]⟩ [(p,u)]:=by
 obtain ⟨f,fd,F,m⟩:=D
 have e:=m.symm.trans hfa
 cases e
 obtain ⟨oc,od,kV,doc,pm,an,cdv,ct,osl,rfl,lk,hcd⟩:=F.ex
 exact ⟨_,F,fun s u=>.of_eq (hb kV doc pm an cdv ct u)⟩
structure Blt (mg:Str→Option Value):Prop where
 abs:mg "abs"=none
 len:mg "len"=none
 isinstance:mg "isinstance"=none
 range:mg "range"=none
 int:mg "int"=none
 bool:mg "bool"=none
 tuple:mg "tuple"=none
 list:mg "list"=none
 sorted:mg "sorted"=none
 all:mg "all"=none
theorem _root_.L2.Same.tup {K:PySem.W.Frag} {H H':Hp} {a:Addr} {xs:List V} (e:Same H H') (h:SqT K H a xs):SqT K H' a xs:=by
 rcases h with (h | ⟨o,h⟩) | h
 ·exact .inl (.inl (e _ _ h))
 ·exact .inl (.inr ⟨o,e _ _ h⟩)
 ·exact .inr h
theorem _root_.L2.Same.new {H:Hp} {p:Addr} (h:H p=none) (o:HO):Same H (upd H p o):=fun b u q=>by rw [upd_ne (ne_of_none q h)];exact q
theorem _root_.L2.Same.rew {H H':Hp} {p:Addr} (h:H p=none) (e:Same H H') (o:HO):Same H (upd H' p o):=fun b u q=>by rw [upd_ne (ne_of_none q h)];exact e b u q
def Fra (K:PySem.W.Frag) (H:Hp) (a:Addr) (q:Rat):Prop:=SqT K H a [.int q.num,.int q.den]
theorem Fra.keep {K:PySem.W.Frag} {H H':Hp} {a:Addr} {q:Rat} (h:Fra K H a q) (e:Same H H'):Fra K H' a q:=e.tup h
structure Sz (n:Nat) (q:Rat):Prop where
 num:Bd n q.num
 den:Bd n q.den
theorem Sz.mono {m n:Nat} {q:Rat} (h:Sz m q) (k:m≤n):Sz n q:=⟨h.num.mono k,h.den.mono k⟩
theorem rat_iff (x y:Rat):(x.num=y.num∧(x.den:Int)=(y.den:Int))=(x=y):=propext
 ⟨fun h=>Rat.ext h.1 (by have:=h.2;omega),fun h=>by subst h;exact ⟨rfl,rfl⟩⟩
theorem lookup_relabel (c:Str→NameKind→Bool):∀ (names:List (Str × NameKind)) (y:Str),
  (names.map fun (x:Str × NameKind)=>if c x.1 x.2 then (x.1,NameKind.cell) else (x.1,x.2)).lookup y=(names.lookup y).map fun k=>if c y k then NameKind.cell else k
 | [],_=>rfl
 | (n,k) :: r,y=>by
  have ih:=lookup_relabel c r y
  cases hy:y == n with
  | true =>
   have e:y=n:=by simpa using hy
   subst e
   by_cases h:c y k=true <;> simp [List.lookup_cons,h]
  | false =>
   by_cases h:c n k=true <;> simp [List.lookup_cons,h,hy,ih]
theorem relabel_lookup (sc:Scope) (env:Env) (y:Str):(relabel sc env).names.lookup y=(sc.names.lookup y).map fun k=>if (k == .free && env.scope.kind == .function && env.kindOf y == some .cell) then NameKind.cell else k:=by
 have h:=lookup_relabel (fun n k=>k == .free && env.scope.kind == .function && env.kindOf n == some .cell) sc.names y
 exact h
theorem closure_of {env:Env}:∀ (names:List (Str × NameKind)) (acc:List (Str × Addr)),(∀ y∈names,y.2=.free→∃ c,env.cells.lookup y.1=some c)→(∀ y c,acc.lookup y=some c→env.cells.lookup y=some c) →
  ∃ cl,(forIn names acc fun (x:Str × NameKind) (r:List (Str × Addr))=>match x with
   | (name,kind)=>if (kind == NameKind.free)=true then (do let c ← cellOf env name;pure (ForInStep.yield ((name,c) :: r))) else (pure (ForInStep.yield r):Sem (ForInStep (List (Str × Addr)))))=(pure cl:Sem (List (Str × Addr))) ∧
   (∀ y c,cl.lookup y=some c→env.cells.lookup y=some c)∧(∀ y c,acc.lookup y=some c→∃ c,cl.lookup y=some c)∧∀ y∈names,y.2=.free→∃ c,cl.lookup y.1=some c
 | [],acc,_,ha=>⟨acc,rfl,ha,fun y c e=>⟨c,e⟩,fun y hy=>by cases hy⟩
 | (n,k) :: r,acc,hn,ha=>by
  by_cases hk:k=.free
  ·subst hk
   obtain ⟨c,hc⟩:=hn (n,.free) List.mem_cons_self rfl
   obtain ⟨cl,e,h1,h2,h3⟩:=closure_of r ((n,c) :: acc) (fun y hy=>hn y (List.mem_cons_of_mem _ hy)) (fun y d e=>by
    rw [List.lookup_cons] at e
    cases hy:y == n with
    | true =>
     rw [hy] at e
     have e1:y=n:=by simpa using hy
     subst e1
     rw [hc]
     exact e
    | false=>rw [hy] at e;exact ha y d e)
   have self:∃ d,cl.lookup n=some d:=h2 n c (by simp [List.lookup_cons])
   refine ⟨cl,?_,h1,fun y d q=>?_,fun y hy hf=>?_⟩
   ·rw [List.forIn_cons]
    have ec:cellOf env n=pure c:=by unfold cellOf;rw [hc]
    simp only [beq_self_eq_true,if_true,ec,pure_bind]
    exact e
   ·by_cases hy:y=n
    ·subst hy;exact self
    ·exact h2 y d (by rw [List.lookup_cons];have:(y == n)=false:=by simpa using hy
                      rw [this];exact q)
   ·rcases List.mem_cons.mp hy with rfl | hy
    ·exact self
    ·exact h3 y hy hf
  ·obtain ⟨cl,e,h1,h2,h3⟩:=closure_of r acc (fun y hy=>hn y (List.mem_cons_of_mem _ hy)) ha
   refine ⟨cl,?_,h1,h2,fun y hy hf=>?_⟩
   ·rw [List.forIn_cons]
    have hb:(k == NameKind.free)=false:=by simpa using hk
    simp only [hb,Bool.false_eq_true,if_false,pure_bind]
    exact e
   ·rcases List.mem_cons.mp hy with rfl | hy
    ·exact absurd hf hk
    ·exact h3 y hy hf
theorem closure_at {sc:Scope} {env:Env} (h:∀ y∈sc.names,y.2=.free→∃ c,env.cells.lookup y.1=some c) :
  ∃ cl,closureFor sc env=pure cl∧(∀ y c,cl.lookup y=some c→env.cells.lookup y=some c)∧∀ y∈sc.names,y.2=.free→∃ c,cl.lookup y.1=some c:=by
 obtain ⟨cl,e,h1,_,h3⟩:=closure_of sc.names [] h (fun y c z=>by cases z)
 refine ⟨cl,?_,h1,h3⟩
 unfold closureFor
 have e':=congrArg (fun m=>m >>= fun r=>(pure r:Sem (List (Str × Addr)))) e
 simp only [pure_bind] at e'
 exact e'
abbrev CompOk (sc osc:Scope) (N:List Str) (x:Str) (ks:List (Str × Nat)):Prop :=
 sc.kind=.function∧(∀ y∈sc.names,y.2≠.cell)∧sc.names.lookup x=some .local∧(∀ y∈sc.names,y.2=.local→sc.names.lookup y.1=some .local) ∧
 (∀ y∈sc.names,y.2=.free→osc.names.lookup y.1=some .cell)∧(∀ p∈ks,N[p.2]?=some p.1∧sc.names.lookup p.1=some .free)∧(x :: ks.map (·.1)).Nodup
def cxC (X:Cx) (sc:Scope) (cl:List (Str × Addr)) (C:Addr) (x:Str) (ks:List (Str × Nat)) (s₀:Shared) (H₀:Hp) (fp:List Addr) (pins:List (Addr × Obj)):Cx :=
 { X with N:=x :: ks.map (·.1),s₀:=s₀,H₀:=H₀,env:=compEnvC sc cl C X.env,outer:=X.stack,ex:=fp,fn:=fun _=>false,pn:=X.pn ++ pins,xe:=fun _ _=>False }
def selC (ks:List (Str × Nat)) (σ:L2.St):L2.St:=ks.map fun p=>(σ[p.2]?).getD none
section
variable {X:Cx} {pins:List (Addr × Obj)} {σ:L2.St} {H:Hp} {s:Shared} {sc:Scope} {cl:List (Str × Addr)} {x:Str} {ks:List (Str × Nat)} {fp:List Addr}
theorem get_map {α β:Type} (f:α→β) (l:List α) (i:Nat):(l.map f)[i]?=(l[i]?).map f:=List.getElem?_map
theorem inv_comp (I:Inv X pins σ H s) (ok:CompOk sc X.env.scope X.N x ks) (h1:∀ y c,cl.lookup y=some c→X.env.cells.lookup y=some c) (h2:∀ y∈sc.names,y.2=.free→∃ c,cl.lookup y.1=some c)
  (hfp:∀ b∈fp,FpOk X pins H b∧∃ o,s.heap.get? b=some o) {h4:Heap} {m:Str→Option Value} {t':Nat} (hn:h4.Ns s.heap.objs.size m) (kp:∀ b o,s.heap.get? b=some o→h4.get? b=some o) :
  Inv (cxC X sc cl s.heap.objs.size x ks s H fp pins) [] (none :: selC ks σ) H { s with heap:=h4,toks:=t' }:=by
 obtain ⟨kd,nc,lx,ll,fr,kk,nd⟩:=ok
 have fresh:H s.heap.objs.size=none:=I.hok.fresh (Nat.le_refl _)
 have lt:∀ b o,s.heap.get? b=some o→b≠s.heap.objs.size:=fun b o e=>Nat.ne_of_lt (Heap.lt_size e)
 have cellLt:∀ y c,X.env.cells.lookup y=some c→c≠s.heap.objs.size:=fun y c e=>by
  obtain ⟨v,o,ho,_⟩:=I.cell y c e
  exact lt c o ho
 have sub:∀ b∈frs X.stack,b=X.env.locals∨b∈X.fs:=fun b hb=>List.mem_cons.mp (I.stkSub b hb)
 have kof:∀ y,(compEnvC sc cl s.heap.objs.size X.env).kindOf y=(relabel sc X.env).names.lookup y:=fun y=>rfl
 have ok':(cxC X sc cl s.heap.objs.size x ks s H fp pins).Ok:={
  mod:=I.ok.mod
  kind:=kd
  glob:=I.ok.glob
  blt:=I.ok.blt
  above:=Nat.le_refl _
  inj:=fun y z c e1 e2=>I.ok.inj y z c (h1 y c e1) (h1 z c e2)
  has:=fun y hy=>by
   rw [show (cxC X sc cl s.heap.objs.size x ks s H fp pins).env.kindOf y=_ from kof y,relabel_lookup] at hy
   cases e:sc.names.lookup y with
   | none=>rw [e] at hy;rcases hy with z | z <;> cases z
   | some k =>
    have hm:(y,k)∈sc.names:=by
     have:=List.lookup_eq_some_iff.mp e
     obtain ⟨l1,l2,q,_⟩:=this
     rw [q]
     simp
    by_cases hk:k=.free
    ·subst hk;exact h2 _ hm rfl
    ·have hb:(k == NameKind.free)=false:=by simpa using hk
     rw [e] at hy
     simp only [Option.map_some,hb,Bool.false_and,Bool.false_eq_true,if_false] at hy
     rcases hy with z | z
     ·exact absurd (Option.some.inj z) (nc _ hm)
     ·exact absurd (Option.some.inj z) hk
  cab:=fun _ _ z=>by cases z
  hd:=fun z=>I.ok.hd z
  frames:=I.ok.frames
  stk:=.inl rfl
  exf:=fun b hb=>⟨lt b _ (hfp b hb).2.choose_spec,fun y c e=>(hfp b hb).1.2.2.2.2.1 y c (h1 y c e)⟩
  bs:=fun b o e=>I.bs b o e
  bsz:=Nat.le_trans I.ok.bsz I.sz
  noex:=fun b o e hb=>by
   rcases (hfp b hb).1.2.2.2.1 with z | z
   ·exact I.ok.noex b o e z
   ·exact absurd (Nat.lt_of_lt_of_le (Heap.lt_size e) (Nat.le_trans I.ok.bsz z)) (Nat.lt_irrefl _)
  exfs:=fun b hb z=>by
   rcases sub b z with e | e
   ·exact (hfp b hb).1.2.1 e
   ·exact (hfp b hb).1.2.2.1 e
  funs:=I.stack
  frf:=I.stkFree }
 obtain ⟨mX,hnX,hlX⟩:=I.loc
 refine ⟨ok',rfl,I.bare,Un.kept kp,⟨m,hn,fun i y v e1 e2 e3=>?_⟩,fun y c e=>?_,fresh,fun y c e=>I.freeC y c (h1 y c e),fun p hp=>?_,I.hok.kept kp,by simp [cxC,selC]⟩
 ·cases i with
  | zero =>
   rw [List.getElem?_cons_zero] at e2
   cases e2
  | succ i =>
   have e1':(ks.map (·.1))[i]?=some y:=by simpa [cxC] using e1
   rw [List.getElem?_cons_succ] at e2
   unfold selC at e2
   rw [List.getElem?_map] at e1' e2
   cases ep:ks[i]? with
   | none=>rw [ep] at e1';cases e1'
   | some p =>
    rw [ep] at e1' e2
    have ey:p.1=y:=Option.some.inj e1'
    have ev:(σ[p.2]?).getD none=some v:=Option.some.inj e2
    obtain ⟨kN,kf⟩:=kk p (List.mem_of_getElem? ep)
    have es:σ[p.2]?=some (some v):=by
     cases q:σ[p.2]? with
     | none=>rw [q] at ev;cases ev
     | some w=>rw [q] at ev;exact congrArg some ev
    have hm:(p.1,NameKind.free)∈sc.names:=by
     obtain ⟨l1,l2,q,_⟩:=List.lookup_eq_some_iff.mp kf
     rw [q]
     simp
    have oc:X.env.scope.names.lookup p.1=some .cell:=fr _ hm rfl
    obtain ⟨u,ru,lu⟩:=hlX p.2 p.1 v kN es (.inr (.inl oc))
    refine ⟨u,ru,.inr ⟨.inl ?_,?_⟩⟩
    ·rw [show (cxC X sc cl s.heap.objs.size x ks s H fp pins).env.kindOf y=_ from kof y,relabel_lookup,← ey,kf]
     have k1:X.env.kindOf p.1=some .cell:=oc
     simp [I.ok.kind,k1]
    ·obtain ⟨c,hc⟩:=h2 _ hm rfl
     have hc:cl.lookup p.1=some c:=hc
     rcases lu with ⟨z,_⟩ | ⟨_,c',hc',z⟩
     ·have z':X.env.scope.names.lookup p.1=some .local:=z
      rw [oc] at z';cases z'
     ·have:=h1 _ _ hc
      rw [hc'] at this
      cases this
      obtain ⟨o,ho,hd⟩:=z
      exact ⟨_,by rw [← ey];exact hc,o,kp _ _ ho,hd⟩
 ·obtain ⟨v,o,ho,hd⟩:=I.cell y c (h1 y c e)
  exact ⟨v,o,kp _ _ ho,hd⟩
 ·rw [List.append_nil] at hp
  obtain ⟨a1,a2,a3,a4,a5⟩:=I.pin p hp
  refine ⟨kp _ _ a1,a2,lt _ _ a1,fun z=>?_,a5⟩
  rcases sub p.1 z with e | e
  ·exact a3 e
  ·exact a4 e
end
section
variable {prog:Program} {w:World} {A:Around} {R:Result→Shared→Prop} {s:Shared}
theorem loop_comp {elt iter:Expr} {x:Str} {px:Pos} {sc:Scope} {pos:Pos} {it acc:Value} {env:Env} (I:Nat→Shared→Prop)
  (turn:∀ n s,I n s→wpAny (model prog w) A (pyNext it) (fun r s₁=>match r with
   | none=>R (.ok .next) s₁
   | some v=>wpAny (model prog w) A (letOwnedTupleGo (.Name x px) it v) (fun _ s₂=>wpAny (model prog w) A (assign (.Name x px) env v) (fun _ s₃=>wpAny (model prog w) A (eval elt env) (fun y s₄ =>
     wpAny (model prog w) A (call (.builtin "list.append") [acc,y]) (fun _ s₅=>∃ m,m < n∧I m s₅) (fun _ _=>False) s₄) (fun _ _=>False) s₃) (fun _ _=>False) s₂) (fun _ _=>False) s₁) (fun _ _=>False) s)
  (n:Nat) (h:I n s):codeAny (model prog w) A (.compLoop (.ListComp elt [⟨.Name x px,iter,[],0⟩] sc pos) 0 it acc env) R s:=by
 refine codeAny_loop rfl I (fun n s hI=>?_) n h
 show wpAny _ _ ((compTurn (.ListComp elt [⟨.Name x px,iter,[],0⟩] sc pos) 0 it acc env).onRaise (fun x=>do noteFrame x env;theTreesLotGoes x)) _ _ s
 refine wpAny_noted ?_
 rw [compTurn_list1]
 have no:∀ (e:Value) (s':Shared),False→notedBy (model prog w) A env (fun e s'=>R (.error e) s') e s':=fun _ _ z=>z.elim
 refine wpAny_bind (wpAny_standAt (wpAny_bind (wpAny_mono (turn n s hI) (fun r s₁ h₁=>?_) no)))
 cases r with
 | none=>exact wpAny_pure h₁
 | some v =>
  refine wpAny_bind (wpAny_mono h₁ (fun _ s₂ h₂=>?_) no)
  exact wpAny_bind (wpAny_mono h₂ (fun _ s₃ h₃=>wpAny_bind (wpAny_bind (wpAny_mono h₃ (fun y s₄ h₄=>wpAny_bind (wpAny_mono h₄
   (fun _ s₅ h₅=>wpAny_pure (wpAny_pure ⟨rfl,h₅⟩)) no)) no))) no)
end
def tLC (wi:TI) (ks:List (Str × Nat)) (te:TE):TE:=fun σ H Q=>wi σ H fun J H1=>∀ D,H1 D=none→∃ W:Nat→Nat→Hp→Prop,(∃ m,W 0 m (upd H1 D (.lst []))) ∧
 ∀ i m H2,W i m H2→(J.stop i H2∧Q (.ref D) H2)∨(J.go i H2∧∀ v H3,J.yld i H2 v H3→te (some v :: selC ks σ) H3 fun y H4=>∃ ys,H4 D=some (.lst ys)∧ys.length < sizeLine∧∃ m',m' < m∧W (i + 1) m' (upd H4 D (.lst (ys ++ [y]))))
section
variable {X:Cx}
theorem run_comp {elt iter:Expr} {x:Str} {px:Pos} {sc:Scope} {pos:Pos} {te:TE} {ks:List (Str × Nat)} {cl:List (Str × Addr)} {pins:List (Addr × Obj)} {σ:L2.St} {H:Hp} {s:Shared} {it:Addr} {fp:List Addr} {tn:Nat→Heap→Prop} {J:It} {Q:VK}
  {RR:Value→Addr→Result→Shared→Prop} {E:Value→Shared→Prop}
  (hc:X.calm=true) (ok:CompOk sc X.env.scope X.N x ks) (h1:∀ y c,cl.lookup y=some c→X.env.cells.lookup y=some c) (h2:∀ y∈sc.names,y.2=.free→∃ c,cl.lookup y.1=some c)
  (he:∀ cl C s₀ H₀ fp pins,PE (cxC X sc cl C x ks s₀ H₀ fp pins) elt te)
  (I:Inv X pins σ H s) (T:Turn X.prog X.w X.K (.Name x px) J fp it tn) (st:tn 0 s.heap) (f:∀ b∈fp,FpOk X pins H b)
  (hw:∀ D,H D=none→∃ W:Nat→Nat→Hp→Prop,(∃ m,W 0 m (upd H D (.lst [])))∧∀ i m H2,W i m H2→(J.stop i H2∧Q (.ref D) H2) ∨
   (J.go i H2∧∀ v H3,J.yld i H2 v H3→te (some v :: selC ks σ) H3 fun y H4=>∃ ys,H4 D=some (.lst ys)∧ys.length < sizeLine∧∃ m',m' < m∧W (i + 1) m' (upd H4 D (.lst (ys ++ [y])))))
  (hR:∀ (D C:Addr) (s':Shared) (H':Hp) (m:Str→Option Value),Inv X pins σ H' s'→Q (.ref D) H'→s'.heap.Ns C m→H' C=none→C≠X.env.locals→X.s₀.heap.objs.size≤C→(∀ y c,X.env.cells.lookup y=some c→c≠C)→(∀ p∈X.pn ++ pins,p.1≠C)→RR (.ref D) C (.ok .next) s') :
  wpAny (model X.prog X.w) X.A (newList []) (fun acc s₃=>wpAny (model X.prog X.w) X.A (newFunctionEnv sc X.env.globals cl [] X.env.qual none .none (some X.env)) (fun cenv s₄ =>
   codeAny (model X.prog X.w) X.A (.compStart (.ListComp elt [⟨.Name x px,iter,[],0⟩] sc pos) 0 (.ref it) acc { cenv with scope:=relabel sc X.env }) (RR acc cenv.locals) s₄) E s₃) E s:=by
 have okk:=ok
 obtain ⟨kd,nc,lx,ll,fr,kk,nd⟩:=okk
 have hD0:H s.heap.objs.size=none:=I.hok.fresh (Nat.le_refl _)
 obtain ⟨W,⟨m0,w0⟩,turn⟩:=hw s.heap.objs.size hD0
 refine wpAny_newObj_type ?_
 have I3:Inv X pins σ (upd H s.heap.objs.size (.lst [])) { s with heap:=s.heap.push { cls:=.type "list",dict:=none,data:=.seq ([]:List Value).toArray } } :=
  I.laid (t':=s.toks) (fun b u e=>Heap.get?_push_of_some _ e) (Nat.le_refl _) (show ObjOk X.prog X.w _ _ _ (.lst []) from ⟨Nat.zero_le _,[],0,.nil,Heap.get?_push_size _ rfl⟩)
 have st3:tn 0 (s.heap.push { cls:=.type "list",dict:=none,data:=.seq ([]:List Value).toArray }):=T.keep 0 _ _ st fun b hb o e=>Heap.get?_push_of_some _ e
 generalize hD:s.heap.objs.size=D at *
 generalize hH:upd H D (.lst [])=H3 at *
 generalize hs3:({ s with heap:=s.heap.push { cls:=.type "list",dict:=none,data:=.seq ([]:List Value).toArray } }:Shared)=s3 at *
 have e3:s.heap.push { cls:=.type "list",dict:=none,data:=.seq ([]:List Value).toArray }=s3.heap:=by rw [← hs3]
 rw [e3] at st3
 have fD:∀ b∈fp,b≠D:=fun b hb z=>by
  obtain ⟨o,ho,_⟩:=T.obj 0 _ st b hb
  have:=Heap.lt_size ho
  rw [z,← hD] at this
  exact Nat.lt_irrefl _ this
 have f3:∀ b∈fp,FpOk X pins H3 b:=fun b hb=>⟨by rw [← hH,upd_ne (fD b hb)];exact (f b hb).1,(f b hb).2⟩
 have g3:∀ b∈fp,∃ o,s3.heap.get? b=some o:=fun b hb=>by
  obtain ⟨o,ho,_⟩:=T.obj 0 _ st3 b hb
  exact ⟨o,ho⟩
 refine wpAny_newFunctionEnv nc (by intro y hy;simp at hy) (fun h₁ hns hsb=>?_) kd
 have kp:∀ b o,s3.heap.get? b=some o→h₁.get? b=some o:=fun b o e=>hsb.extBut b o (Nat.ne_of_lt (Heap.lt_size e)) (Heap.get?_push_of_some _ e)
 have J0:=inv_comp (fp:=fp) (cl:=cl) (t':=s3.toks + ([]:List (Str × Value)).length) I3 ok h1 h2 (fun b hb=>⟨f3 b hb,g3 b hb⟩) hns kp
 have st4:tn 0 h₁:=T.keep 0 _ _ st3 fun b hb o e=>kp b o e
 have ltC:∀ b o,s3.heap.get? b=some o→b≠s3.heap.objs.size:=fun b o e=>Nat.ne_of_lt (Heap.lt_size e)
 have cC:∀ y c,X.env.cells.lookup y=some c→c≠s3.heap.objs.size:=fun y c e=>by
  obtain ⟨v,o,ho,_⟩:=I3.cell y c e
  exact ltC c o ho
 have pC:∀ p∈X.pn ++ pins,p.1≠s3.heap.objs.size:=fun p hp=>ltC _ _ (I3.pin p hp).1
 have lC:s3.heap.objs.size≠X.env.locals:=Nat.ne_of_gt I3.lt
 have fX:∀ {H':Hp},(∀ b∈fp,H' b=none)→∀ b∈fp,FpOk (cxC X sc cl s3.heap.objs.size x ks s3 H3 fp pins) [] H' b:=fun hn b hb=>by
  obtain ⟨o,ho⟩:=g3 b hb
  obtain ⟨_,q1,q2,q3,q4,q5⟩:=f b hb
  refine ⟨hn b hb,ltC b o ho,fun z=>?_,.inl hb,fun y c e=>q4 y c (h1 y c e),fun p hp=>q5 p (by simpa [cxC] using hp)⟩
  rcases List.mem_cons.mp (I3.stkSub b z) with e | e
  ·exact q1 e
  ·exact q2 e
 have back:∀ {o:Option V} {H':Hp} {s':Shared},Inv (cxC X sc cl s3.heap.objs.size x ks s3 H3 fp pins) [] (o :: selC ks σ) H' s'→Inv X pins σ H' s':=fun {o H' s'} J=>by
  obtain ⟨hh,g,d,t,os'⟩:=s'
  obtain rfl:os'=s3.os:=J.os
  exact I3.call (h':=hh) (g':=g) (d':=d) (t':=t) (ch:=fp) J.base J.hok J.bare fun b hb=>⟨(f b hb).2.2.2.1,(f b hb).2.1,(f b hb).2.2.2.2.1,(f b hb).2.2.2.2.2⟩
 have lookX:(relabel sc X.env).names.lookup x=some .local:=lookup_relabel_local lx
 have loop:∀ s',(∃ (i:Nat) (o:Option V) (H':Hp),Inv (cxC X sc cl s3.heap.objs.size x ks s3 H3 fp pins) [] (o :: selC ks σ) H' s'∧tn i s'.heap∧(∀ b∈fp,H' b=none)∧W i m0 H') →
   codeAny (model X.prog X.w) X.A (.compLoop (.ListComp elt [⟨.Name x px,iter,[],0⟩] sc pos) 0 (.ref it) (.ref D) (compEnvC sc cl s3.heap.objs.size X.env)) (RR (.ref D) s3.heap.objs.size) s':=by
  intro s' hs'
  refine loop_comp (fun n s'=>∃ (i:Nat) (o:Option V) (H':Hp),Inv (cxC X sc cl s3.heap.objs.size x ks s3 H3 fp pins) [] (o :: selC ks σ) H' s'∧tn i s'.heap∧(∀ b∈fp,H' b=none)∧W i n H') ?_ m0 hs'
  rintro n s5 ⟨i,o,H5,J5,t5,n5,w5⟩
  rcases turn i n H5 w5 with ⟨stop,hq⟩ | ⟨go,step⟩
  ·refine thn (T.done (cxC X sc cl s3.heap.objs.size x ks s3 H3 fp pins) rfl rfl rfl hc i [] s5 _ H5 _ J5 (fX n5) t5 stop) fun r s6 ⟨hr,J6⟩=>?_
   subst hr
   obtain ⟨m,hm,_⟩:=J6.loc
   exact hR D _ s6 H5 m (back J6) hq hm J6.free lC I3.sz cC pC
  ·refine thn (T.item (cxC X sc cl s3.heap.objs.size x ks s3 H3 fp pins) rfl rfl rfl hc i [] s5 _ H5 _ J5 (fX n5) t5 go) fun r s6 ⟨u,hr,h6⟩=>?_
   subst hr
   refine thn h6 fun _ s7 ⟨v,H7,J7,r7,y7,t7,n7⟩=>?_
   have J7':=J7.pinned (fX n7) (T.obj _ _ t7)
   refine wpAny_assign_Name (store_ok (X:=cxC X sc cl s3.heap.objs.size x ks s3 H3 fp pins) (i:=0) J7' nd rfl (.inl lookX) r7 (fun s8 J8=>?_) (.inr lookX))
   refine thn (he cl s3.heap.objs.size s3 H3 fp pins _ s8 _ H7 _ J8 (step v H7 y7)) fun y s9 ⟨vy,H9,J9,r9,ys,hys,hz,m',hm,w'⟩=>?_
   refine thn (mt_append (X:=cxC X sc cl s3.heap.objs.size x ks s3 H3 fp pins) _ s9 _ H9 (.ref D) [vy] (.ref D) [y] (fun _ H'=>H'=upd H9 D (.lst (ys ++ [vy]))) J9 rfl (.cons r9 .nil) ⟨D,ys,vy,rfl,rfl,hys,hz,rfl⟩) fun _ s10 ⟨_,H10,J10,_,eH⟩=>?_
   subst eH
   refine ⟨m',hm,i + 1,_,_,J10.unpinned,?_,?_,w'⟩
   ·exact T.keep _ _ _ t7 fun b hb o e=>(J10.pin (b,o) (List.mem_append_right _ (List.mem_append_right _ (mem_pinsAt hb e)))).1
   ·intro b hb
    obtain ⟨o,e,d⟩:=T.obj _ _ t7 b hb
    exact (J10.pin (b,o) (List.mem_append_right _ (List.mem_append_right _ (mem_pinsAt hb e)))).2.1
 have l0:=loop _ ⟨0,none,H3,J0,st4,fun b hb=>(f3 b hb).1,w0⟩
 exact codeAny_compStart_list l0 (T.self _ 0 _ _ _ st4 l0)
theorem osc_free {sc osc:Scope} {N:List Str} {x:Str} {ks:List (Str × Nat)} (ok:CompOk sc osc N x ks) {pins:List (Addr × Obj)} {σ:L2.St} {H:Hp} {s:Shared} (I:Inv X pins σ H s) (ho:X.env.scope=osc):∀ y∈sc.names,y.2=.free→∃ c,X.env.cells.lookup y.1=some c:=fun y hy hf =>
 I.ok.has y.1 (.inl (by show X.env.scope.names.lookup y.1=some .cell;rw [ho];exact ok.2.2.2.2.1 y hy hf))
theorem pe_lc {elt iter:Expr} {x:Str} {px:Pos} {sc:Scope} {pos:Pos} {wi:TI} {te:TE} (osc:Scope) (N:List Str) (ks:List (Str × Nat)) (hc:X.calm=true) (ho:X.env.scope=osc) (hN:X.N=N) (hi:PI X (.Name x px) iter wi)
  (he:∀ cl C s₀ H₀ fp pins,PE (cxC X sc cl C x ks s₀ H₀ fp pins) elt te) (ok:CompOk sc osc N x ks:=by decide +kernel) (hs:∀ x,foldedSetIterable iter X.env x=pure x:=by intro _;rfl) :
  PE X (.ListComp elt [⟨.Name x px,iter,[],0⟩] sc pos) (tLC wi ks te):=by
 intro pins s σ H Q I hw
 obtain ⟨cl,hcl,h1,h2⟩:=closure_at (osc_free ok I ho)
 have ok':CompOk sc X.env.scope X.N x ks:=by rw [ho,hN];exact ok
 rw [eval_ListComp]
 refine wpAny_comprehension_free (use:=none) rfl hs hcl ok.1 ok.2.2.2.1 (thn (hi pins s σ H _ I hw) fun v s1 h3=>thn h3 fun itv s2 h4=>?_)
 obtain ⟨it,fp,tn,J,H2,rfl,I2,T,st2,f2,hR⟩:=h4
 refine run_comp (RR:=fun acc C=>compPost (model X.prog X.w) X.A X.xe none (EP X pins σ Q) acc C) hc ok' h1 h2 he I2 T st2 f2 hR ?_
 intro D C s' H' m J' q hn hC cl' cs cc cp
 refine ⟨m,hn,fun h' hsb=>⟨.ref D,H',?_,rfl,q⟩⟩
 exact J'.turned (t':=s'.toks) (it:=C) (fun b o ne e=>hsb.extBut b o ne e) hC cl' (.inr cs) cc cp
def tLCs (wi:TI) (ks:List (Str × Nat)) (te:TE) (i:Nat):TS:=fun D σ H=>tLC wi ks te σ H fun v H1=>D.nx (σ.set i (some v)) H1
theorem ps_lc {elt iter:Expr} {x y:Str} {px py:Pos} {sc:Scope} {pos spos:Pos} {wi:TI} {te:TE} {i:Nat} (osc:Scope) (N:List Str) (ks:List (Str × Nat)) (hc:X.calm=true) (ho:X.env.scope=osc) (hN:X.N=N) (hnd:X.N.Nodup) (hy:X.N[i]?=some y) (hl:Loc X.env.scope y)
  (hi:PI X (.Name x px) iter wi) (he:∀ cl C s₀ H₀ fp pins,PE (cxC X sc cl C x ks s₀ H₀ fp pins) elt te) (ok:CompOk sc osc N x ks:=by decide +kernel) (hs:∀ x,foldedSetIterable iter X.env x=pure x:=by intro _;rfl)
  (hsw:swapsWith (.ListComp elt [⟨.Name x px,iter,[],0⟩] sc pos) (some (.Name y py)) spos.line X.env=pure true:=by rfl) (hf:X.fn y=true∨X.env.scope.names.lookup y=some .local:=by first | exact .inl rfl | exact .inr rfl | assumption) :
  PS X (.Assign [.Name y py] (.ListComp elt [⟨.Name x px,iter,[],0⟩] sc pos) spos) (tLCs wi ks te i):=by
 intro pins s σ H Dn I hw
 obtain ⟨cl,hcl,h1,h2⟩:=closure_at (osc_free ok I ho)
 have ok':CompOk sc X.env.scope X.N x ks:=by rw [ho,hN];exact ok
 rw [exec_Assign_Name_used _ _ _ _ hsw]
 refine wpAny_bind (wpAny_standAt (wpAny_bind ?_))
 show wpAny _ X.A (do let _ ← comprehension (.ListComp elt [⟨.Name x px,iter,[],0⟩] sc pos) sc X.env _ (newList []) false (eval iter X.env) (some (assign (.Name y py) X.env))) _ _ s
 refine wpAny_bind (wpAny_mono (wpAny_comprehension_free (use:=some (assign (.Name y py) X.env)) (Q:=fun _ s'=>SP X pins Dn .next s') rfl hs hcl ok.1 ok.2.2.2.1
  (thn (hi pins s σ H _ I hw) fun v s1 h3=>thn h3 fun itv s2 h4=>?_)) (fun _ s' hq=>wpAny_pure (wpAny_pure hq)) fun _ _ e=>e)
 obtain ⟨it,fp,tn,J,H2,rfl,I2,T,st2,f2,hR⟩:=h4
 refine run_comp (Q:=fun v H1=>Dn.nx (σ.set i (some v)) H1) (RR:=fun acc C=>compPost (model X.prog X.w) X.A X.xe (some (assign (.Name y py) X.env)) (fun _ s'=>SP X pins Dn .next s') acc C) hc ok' h1 h2 he I2 T st2 f2 hR ?_
 intro D C s' H' m J' q hn hC cl' cs cc cp
 show wpAny _ X.A (assign (.Name y py) X.env (.ref D)) _ _ _
 refine wpAny_assign_Name (store_ok2 J' hnd hy hl (v:=.ref D) rfl (fun s'' J'' ⟨a,hsb,ha⟩=>?_) hf)
 refine ⟨m,hn.sameBut hsb (fun z=>?_),fun h' hsb'=>⟨_,H',?_,q⟩⟩
 ·rcases ha with e | e
  ·exact cl' (z.trans e)
  ·exact cc _ _ e z.symm
 ·exact J''.turned (t':=s''.toks) (it:=C) (fun b o ne e=>hsb'.extBut b o ne e) hC cl' (.inr cs) cc cp
end
theorem lc_list {K:PySem.W.Frag} {a D:Addr} {xs:List V} {H:Hp} {te:TE} {ks:List (Str × Nat)} {σ:L2.St} {q:Hp→Prop} (Pv:Nat→Hp→Prop) (h0:Pv 0 (upd H D (.lst []))) (hl:∀ i H,i≤xs.length→Pv i H→SqL K H a xs)
  (hs:∀ i x H (R:VK),xs[i]?=some x→Pv i H→(∀ y H4 ys,H4 D=some (.lst ys)→ys.length < sizeLine→Pv (i + 1) (upd H4 D (.lst (ys ++ [y])))→R y H4)→te (some x :: selC ks σ) H R) (hd:∀ H,Pv xs.length H→q H) :
  ∃ W:Nat→Nat→Hp→Prop,(∃ m,W 0 m (upd H D (.lst [])))∧∀ i m H2,W i m H2→((Itl K a).stop i H2∧q H2) ∨
   ((Itl K a).go i H2∧∀ v H3,(Itl K a).yld i H2 v H3→te (some v :: selC ks σ) H3 fun y H4=>∃ ys,H4 D=some (.lst ys)∧ys.length < sizeLine∧∃ m',m' < m∧W (i + 1) m' (upd H4 D (.lst (ys ++ [y])))):=by
 refine ⟨fun i m H=>m=xs.length - i∧i≤xs.length∧Pv i H,⟨xs.length,by simp,Nat.zero_le _,h0⟩,?_⟩
 rintro i m H2 ⟨rfl,hi,p⟩
 have hq:=hl i H2 hi p
 by_cases hlt:i < xs.length
 ·refine .inr ⟨⟨xs,xs[i],hq,by simp [hlt]⟩,fun v H3 y=>?_⟩
  obtain ⟨e,y⟩:=y
  subst e
  exact hs i v _ _ (y xs hq) p fun y H4 ys e1 e2 e3=>⟨ys,e1,e2,xs.length - (i + 1),by omega,rfl,hlt,e3⟩
 ·have e:i=xs.length:=by omega
  subst e
  exact .inl ⟨⟨xs,hq,Nat.le_refl _⟩,hd H2 p⟩
theorem lc_range {lo:Int} {n:Nat} {D:Addr} {H:Hp} {te:TE} {ks:List (Str × Nat)} {σ:L2.St} {q:Hp→Prop} (Pv:Nat→Hp→Prop) (h0:Pv 0 (upd H D (.lst [])))
  (hs:∀ i H (R:VK),i < n→Pv i H→(∀ y H4 ys,H4 D=some (.lst ys)→ys.length < sizeLine→Pv (i + 1) (upd H4 D (.lst (ys ++ [y])))→R y H4)→te (some (.int (lo + i)) :: selC ks σ) H R) (hd:∀ H,Pv n H→q H) :
  ∃ W:Nat→Nat→Hp→Prop,(∃ m,W 0 m (upd H D (.lst [])))∧∀ i m H2,W i m H2→((Itr lo n).stop i H2∧q H2) ∨
   ((Itr lo n).go i H2∧∀ v H3,(Itr lo n).yld i H2 v H3→te (some v :: selC ks σ) H3 fun y H4=>∃ ys,H4 D=some (.lst ys)∧ys.length < sizeLine∧∃ m',m' < m∧W (i + 1) m' (upd H4 D (.lst (ys ++ [y])))):=by
 refine ⟨fun i m H=>m=n - i∧i≤n∧Pv i H,⟨n,by simp,Nat.zero_le _,h0⟩,?_⟩
 rintro i m H2 ⟨rfl,hi,p⟩
 by_cases hlt:i < n
 ·refine .inr ⟨hlt,fun v H3 y=>?_⟩
  obtain ⟨e,y⟩:=y
  subst e y
  exact hs i _ _ hlt p fun y H4 ys e1 e2 e3=>⟨ys,e1,e2,n - (i + 1),by omega,rfl,hlt,e3⟩
 ·have e:i=n:=by omega
  subst e
  exact .inl ⟨Nat.le_refl _,hd H2 p⟩
def one (c:Nat):Str:=⟨#[c]⟩
theorem join_fold:∀ (cs:List Nat) (acc:Array Nat),(cs.map one).foldl (fun acc (p:Str)=>acc ++ (Str.ofString "").cps ++ p.cps) acc=acc ++ cs.toArray
 | [],acc=>by simp
 | c :: cs,acc=>by
  have e:(Str.ofString "").cps=#[]:=by decide +kernel
  rw [List.map_cons,List.foldl_cons,join_fold cs]
  rw [e]
  show (acc ++ #[] ++ #[c]) ++ cs.toArray=_
  simp
theorem join_ones (cs:List Nat):Txt.join (Str.ofString "") (cs.map one)=⟨cs.toArray⟩:=by
 unfold Txt.join Builtin.Str.glued
 cases cs with
 | nil=>rfl
 | cons c cs =>
  simp only [List.map_cons,List.drop_succ_cons,List.drop_zero,List.headD_cons]
  rw [join_fold]
  show (⟨#[c] ++ cs.toArray⟩:Str)=_
  simp
theorem strsAre_of:∀ {ys:List Str} {us:List Value},Vals (ys.map V.str) us→StrsAre us ys
 | [],_,.nil=>.nil
 | y :: ys,_,.cons r rr=>by
  obtain ⟨t,rfl⟩:=r
  exact .cons y t (strsAre_of rr)
section
variable {X:Cx}
def rJoin (K:PySem.W.Frag):V→List V→Hp→VK→Prop:=fun x vs H Q=>∃ z p ys,x=.str z∧vs=[.ref p]∧SqL K H p (ys.map V.str)∧(ys.map (·.length)).sum + ys.length * z.length≤16777216∧Q (.str (Txt.join z ys)) H
theorem mt_join:MtR X "str.join" (rJoin X.K):=by
 intro pins s σ H x vs v us Q I rx rv h
 obtain ⟨z,p,ys,rfl,rfl,hp,hz,q⟩:=h
 obtain ⟨t,rfl⟩:=rx
 obtain ⟨u,rfl,ru⟩:=vals1 rv
 cases ru
 obtain ⟨its,r,pl,_⟩:=I.list hp
 exact join_list pl.isList (by simpa using strsAre_of r) hz fun t' k=>⟨.str _,H,I.tok _,⟨_,rfl⟩,q⟩
end
def constV:Expr→Option V
 | .Constant (.int i) _ _=>some (.int i)
 | .Constant (.str x) _ _=>some (.str x)
 | .Constant (.bool b) _ _=>some (.bl b)
 | _=>none
theorem pa_const {X:Cx}:∀ {es:List Expr} (vs:List V),es.map constV=vs.map some→PA X es (fun _ H Q=>Q vs H)
 | [],[],_=>fun _ _ _ _ H Q I h=>Calls.spliced_nil ⟨[],H,I,.nil,h⟩
 | [],_ :: _,h=>by cases h
 | _ :: _,[],h=>by cases h
 | e :: es,v :: vs,h=>by
  rw [List.map_cons,List.map_cons] at h
  injection h with h1 h2
  have ih:=pa_const (X:=X) (es:=es) vs h2
  have hs:starEach (e :: es) X.env=(false,eval e X.env) :: starEach es X.env:=by
   cases e <;> first | rfl | cases h1
  have he:PE X e (tC v):=by
   cases e with
   | Constant c j pos =>
    cases c with
    | int i=>cases h1;exact pe_int
    | str x=>cases h1;exact pe_str
    | bool b=>cases h1;exact pe_bl
    | _=>cases h1
   | _=>cases h1
  exact fun pos pins s σ H Q I hq=>pa_cons he ih hs pos pins s σ H Q I hq
end Ov
namespace Ov
open PySem PySem.Spec PyProof.Rows
open L2 (V HO Hp Inv Cx St VK TE TT TA TS TG TGs TI TO TSet Ends Vis Loc Gl Rd RelV Vals OpR UnR CallR IxR SlR MtR PSet R2 tVar tC tOp tUn tTest tB tAnd tOr tNot tAndV tOrV tNotV tIf tTup tLst tNil tCons tCB tCall tBM tAsg tPar gName gNil gCons gTup gSub tIfS tWhile tFor iList iTup iRng1 iRng2 tRet tRetN tDrop tCont tBreak tNext tSeq tNever tNoPart tPart tSl upd E0 Room PlainIx)
structure QE (X:Cx) (e:Expr) (t:TE):Prop where
 run:L2.PE X e t
structure QT (X:Cx) (e:Expr) (t:TT):Prop where
 run:L2.PT X e t
structure QW (X:Cx) (e:Expr) (t:TT):Prop where
 run:L2.PW X e t
structure QA (X:Cx) (es:List Expr) (t:TA):Prop where
 run:L2.PA X es t
structure QS (X:Cx) (st:Stmt) (t:TS):Prop where
 run:L2.PS X st t
structure QB (X:Cx) (st:List Stmt) (t:TS):Prop where
 run:L2.PSs X st t
structure QG (X:Cx) (e:Expr) (t:TG):Prop where
 run:L2.PG X e t
structure QGs (X:Cx) (es:List Expr) (t:TGs):Prop where
 run:L2.PGs X es t
structure QI (X:Cx) (tg e:Expr) (t:TI):Prop where
 run:L2.PI X tg e t
structure QO (X:Cx) (e:Option Expr) (t:TO):Prop where
 run:L2.PO X e t
section
variable {X:Cx} {a b c e o:Expr} {es rest:List Expr} {ta tb te tc to:TE} {tA tB':TT} {t:TA} {pos px p p2 apos cpos:Pos} {x:Str} {i j:Nat}
theorem pv (i:Nat) {x:Str} {pos:Pos} (hN:X.N[i]?=some x:=by rfl) (hv:Vis X.env.scope x:=by first | exact Or.inl rfl | exact Or.inr (Or.inl rfl) | exact Or.inr (Or.inr rfl)) (hd:(x == ("__debug__":Str))=false:=by decide)
  (hcd:(x == ("__classdict__":Str))=false:=by decide):QE X (.Name x pos) (tVar i):=⟨L2.pe_var hN hv hd hcd⟩
theorem pe_int {i:Int} {j pos}:QE X (.Constant (.int i) j pos) (tC (.int i)):=⟨L2.pe_int⟩
theorem pe_bl {b:Bool} {j pos}:QE X (.Constant (.bool b) j pos) (tC (.bl b)):=⟨L2.pe_bl⟩
theorem pe_non {j pos}:QE X (.Constant .none j pos) (tC .non):=⟨L2.pe_non⟩
theorem pe_str {x:Str} {j pos}:QE X (.Constant (.str x) j pos) (tC (.str x)):=⟨L2.pe_str⟩
theorem pe_glob {v:V} {u:Value} (hg:Gl X x) (hm:X.mg x=some u) (r:RelV v u) (hd:(x == ("__debug__":Str))=false:=by decide):QE X (.Name x pos) (tC v):=⟨L2.pe_glob hg hm r hd⟩
theorem pe_bltn {v:V} {u:Value} (hg:Gl X x) (hm:X.mg x=none) (hv:bootBuiltins x=some u) (r:RelV v u) (hn:x≠"__name__":=by decide) (hd:(x == ("__debug__":Str))=false:=by decide):QE X (.Name x pos) (tC v):=⟨L2.pe_bltn hg hm hv r hn hd⟩
theorem pe_op {op:Operator} {r:R2} (ho:OpR X (binaryOp op) r) (ha:QE X a ta) (hb:QE X b tb):QE X (.BinOp a op b pos) (tOp r ta tb):=⟨L2.pe_op ho ha.run hb.run⟩
theorem pe_un {op:UnaryOp} {r:V→Hp→VK→Prop} (ho:UnR X (unaryOp op) r) (ha:QE X a ta):QE X (.UnaryOp op a pos) (tUn r ta):=⟨L2.pe_un ho ha.run⟩
theorem pe_cmpR {op:CmpOp} {r:R2} (ho:OpR X (compareOp op) r) (ha:QE X a ta) (hb:QE X b tb) (hm:behindInMarks op b=false):QE X (.Compare a [op] [b] pos) (tOp r ta tb):=⟨L2.pe_cmpR ho ha.run hb.run hm⟩
theorem pt_cmpR {op:CmpOp} {r:R2} (ho:OpR X (compareOp op) r) (ha:QE X a ta) (hb:QE X b tb) (hm:behindInMarks op b=false):QT X (.Compare a [op] [b] pos) (tTest (tOp r ta tb)):=⟨L2.pt_cmpR ho ha.run hb.run hm⟩
theorem pe_one {op} (h:QE X a ta):QE X (.BoolOp op [a] pos) ta:=⟨L2.pe_one h.run⟩
theorem pe_and (ha:QE X a ta) (hb:QE X (.BoolOp .And (b :: rest) pos) tb):QE X (.BoolOp .And (a :: b :: rest) pos) (tAndV ta tb):=⟨L2.pe_and ha.run hb.run⟩
theorem pe_or (ha:QE X a ta) (hb:QE X (.BoolOp .Or (b :: rest) pos) tb):QE X (.BoolOp .Or (a :: b :: rest) pos) (tOrV ta tb):=⟨L2.pe_or ha.run hb.run⟩
theorem pe_not (ha:QE X a ta):QE X (.UnaryOp .Not a pos) (tNotV ta):=⟨L2.pe_not ha.run⟩
theorem pt_not (ha:QT X a tA):QT X (.UnaryOp .Not a pos) (tNot tA):=⟨L2.pt_not ha.run⟩
theorem pw_and1 (ha:QT X a tA):QW X (.BoolOp .And [a] pos) tA:=⟨L2.pw_and1 ha.run⟩
theorem pw_or1 (ha:QT X a tA):QW X (.BoolOp .Or [a] pos) tA:=⟨L2.pw_or1 ha.run⟩
theorem pw_and (ha:QT X a tA) (hb:QW X (.BoolOp .And (b :: rest) pos) tB'):QW X (.BoolOp .And (a :: b :: rest) pos) (tAnd tA tB'):=⟨L2.pw_and ha.run hb.run⟩
theorem pw_or (ha:QT X a tA) (hb:QW X (.BoolOp .Or (b :: rest) pos) tB'):QW X (.BoolOp .Or (a :: b :: rest) pos) (tOr tA tB'):=⟨L2.pw_or ha.run hb.run⟩
theorem pw_pt (h:QW X e tA):QT X e tA:=⟨h.run.pt⟩
theorem pt_val (h:QE X e te) (he:∀ whole,isTrue e X.env whole=(do let v ← whole;standAt e.pos;holding [v] (truthy v)):=by intro _;rfl):QT X e (tB te):=⟨L2.pt_val h.run he⟩
theorem pe_ifExp (hc:QT X c tA) (ha:QE X a ta) (hb:QE X b tb):QE X (.IfExp c a b pos) (tIf tA ta tb):=⟨L2.pe_ifExp hc.run ha.run hb.run⟩
theorem pa_nil:QA X [] tNil:=⟨L2.pa_nil⟩
theorem pa_cons (ha:QE X e te) (hr:QA X es t) (hs:starEach (e :: es) X.env=(false,eval e X.env) :: starEach es X.env:=by rfl):QA X (e :: es) (tCons te t):=⟨L2.pa_cons ha.run hr.run hs⟩
theorem pa_cst {es:List Expr} (vs:List V) (h:es.map constV=vs.map some):QA X es (fun _ H Q=>Q vs H):=⟨pa_const vs h⟩
theorem pe_tup {x1} (h:QA X es t):QE X (.Tuple es x1 pos) (tTup t):=⟨L2.pe_tup h.run⟩
theorem pe_lst (h:QA X es t):QE X (.List es pos) (tLst t):=⟨L2.pe_lst h.run⟩
theorem pe_ix {r:R2} (hr:IxR X r) (ha:QE X a ta) (hb:QE X b tb) (hs:PlainIx b):QE X (.Subscript a b pos) (tOp r ta tb):=⟨L2.pe_ix hr ha.run hb.run hs⟩
theorem po_none:QO X none tNoPart:=⟨L2.po_none⟩
theorem po_some (h:QE X e te):QO X (some e) (tPart te):=⟨L2.po_some h.run⟩
theorem pe_slice {lo hi:Option Expr} {tl th:TO} {r:V→Option Int→Option Int→Hp→VK→Prop} (hr:SlR X r) (he:QE X e te) (hl:QO X lo tl) (hu:QO X hi th):QE X (.Subscript e (.Slice lo hi none p2) pos) (tSl r te tl th):=⟨L2.pe_slice hr he.run hl.run hu.run⟩
theorem pe_callB {id:String} {r:List V→Hp→VK→Prop} (hc:CallR X (.builtin id) r) (hg:Gl X x) (hm:X.mg x=none) (hv:bootBuiltins x=some (.builtin id)) (ha:QA X (e :: es) t) (hn:x≠"__name__":=by decide) (hdb:(x == ("__debug__":Str))=false:=by decide)
  (he:starEach (e :: es) X.env=(false,eval e X.env) :: starEach es X.env:=by rfl) (hpl:(backTo pos (starEach es X.env)).any (·.1)=false:=by rfl):QE X (.Call (.Name x p) (e :: es) [] pos) (tCB r t):=⟨L2.pe_callB hc hg hm hv ha.run hn hdb he hpl⟩
theorem pe_callTy {T:String} {r:List V→Hp→VK→Prop} (hc:CallR X (.type T) r) (hg:Gl X x) (hm:X.mg x=none) (hv:bootBuiltins x=some (.type T)) (ha:QA X (e :: es) t) (hn:x≠"__name__":=by decide) (hdb:(x == ("__debug__":Str))=false:=by decide)
  (he:starEach (e :: es) X.env=(false,eval e X.env) :: starEach es X.env:=by rfl) (hpl:(backTo pos (starEach es X.env)).any (·.1)=false:=by rfl):QE X (.Call (.Name x p) (e :: es) [] pos) (tCB r t):=⟨L2.pe_callTy hc hg hm hv ha.run hn hdb he hpl⟩
theorem pe_fn {k k':Nat} {ps:List Str} {sp:L2.Sp} (C:Can X.prog X.w X.K X.mg X.base k x ps sp) (hr:Room k' X.A) (hk:k≤k') (hg:Gl X x) (ha:QA X (e :: es) t)
  (hdb:(x == ("__debug__":Str))=false:=by decide) (he:starEach (e :: es) X.env=(false,eval e X.env) :: starEach es X.env:=by rfl) (hpl:(backTo pos (starEach es X.env)).any (·.1)=false:=by rfl) :
  QE X (.Call (.Name x p) (e :: es) [] pos) (tCall sp [] E0 t):=⟨pe_can C hr hk hg ha.run hdb he hpl⟩
theorem pe_bm {name:Str} {T id:String} {r:V→List V→Hp→VK→Prop} (pa:PlainAttrs T) (slot:Slot T name id) (hty:typeOf (.builtin id)=pure (.type "method_descriptor")) (hm:MtR X id r) (ho:QE X o to) (ha:QA X (e :: es) t)
  (hbase:attributeBase o name X.env (eval o X.env)=eval o X.env:=by rfl)
  (hfew:((backTo cpos (starEach (e :: es) X.env)).all (fun x=>!x.1) && (backToKw cpos (keywordEach [] X.env)).all (fun x=>x.1.isSome)
   && decide ((e :: es).length + ([]:List Keyword).length + (if ([]:List Keyword).isEmpty then 0 else 1) < 30))=true:=by rfl)
  (hline:(apos.endLine == cpos.line)=true:=by rfl) (hs:starEach (e :: es) X.env=(false,eval e X.env) :: starEach es X.env:=by rfl) (hplain:(backTo cpos (starEach es X.env)).any (·.1)=false:=by rfl) :
  QE X (.Call (.Attribute o name apos) (e :: es) [] cpos) (tBM X.K T r to t):=⟨L2.pe_bm pa slot hty hm ho.run ha.run hbase hfew hline hs hplain⟩
end
section
variable {X:Cx} {st:Stmt} {rest:List Stmt} {t u:TS} {e tg:Expr} {es:List Expr} {te:TE} {pos:Pos} {g:TG}
theorem pss_nil:QB X [] tNext:=⟨L2.pss_nil⟩
theorem pss_cons (h1:QS X st t) (h2:QB X rest u):QB X (st :: rest) (tSeq t u):=⟨L2.pss_cons h1.run h2.run⟩
theorem pss_one (h1:QS X st t):QB X [st] t:=⟨L2.pss_one h1.run⟩
theorem pss_join (h1:QS X st t) (h2:QB X rest u):QB X (st :: rest) (tCut t u):=⟨pss_cut h1.run h2.run⟩
theorem pss_never {sts:List Stmt}:QB X sts tNever:=⟨L2.pss_never⟩
theorem ps_expr (he:QE X e te) (hs:swapsWith e none pos.line X.env=pure false:=by rfl):QS X (.Expr e pos) (tDrop te):=⟨L2.ps_expr he.run hs⟩
theorem ps_ret (he:QE X e te):QS X (.Return (some e) pos) (tRet te):=⟨L2.ps_ret he.run⟩
theorem ps_retN:QS X (.Return none pos) tRetN:=⟨L2.ps_retN⟩
theorem ps_if {c:Expr} {a b:List Stmt} {tc:TT} (hc:QT X c tc) (ha:QB X a t) (hb:QB X b u):QS X (.If c a b pos) (tIfS tc t u):=⟨L2.ps_if hc.run ha.run hb.run⟩
theorem ps_while {c:Expr} {body:List Stmt} {tc:TT} {tb:TS} (hp:PassesOwn (model X.prog X.w) X.A X.env X.xe) (hc:QT X c tc) (hb:QB X body tb):QS X (.While c body [] pos) (tWhile tc tb):=⟨L2.ps_while hp hc.run hb.run⟩
theorem pg_name {i:Nat} {x:Str} (hN:X.N.Nodup) (hi:X.N[i]?=some x) (hx:Loc X.env.scope x) (hf:X.fn x=true∨X.env.scope.names.lookup x=some .local:=by first | exact .inl rfl | exact .inr rfl | assumption):QG X (.Name x pos) (gName i):=⟨L2.pg_name hN hi hx hf⟩
theorem pgs_nil:QGs X [] gNil:=⟨L2.pgs_nil⟩
theorem pgs_cons {e:Expr} {es:List Expr} {t:TG} {u:TGs} (h1:QG X e t) (h2:QGs X es u)
  (hs:(assignEach (e :: es) X.env).map (·.2)=assign e X.env :: (assignEach es X.env).map (·.2):=by rfl):QGs X (e :: es) (gCons t u):=⟨L2.pgs_cons h1.run h2.run hs⟩
theorem pg_tup {k:Nat} {t:TGs} {n:Nat} (hc:X.calm=true) (h:QGs X es t)
  (hn:(assignEach es X.env).length=n:=by rfl) (hst:(assignEach es X.env).findIdx? (·.1)=none:=by rfl):QG X (.Tuple es k pos) (gTup X.K n t):=⟨L2.pg_tup hc h.run hn hst⟩
theorem pg_sub {o i:Expr} {to ti:TE} {t:TSet} (ho:QE X o to) (hi:QE X i ti) (hs:PSet X t)
  (ha:∀ v,assign (.Subscript o i pos) X.env v=(do
   let ov ← holding [v] (eval o X.env)
   let iv ← holding [v,ov] (eval i X.env)
   standAt pos
   holding [v,ov,iv] (setItem ov iv v)
   release [v,ov,iv] []):=by intro _;rfl):QG X (.Subscript o i pos) (gSub to ti t):=⟨L2.pg_sub ho.run hi.run hs ha⟩
theorem ps_asg {tg e:Expr} (he:QE X e te) (hg:QG X tg g) (hs:swapsWithSole [tg] e pos.line X.env=pure false:=by rfl) (hw:swappedStores [tg] e X.env=pure none:=by rfl)
  (h1:(assignEach [tg] X.env).map (·.2)=[assign tg X.env]:=by rfl):QS X (.Assign [tg] e pos) (tAsg te g):=⟨L2.ps_asg he.run hg.run hs hw h1⟩
theorem ps_set {i:Nat} {x:Str} {pos':Pos} (hN:X.N.Nodup) (hi:X.N[i]?=some x) (hx:Loc X.env.scope x) (he:QE X e te) (hs:swapsWith e (some (.Name x pos')) pos.line X.env=pure false:=by rfl) (hf:X.fn x=true∨X.env.scope.names.lookup x=some .local:=by first | exact .inl rfl | exact .inr rfl | assumption) :
  QS X (.Assign [.Name x pos'] e pos) (tAsg te (gName i)):=⟨L2.ps_set hN hi hx he.run hs hf⟩
theorem ps_par {i j:Nat} {x y:Str} {a b:Expr} {ta:TA} {px py pt:Pos} {kt k2 pt2} (hc:X.calm=true) (hN:X.N.Nodup) (hi:X.N[i]?=some x) (hj:X.N[j]?=some y) (hij:i≠j)
  (hx:X.env.scope.names.lookup x=some .local) (hy:X.env.scope.names.lookup y=some .local) (ha:QA X [a,b] ta)
  (hw:swappedStores [.Tuple [.Name x px,.Name y py] kt pt] (.Tuple [a,b] k2 pt2) X.env=pure (some [x,y]))
  (hs:swapsWithSole [.Tuple [.Name x px,.Name y py] kt pt] (.Tuple [a,b] k2 pt2) pos.line X.env=pure false:=by rfl) :
  QS X (.Assign [.Tuple [.Name x px,.Name y py] kt pt] (.Tuple [a,b] k2 pt2) pos) (tPar i j ta):=⟨L2.ps_par hc hN hi hj hij hx hy ha.run hw hs⟩
theorem pi_list {l:Expr} {tl:TE} (hl:QE X l tl):QI X tg l (iList X.K tl):=⟨L2.pi_list hl.run⟩
theorem pi_range1 {a:Expr} {ta:TA} {p pos:Pos} (hg:Gl X "range") (hm:X.mg "range"=none) (ha:QA X [a] ta) (hs:starEach [a] X.env=[(false,eval a X.env)]:=by rfl):QI X tg (.Call (.Name "range" p) [a] [] pos) (iRng1 ta):=⟨L2.pi_range1 hg hm ha.run hs⟩
theorem ps_for {iter:Expr} {body:List Stmt} {wi:TI} {g:TG} {tb:TS} {pos:Pos} (hp:PassesOwn (model X.prog X.w) X.A X.env X.xe) (hc:X.calm=true) (hi:QI X tg iter wi) (hg:QG X tg g) (hb:QB X body tb)
  (hs:∀ x,foldedSetIterable iter X.env x=pure x:=by intro _;rfl):QS X (.For tg iter body [] pos) (tFor wi g tb):=⟨L2.ps_for hp hc hi.run hg.run hb.run hs⟩
theorem pe_comp {elt iter:Expr} {x:Str} {px:Pos} {sc:Scope} {pos:Pos} {wi:TI} (osc:Scope) (N:List Str) (ks:List (Str × Nat)) (hc:X.calm=true) (ho:X.env.scope=osc) (hN:X.N=N) (hi:QI X (.Name x px) iter wi)
  (he:∀ cl C s₀ H₀ fp pins,QE (cxC X sc cl C x ks s₀ H₀ fp pins) elt te) (ok:CompOk sc osc N x ks:=by decide +kernel) (hs:∀ x,foldedSetIterable iter X.env x=pure x:=by intro _;rfl) :
  QE X (.ListComp elt [⟨.Name x px,iter,[],0⟩] sc pos) (tLC wi ks te):=⟨pe_lc osc N ks hc ho hN hi.run (fun cl C s₀ H₀ fp pins=>(he cl C s₀ H₀ fp pins).run) ok hs⟩
theorem ps_comp {elt iter:Expr} {x y:Str} {px py:Pos} {sc:Scope} {pos spos:Pos} {wi:TI} {i:Nat} (osc:Scope) (N:List Str) (ks:List (Str × Nat)) (hc:X.calm=true) (ho:X.env.scope=osc) (hN:X.N=N) (hnd:X.N.Nodup) (hy:X.N[i]?=some y) (hl:Loc X.env.scope y)
  (hi:QI X (.Name x px) iter wi) (he:∀ cl C s₀ H₀ fp pins,QE (cxC X sc cl C x ks s₀ H₀ fp pins) elt te) (ok:CompOk sc osc N x ks:=by decide +kernel) (hs:∀ x,foldedSetIterable iter X.env x=pure x:=by intro _;rfl)
  (hsw:swapsWith (.ListComp elt [⟨.Name x px,iter,[],0⟩] sc pos) (some (.Name y py)) spos.line X.env=pure true:=by rfl) (hf:X.fn y=true∨X.env.scope.names.lookup y=some .local:=by first | exact .inl rfl | exact .inr rfl | assumption) :
  QS X (.Assign [.Name y py] (.ListComp elt [⟨.Name x px,iter,[],0⟩] sc pos) spos) (tLCs wi ks te i):=⟨ps_lc osc N ks hc ho hN hnd hy hl hi.run (fun cl C s₀ H₀ fp pins=>(he cl C s₀ H₀ fp pins).run) ok hs hsw hf⟩
end
end Ov
namespace Ov
open PySem PySem.Spec PyProof.Rows
open L2 (V HO Hp Inv Cx VK TE TA Vals RelV OpR CallR SqL R2 upd EP vals1 intsAre_of Gl)
section
variable {X:Cx}
end
end Ov
namespace Ov
open PySem PySem.Spec PyProof.Rows
open L2 (V HO Hp Inv Cx VK TE TA Vals RelV OpR CallR SqL SqT R2 upd Same)
inductive Py where
 | non | bl (b:Bool) | int (i:Int) | str (x:Str) | tup (xs:List Py) | lst (xs:List Py)
mutual
def At (K:PySem.W.Frag) (H:Hp):Py→V→Prop
 | .non,v=>v=.non
 | .bl b,v=>v=.bl b
 | .int i,v=>v=.int i
 | .str x,v=>v=.str x
 | .tup xs,v=>∃ a vs,v=.ref a∧SqT K H a vs∧Ats K H xs vs
 | .lst xs,v=>∃ a vs,v=.ref a∧SqL K H a vs∧Ats K H xs vs
def Ats (K:PySem.W.Frag) (H:Hp):List Py→List V→Prop
 | [],vs=>vs=[]
 | x :: xs,vs=>∃ v us,vs=v :: us∧At K H x v∧Ats K H xs us
end
mutual
def eqP:Py→Py→Bool
 | .non,.non=>true
 | .bl a,.bl b=>a == b
 | .int a,.int b=>a == b
 | .bl a,.int b=>(if a then 1 else 0) == b
 | .int a,.bl b=>a == (if b then 1 else 0)
 | .str a,.str b=>a == b
 | .tup xs,.tup ys=>eqPs xs ys
 | .lst xs,.lst ys=>eqPs xs ys
 | _,_=>false
def eqPs:List Py→List Py→Bool
 | [],[]=>true
 | x :: xs,y :: ys=>eqP x y && eqPs xs ys
 | _,_=>false
end
mutual
def dep:Py→Nat
 | .tup xs=>deps xs + 1
 | .lst xs=>deps xs + 1
 | _=>0
def deps:List Py→Nat
 | []=>0
 | x :: xs=>max (dep x) (deps xs)
end
mutual
theorem eqP_self:∀ x:Py,eqP x x=true
 | .non=>rfl
 | .bl b=>by simp [eqP]
 | .int b=>by simp [eqP]
 | .str b=>by simp [eqP]
 | .tup xs=>by simpa [eqP] using eqPs_self xs
 | .lst xs=>by simpa [eqP] using eqPs_self xs
theorem eqPs_self:∀ xs:List Py,eqPs xs xs=true
 | []=>rfl
 | x :: xs=>by simp [eqPs,eqP_self x,eqPs_self xs]
end
mutual
theorem At.same {K:PySem.W.Frag} {H H':Hp} (e:Same H H'):∀ {x:Py} {v:V},At K H x v→At K H' x v
 | .non,_,h=>h
 | .bl _,_,h=>h
 | .int _,_,h=>h
 | .str _,_,h=>h
 | .tup xs,_,⟨a,vs,e1,h,k⟩=>⟨a,vs,e1,e.tup h,Ats.same e k⟩
 | .lst xs,_,⟨a,vs,e1,h,k⟩=>⟨a,vs,e1,e.seq h,Ats.same e k⟩
theorem Ats.same {K:PySem.W.Frag} {H H':Hp} (e:Same H H'):∀ {xs:List Py} {vs:List V},Ats K H xs vs→Ats K H' xs vs
 | [],_,h=>h
 | _ :: _,_,⟨v,us,e1,h,k⟩=>⟨v,us,e1,At.same e h,Ats.same e k⟩
end
theorem Ats.length {K:PySem.W.Frag} {H:Hp}:∀ {xs:List Py} {vs:List V},Ats K H xs vs→xs.length=vs.length
 | [],_,h=>by cases h;rfl
 | _ :: xs,_,⟨v,us,e1,_,k⟩=>by subst e1;simp [Ats.length k]
def ePs (xs ys:List Py) (j:Nat):Bool:=match xs[j]?,ys[j]? with
 | some x,some y=>eqP x y
 | _,_=>false
theorem all_ePs:∀ (xs ys:List Py),((List.range (min xs.length ys.length)).all (ePs xs ys) && (xs.length == ys.length))=eqPs xs ys
 | [],[]=>rfl
 | [],_ :: _=>by simp [eqPs]
 | _ :: _,[]=>by simp [eqPs]
 | x :: xs,y :: ys=>by
  have ih:=all_ePs xs ys
  rw [List.length_cons,List.length_cons,Nat.succ_min_succ,List.range_succ_eq_map,List.all_cons,List.all_map]
  have e1:(ePs (x :: xs) (y :: ys) ∘ Nat.succ)=ePs xs ys:=by
   funext j
   simp [ePs]
  have e2:(xs.length + 1 == ys.length + 1)=(xs.length == ys.length):=by
   rw [Bool.eq_iff_iff]
   simp
  rw [e1,e2,Bool.and_assoc,ih]
  simp [ePs,eqPs]
section
variable {X:Cx} {pins:List (Addr × Obj)} {σ:L2.St} {H:Hp} {s:Shared}
mutual
theorem At.one (I:Inv X pins σ H s):∀ {x y:Py} {v:V},At X.K H x v→At X.K H y v→eqP x y=true
 | .non,y,v,h,k=>by cases h;cases y <;> simp_all [At,eqP]
 | .bl b,y,v,h,k=>by cases h;cases y <;> simp_all [At,eqP]
 | .int b,y,v,h,k=>by cases h;cases y <;> simp_all [At,eqP]
 | .str b,y,v,h,k=>by cases h;cases y <;> simp_all [At,eqP]
 | .tup xs,y,v,h,k=>by
  obtain ⟨a,vs,rfl,h1,h2⟩:=h
  cases y with
  | tup ys =>
   obtain ⟨b,us,e,k1,k2⟩:=k
   cases e
   cases I.tuple_inj h1 k1
   simpa [eqP] using Ats.one I h2 k2
  | lst ys =>
   obtain ⟨b,us,e,k1,k2⟩:=k
   cases e
   obtain ⟨_,_,⟨o,e1,c1,_⟩,_⟩:=I.tuple h1
   obtain ⟨_,_,⟨o',n,e2,c2,_⟩,_⟩:=I.list k1
   rw [e1] at e2;cases e2;exact absurd (Value.type.inj (c1.symm.trans c2)) (by decide)
  | _=>cases k
 | .lst xs,y,v,h,k=>by
  obtain ⟨a,vs,rfl,h1,h2⟩:=h
  cases y with
  | lst ys =>
   obtain ⟨b,us,e,k1,k2⟩:=k
   cases e
   cases I.list_inj h1 k1
   simpa [eqP] using Ats.one I h2 k2
  | tup ys =>
   obtain ⟨b,us,e,k1,k2⟩:=k
   cases e
   obtain ⟨_,_,⟨o,e1,c1,_⟩,_⟩:=I.tuple k1
   obtain ⟨_,_,⟨o',n,e2,c2,_⟩,_⟩:=I.list h1
   rw [e1] at e2;cases e2;exact absurd (Value.type.inj (c1.symm.trans c2)) (by decide)
  | _=>cases k
theorem Ats.one (I:Inv X pins σ H s):∀ {xs ys:List Py} {vs:List V},Ats X.K H xs vs→Ats X.K H ys vs→eqPs xs ys=true
 | [],ys,vs,h,k=>by
  cases h
  cases ys with
  | nil=>rfl
  | cons y ys=>obtain ⟨_,_,e,_⟩:=k;cases e
 | x :: xs,ys,vs,h,k=>by
  obtain ⟨v,us,rfl,h1,h2⟩:=h
  cases ys with
  | nil=>cases k
  | cons y ys =>
   obtain ⟨v',us',e,k1,k2⟩:=k
   cases e
   simp [eqPs,At.one I h1 k1,Ats.one I h2 k2]
end
mutual
theorem eqAt (I:Inv X pins σ H s):∀ (x y:Py) {v v':V} {u u':Value} {A:Around},At X.K H x v→At X.K H y v'→RelV v u→RelV v' u'→A.units + dep x < cLine→SeqAt.EqAt A s u u' (eqP x y)
 | .non,y,v,v',u,u',A,h,k,r,r',hu=>by
  cases h;cases r
  cases y with
  | non=>cases k;cases r';exact SeqAt.EqAt.same _
  | bl b=>cases k;cases r';exact SeqAt.EqAt.none_bool _
  | int b=>cases k;obtain ⟨t,rfl⟩:=r';exact SeqAt.EqAt.none_int _ _
  | str b=>cases k;obtain ⟨t,rfl⟩:=r';exact SeqAt.EqAt.none_str _ _
  | tup ys=>obtain ⟨a,vs,rfl,h1,h2⟩:=k;cases r';obtain ⟨_,_,p,_⟩:=I.tuple h1;exact SeqAt.EqAt.none_tuple p (by simpa [dep] using hu)
  | lst ys=>obtain ⟨a,vs,rfl,h1,h2⟩:=k;cases r';obtain ⟨_,_,p,_⟩:=I.list h1;exact SeqAt.EqAt.none_list p.isList (by simpa [dep] using hu)
 | .bl x,y,v,v',u,u',A,h,k,r,r',hu=>by
  cases h;cases r
  cases y with
  | non=>cases k;cases r';exact SeqAt.EqAt.bool_none _
  | bl b=>cases k;cases r';exact SeqAt.EqAt.bool_bool _ _
  | int b=>cases k;obtain ⟨t,rfl⟩:=r';exact SeqAt.EqAt.bool_int _ _ _
  | str b=>cases k;obtain ⟨t,rfl⟩:=r';exact SeqAt.EqAt.bool_str _ _ _
  | tup ys=>obtain ⟨a,vs,rfl,h1,h2⟩:=k;cases r';obtain ⟨_,_,p,_⟩:=I.tuple h1;exact SeqAt.EqAt.bool_tuple _ p (by simpa [dep] using hu)
  | lst ys=>obtain ⟨a,vs,rfl,h1,h2⟩:=k;cases r';obtain ⟨_,_,p,_⟩:=I.list h1;exact SeqAt.EqAt.bool_list _ p.isList (by simpa [dep] using hu)
 | .int x,y,v,v',u,u',A,h,k,r,r',hu=>by
  cases h;obtain ⟨t0,rfl⟩:=r
  cases y with
  | non=>cases k;cases r';exact SeqAt.EqAt.int_none _ _
  | bl b=>cases k;cases r';exact SeqAt.EqAt.int_bool _ _ _
  | int b=>cases k;obtain ⟨t,rfl⟩:=r';exact SeqAt.EqAt.int_int _ _ _ _
  | str b=>cases k;obtain ⟨t,rfl⟩:=r';exact SeqAt.EqAt.int_str _ _ _ _
  | tup ys=>obtain ⟨a,vs,rfl,h1,h2⟩:=k;cases r';obtain ⟨_,_,p,_⟩:=I.tuple h1;exact SeqAt.EqAt.int_tuple _ _ p (by simpa [dep] using hu)
  | lst ys=>obtain ⟨a,vs,rfl,h1,h2⟩:=k;cases r';obtain ⟨_,_,p,_⟩:=I.list h1;exact SeqAt.EqAt.int_list _ _ p.isList (by simpa [dep] using hu)
 | .str x,y,v,v',u,u',A,h,k,r,r',hu=>by
  cases h;obtain ⟨t0,rfl⟩:=r
  cases y with
  | non=>cases k;cases r';exact SeqAt.EqAt.str_none _ _
  | bl b=>cases k;cases r';exact SeqAt.EqAt.str_bool _ _ _
  | int b=>cases k;obtain ⟨t,rfl⟩:=r';exact SeqAt.EqAt.str_int _ _ _ _
  | str b=>cases k;obtain ⟨t,rfl⟩:=r';exact SeqAt.EqAt.str_str _ _ _ _
  | tup ys=>obtain ⟨a,vs,rfl,h1,h2⟩:=k;cases r';obtain ⟨_,_,p,_⟩:=I.tuple h1;exact SeqAt.EqAt.str_tuple _ _ p (by simpa [dep] using hu)
  | lst ys=>obtain ⟨a,vs,rfl,h1,h2⟩:=k;cases r';obtain ⟨_,_,p,_⟩:=I.list h1;exact SeqAt.EqAt.str_list _ _ p.isList (by simpa [dep] using hu)
 | .tup xs,y,v,v',u,u',A,h,k,r,r',hu=>by
  have h0:=h
  obtain ⟨a,vs,rfl,h1,h2⟩:=h
  cases r
  obtain ⟨is,r1,p1,_⟩:=I.tuple h1
  have hu0:A.units < cLine:=by omega
  have hu1:A.in1.units + deps xs < cLine:=by
   have e:dep (.tup xs)=deps xs + 1:=by rw [dep]
   rw [e] at hu
   show A.units + 1 + deps xs < cLine
   omega
  cases y with
  | non=>cases k;cases r';exact SeqAt.EqAt.tuple_none p1 hu0
  | bl b=>cases k;cases r';exact SeqAt.EqAt.tuple_bool _ p1 hu0
  | int b=>cases k;obtain ⟨t,rfl⟩:=r';exact SeqAt.EqAt.tuple_int _ _ p1 hu0
  | str b=>cases k;obtain ⟨t,rfl⟩:=r';exact SeqAt.EqAt.tuple_str _ _ p1 hu0
  | lst ys=>obtain ⟨b,us,rfl,k1,k2⟩:=k;cases r';obtain ⟨_,_,p,_⟩:=I.list k1;exact SeqAt.EqAt.tuple_list p1 p.isList hu0
  | tup ys =>
   have k0:=k
   obtain ⟨b,us,rfl,k1,k2⟩:=k
   cases r'
   by_cases hab:a=b
   ·subst hab
    rw [At.one I h0 k0]
    exact SeqAt.EqAt.same _
   ·obtain ⟨js,r2,p2,_⟩:=I.tuple k1
    refine SeqAt.EqAt.of_refs hab ?_
    have key:=SeqAt.RcAt.tuples (e:=ePs xs ys) p1 p2 hu0 fun j q1 q2=>eqAts I xs ys h2 k2 r1 r2 hu1 j (by simpa using q1) (by simpa using q2)
    have e1:is.length=xs.length:=by rw [← r1.length,h2.length]
    have e2:js.length=ys.length:=by rw [← r2.length,k2.length]
    simp only [List.size_toArray] at key
    rw [e1,e2,all_ePs] at key
    simpa [eqP] using key
 | .lst xs,y,v,v',u,u',A,h,k,r,r',hu=>by
  have h0:=h
  obtain ⟨a,vs,rfl,h1,h2⟩:=h
  cases r
  obtain ⟨is,r1,p1,_⟩:=I.list h1
  have hu0:A.units < cLine:=by omega
  have hu1:A.in1.units + deps xs < cLine:=by
   have e:dep (.lst xs)=deps xs + 1:=by rw [dep]
   rw [e] at hu
   show A.units + 1 + deps xs < cLine
   omega
  cases y with
  | non=>cases k;cases r';exact SeqAt.EqAt.list_none p1.isList hu0
  | bl b=>cases k;cases r';exact SeqAt.EqAt.list_bool _ p1.isList hu0
  | int b=>cases k;obtain ⟨t,rfl⟩:=r';exact SeqAt.EqAt.list_int _ _ p1.isList hu0
  | str b=>cases k;obtain ⟨t,rfl⟩:=r';exact SeqAt.EqAt.list_str _ _ p1.isList hu0
  | tup ys=>obtain ⟨b,us,rfl,k1,k2⟩:=k;cases r';obtain ⟨_,_,p,_⟩:=I.tuple k1;exact SeqAt.EqAt.list_tuple p1.isList p hu0
  | lst ys =>
   have k0:=k
   obtain ⟨b,us,rfl,k1,k2⟩:=k
   cases r'
   by_cases hab:a=b
   ·subst hab
    rw [At.one I h0 k0]
    exact SeqAt.EqAt.same _
   ·obtain ⟨js,r2,p2,_⟩:=I.list k1
    refine SeqAt.EqAt.of_refs hab ?_
    have e1:is.length=xs.length:=by rw [← r1.length,h2.length]
    have e2:js.length=ys.length:=by rw [← r2.length,k2.length]
    have ae:=all_ePs xs ys
    by_cases hl:xs.length=ys.length
    ·have key:=SeqAt.RcAt.lists (e:=ePs xs ys) p1.isList p2.isList (by simp only [List.size_toArray];omega) hu0 fun j q1 q2=>eqAts I xs ys h2 k2 r1 r2 hu1 j (by simpa using q1) (by simpa using q2)
     simp only [List.size_toArray] at key
     rw [hl,Nat.min_self] at ae
     have e3:(ys.length == ys.length)=true:=by simp
     rw [e3,Bool.and_true] at ae
     rw [e1,hl,ae] at key
     simpa [eqP] using key
    ·have key:=SeqAt.RcAt.lists_lengths p1.isList p2.isList (A:=A) (by simp only [List.size_toArray];rw [e1,e2];simpa using hl) hu0
     have e3:eqPs xs ys=false:=by
      rw [← ae]
      have:(xs.length == ys.length)=false:=by simpa using hl
      rw [this,Bool.and_false]
     simpa [eqP,e3] using key
theorem eqAts (I:Inv X pins σ H s):∀ (xs ys:List Py) {vs us:List V} {is js:List Value} {A:Around},Ats X.K H xs vs→Ats X.K H ys us→Vals vs is→Vals us js→A.units + deps xs < cLine→∀ j (h1:j < is.length) (h2:j < js.length),SeqAt.EqAt A s is[j] js[j] (ePs xs ys j)
 | [],ys,vs,us,is,js,A,h,k,r,r',hu,j,h1,h2=>by
  cases h;cases r;exact absurd h1 (Nat.not_lt_zero _)
 | x :: xs,[],vs,us,is,js,A,h,k,r,r',hu,j,h1,h2=>by
  cases k;cases r';exact absurd h2 (Nat.not_lt_zero _)
 | x :: xs,y :: ys,vs,us,is,js,A,h,k,r,r',hu,j,h1,h2=>by
  obtain ⟨v,vs',rfl,a1,a2⟩:=h
  obtain ⟨v',us',rfl,b1,b2⟩:=k
  cases r with
  | cons q1 q2 =>
   cases r' with
   | cons z1 z2 =>
    have e:deps (x :: xs)=max (dep x) (deps xs):=by rw [deps]
    rw [e] at hu
    cases j with
    | zero=>exact eqAt I x y a1 b1 q1 z1 (by omega)
    | succ j =>
     have:=eqAts I xs ys a2 b2 q2 z2 (A:=A) (by omega) j (by simpa using h1) (by simpa using h2)
     simpa [ePs] using this
end
theorem rcAt (I:Inv X pins σ H s) (x y:Py) {v v':V} {u u':Value} {A:Around} (h:At X.K H x v) (k:At X.K H y v') (r:RelV v u) (r':RelV v' u') (hu:A.units + dep x < cLine):SeqAt.RcAt A s u u' (eqP x y):=by
 have hu0:A.units < cLine:=by omega
 cases x with
 | non =>
  cases h;cases r
  cases y with
  | non=>cases k;cases r';exact SeqAt.RcAt.none_none
  | bl b=>cases k;cases r';exact SeqAt.RcAt.none_bool _
  | int b=>cases k;obtain ⟨t,rfl⟩:=r';exact SeqAt.RcAt.none_int _ _
  | str b=>cases k;obtain ⟨t,rfl⟩:=r';exact SeqAt.RcAt.none_str _ _
  | tup ys=>obtain ⟨b,us,rfl,k1,k2⟩:=k;cases r';obtain ⟨js,r2,p2,_⟩:=I.tuple k1;exact SeqAt.RcAt.none_tuple p2 hu0
  | lst ys=>obtain ⟨b,us,rfl,k1,k2⟩:=k;cases r';obtain ⟨js,r2,p2,_⟩:=I.list k1;exact SeqAt.RcAt.none_list p2.isList hu0
 | bl i =>
  cases h;cases r
  cases y with
  | non=>cases k;cases r';exact SeqAt.RcAt.bool_none _
  | bl b=>cases k;cases r';exact SeqAt.RcAt.bool_bool _ _
  | int b=>cases k;obtain ⟨t,rfl⟩:=r';exact SeqAt.RcAt.bool_int _ _ _
  | str b=>cases k;obtain ⟨t,rfl⟩:=r';exact SeqAt.RcAt.bool_str _ _ _
  | tup ys=>obtain ⟨b,us,rfl,k1,k2⟩:=k;cases r';obtain ⟨js,r2,p2,_⟩:=I.tuple k1;exact SeqAt.RcAt.bool_tuple _ p2 hu0
  | lst ys=>obtain ⟨b,us,rfl,k1,k2⟩:=k;cases r';obtain ⟨js,r2,p2,_⟩:=I.list k1;exact SeqAt.RcAt.bool_list _ p2.isList hu0
 | int i =>
  cases h;obtain ⟨t0,rfl⟩:=r
  cases y with
  | non=>cases k;cases r';exact SeqAt.RcAt.int_none _ _
  | bl b=>cases k;cases r';exact SeqAt.RcAt.int_bool _ _ _
  | int b=>cases k;obtain ⟨t,rfl⟩:=r';exact SeqAt.RcAt.int_int _ _ _ _
  | str b=>cases k;obtain ⟨t,rfl⟩:=r';exact SeqAt.RcAt.int_str _ _ _ _
  | tup ys=>obtain ⟨b,us,rfl,k1,k2⟩:=k;cases r';obtain ⟨js,r2,p2,_⟩:=I.tuple k1;exact SeqAt.RcAt.int_tuple _ _ p2 hu0
  | lst ys=>obtain ⟨b,us,rfl,k1,k2⟩:=k;cases r';obtain ⟨js,r2,p2,_⟩:=I.list k1;exact SeqAt.RcAt.int_list _ _ p2.isList hu0
 | str i =>
  cases h;obtain ⟨t0,rfl⟩:=r
  cases y with
  | non=>cases k;cases r';exact SeqAt.RcAt.str_none _ _
  | bl b=>cases k;cases r';exact SeqAt.RcAt.str_bool _ _ _
  | int b=>cases k;obtain ⟨t,rfl⟩:=r';exact SeqAt.RcAt.str_int _ _ _ _
  | str b=>cases k;obtain ⟨t,rfl⟩:=r';exact SeqAt.RcAt.str_str _ _ _ _
  | tup ys=>obtain ⟨b,us,rfl,k1,k2⟩:=k;cases r';obtain ⟨js,r2,p2,_⟩:=I.tuple k1;exact SeqAt.RcAt.str_tuple _ _ p2 hu0
  | lst ys=>obtain ⟨b,us,rfl,k1,k2⟩:=k;cases r';obtain ⟨js,r2,p2,_⟩:=I.list k1;exact SeqAt.RcAt.str_list _ _ p2.isList hu0
 | tup xs =>
  obtain ⟨a,vs,rfl,h1,h2⟩:=h
  cases r
  obtain ⟨is,r1,p1,_⟩:=I.tuple h1
  have hu1:A.in1.units + deps xs < cLine:=by
   have e:dep (.tup xs)=deps xs + 1:=by rw [dep]
   rw [e] at hu
   show A.units + 1 + deps xs < cLine
   omega
  cases y with
  | non=>cases k;cases r';exact SeqAt.RcAt.tuple_none p1 hu0
  | bl b=>cases k;cases r';exact SeqAt.RcAt.tuple_bool _ p1 hu0
  | int b=>cases k;obtain ⟨t,rfl⟩:=r';exact SeqAt.RcAt.tuple_int _ _ p1 hu0
  | str b=>cases k;obtain ⟨t,rfl⟩:=r';exact SeqAt.RcAt.tuple_str _ _ p1 hu0
  | tup ys =>
   obtain ⟨b,us,rfl,k1,k2⟩:=k;cases r';obtain ⟨js,r2,p2,_⟩:=I.tuple k1
   have e1:is.length=xs.length:=by rw [← r1.length,h2.length]
   have e2:js.length=ys.length:=by rw [← r2.length,k2.length]
   have ae:=all_ePs xs ys
   have key:=SeqAt.RcAt.tuples (e:=ePs xs ys) p1 p2 hu0 fun j q1 q2=>eqAts I xs ys h2 k2 r1 r2 hu1 j (by simpa using q1) (by simpa using q2)
   simp only [List.size_toArray] at key
   rw [e1,e2,ae] at key
   simpa [eqP] using key
  | lst ys=>obtain ⟨b,us,rfl,k1,k2⟩:=k;cases r';obtain ⟨js,r2,p2,_⟩:=I.list k1;exact SeqAt.RcAt.tuple_list p1 p2.isList hu0
 | lst xs =>
  obtain ⟨a,vs,rfl,h1,h2⟩:=h
  cases r
  obtain ⟨is,r1,p1,_⟩:=I.list h1
  have hu1:A.in1.units + deps xs < cLine:=by
   have e:dep (.lst xs)=deps xs + 1:=by rw [dep]
   rw [e] at hu
   show A.units + 1 + deps xs < cLine
   omega
  cases y with
  | non=>cases k;cases r';exact SeqAt.RcAt.list_none p1.isList hu0
  | bl b=>cases k;cases r';exact SeqAt.RcAt.list_bool _ p1.isList hu0
  | int b=>cases k;obtain ⟨t,rfl⟩:=r';exact SeqAt.RcAt.list_int _ _ p1.isList hu0
  | str b=>cases k;obtain ⟨t,rfl⟩:=r';exact SeqAt.RcAt.list_str _ _ p1.isList hu0
  | tup ys=>obtain ⟨b,us,rfl,k1,k2⟩:=k;cases r';obtain ⟨js,r2,p2,_⟩:=I.tuple k1;exact SeqAt.RcAt.list_tuple p1.isList p2 hu0
  | lst ys =>
   obtain ⟨b,us,rfl,k1,k2⟩:=k;cases r';obtain ⟨js,r2,p2,_⟩:=I.list k1
   have e1:is.length=xs.length:=by rw [← r1.length,h2.length]
   have e2:js.length=ys.length:=by rw [← r2.length,k2.length]
   have ae:=all_ePs xs ys
   by_cases hl:xs.length=ys.length
   ·have key:=SeqAt.RcAt.lists (e:=ePs xs ys) p1.isList p2.isList (by simp only [List.size_toArray];omega) hu0 fun j q1 q2=>eqAts I xs ys h2 k2 r1 r2 hu1 j (by simpa using q1) (by simpa using q2)
    simp only [List.size_toArray] at key
    rw [hl,Nat.min_self] at ae
    have e3:(ys.length == ys.length)=true:=by simp
    rw [e3,Bool.and_true] at ae
    rw [e1,hl,ae] at key
    simpa [eqP] using key
   ·have key:=SeqAt.RcAt.lists_lengths p1.isList p2.isList (A:=A) (by simp only [List.size_toArray];rw [e1,e2];simpa using hl) hu0
    have e3:eqPs xs ys=false:=by
     rw [← ae]
     have:(xs.length == ys.length)=false:=by simpa using hl
     rw [this,Bool.and_false]
    simpa [eqP,e3] using key
theorem rneAt (I:Inv X pins σ H s) (x y:Py) {v v':V} {u u':Value} {A:Around} (h:At X.K H x v) (k:At X.K H y v') (r:RelV v u) (r':RelV v' u') (hu:A.units + dep x < cLine):SeqAt.RcNeAt A s u u' (!eqP x y):=by
 have hu0:A.units < cLine:=by omega
 cases x with
 | non =>
  cases h;cases r
  cases y with
  | non=>cases k;cases r';exact SeqAt.RcNeAt.none_none
  | bl b=>cases k;cases r';exact SeqAt.RcNeAt.none_bool _
  | int b=>cases k;obtain ⟨t,rfl⟩:=r';exact SeqAt.RcNeAt.none_int _ _
  | str b=>cases k;obtain ⟨t,rfl⟩:=r';exact SeqAt.RcNeAt.none_str _ _
  | tup ys=>obtain ⟨b,us,rfl,k1,k2⟩:=k;cases r';obtain ⟨js,r2,p2,_⟩:=I.tuple k1;exact SeqAt.RcNeAt.none_tuple p2 hu0
  | lst ys=>obtain ⟨b,us,rfl,k1,k2⟩:=k;cases r';obtain ⟨js,r2,p2,_⟩:=I.list k1;exact SeqAt.RcNeAt.none_list p2.isList hu0
 | bl i =>
  cases h;cases r
  cases y with
  | non=>cases k;cases r';exact SeqAt.RcNeAt.bool_none _
  | bl b=>cases k;cases r';exact SeqAt.RcNeAt.bool_bool _ _
  | int b=>cases k;obtain ⟨t,rfl⟩:=r';exact SeqAt.RcNeAt.bool_int _ _ _
  | str b=>cases k;obtain ⟨t,rfl⟩:=r';exact SeqAt.RcNeAt.bool_str _ _ _
  | tup ys=>obtain ⟨b,us,rfl,k1,k2⟩:=k;cases r';obtain ⟨js,r2,p2,_⟩:=I.tuple k1;exact SeqAt.RcNeAt.bool_tuple _ p2 hu0
  | lst ys=>obtain ⟨b,us,rfl,k1,k2⟩:=k;cases r';obtain ⟨js,r2,p2,_⟩:=I.list k1;exact SeqAt.RcNeAt.bool_list _ p2.isList hu0
 | int i =>
  cases h;obtain ⟨t0,rfl⟩:=r
  cases y with
  | non=>cases k;cases r';exact SeqAt.RcNeAt.int_none _ _
  | bl b=>cases k;cases r';exact SeqAt.RcNeAt.int_bool _ _ _
  | int b=>cases k;obtain ⟨t,rfl⟩:=r';exact SeqAt.RcNeAt.int_int _ _ _ _
  | str b=>cases k;obtain ⟨t,rfl⟩:=r';exact SeqAt.RcNeAt.int_str _ _ _ _
  | tup ys=>obtain ⟨b,us,rfl,k1,k2⟩:=k;cases r';obtain ⟨js,r2,p2,_⟩:=I.tuple k1;exact SeqAt.RcNeAt.int_tuple _ _ p2 hu0
  | lst ys=>obtain ⟨b,us,rfl,k1,k2⟩:=k;cases r';obtain ⟨js,r2,p2,_⟩:=I.list k1;exact SeqAt.RcNeAt.int_list _ _ p2.isList hu0
 | str i =>
  cases h;obtain ⟨t0,rfl⟩:=r
  cases y with
  | non=>cases k;cases r';exact SeqAt.RcNeAt.str_none _ _
  | bl b=>cases k;cases r';exact SeqAt.RcNeAt.str_bool _ _ _
  | int b=>cases k;obtain ⟨t,rfl⟩:=r';exact SeqAt.RcNeAt.str_int _ _ _ _
  | str b=>cases k;obtain ⟨t,rfl⟩:=r';exact SeqAt.RcNeAt.str_str _ _ _ _
  | tup ys=>obtain ⟨b,us,rfl,k1,k2⟩:=k;cases r';obtain ⟨js,r2,p2,_⟩:=I.tuple k1;exact SeqAt.RcNeAt.str_tuple _ _ p2 hu0
  | lst ys=>obtain ⟨b,us,rfl,k1,k2⟩:=k;cases r';obtain ⟨js,r2,p2,_⟩:=I.list k1;exact SeqAt.RcNeAt.str_list _ _ p2.isList hu0
 | tup xs =>
  obtain ⟨a,vs,rfl,h1,h2⟩:=h
  cases r
  obtain ⟨is,r1,p1,_⟩:=I.tuple h1
  have hu1:A.in1.units + deps xs < cLine:=by
   have e:dep (.tup xs)=deps xs + 1:=by rw [dep]
   rw [e] at hu
   show A.units + 1 + deps xs < cLine
   omega
  cases y with
  | non=>cases k;cases r';exact SeqAt.RcNeAt.tuple_none p1 hu0
  | bl b=>cases k;cases r';exact SeqAt.RcNeAt.tuple_bool _ p1 hu0
  | int b=>cases k;obtain ⟨t,rfl⟩:=r';exact SeqAt.RcNeAt.tuple_int _ _ p1 hu0
  | str b=>cases k;obtain ⟨t,rfl⟩:=r';exact SeqAt.RcNeAt.tuple_str _ _ p1 hu0
  | tup ys =>
   obtain ⟨b,us,rfl,k1,k2⟩:=k;cases r';obtain ⟨js,r2,p2,_⟩:=I.tuple k1
   have e1:is.length=xs.length:=by rw [← r1.length,h2.length]
   have e2:js.length=ys.length:=by rw [← r2.length,k2.length]
   have ae:=all_ePs xs ys
   have key:=SeqAt.RcNeAt.tuples (e:=ePs xs ys) p1 p2 hu0 fun j q1 q2=>eqAts I xs ys h2 k2 r1 r2 hu1 j (by simpa using q1) (by simpa using q2)
   simp only [List.size_toArray] at key
   rw [e1,e2,ae] at key
   simpa [eqP] using key
  | lst ys=>obtain ⟨b,us,rfl,k1,k2⟩:=k;cases r';obtain ⟨js,r2,p2,_⟩:=I.list k1;exact SeqAt.RcNeAt.tuple_list p1 p2.isList hu0
 | lst xs =>
  obtain ⟨a,vs,rfl,h1,h2⟩:=h
  cases r
  obtain ⟨is,r1,p1,_⟩:=I.list h1
  have hu1:A.in1.units + deps xs < cLine:=by
   have e:dep (.lst xs)=deps xs + 1:=by rw [dep]
   rw [e] at hu
   show A.units + 1 + deps xs < cLine
   omega
  cases y with
  | non=>cases k;cases r';exact SeqAt.RcNeAt.list_none p1.isList hu0
  | bl b=>cases k;cases r';exact SeqAt.RcNeAt.list_bool _ p1.isList hu0
  | int b=>cases k;obtain ⟨t,rfl⟩:=r';exact SeqAt.RcNeAt.list_int _ _ p1.isList hu0
  | str b=>cases k;obtain ⟨t,rfl⟩:=r';exact SeqAt.RcNeAt.list_str _ _ p1.isList hu0
  | tup ys=>obtain ⟨b,us,rfl,k1,k2⟩:=k;cases r';obtain ⟨js,r2,p2,_⟩:=I.tuple k1;exact SeqAt.RcNeAt.list_tuple p1.isList p2 hu0
  | lst ys =>
   obtain ⟨b,us,rfl,k1,k2⟩:=k;cases r';obtain ⟨js,r2,p2,_⟩:=I.list k1
   have e1:is.length=xs.length:=by rw [← r1.length,h2.length]
   have e2:js.length=ys.length:=by rw [← r2.length,k2.length]
   have ae:=all_ePs xs ys
   by_cases hl:xs.length=ys.length
   ·have key:=SeqAt.RcNeAt.lists (e:=ePs xs ys) p1.isList p2.isList (by simp only [List.size_toArray];omega) hu0 fun j q1 q2=>eqAts I xs ys h2 k2 r1 r2 hu1 j (by simpa using q1) (by simpa using q2)
    simp only [List.size_toArray] at key
    rw [hl,Nat.min_self] at ae
    have e3:(ys.length == ys.length)=true:=by simp
    rw [e3,Bool.and_true] at ae
    rw [e1,hl,ae] at key
    simpa [eqP] using key
   ·have key:=SeqAt.RcNeAt.lists_lengths p1.isList p2.isList (A:=A) (by simp only [List.size_toArray];rw [e1,e2];simpa using hl) hu0
    have e3:eqPs xs ys=false:=by
     rw [← ae]
     have:(xs.length == ys.length)=false:=by simpa using hl
     rw [this,Bool.and_false]
    simpa [eqP,e3] using key
def rP (K:PySem.W.Frag) (f:Bool→Bool):R2:=fun v v' H Q=>∃ x y:Py,At K H x v∧At K H y v'∧dep x≤60∧Q (.bl (f (eqP x y))) H
theorem op_eqP (hu:X.A.units + 61 < cLine):OpR X (compareOp .Eq) (rP X.K id):=by
 intro pins s σ H x y v u Q I rx ry h
 obtain ⟨a,b,h1,h2,d,q⟩:=h
 exact rcAt I a b h1 h2 rx ry (by omega) X.prog X.w X.xe _ ⟨.bl _,H,I,rfl,q⟩
theorem op_neP (hu:X.A.units + 61 < cLine):OpR X (compareOp .NotEq) (rP X.K not):=by
 intro pins s σ H x y v u Q I rx ry h
 obtain ⟨a,b,h1,h2,d,q⟩:=h
 exact rneAt I a b h1 h2 rx ry (by omega) X.prog X.w X.xe _ ⟨.bl _,H,I,rfl,q⟩
end
end Ov
namespace Ov
open PySem PySem.Spec PySem.Calls PyProof.Rows PySem.W Builtin.Getset_descriptor
def ExcAt (x D:Addr) (h:Heap):Prop:=∃ ox,h.get? x=some ox∧ox.cls=.ref D
theorem ExcAt.ty {M:Model} {h:Heap} {x D:Addr} (I:ExcAt x D h):Looks M h (typeOf (.ref x)) (.ref D):=by
 obtain ⟨ox,a,b⟩:=I
 rw [← b]
 exact (Looks.ld a).andThen .now
section
variable {prog:Program} {w:World} {A:Around} {E:Value→Shared→Prop} {s:Shared} {K:Frag} {x D:Addr}
structure XCls (K:Frag) (D:Addr):Prop where
 cls:(clsIn K D).isSome=true
 ga:findIn K (.ref D) "__getattribute__"=some (some (.builtin "BaseException.__getattribute__"))
 gt:findIn K (.ref D) "__getattr__"=some none
 ca:findIn K (.ref D) "__class__"=some (some (.builtin "object.__class__"))
 get:specialIn K (.builtin "object.__class__") "__get__"=some (some (.builtin "getset_descriptor.__get__"))
 tk:takesIn K (.builtin "object.__class__")=some true
 obj:mroIn K D (.type "object")=some true
 bex:subIn K (.ref D) (.type "BaseException")=some true
theorem XCls.at {h:Heap} (Z:XCls K D) (X:K.In h):∃ c d cd sl,h.get? D=some ⟨c,d,.cls cd,sl⟩:=by
 obtain ⟨cd,q⟩:=Option.isSome_iff_exists.mp Z.cls
 unfold clsIn at q
 split at q
 ·exact ⟨_,_,_,_,X _ _ (by assumption)⟩
 ·cases q
end
end Ov
namespace Ov
open PySem PySem.Spec PyProof.Rows L2
structure FlyAt (P:Program) (w:World) (outer:List Env) (H:Hp) (s:Shared) (ea:Addr) (cls:Value) (H':Hp) (s':Shared):Prop where
 os:s'.os=s.os
 bare:AllBare s'.gens
 un:Un (frs outer) [] H H' s.heap s'.heap
 hok:HOk P w H' s'.heap
 fl:∃ B t,Heap.FlyingW B outer ea cls (.ref t) s'.heap∧∀ b o,s'.heap.get? b=some o→(H' b≠none∨∃ o₀,s.heap.get? b=some o₀)→b ∉ frs outer→B.get? b=some o
def Fly (P:Program) (w:World):CXT:=fun outer H s E e s'=>∃ ea cls H',e=.ref ea∧FlyAt P w outer H s ea cls H' s'∧E cls none H'
theorem objSome {P:Program} {w:World} {H:Hp} {h:Heap} {a:Addr} {o:HO} (x:ObjOk P w H h a o):∃ ob,h.get? a=Option.some ob:=by
 have lt:=x.lt
 cases o with
 | lst xs=>obtain ⟨_,_,_,_,e⟩:=x;exact ⟨_,e⟩
 | tup xs=>obtain ⟨_,_,_,ob,e,_⟩:=x;exact ⟨_,e⟩
 | dK kvs=>obtain ⟨_,_,_,_,o,_,_,e,_⟩:=x;exact ⟨_,e⟩
 | dE kvs ep=>obtain ⟨_,_,_,_,o,_,e,_⟩:=x;exact ⟨_,e⟩
 | set S n=>obtain ⟨o,_,_,_,e,_⟩:=x;exact ⟨_,e⟩
 | ins C dx fs=>obtain ⟨_,_,_,e,_⟩:=x;exact ⟨_,e⟩
 | own y=>exact x
 | xd fs=>obtain ⟨_,⟨_,_,_,e,_⟩,_⟩:=x;exact ⟨_,e⟩
 | rng lo hi=>obtain ⟨_,_,_,e⟩:=x;exact ⟨_,e⟩
 | frz ob u=>obtain ⟨e,_⟩:=x;exact ⟨_,e⟩
 | tbl ps=>exact ⟨_,x⟩
 | met f y=>exact ⟨_,x⟩
 | ext φ=>obtain ⟨_,e,_⟩:=x;exact e
section
variable {X:Cx} {pins:List (Addr × Obj)} {σ:L2.St} {H H':Hp} {s:Shared} {ea t:Addr} {cls:Value} {B h1 h2:Heap}
theorem frame_no (I:Inv X pins σ H s) (un:Un (frs X.stack) [] H H' s.heap h1) {b:Addr} (hb:b∈frs X.stack):H' b=none∧∃ o,h1.get? b=some o∧∀ vs,o.data≠.fields vs:=by
 obtain ⟨_,o,ho,hn⟩:=I.stack.mem hb
 have n:=I.stkFree b hb
 obtain ⟨sl,e⟩:=un.any ho n (by simp)
 exact ⟨un.free b o ho n (by simp),_,e,hn⟩
theorem held_un (I:Inv X pins σ H s) (un:Un (frs X.stack) [] H H' s.heap h1) (cov:∀ b o,h1.get? b=some o→(H' b≠none∨∃ o₀,s.heap.get? b=some o₀)→b ∉ frs X.stack→B.get? b=some o)
  (hB:B.StaysIn h2) (up:h1.UpToSlots h2):Un (frs X.stack) [] H H' s.heap h2 where
 keep:=fun b o e n hb hx=>hB b o (cov b o (un.keep b o e n hb hx) (.inr ⟨o,e⟩) hb)
 slot:=fun b o e n hb hx=>by
  obtain ⟨sl,e1⟩:=un.slot b o e n hb hx
  obtain ⟨_,o',e2,hn⟩:=frame_no I un hb
  rw [e1] at e2;cases e2
  obtain ⟨sl',e3⟩:=up b _ e1 hn
  exact ⟨sl',e3⟩
 free:=un.free
 there:=fun b o e hx=>by
  obtain ⟨o',e1⟩:=un.there b o e hx
  by_cases hb:b∈frs X.stack
  ·obtain ⟨_,o2,e2,hn⟩:=frame_no I un hb
   obtain ⟨sl',e3⟩:=up b _ e2 hn
   exact ⟨_,e3⟩
  ·exact ⟨o',hB b o' (cov b o' e1 (.inr ⟨o,e⟩) hb)⟩
 tups:=un.tups
 frzs:=un.frzs
 tbls:=un.tbls
theorem held_ok (I:Inv X pins σ H s) (un:Un (frs X.stack) [] H H' s.heap h1) (cov:∀ b o,h1.get? b=some o→(H' b≠none∨∃ o₀,s.heap.get? b=some o₀)→b ∉ frs X.stack→B.get? b=some o)
  (hB:B.StaysIn h2) (ok:HOk X.prog X.w H' h1):HOk X.prog X.w H' h2:=fun a o e=>by
 have nf:∀ b u,H' b=some u→b ∉ frs X.stack:=fun b u q hb=>by
  have:=(frame_no I un hb).1
  rw [q] at this;cases this
 refine (ok a o e).stay (fun b u hb q=>?_) (fun _ q=>q) fun _ _ q=>q
 rcases hb with rfl | hb
 ·exact hB _ _ (cov _ _ q (.inl (by rw [e];exact fun z=>nomatch z)) (nf _ _ e))
 ·exact hB _ _ (cov _ _ q (.inl (by rw [hb];exact fun z=>nomatch z)) (nf _ _ hb))
theorem cov_on (un:Un (frs X.stack) [] H H' s.heap h1) (ok:HOk X.prog X.w H' h1) (cov:∀ b o,h1.get? b=some o→(H' b≠none∨∃ o₀,s.heap.get? b=some o₀)→b ∉ frs X.stack→B.get? b=some o) (hB:B.StaysIn h2) :
  ∀ b o,h2.get? b=some o→(H' b≠none∨∃ o₀,s.heap.get? b=some o₀)→b ∉ frs X.stack→B.get? b=some o:=fun b o e hb nb=>by
 have:∃ o1,h1.get? b=some o1:=by
  rcases hb with z | ⟨o₀,z⟩
  ·cases q:H' b with
   | none=>exact absurd q z
   | some u=>exact objSome (ok b u q)
  ·exact un.there b o₀ z (by simp)
 obtain ⟨o1,e1⟩:=this
 have c:=cov b o1 e1 hb nb
 have:=hB b o1 c
 rw [e] at this;cases this
 exact c
theorem fly_out {s2:Shared} (I:Inv X pins σ H s) (hst:X.stack=X.env :: X.outer) (hfr:X.env.frame=some X.env.locals) (hex:X.ex=[]) (os:s2.os=s.os) (bare:AllBare s2.gens) (un:Un (frs X.stack) [] H H' s.heap s2.heap)
  (ok:HOk X.prog X.w H' s2.heap) (cov:∀ b o,s2.heap.get? b=some o→(H' b≠none∨∃ o₀,s.heap.get? b=some o₀)→b ∉ frs X.stack→B.get? b=some o) (fl:Heap.FlyingW B X.outer ea cls (.ref t) s2.heap) :
  FlyAt X.prog X.w X.outer X.H₀ X.s₀ ea cls H' s2:=by
 have nst:∀ b o,X.s₀.heap.get? b=some o→b ∉ X.fs→b ∉ frs X.stack:=fun b o e nb hb=>by
  rcases List.mem_cons.mp (I.stkSub b hb) with z | z
  ·have:=Nat.lt_of_lt_of_le (Heap.lt_size e) I.ok.above
   rw [z] at this
   exact Nat.lt_irrefl _ this
  ·exact nb z
 have sub:∀ b,b∈X.fs→b∈frs X.stack:=fun b hb=>by rw [hst];unfold frs;rw [List.filterMap_cons,hfr];exact List.mem_cons_of_mem _ hb
 have nx:∀ b:Addr,b ∉ X.ex:=fun b=>by rw [hex];simp
 refine ⟨os.trans I.os,bare,⟨fun b o e n hb _=>?_,fun b o e n hb _=>?_,fun b o e n _=>?_,fun b o e _=>?_,fun b xs q=>un.tups b xs (I.base.tups b xs q),fun b o xs q=>un.frzs b o xs (I.base.frzs b o xs q),fun b ps q=>?_⟩,ok,B,t,fl,fun b o e hb nb=>?_⟩
 ·exact un.keep b o (I.base.keep b o e n hb (nx b)) (I.base.free b o e n (nx b)) (nst b o e hb) (by simp)
 ·obtain ⟨sl,e1⟩:=I.base.slot b o e n hb (nx b)
  obtain ⟨sl',e2⟩:=un.slot b _ e1 (I.base.free b o e n (nx b)) (sub b hb) (by simp)
  exact ⟨sl',e2⟩
 ·obtain ⟨o',e1⟩:=I.base.there b o e (nx b)
  exact un.free b o' e1 (I.base.free b o e n (nx b)) (by simp)
 ·obtain ⟨o',e1⟩:=I.base.there b o e (nx b)
  exact un.there b o' e1 (by simp)
 ·obtain ⟨m1,e1⟩:=I.base.tbls b ps q
  obtain ⟨m2,e2⟩:=un.tbls b _ e1
  exact ⟨m1 ++ m2,by rw [e2,Array.append_assoc]⟩
 ·rcases hb with z | ⟨o₀,z⟩
  ·exact cov b o e (.inl z) fun hb=>z (frame_no I un hb).1
  ·obtain ⟨o1,e1⟩:=I.base.there b o₀ z (nx b)
   exact cov b o e (.inr ⟨o1,e1⟩) (nst b o₀ z nb)
theorem leave_fly {E:XK} {e:Value} {s':Shared} {R:Value→Shared→Prop} (I:Inv X pins σ H s) (hst:X.stack=X.env :: X.outer) (hfr:X.env.frame=some X.env.locals) (hex:X.ex=[]) (h:Fly X.prog X.w X.stack H s E e s') :
  wpAny (model X.prog X.w) X.A (leaving X.env e) (fun _ s''=>Fly X.prog X.w X.outer X.H₀ X.s₀ E e s'') R s':=by
 obtain ⟨ea,cls,H',rfl,F,q⟩:=h
 obtain ⟨B,t,fl,cov⟩:=F.fl
 refine wpAny_leaves_onW (by rw [I.ok.frames,hst]) hfr (hst ▸ fl) fun h2 fl2 up=>?_
 exact ⟨ea,cls,H',rfl,fly_out (s2:={ s' with heap:=h2 }) I hst hfr hex F.os F.bare (held_un I F.un cov fl2.1 up) (held_ok I F.un cov fl2.1 F.hok) (cov_on F.un F.hok cov fl2.1) fl2,q⟩
theorem leave_new {E:XK} {e C:Addr} {args:List Value} {h':Heap} {R:Value→Shared→Prop} (I:Inv X pins σ H s) (hst:X.stack=X.env :: X.outer) (hfr:X.env.frame=some X.env.locals) (hex:X.ex=[])
  (hx:Heap.MadeExcOf s.heap h' e (.ref C) args) (q:E (.ref C) none H) :
  wpAny (model X.prog X.w) X.A (leaving X.env (.ref e)) (fun _ s''=>Fly X.prog X.w X.outer X.H₀ X.s₀ E (.ref e) s'') R { s with heap:=h' }:=by
 have hin:∀ env∈X.env :: X.outer,∀ a,env.frame=some a→a∈frs X.stack:=fun env he a ha=>by rw [hst];exact List.mem_filterMap.mpr ⟨env,he,ha⟩
 have cov:∀ b o,s.heap.get? b=some o→(H b≠none∨∃ o₀,s.heap.get? b=some o₀)→b ∉ frs X.stack→(PySem.W.hideAll s.heap (frs X.stack)).get? b=some o:=fun b o e _ nb=>PySem.W.hideAll_get _ e nb
 refine wpAny_leaves_madeW (base:=PySem.W.hideAll s.heap (frs X.stack)) (by rw [I.ok.frames,hst]) hfr (fun b o z=>PySem.W.of_hideAll _ z) (PySem.W.funFrames_hide (hst ▸ I.stack) hin) hx fun h2 t fl _ _ up=>?_
 have up2:s.heap.UpToSlots h2:=(Heap.UpToSlots.of_keeps hx.keeps).trans up
 exact ⟨e,.ref C,H,rfl,fly_out (s2:={ s with heap:=h2 }) I hst hfr hex rfl I.bare (held_un I Un.refl cov fl.1 up2) (held_ok I Un.refl cov fl.1 I.hok) (cov_on Un.refl I.hok cov fl.1) fl,q⟩
end
abbrev bmV:List Value:=[.type "ValueError",.type "Exception",.type "BaseException",.type "object"]
structure Own (K:PySem.W.Frag) (mg:Str→Option Value) (x:Str) (C:Addr):Prop where
 mg:mg x=some (.ref C)
 own:PySem.W.excIn K C bmV "ValueError.__new__"=true
 xc:XCls K C
theorem own_obj {K:PySem.W.Frag} {h:Heap} {C:Addr} {bmB:List Value} {newId:String} (X:K.In h) (q:PySem.W.excIn K C bmB newId=true) :
  ∃ bm N nm qn bs hd sn sub ab col dd k0 k1 k2 k3 k5 mN,h.get? C=some (excClassObj nm qn C N bs bm hd sn sub ab col dd k0 k1 k2 k3 k5 newId)∧h.Ns N mN∧mN "__init__"=none∧OwnTail h bmB bm:=by
 unfold PySem.W.excIn at q
 split at q
 ·next dd cd sl ho =>
  split at q
  ·next C' bm k0 k1 k2 k3 n k5 hm hs =>
   simp only [beq_iff_eq,Bool.and_eq_true,Bool.not_eq_true'] at q
   obtain ⟨⟨⟨⟨⟨rfl,rfl⟩,e3⟩,e4⟩,e5⟩,e6⟩:=q
   cases cd with
   | mk nm bs mro ns qn hd sn sub ab col del =>
    have hm:mro=.ref C' :: bm:=hm
    have e3:del=false:=e3
    subst hm;subst e3
    have hsl:sl=#[k0,k1,k2,k3,some (.builtin n),k5]:=Array.toList_inj.mp hs
    subst hsl
    exact ⟨bm,ns,nm,qn,bs,hd,sn,sub,ab,col,dd,k0,k1,k2,k3,k5,_,X _ _ ho,.of_isNs (PySem.W.isNs_of_in X e5),PySem.W.nsMap_none_of_in X e5 e6,PySem.W.tail_of_in X e4⟩
  ·cases q
 ·cases q
def tRaise (C:Addr) (E:XK) (t:TA):TS:=fun _ σ H=>t σ H fun vs H1=>vs.length≤sizeLine∧E (.ref C) none H1
def Throws (X:Cx) (E:XK):Prop:=∀ (pins:List (Addr × Obj)) (σ:L2.St) (H:Hp) (s:Shared) (e C:Addr) (args:List Value) (h':Heap),Inv X pins σ H s→Heap.MadeExcOf s.heap h' e (.ref C) args→E (.ref C) none H→X.xe (.ref e) { s with heap:=h' }
theorem ps_raiseL {X:Cx} {E:XK} {x:Str} {C:Addr} {e:Expr} {es:List Expr} {np cpos pos:Pos} {t:TA} (O:Own X.K X.mg x C) (hc:X.calm=true) (hx:Throws X E) (hg:Gl X x) (ha:PA X (e :: es) t)
  (hd:(x == ("__debug__":Str))=false:=by decide) (he:starEach (e :: es) X.env=(false,eval e X.env) :: starEach es X.env:=by rfl) (hpl:(backTo cpos (starEach es X.env)).any (·.1)=false:=by rfl) :
  PS X (.Raise (some (.Call (.Name x np) (e :: es) [] cpos)) none pos) (tRaise C E t):=by
 intro pins s σ H D I h
 obtain ⟨bm,N,nm,qn,bs,hd',sn,sub,ab,col,dd,k0,k1,k2,k3,k5,mN,hC,hN,hni,T⟩:=own_obj I.mod.kin O.own
 have hplain:(backTo cpos (starEach (e :: es) X.env)).any (·.1)=false:=by
  rw [he]
  show (false || (backTo cpos (starEach es X.env)).any (·.1))=false
  rw [hpl];rfl
 refine wpAny_Raise_call_subT (C:=C) (N:=N) (nm:=nm) (q:=qn) (bs:=bs) (hdct:=hd') (sn:=sn) (sub:=sub) (ab:=ab) (col:=col) (dd:=dd) (k0:=k0) (k1:=k1) (k2:=k2) (k3:=k3) (k5:=k5) PySem.F.excBase_ValueError (T.hasType (by decide +kernel)) (I.ok.hd hc) hplain hni ?_
 refine ld_glob I hg O.mg ⟨rfl,?_⟩ hd
 have key:=thn (ha cpos pins s σ H _ I h) (Q':=fun us s1=>us.length≤sizeLine∧s1.heap.get? C=some (excClassObj nm qn C N bs bm hd' sn sub ab col dd k0 k1 k2 k3 k5 "ValueError.__new__")∧s1.heap.Ns N mN∧OwnTail s1.heap bmV bm ∧
  ∀ h' e,Heap.MadeExcOf s1.heap h' e (.ref C) us→X.xe (.ref e) { s1 with heap:=h' }) fun us s1 ⟨vs,H1,I1,r,z,q⟩ =>
   ⟨by rw [← r.length];exact z,I1.bk _ _ hC,hN.keeps I1.bk,T.keeps I1.bk,fun h' ea hm=>hx pins σ H1 s1 ea C us h' I1 hm q⟩
 rw [he] at key ⊢
 exact PySem.Calls.evalArgs_plain (thn key fun _ _ z=>⟨rfl,z⟩)
section
variable {P:Program} {w:World} {K:PySem.W.Frag} {mg:Str→Option Value} {base:Heap} {N:List Str} {qual:Str} {scope:Scope} {f:Addr} {cd:Value} {A:Around} {outer:List Env} {s:Shared} {H:Hp} {E:XK}
abbrev cxF (P:Program) (w:World) (K:PySem.W.Frag) (mg:Str→Option Value) (base:Heap) (N:List Str) (qual:Str) (scope:Scope) (f:Addr) (cd:Value) (A:Around) (outer:List Env) (s:Shared) (H:Hp) (E:XK):Cx:=cxOf (Fly P w) P w K mg base N qual scope f cd A outer s H E
theorem cxF_throws:Throws (cxF P w K mg base N qual scope f cd A outer s H E) E:=fun pins σ H1 s1 e C args h' I hm q =>
 leave_new (X:=cxF P w K mg base N qual scope f cd A outer s H E) I rfl rfl rfl hm q
theorem cxF_passes:Passes (Fly P w) (cxF P w K mg base N qual scope f cd A outer s H E) E:=fun pins σ H1 s1 e s' I h =>
 leave_fly (X:=cxF P w K mg base N qual scope f cd A outer s H E) I rfl rfl rfl h
theorem cxF_own:PassesOwn (model P w) (cxF P w K mg base N qual scope f cd A outer s H E).A (cxF P w K mg base N qual scope f cd A outer s H E).env (cxF P w K mg base N qual scope f cd A outer s H E).xe:=PassesOwn.leaving
theorem okX {x qual:Str} {st:Stmt} {f:Addr} {fd:FuncData} {N ps:List Str} {k:Nat} {sp:Sp} (F:Fun K x qual st f fd) (S:FnScope N ps (defScope st)) (len:∀ vs H Q E,sp vs H Q E→vs.length=ps.length)
  (hbody:∀ (cdv:Value) (A:Around) (outer:List Env) (s:Shared) (H:Hp) (vs:List V) (Q:VK) (E:XK),Room k (A.deeper (envOfC qual (defScope st) s.heap.objs.size f cdv))→sp vs H Q E →
   ∃ t,QB (cxF P w K mg base N qual (defScope st) f cdv A outer s H E) (defBody st) t∧t { nx:=fun _ H'=>Q .non H',rt:=Q } (start N vs) H):FnOk P w K mg base (Fly P w) (k + 1) f fd ps sp:=by
 obtain ⟨oc,od,kV,doc,pm,an,cdv,ct,osl,rfl,lk,hcd⟩:=F.ex
 refine fn_of lk hcd S len fun A outer s H vs Q E hr hsp=>?_
 obtain ⟨t,h,q⟩:=hbody cdv A outer s H vs Q E hr hsp
 exact ⟨t,h.run,q⟩
end
def CanX (P:Program) (w:World) (K:PySem.W.Frag) (mg:Str→Option Value) (base:Heap) (k:Nat) (x:Str) (ps:List Str) (sp:Sp):Prop :=
 ∃ f fd,FnOk P w K mg base (Fly P w) k f fd ps sp∧Binds K fd ps []∧PySem.W.keepIn K (.ref f)=true∧mg x=some (.ref f)
theorem pe_canX {X:Cx} {k k':Nat} {x:Str} {ps:List Str} {sp:Sp} {p pos:Pos} {e:Expr} {es:List Expr} {t:TA} {E:XK} (C:CanX X.prog X.w X.K X.mg X.base k x ps sp) (hx:Passes (Fly X.prog X.w) X E) (hr:Room k' X.A) (hk:k≤k') (hg:Gl X x) (ha:PA X (e :: es) t)
  (hdb:(x == ("__debug__":Str))=false:=by decide) (he:starEach (e :: es) X.env=(false,eval e X.env) :: starEach es X.env:=by rfl) (hpl:(backTo pos (starEach es X.env)).any (·.1)=false:=by rfl) :
  PE X (.Call (.Name x p) (e :: es) [] pos) (tCall sp [] E t):=by
 obtain ⟨f,fd,F,b,kp,m⟩:=C
 exact pe_call F (hr.mono hk) hg m kp b .nil hx ha hdb he hpl
theorem Def.canX {P:Program} {w:World} {K:PySem.W.Frag} {mg:Str→Option Value} {base:Heap} {x:Str} {st:Stmt} {k:Nat} {ps:List Str} {sp:Sp} (D:Def K mg x st)
  (h:∀ f fd,Fun K x x st f fd→FnOk P w K mg base (Fly P w) k f fd ps sp)
  (hb:∀ (kV doc pm:Value) (an:Option Addr) (cdv ct:Value) (us:List Value),us.length=ps.length→bindArgs (PySem.W.fnOf x x (defArgs st) (defBody st) (defScope st) .none kV doc pm an cdv ct) ⟨us,[]⟩=pure (ps.zip us)) :
  CanX P w K mg base k x ps sp:=by
 obtain ⟨f,fd,F,m⟩:=D
 exact ⟨f,fd,h f fd F,F.binds hb,F.kp,m⟩
section
variable {X:Cx} {pins pn:List (Addr × Obj)} {σ:L2.St} {H H':Hp} {s:Shared}
end
end Ov
namespace Ov
open PySem PySem.Spec PyProof.Rows
open L2 (V HO Hp Inv Cx St VK TE TT TA TS Ends Loc Gl RelV Vals OpR CallR tCall upd E0 Room XK Passes)
section
variable {X:Cx} {e:Expr} {es:List Expr} {t:TA} {x:Str} {np cpos pos p:Pos}
end
open PySem.W in
def xclsB (K:Frag) (D:Addr):Bool:=(clsIn K D).isSome && findIn K (.ref D) "__getattribute__" == some (some (.builtin "BaseException.__getattribute__")) && findIn K (.ref D) "__getattr__" == some none &&
 findIn K (.ref D) "__class__" == some (some (.builtin "object.__class__")) && specialIn K (.builtin "object.__class__") "__get__" == some (some (.builtin "getset_descriptor.__get__")) && takesIn K (.builtin "object.__class__") == some true &&
 mroIn K D (.type "object") == some true && subIn K (.ref D) (.type "BaseException") == some true
theorem xcls_of {K:PySem.W.Frag} {D:Addr} (h:xclsB K D=true):XCls K D:=by
 simp only [xclsB,Bool.and_eq_true,beq_iff_eq] at h
 obtain ⟨⟨⟨⟨⟨⟨⟨a,b⟩,c⟩,d⟩,e⟩,f⟩,g⟩,i⟩:=h
 exact ⟨a,b,c,d,e,f,g,i⟩
open L2 (tAsg tLst tCons tNil tVar tC tCB gName)
theorem _root_.L2.Room.units61 {k:Nat} {A:Around} (r:Room k A):A.units + 61 < cLine:=by have:=r.un;omega
end Ov
namespace Ov
open PySem PySem.Spec PyProof.Rows L2
def TabOk (P:Addr) (h:Heap):Prop:=∃ ps:Array Value,h.get? P=some { cls:=.none,data:=.fields ps }∧TriplesOk ps.toList
def CodeT (K:PySem.W.Frag) (c P:Addr):Prop:=c≠P∧∃ (o:Obj) (vs:Array Value) (file:Str) (tf:Tok) (flags:Int) (tg:Tok) (inF:Bool) (text:Int) (tt:Tok),
 K.lookup c=some o∧o.cls=.type "code"∧o.data=.fields vs∧vs[11]?=some (.ref P)∧vs.getD 18 .none=.str file tf∧vs.getD 7 .none=.int flags tg∧vs.getD 9 .none=.bool inF∧vs.getD 10 .none=.int text tt
def BMain (mg:Str→Option Value) (h:Heap):Prop:=∃ bm ob,mg "__builtins__"=some (.ref bm)∧bm≠builtinsNs∧h.get? bm=some ob∧ob.cls=.type "module"∧ob.dict=some builtinsNs∧ob.data=.plain
theorem CodeT.at {K:PySem.W.Frag} {h:Heap} {c P:Addr} {ps:Array Value} (Z:CodeT K c P) (X:K.In h) (hp:h.get? P=some { cls:=.none,data:=.fields ps }) (tr:TriplesOk ps.toList):h.IsCode c P ps∧h.TableAt c P ps:=by
 obtain ⟨ne,o,vs,file,tf,flags,tg,inF,text,tt,lk,hc,hd,h11,h18,h7,h9,h10⟩:=Z
 have e11:vs.getD 11 .none=.ref P:=by
  rw [Array.getD_eq_getD_getElem?,h11];rfl
 exact ⟨⟨o,vs,file,tf,flags,tg,inF,text,tt,_,X _ _ lk,hd,e11,h18,h7,h9,h10,hp,rfl,tr,ne⟩,⟨o,vs,X _ _ lk,hc,hd,h11⟩,hp⟩
section
variable {X:Cx} {pins:List (Addr × Obj)} {σ:L2.St} {H:Hp} {s:Shared} {c P:Addr}
theorem inv_tab {s':Shared} (I:Inv X pins σ H s) (hP:H P=some (.ext (TabOk P))) (os:s'.os=s.os) (bare:AllBare s'.gens) (k:∀ b o,b≠P→s.heap.get? b=some o→s'.heap.get? b=some o) (t:TabOk P s'.heap):Inv X pins σ H s':=by
 have nP:∀ b,H b=none→b≠P:=fun b n z=>by rw [z,hP] at n;cases n
 have hok:HOk X.prog X.w H s'.heap:=fun b u e=>by
  by_cases hb:b=P
  ·subst hb
   rw [hP] at e;cases e
   obtain ⟨ps,hp,_⟩:=id t
   exact ⟨t,⟨_,hp⟩,((I.hok b _ hP)).2.2⟩
  ·refine (I.hok b u e).stay (fun d v hd q=>k d v ?_ q) (fun _ q=>q) fun _ _ q=>q
   rcases hd with rfl | hd
   ·exact hb
   ·intro z
    rw [z,hP] at hd;cases hd
 have un:Un (frs X.stack) [] H H s.heap s'.heap:=⟨fun b o e n _ _=>k b o (nP b n) e,fun b o e n _ _=>⟨o.slots,k b o (nP b n) e⟩,fun _ _ _ n _=>n,fun b o e _=>by
  by_cases hb:b=P
  ·subst hb
   obtain ⟨ps,hp,_⟩:=t
   exact ⟨_,hp⟩
  ·exact ⟨o,k b o hb e⟩,fun _ _ q=>q,fun _ _ _ q=>q,fun _ ps q=>⟨#[],by rw [q];simp⟩⟩
 exact I.call' os un hok bare fun b z=>absurd z (by simp)
theorem gen_code {M:Model} {A:Around} {E:Value→Shared→Prop} {env:Env} {pos:Pos} {q:Str} {sc:Scope} {Q:Value→Shared→Prop} {s:Shared} (hc:env.code=.ref c) (Z:CodeT X.K c P) (kin:X.K.In s.heap) (t:TabOk P s.heap)
  (h:∀ code h' tk,(∀ b o,b≠P→s.heap.get? b=some o→h'.get? b=some o)→s.heap.objs.size≤h'.objs.size→TabOk P h'→Q code { s with heap:=h',toks:=tk }):wpAny M A (genexprCode env pos q sc) Q E s:=by
 obtain ⟨ps,hp,tr⟩:=t
 obtain ⟨ic,ta⟩:=Z.at kin hp tr
 cases hf:codeAmong pos ps.toList with
 | some c'=>exact wpAny_genexprCode_hit hc ic hf (h c' s.heap s.toks (fun _ _ _ e=>e) (Nat.le_refl _) ⟨ps,hp,tr⟩)
 | none =>
  refine wpAny_genexprCodeX hc ic ta hf fun c' h' tk ext l1 l2 ic' _ ta' _=>h _ h' tk (fun b o nb e=>ext b o nb e) (Nat.le_of_lt (Nat.lt_of_le_of_lt l1 l2)) ⟨_,ta'.2,?_⟩
  obtain ⟨_,_,_,_,_,_,_,_,_,_,_,_,_,_,_,_,_,hop,hpd,tr',_⟩:=ic'
  exact tr'
theorem all_elim {α:Type} (B:List α) (q:α→Bool):((List.range B.length).all fun j=>(B[j]?).elim true q)=B.all q:=by
 rw [Bool.eq_iff_iff,List.all_eq_true,List.all_eq_true]
 refine ⟨fun h b hb=>?_,fun h j hj=>?_⟩
 ·obtain ⟨j,hj,rfl⟩:=List.getElem_of_mem hb
  have:=h j (List.mem_range.mpr hj)
  rwa [List.getElem?_eq_getElem hj] at this
 ·have hj:=List.mem_range.mp hj
  rw [List.getElem?_eq_getElem hj]
  exact h _ (List.getElem_mem hj)
def signIn (tx:Str) (ch:Nat):Bool:=!(Builtin.Str.occurrences tx ⟨#[ch]⟩ 0 tx.length 1).isEmpty
def tAllIn (P:Addr) (tx:Str) (ti:TE):TE:=fun σ H Q=>ti σ H fun v H1=>∃ y:Str,v=.str y∧H1 P=some (.ext (TabOk P))∧Q (.bl (y.cps.toList.all (signIn tx))) H1
theorem quiet_in {prog:Program} {w:World} {env:Env} {scope:Scope} {x g:Str} {tx y:Str} {tt:Tok} {C:Addr} {code:Value} {fp wr:List Addr} {href:Heap} {D U:Nat} {p1 p2 p3:Pos} {mg:Str→Option Value} (sck:scope.kind=.function) (hx:scope.names.lookup x=some .local) (hg:scope.names.lookup g=some .globalImplicit)
  (ns:href.Ns env.globals mg) (hm:mg g=some (.str tx tt)) (h1:env.globals∈fp) (h2:env.globals ∉ wr) (hmk:behindInMarks .In (.Name g p2)=false) (hdx:(x == ("__debug__":Str))=false) (hdg:(g == ("__debug__":Str))=false) :
  QuietGenD prog w (genEnv scope [] C code builtinsNs env) x [] (.Compare (.Name x p1) [.In] [.Name g p2] p3) fp wr (SignAt y) (fun _=>true) (fun i v=>∃ ch,y.cps[i]?=some ch∧v=.bool (signIn tx ch)) href D U where
 tests:=fun A' E' i v s₂ m₂ _ _ _ _ _ _ _=>wpAny_pure ⟨rfl,_,_,rfl,fun _ _ e=>e⟩
 elt:=fun A' E' i v s₂ m₂ _ _ _ hP _ hn hmx hk=>by
  obtain ⟨ch,u,hch,rfl⟩:=hP
  refine wpAny_Compare1 (wpAny_Name (wpAny_loadName_local (show (genEnv scope [] C code builtinsNs env).scope.kind=.function from sck) (show (genEnv scope [] C code builtinsNs env).kindOf x=some .local from hx) hn hmx ?_) hdx) hmk
  refine Calls.Name_function_global (show (genEnv scope [] C code builtinsNs env).scope.kind=.function from sck) (show (genEnv scope [] C code builtinsNs env).kindOf g=some .globalImplicit from hg) (Calls.loadGlobal_global (ns.at' fun o e=>hk _ h1 h2 o e) hm ?_) hdg
  exact in_str ⟨⟨ch,hch,rfl⟩,_,_,rfl,fun _ _ e=>e⟩
theorem pe_allInL {x g:Str} {p px p1 p2 p3 gpos cpos:Pos} {iter:Expr} {ti:TE} {scope:Scope} {tx:Str} {tt:Tok} (hcalm:X.calm=true) (Bm:BMain X.mg X.base) (hcode:X.env.code=.ref c) (Z:CodeT X.K c P) (hdep:X.A.depth < recursionLimit)
  (hgl:Gl X "all") (hma:X.mg "all"=none) (hsg:X.mg g=some (.str tx tt)) (hi:PE X iter ti) (sck:scope.kind=.function) (hco:scope.isCoroutine=false) (hclos:closureFor scope X.env=pure []) (hcell:∀ y∈scope.names,y.2≠.cell)
  (h0:scope.names.lookup (".0":Str)=some NameKind.local) (hx:scope.names.lookup x=some .local) (hsc:scope.names.lookup g=some .globalImplicit) (hmk:behindInMarks .In (.Name g p2)=false) (hs:∀ x,genFold iter X.env x=pure x)
  (hst:starEach [.GeneratorExp (.Compare (.Name x p1) [.In] [.Name g p2] p3) [⟨.Name x px,iter,[],0⟩] scope gpos] X.env=[(false,eval (.GeneratorExp (.Compare (.Name x p1) [.In] [.Name g p2] p3) [⟨.Name x px,iter,[],0⟩] scope gpos) X.env)])
  (hdx:(x == ("__debug__":Str))=false) (hdg:(g == ("__debug__":Str))=false) :
  PE X (.Call (.Name "all" p) [.GeneratorExp (.Compare (.Name x p1) [.In] [.Name g p2] p3) [⟨.Name x px,iter,[],0⟩] scope gpos] [] cpos) (tAllIn P tx ti):=by
 intro pins s σ H Q I h
 refine wpAny_Call_Name_kw (ld_blt I hgl hma PyProof.Rows.Boot.«all» ?_)
 refine PyProof.Rows.callWith_builtin1 ?_ hst rfl
 rw [hst]
 show wpAny _ _ (spliced ((false,eval (.GeneratorExp (.Compare (.Name x p1) [.In] [.Name g p2] p3) [⟨.Name x px,iter,[],0⟩] scope gpos) X.env) :: [])) _ _ s
 refine Calls.spliced_cons ?_
 refine wpAny_GeneratorExp_walksQD (I.ok.hd hcalm) hco hclos hcell h0 hx sck hdep ?_ hs
 refine thn (hi pins s σ H _ I h) fun xv s1 ⟨v,H1,I1,r1,y,ev,hP,q⟩=>?_
 subst ev
 obtain ⟨ty,rfl⟩:=r1
 have t1:TabOk P s1.heap:=(I1.hok P _ hP).1
 have ltP:P < s1.heap.objs.size:=I1.hok.lt hP
 refine wpAny_pyIter_str fun o St W st0=>?_
 have k1:∀ b ob,s1.heap.get? b=some ob→(s1.heap.push o).get? b=some ob:=fun b ob e=>Heap.get?_push_of_some _ e
 refine ⟨I1.nolimit.keeps k1,?_⟩
 have t2:TabOk P (s1.heap.push o):=let ⟨ps,hp,tr⟩:=t1;⟨ps,k1 _ _ hp,tr⟩
 refine gen_code (X:=X) (s:={ s1 with heap:=s1.heap.push o }) hcode Z (I1.kIn.keeps k1) t2 fun code h' tk k sz t'=>?_
 have kk:∀ b ob,b≠P→s1.heap.get? b=some ob→h'.get? b=some ob:=fun b ob nb e=>k b ob nb (k1 b ob e)
 have nsP:∀ (b:Addr) (m:Str→Option Value),s1.heap.Ns b m→b≠P:=fun b m hn z=>by
  obtain ⟨ob,es,ep,ho,hd,_⟩:=hn
  obtain ⟨ps,hp,_⟩:=t1
  rw [z,hp] at ho;cases ho;cases hd
 have nsK:∀ (b:Addr) (m:Str→Option Value),s1.heap.Ns b m→h'.Ns b m:=fun b m hn=>hn.at' fun ob e=>kk b ob (nsP b m hn) e
 have nsG:s1.heap.Ns X.env.globals X.mg:=by rw [I1.ok.glob];exact I1.mod.glob.keeps I1.bk
 have nl:h'.NoLimit:=let ⟨mc,h1,h2⟩:=I1.nolimit;⟨mc,nsK _ _ h1,h2⟩
 have ltC:cStatics < s1.heap.objs.size:=let ⟨mc,h1,_⟩:=I1.nolimit;h1.lt
 have szI:s1.heap.objs.size < h'.objs.size:=Nat.lt_of_lt_of_le (by rw [Heap.size_push];exact Nat.lt_succ_self _) sz
 obtain ⟨bm,ob,b1,b2,b3,b4,b5,b6⟩:=Bm
 have b3':=I1.bk _ _ b3
 have nbm:bm≠P:=fun z=>by
  obtain ⟨ps,hp,_⟩:=t1
  rw [z,hp] at b3'
  rw [← Option.some.inj b3'] at b6;cases b6
 refine wpAny_builtinsFor (nsK _ _ nsG) b1 b2 (kk _ _ nbm b3') b4 b5 b6 ?_
 refine ⟨s1.heap.objs.size,[s1.heap.objs.size],[s1.heap.objs.size],y.cps.size,SignAt y,St,fun _=>true,fun i v=>∃ ch,y.cps[i]?=some ch∧v=.bool (signIn tx ch),rfl,W,
  (W X.A (I.ok.hd hcalm)).frame _ _ _ st0 fun b hb o' e=>k b o' (by rw [List.mem_singleton.mp hb];exact Nat.ne_of_gt ltP) e,fun b hb=>by rw [List.mem_singleton.mp hb];exact szI,nl,
  fun hb=>Nat.ne_of_lt ltC (List.mem_singleton.mp hb),fun href kh=>quiet_in sck hx hsc ((nsK _ _ nsG).keeps kh) hsg (List.mem_range.mpr (nsK _ _ nsG).lt) (fun hb=>Nat.ne_of_lt nsG.lt (List.mem_singleton.mp hb)) hmk hdx hdg,fun a h5 tk5 gs hgs ltA szA k5 WS G=>?_⟩
 refine Calls.spliced_nil ?_
 have pall:passing (fun _=>true) y.cps.size 0=List.range y.cps.size:=by simp [passing]
 have WS:=WS.in4_1
 refine call_all_walkS (WS.self 0 _ _ _ G ⟨a,_,_,_,_,_,_,(fun j=>(y.cps.toList[j]?).elim true (signIn tx)),rfl,WS,G,fun j v s Q E hv hQ=>?_,fun s' hm=>?_⟩)
 ·obtain ⟨i,hi,ch,hch,rfl⟩:=hv
  rw [pall] at hi
  have hji:i=j:=by
   obtain ⟨hj,e⟩:=List.getElem?_eq_some_iff.mp hi
   simpa using e.symm
  subst hji
  have e:y.cps.toList[i]?=some ch:=by simpa using hch
  simp only [e,Option.elim] at hQ
  exact wpAny_truthy_bool hQ
 ·have nwr:∀ b,b < s1.heap.objs.size→b ∉ h'.objs.size :: [s1.heap.objs.size]:=fun b hb hm=>by
   rcases List.mem_cons.mp hm with z | z
   ·omega
   ·have:=List.mem_singleton.mp z
    omega
  refine ⟨.bl _,H1,inv_tab I1 hP hm.os ((I1.bare.push hgs).movedS hm) (fun b o' nb e=>hm.heap b o' (nwr b (Heap.lt_size e)) (k5 b o' (kk b o' nb e))) ?_,rfl,?_⟩
  ·obtain ⟨ps,hp,tr⟩:=t'
   exact ⟨ps,hm.heap P _ (nwr P ltP) (k5 P _ hp),tr⟩
  ·rw [pall]
   have e:y.cps.size=y.cps.toList.length:=by simp
   have z:=all_elim y.cps.toList (signIn tx)
   rw [List.length_range,e,z]
   exact q
end
section
variable {X:Cx} {c P:Addr}
theorem pe_allIn {x g:Str} {p px p1 p2 p3 gpos cpos:Pos} {iter:Expr} {ti:TE} {scope:Scope} {tx:Str} {tt:Tok} {k:Nat} (hcalm:X.calm=true) (Bm:BMain X.mg X.base) (hcode:X.env.code=.ref c) (Z:CodeT X.K c P) (hr:Room k X.A)
  (hgl:Gl X "all") (hma:X.mg "all"=none) (hsg:X.mg g=some (.str tx tt)) (hi:QE X iter ti) (sck:scope.kind=.function:=by rfl) (hco:scope.isCoroutine=false:=by rfl) (hclos:closureFor scope X.env=pure []:=by rfl) (hcell:∀ y∈scope.names,y.2≠.cell:=by decide)
  (h0:scope.names.lookup (".0":Str)=some NameKind.local:=by rfl) (hx:scope.names.lookup x=some .local:=by rfl) (hsc:scope.names.lookup g=some .globalImplicit:=by rfl) (hmk:behindInMarks .In (.Name g p2)=false:=by with_unfolding_all rfl) (hs:∀ x,genFold iter X.env x=pure x:=by intro _;rfl)
  (hst:starEach [.GeneratorExp (.Compare (.Name x p1) [.In] [.Name g p2] p3) [⟨.Name x px,iter,[],0⟩] scope gpos] X.env=[(false,eval (.GeneratorExp (.Compare (.Name x p1) [.In] [.Name g p2] p3) [⟨.Name x px,iter,[],0⟩] scope gpos) X.env)]:=by rfl)
  (hdx:(x == ("__debug__":Str))=false:=by decide) (hdg:(g == ("__debug__":Str))=false:=by decide) :
  QE X (.Call (.Name "all" p) [.GeneratorExp (.Compare (.Name x p1) [.In] [.Name g p2] p3) [⟨.Name x px,iter,[],0⟩] scope gpos] [] cpos) (tAllIn P tx ti) :=
 ⟨pe_allInL hcalm Bm hcode Z (by have:=hr.dp;omega) hgl hma hsg hi.run sck hco hclos hcell h0 hx hsc hmk hs hst hdx hdg⟩
end
structure FunG (K:PySem.W.Frag) (mg:Str→Option Value) (x:Str) (st:Stmt) (P:Addr) (f:Addr) (fd:FuncData) (c:Addr):Prop where
 fn:Fun K x x st f fd
 mg:mg x=some (.ref f)
 code:fd.code=.ref c
 tab:CodeT K c P
 out:K.lookup P=none
def DefG (K:PySem.W.Frag) (mg:Str→Option Value) (x:Str) (st:Stmt) (P:Addr):Prop:=∃ f fd c,FunG K mg x st P f fd c
section
variable {P:Program} {w:World} {K:PySem.W.Frag} {mg:Str→Option Value} {base:Heap}
theorem okG {x:Str} {st:Stmt} {T f c:Addr} {fd:FuncData} {N ps:List Str} {k:Nat} {sp:Sp} (F:FunG K mg x st T f fd c) (S:FnScope N ps (defScope st)) (len:∀ vs H Q E,sp vs H Q E→vs.length=ps.length)
  (hbody:∀ (A:Around) (outer:List Env) (s:Shared) (H:Hp) (vs:List V) (Q:VK) (E:XK),Room k (A.deeper (envOfC x (defScope st) s.heap.objs.size f (.ref c)))→sp vs H Q E →
   ∃ t,QB (cxOf CX0 P w K mg base N x (defScope st) f (.ref c) A outer s H E).nox (defBody st) t∧t { nx:=fun _ H'=>Q .non H',rt:=Q } (start N vs) H):FnOk P w K mg base CX0 (k + 1) f fd ps sp:=by
 obtain ⟨oc,od,kV,doc,pm,an,cdv,ct,osl,rfl,lk,hcd⟩:=F.fn.ex
 obtain rfl:cdv=.ref c:=F.code
 refine fn_of lk hcd S len fun A outer s H vs Q E hr hsp=>?_
 obtain ⟨t,h,q⟩:=hbody A outer s H vs Q E hr hsp
 exact ⟨t,h.run.nox,q⟩
theorem DefG.can {x:Str} {st:Stmt} {T:Addr} {k:Nat} {ps:List Str} {sp:Sp} (D:DefG K mg x st T)
  (h:∀ f fd c,FunG K mg x st T f fd c→FnOk P w K mg base CX0 k f fd ps sp)
  (hb:∀ (kV doc pm:Value) (an:Option Addr) (cdv ct:Value) (us:List Value),us.length=ps.length→bindArgs (PySem.W.fnOf x x (defArgs st) (defBody st) (defScope st) .none kV doc pm an cdv ct) ⟨us,[]⟩=pure (ps.zip us)) :
  Can P w K mg base k x ps sp:=by
 obtain ⟨f,fd,c,F⟩:=D
 exact ⟨f,fd,h f fd c F,F.fn.binds hb,F.fn.kp,F.mg⟩
end
def codeB (vs:Array Value):Bool:=(match vs.getD 18 .none with | .str _ _=>true | _=>false) && (match vs.getD 7 .none with | .int _ _=>true | _=>false) && (match vs.getD 9 .none with | .bool _=>true | _=>false) && (match vs.getD 10 .none with | .int _ _=>true | _=>false)
theorem defG_mk {K:PySem.W.Frag} {h:Heap} {mg:Str→Option Value} {x:Str} {st:Stmt} (X:K.In h) (G:h.Ns mainGlobals mg) {f c T:Addr} {od an od':Option Addr} {sl sl':Array (Option Value)} {vs:Array Value} {oc kV dc pm ct:Value}
  (a:PySem.W.nsIn K mainGlobals x=some (some (.ref f))) (l:K.lookup f=some ⟨oc,od,.func (PySem.W.fnOf x x (defArgs st) (defBody st) (defScope st) .none kV dc pm an (.ref c) ct),sl⟩) (cc:PySem.W.codeIn K (.ref c) x=true) (k:PySem.W.keepIn K (.ref f)=true)
  (t:K.lookup c=some ⟨.type "code",od',.fields vs,sl'⟩) (p:vs[11]?=some (.ref T)) (b:codeB vs=true) (ne:c≠T) (out:K.lookup T=none):DefG K mg x st T:=by
 refine ⟨f,_,c,fun_mk l cc k,PySem.W.mg_of X G a,rfl,⟨ne,?_⟩,out⟩
 simp only [codeB,Bool.and_eq_true] at b
 obtain ⟨⟨⟨b1,b2⟩,b3⟩,b4⟩:=b
 cases e1:vs.getD 18 .none with
 | str file tf =>
  cases e2:vs.getD 7 .none with
  | int fl tg =>
   cases e3:vs.getD 9 .none with
   | bool inF =>
    cases e4:vs.getD 10 .none with
    | int text tt=>exact ⟨_,vs,file,tf,fl,tg,inF,text,tt,t,rfl,rfl,p,e1,e2,e3,e4⟩
    | _=>rw [e4] at b4;cases b4
   | _=>rw [e3] at b3;cases b3
  | _=>rw [e2] at b2;cases b2
 | _=>rw [e1] at b1;cases b1
def TabIn (K:PySem.W.Frag) (mg:Str→Option Value) (names:List Str) (T:Addr):Prop:=∃ x∈names,∃ st,DefG K mg x st T
theorem law_callT {P:Program} {w:World} {K:PySem.W.Frag} {mg mb:Str→Option Value} {k:Nat} {fa a:Addr} {fd:FuncData} {x:Str} {sp:Sp} {s₁:Shared} {vs:List Value} {ns:List Int} {tabs:List Addr}
  (KX:K.In s₁.heap) (hns:s₁.heap.Ns mainGlobals mg) (hb:s₁.heap.Ns builtinsNs mb) (hbb:∀ x:Str,x≠"__name__"→mb x=bootBuiltins x) (hlim:s₁.heap.NoLimit) (hg:s₁.gens=#[])
  (ha:s₁.heap.get? a=some { cls:=.type "list",data:=.seq vs.toArray }) (hi:IntsAre vs ns) (hl:ns.length≤sizeLine) (hr:Room k callerA) (hbm:BMain mg s₁.heap)
  (htab:∀ T∈tabs,isCodeTable s₁.heap T∧s₁.heap.get? T=some { cls:=.none,data:=.fields #[] }∧K.lookup T=none)
  (F:∀ base:Heap,K.In base→base.Ns mainGlobals mg→BMain mg base→FnOk P w K mg base CX0 k fa fd [x] sp) (hbind:∀ (s:Shared) (u:Value),BindsTo s fd ⟨[u],[]⟩ [(x,u)])
  (hsp:∀ H:Hp,(∀ T∈tabs,H T=some (.ext (TabOk T)))→SqL K H a (ns.map V.int)→(∀ b,H b≠none→b=a∨b∈tabs)→(∀ u,H a=some u→∃ o xs,u=.frz o (.lst xs))→sp [.ref a] H (fun v H'=>v=.bl true∧Same H H') fun _ _ _=>False) :
  codeAny (model P w) callerA (.call (.ref fa) ⟨[.ref a],[]⟩) (fun r s'=>r=.ok (.ret (.bool true))∧OldK s₁.heap s'.heap∧s'.os=s₁.os∧AllBare s'.gens) s₁:=by
 have rv:=vals_ints hi
 have lenV:=hi.length
 have naT:∀ T∈tabs,T≠a:=fun T hT z=>by
  have:=(htab T hT).2.1
  rw [z,ha] at this
  have h1:=congrArg Obj.cls (Option.some.inj this)
  cases h1
 have core:∀ H:Hp,(∀ T∈tabs,H T=some (.ext (TabOk T)))→SqL K H a (ns.map V.int)→HOk P w H s₁.heap→(∀ b,H b≠none→b=a∨b∈tabs)→(∀ u,H a=some u→K.lookup a=none∧∃ o xs,u=.frz o (.lst xs)) →
   codeAny (model P w) callerA (.call (.ref fa) ⟨[.ref a],[]⟩) (fun r s'=>r=.ok (.ret (.bool true))∧OldK s₁.heap s'.heap∧s'.os=s₁.os∧AllBare s'.gens) s₁:=by
  intro H hT hS hok hA hK
  have base_of:∀ {b:Addr} {o:Obj},s₁.heap.get? b=some o→H b=none→(hidT s₁.heap H).get? b=some o:=fun e n=>hidT_get e n
  have no:∀ {b:Addr} {o:Obj},s₁.heap.get? b=some o→(∀ xs n,o.data≠.seq xs n)→(∀ xs,o.data≠.fields xs)→H b=none:=fun {b o} e d1 d2=>by
   cases q:H b with
   | none=>rfl
   | some u =>
    rcases hA b (by rw [q];simp) with rfl | hb
    ·rw [ha] at e;cases e;exact absurd rfl (d1 _ _)
    ·rw [(htab b hb).2.1] at e;cases e;exact absurd rfl (d2 _)
  have nsK:∀ {b:Addr} {m:Str→Option Value},s₁.heap.Ns b m→(hidT s₁.heap H).Ns b m:=fun {b m} ⟨o,es,ep,e,d,r⟩=>⟨o,es,ep,base_of e (no e (fun _ _ z=>by rw [d] at z;cases z) fun _ z=>by rw [d] at z;cases z),d,r⟩
  have hKb:K.In (hidT s₁.heap H):=fun b o e=>base_of (KX b o e) (by
   cases q:H b with
   | none=>rfl
   | some u =>
    rcases hA b (by rw [q];simp) with rfl | hb
    ·have:=(hK u q).1
     exact absurd (this.symm.trans e) (fun z=>nomatch z)
    ·have:=(htab b hb).2.2
     exact absurd (this.symm.trans e) (fun z=>nomatch z))
  have hM:Mod K mg (hidT s₁.heap H):=⟨hKb,nsK hns,⟨mb,nsK hb,hbb⟩,let ⟨mc,h1,h2⟩:=hlim;⟨mc,nsK h1,h2⟩⟩
  have hbm':BMain mg (hidT s₁.heap H):=by
   obtain ⟨bm,ob,b1,b2,b3,b4,b5,b6⟩:=hbm
   exact ⟨bm,ob,b1,b2,base_of b3 (no b3 (fun _ _ z=>by rw [b6] at z;cases z) fun _ z=>by rw [b6] at z;cases z),b4,b5,b6⟩
  have e0:Env0 P w K mg (hidT s₁.heap H) callerA [] s₁ H:=⟨rfl,hM,fun b o e=>of_hidT e,Nat.le_of_eq (hidT_size _ _),trivial,fun b hb=>absurd (show b∈([]:List Addr) from hb) (by simp),hok,.of_eq hg⟩
  refine codeAny_mono ((F _ hKb (nsK hns) hbm').run callerA [] s₁ H ⟨[.ref a],[]⟩ [.ref a] [.ref a] _ _ hr e0 (hbind s₁ (.ref a)) (.cons rfl .nil) (hsp H hT hS hA fun u z=>(hK u z).2)) fun r s' h=>?_
  cases r with
  | error e=>exact False.elim h
  | ok fl =>
   cases fl with
   | next=>exact False.elim h
   | brk=>exact False.elim h
   | cont=>exact False.elim h
   | ret u =>
    obtain ⟨v,H',os,bare,un,hok',r',rfl,same⟩:=h
    obtain rfl:u=Value.bool true:=r'
    refine ⟨rfl,⟨fun b o e=>?_,fun b o e=>?_⟩,os,bare⟩
    ·cases q:H b with
     | none=>exact .inl (un.keep b o e q (by intro z;exact absurd (show b∈([]:List Addr) from z) (by simp)) (by simp))
     | some u =>
      have q':=same b u q
      rcases hA b (by rw [q];simp) with rfl | hb'
      ·obtain ⟨_,ob,xs,rfl⟩:=hK u q
       obtain ⟨e1,_⟩:=hok _ _ q
       obtain ⟨e2,_⟩:=hok' _ _ q'
       rw [e] at e1;cases e1
       exact .inl e2
      ·have hz:=hT b hb'
       rw [q] at hz;cases hz
       obtain ⟨⟨ps,hp,_⟩,_⟩:=hok' _ _ q'
       obtain ⟨t1,t2,_⟩:=htab b hb'
       rw [t2] at e;cases e
       exact .inr (.inl ⟨t1,rfl,#[],ps,rfl,by rw [hp];simp⟩)
    ·exact un.there b o e (by simp)
 have hTt:∀ T∈tabs,∀ H:Hp,ObjOk P w H s₁.heap T (.ext (TabOk T)):=fun T hT H=>by
  have:=(htab T hT).2.1
  exact ⟨⟨#[],this,trivial⟩,⟨_,this⟩,fun h1 h2 ⟨ps,hp,tr⟩ kk=>⟨ps,kk _ hp,tr⟩⟩
 cases hk:K.lookup a with
 | some o =>
  have e:=KX a o hk
  rw [ha] at e
  cases e
  refine core (fun b=>if b∈tabs then some (.ext (TabOk b)) else none) (fun T hT=>if_pos hT) (.inr ⟨_,vs.toArray,_,hk,rfl,rfl,rfl,by rw [List.size_toArray,lenV];exact hl,by simpa using rv⟩) (fun b u z=>?_) (fun b z=>?_) fun u z=>?_
  ·by_cases hb:b∈tabs
   ·have z':=(if_pos hb).symm.trans z
    cases z'
    exact hTt b hb _
   ·have z':=(if_neg hb).symm.trans z
    cases z'
  ·by_cases hb:b∈tabs
   ·exact .inr hb
   ·exact absurd (if_neg hb) z
  ·have hb:a ∉ tabs:=fun hb=>naT a hb rfl
   have z':=(if_neg hb).symm.trans z
   cases z'
 | none =>
  refine core (fun b=>if b=a then some (.frz { cls:=.type "list",data:=.seq vs.toArray } (.lst (ns.map V.int))) else if b∈tabs then some (.ext (TabOk b)) else none) (fun T hT=>?_) (.inl (.inr ⟨{ cls:=.type "list",data:=.seq vs.toArray },if_pos rfl⟩)) (fun b u z=>?_) (fun b z=>?_) fun u z=>?_
  ·show (if T=a then _ else _)=_
   rw [if_neg (naT T hT),if_pos hT]
  ·by_cases hb:b=a
   ·have z':=(if_pos hb).symm.trans z
    cases z'
    subst hb
    exact ⟨ha,by rw [List.length_map];exact hl,vs,_,rv,ha⟩
   ·have z:=(if_neg hb).symm.trans z
    by_cases hb:b∈tabs
    ·have z':=(if_pos hb).symm.trans z
     cases z'
     exact hTt b hb _
    ·have z':=(if_neg hb).symm.trans z
     cases z'
  ·by_cases hb:b=a
   ·exact .inl hb
   ·by_cases hb':b∈tabs
    ·exact .inr hb'
    ·exact absurd ((if_neg hb).trans (if_neg hb')) z
  ·have z':=(if_pos rfl).symm.trans z
   cases z'
   exact ⟨hk,_,_,rfl⟩
theorem tab_at {p:Program} {loose:List Str} {mean:ExcName→Option Value} {mg mb:Str→Option Value} {h:Heap} {K:PySem.W.Frag} {x:Str} {st:Stmt} {T:Addr} (Tp:Top p loose mean mg mb h) (KX:K.In h) (hx:∃ d∈recsOf p,d.name=x) (D:DefG K mg x st T) :
  isCodeTable h T∧h.get? T=some { cls:=.none,data:=.fields #[] }∧K.lookup T=none:=by
 obtain ⟨f,fd,c,F⟩:=D
 obtain ⟨d,hd,rfl⟩:=hx
 obtain ⟨a',o',fd',c',P',h1,h2,h3,h4,h5,h6⟩:=Tp.tab d hd
 rw [F.mg] at h1;cases h1
 obtain ⟨oc,od,kV,doc,pm,an,cdv,ct,osl,rfl,lk,_⟩:=F.fn.ex
 have:=KX _ _ lk
 rw [h2] at this;cases this
 have e3:fd'=_:=(Data.func.inj h3).symm
 subst e3
 have e4:=F.code.symm.trans h4
 cases e4
 obtain ⟨_,oo,vs,_,_,_,_,_,_,_,lk',_,hd',h11,_⟩:=F.tab
 obtain ⟨⟨o2,vs2,g1,g2,g3,g4⟩,g5⟩:=id h6
 rw [KX _ _ lk'] at g1;cases g1
 rw [hd'] at g3;cases g3
 rw [h11] at g4;cases g4
 exact ⟨h6.isCodeTable,g5,F.out⟩
theorem walk_ofT {l:PySem.W.OpenLaw} {n k:Nat} {q:Program} {loose:List Str} {XP:(Str→Option Value)→Heap→Prop} {YP:World→Heap→Prop} {d:DefRec} {K:Params→PySem.W.Frag} {sp:List Addr→PySem.W.Frag→Sp} {x:Str} (names:List Str)
  (hn:l.most=some n) (hn2:n≤sizeLine) (hdf:d.params.defaults=[]) (hr:Room k callerA) (hY:∀ (w:World) (h:Heap),YP w h→(K w.params).In h) (hnm:∀ x∈names,∃ d∈recsOf q,d.name=x)
  (F:∀ (w:World) (mg:Str→Option Value) (fa:Addr) (h:Heap),(K w.params).In h→h.Ns mainGlobals mg→mg d.name=some (.ref fa) →
   ∃ (fd:FuncData) (tabs:List Addr),(∀ (s:Shared) (u:Value),BindsTo s fd ⟨[u],[]⟩ [(x,u)])∧(∀ T∈tabs,TabIn (K w.params) mg names T) ∧
    ∀ base:Heap,(K w.params).In base→base.Ns mainGlobals mg→BMain mg base→FnOk l.prog w (K w.params) mg base CX0 k fa fd [x] (sp tabs (K w.params)))
  (hsp:∀ (tabs:List Addr) (K:PySem.W.Frag) (H:Hp) (a:Addr) (ns:List Int),ns.length≤n→(∀ T∈tabs,H T=some (.ext (TabOk T)))→SqL K H a (ns.map V.int)→(∀ b,H b≠none→b=a∨b∈tabs)→(∀ u,H a=some u→∃ o xs,u=.frz o (.lst xs))→sp tabs K [.ref a] H (fun v H'=>v=.bl true∧Same H H') fun _ _ _=>False) :
  PySem.W.WalkO q loose XP YP l.row.toRowW d [] (fun f vs=>PySem.call f vs):=by
 refine Att.attach_call hn hdf fun w s₀ s₁ mg mb fa o pm cd doc a vs ns G Y ho hd hcd hmg hobj hints hlen hg=>?_
 have KX:=hY w _ Y
 obtain ⟨fd,tabs,hb,ht,hF⟩:=F w mg fa _ KX G.T.g hmg
 refine law_callT KX G.T.g G.T.b G.T.builtins G.T.nolimit hg hobj hints (Nat.le_trans hlen hn2) hr G.T.bmain (fun T hT=>?_) hF hb (fun H hT hS hA hK=>hsp tabs _ H a ns hlen hT hS hA hK)
 obtain ⟨x,hx,st,D⟩:=ht T hT
 exact tab_at G.T KX (hnm x hx) D
def isStrV (s:Str):Value→Bool
 | .str y _=>y == s
 | _=>false
def isIntV (i:Int):Value→Bool
 | .int j _=>j == i
 | _=>false
theorem const_str {K:PySem.W.Frag} {h:Heap} {mg:Str→Option Value} {x s:Str} {u:Value} (X:K.In h) (G:h.Ns mainGlobals mg) (e:PySem.W.nsIn K mainGlobals x=some (some u)) (hu:isStrV s u=true):∃ t,mg x=some (.str s t):=by
 cases u with
 | str y t =>
  have:y=s:=by simpa [isStrV] using hu
  subst this
  exact ⟨t,PySem.W.mg_of X G e⟩
 | _=>cases hu
theorem const_int {K:PySem.W.Frag} {h:Heap} {mg:Str→Option Value} {x:Str} {i:Int} {u:Value} (X:K.In h) (G:h.Ns mainGlobals mg) (e:PySem.W.nsIn K mainGlobals x=some (some u)) (hu:isIntV i u=true):∃ t,mg x=some (.int i t):=by
 cases u with
 | int y t =>
  have:y=i:=by simpa [isIntV] using hu
  subst this
  exact ⟨t,PySem.W.mg_of X G e⟩
 | _=>cases hu
section
variable {X:Cx} {tg:Expr}
end
section
variable {prog:Program} {w:World} {A:Around} {R:Result→Shared→Prop} {s:Shared}
theorem loop_compF {elt iter cnd:Expr} {x:Str} {px:Pos} {sc:Scope} {pos:Pos} {it acc:Value} {env:Env} (I:Nat→Shared→Prop)
  (turn:∀ n s,I n s→wpAny (model prog w) A (pyNext it) (fun r s₁=>match r with
   | none=>R (.ok .next) s₁
   | some v=>wpAny (model prog w) A (letOwnedTupleGo (.Name x px) it v) (fun _ s₂=>wpAny (model prog w) A (assign (.Name x px) env v) (fun _ s₃=>wpAny (model prog w) A (isTrue cnd env (eval cnd env)) (fun ok s₃=>if ok=true then wpAny (model prog w) A (eval elt env) (fun y s₄ =>
     wpAny (model prog w) A (call (.builtin "list.append") [acc,y]) (fun _ s₅=>∃ m,m < n∧I m s₅) (fun _ _=>False) s₄) (fun _ _=>False) s₃ else ∃ m,m < n∧I m s₃) (fun _ _=>False) s₃) (fun _ _=>False) s₂) (fun _ _=>False) s₁) (fun _ _=>False) s)
  (n:Nat) (h:I n s):codeAny (model prog w) A (.compLoop (.ListComp elt [⟨.Name x px,iter,[cnd],0⟩] sc pos) 0 it acc env) R s:=by
 refine codeAny_loop rfl I (fun n s hI=>?_) n h
 show wpAny _ _ ((compTurn (.ListComp elt [⟨.Name x px,iter,[cnd],0⟩] sc pos) 0 it acc env).onRaise (fun x=>do noteFrame x env;theTreesLotGoes x)) _ _ s
 refine wpAny_noted ?_
 rw [compTurn_list]
 have no:∀ (e:Value) (s':Shared),False→notedBy (model prog w) A env (fun e s'=>R (.error e) s') e s':=fun _ _ z=>z.elim
 refine wpAny_bind (wpAny_standAt (wpAny_bind (wpAny_mono (turn n s hI) (fun r s₁ h₁=>?_) no)))
 cases r with
 | none=>exact wpAny_pure h₁
 | some v =>
  refine wpAny_bind (wpAny_mono h₁ (fun _ s₂ h₂=>?_) no)
  refine wpAny_bind (wpAny_mono h₂ (fun _ s₃ h₃=>wpAny_bind (wpAny_mono (wpAny_tests_one h₃) (fun ok s₃' h₃'=>?_) no)) no)
  cases ok with
  | false=>exact wpAny_pure ⟨rfl,h₃'⟩
  | true =>
   exact wpAny_bind (wpAny_bind (wpAny_mono h₃' (fun y s₄ h₄=>wpAny_bind (wpAny_mono h₄ (fun _ s₅ h₅=>wpAny_pure (wpAny_pure ⟨rfl,h₅⟩)) no)) no))
end
def tLCF (wi:TI) (ks:List (Str × Nat)) (tc:TT) (te:TE):TE:=fun σ H Q=>wi σ H fun J H1=>∀ D,H1 D=none→∃ W:Nat→Nat→Hp→Prop,(∃ m,W 0 m (upd H1 D (.lst []))) ∧
 ∀ i m H2,W i m H2→(J.stop i H2∧Q (.ref D) H2)∨(J.go i H2∧∀ v H3,J.yld i H2 v H3→tc (some v :: selC ks σ) H3 fun b H4=>if b=true then te (some v :: selC ks σ) H4 fun y H5=>∃ ys,H5 D=some (.lst ys)∧ys.length < sizeLine∧∃ m',m' < m∧W (i + 1) m' (upd H5 D (.lst (ys ++ [y]))) else ∃ m',m' < m∧W (i + 1) m' H4)
section
variable {X:Cx}
theorem run_compF {elt iter cnd:Expr} {x:Str} {px:Pos} {sc:Scope} {pos:Pos} {te:TE} {tc:TT} {ks:List (Str × Nat)} {cl:List (Str × Addr)} {pins:List (Addr × Obj)} {σ:L2.St} {H:Hp} {s:Shared} {it:Addr} {fp:List Addr} {tn:Nat→Heap→Prop} {J:It} {Q:VK}
  {RR:Value→Addr→Result→Shared→Prop} {E:Value→Shared→Prop}
  (hc:X.calm=true) (ok:CompOk sc X.env.scope X.N x ks) (h1:∀ y c,cl.lookup y=some c→X.env.cells.lookup y=some c) (h2:∀ y∈sc.names,y.2=.free→∃ c,cl.lookup y.1=some c)
  (he:∀ cl C s₀ H₀ fp pins,PE (cxC X sc cl C x ks s₀ H₀ fp pins) elt te) (hcn:∀ cl C s₀ H₀ fp pins,PT (cxC X sc cl C x ks s₀ H₀ fp pins) cnd tc)
  (I:Inv X pins σ H s) (T:Turn X.prog X.w X.K (.Name x px) J fp it tn) (st:tn 0 s.heap) (f:∀ b∈fp,FpOk X pins H b)
  (hw:∀ D,H D=none→∃ W:Nat→Nat→Hp→Prop,(∃ m,W 0 m (upd H D (.lst [])))∧∀ i m H2,W i m H2→(J.stop i H2∧Q (.ref D) H2) ∨
   (J.go i H2∧∀ v H3,J.yld i H2 v H3→tc (some v :: selC ks σ) H3 fun b H4=>if b=true then te (some v :: selC ks σ) H4 fun y H5=>∃ ys,H5 D=some (.lst ys)∧ys.length < sizeLine∧∃ m',m' < m∧W (i + 1) m' (upd H5 D (.lst (ys ++ [y]))) else ∃ m',m' < m∧W (i + 1) m' H4))
  (hR:∀ (D C:Addr) (s':Shared) (H':Hp) (m:Str→Option Value),Inv X pins σ H' s'→Q (.ref D) H'→s'.heap.Ns C m→H' C=none→C≠X.env.locals→X.s₀.heap.objs.size≤C→(∀ y c,X.env.cells.lookup y=some c→c≠C)→(∀ p∈X.pn ++ pins,p.1≠C)→RR (.ref D) C (.ok .next) s') :
  wpAny (model X.prog X.w) X.A (newList []) (fun acc s₃=>wpAny (model X.prog X.w) X.A (newFunctionEnv sc X.env.globals cl [] X.env.qual none .none (some X.env)) (fun cenv s₄ =>
   codeAny (model X.prog X.w) X.A (.compStart (.ListComp elt [⟨.Name x px,iter,[cnd],0⟩] sc pos) 0 (.ref it) acc { cenv with scope:=relabel sc X.env }) (RR acc cenv.locals) s₄) E s₃) E s:=by
 have okk:=ok
 obtain ⟨kd,nc,lx,ll,fr,kk,nd⟩:=okk
 have hD0:H s.heap.objs.size=none:=I.hok.fresh (Nat.le_refl _)
 obtain ⟨W,⟨m0,w0⟩,turn⟩:=hw s.heap.objs.size hD0
 refine wpAny_newObj_type ?_
 have I3:Inv X pins σ (upd H s.heap.objs.size (.lst [])) { s with heap:=s.heap.push { cls:=.type "list",dict:=none,data:=.seq ([]:List Value).toArray } } :=
  I.laid (t':=s.toks) (fun b u e=>Heap.get?_push_of_some _ e) (Nat.le_refl _) (show ObjOk X.prog X.w _ _ _ (.lst []) from ⟨Nat.zero_le _,[],0,.nil,Heap.get?_push_size _ rfl⟩)
 have st3:tn 0 (s.heap.push { cls:=.type "list",dict:=none,data:=.seq ([]:List Value).toArray }):=T.keep 0 _ _ st fun b hb o e=>Heap.get?_push_of_some _ e
 generalize hD:s.heap.objs.size=D at *
 generalize hH:upd H D (.lst [])=H3 at *
 generalize hs3:({ s with heap:=s.heap.push { cls:=.type "list",dict:=none,data:=.seq ([]:List Value).toArray } }:Shared)=s3 at *
 have e3:s.heap.push { cls:=.type "list",dict:=none,data:=.seq ([]:List Value).toArray }=s3.heap:=by rw [← hs3]
 rw [e3] at st3
 have fD:∀ b∈fp,b≠D:=fun b hb z=>by
  obtain ⟨o,ho,_⟩:=T.obj 0 _ st b hb
  have:=Heap.lt_size ho
  rw [z,← hD] at this
  exact Nat.lt_irrefl _ this
 have f3:∀ b∈fp,FpOk X pins H3 b:=fun b hb=>⟨by rw [← hH,upd_ne (fD b hb)];exact (f b hb).1,(f b hb).2⟩
 have g3:∀ b∈fp,∃ o,s3.heap.get? b=some o:=fun b hb=>by
  obtain ⟨o,ho,_⟩:=T.obj 0 _ st3 b hb
  exact ⟨o,ho⟩
 refine wpAny_newFunctionEnv nc (by intro y hy;simp at hy) (fun h₁ hns hsb=>?_) kd
 have kp:∀ b o,s3.heap.get? b=some o→h₁.get? b=some o:=fun b o e=>hsb.extBut b o (Nat.ne_of_lt (Heap.lt_size e)) (Heap.get?_push_of_some _ e)
 have J0:=inv_comp (fp:=fp) (cl:=cl) (t':=s3.toks + ([]:List (Str × Value)).length) I3 ok h1 h2 (fun b hb=>⟨f3 b hb,g3 b hb⟩) hns kp
 have st4:tn 0 h₁:=T.keep 0 _ _ st3 fun b hb o e=>kp b o e
 have ltC:∀ b o,s3.heap.get? b=some o→b≠s3.heap.objs.size:=fun b o e=>Nat.ne_of_lt (Heap.lt_size e)
 have cC:∀ y c,X.env.cells.lookup y=some c→c≠s3.heap.objs.size:=fun y c e=>by
  obtain ⟨v,o,ho,_⟩:=I3.cell y c e
  exact ltC c o ho
 have pC:∀ p∈X.pn ++ pins,p.1≠s3.heap.objs.size:=fun p hp=>ltC _ _ (I3.pin p hp).1
 have lC:s3.heap.objs.size≠X.env.locals:=Nat.ne_of_gt I3.lt
 have fX:∀ {H':Hp},(∀ b∈fp,H' b=none)→∀ b∈fp,FpOk (cxC X sc cl s3.heap.objs.size x ks s3 H3 fp pins) [] H' b:=fun hn b hb=>by
  obtain ⟨o,ho⟩:=g3 b hb
  obtain ⟨_,q1,q2,q3,q4,q5⟩:=f b hb
  refine ⟨hn b hb,ltC b o ho,fun z=>?_,.inl hb,fun y c e=>q4 y c (h1 y c e),fun p hp=>q5 p (by simpa [cxC] using hp)⟩
  rcases List.mem_cons.mp (I3.stkSub b z) with e | e
  ·exact q1 e
  ·exact q2 e
 have back:∀ {o:Option V} {H':Hp} {s':Shared},Inv (cxC X sc cl s3.heap.objs.size x ks s3 H3 fp pins) [] (o :: selC ks σ) H' s'→Inv X pins σ H' s':=fun {o H' s'} J=>by
  obtain ⟨hh,g,d,t,os'⟩:=s'
  obtain rfl:os'=s3.os:=J.os
  exact I3.call (h':=hh) (g':=g) (d':=d) (t':=t) (ch:=fp) J.base J.hok J.bare fun b hb=>⟨(f b hb).2.2.2.1,(f b hb).2.1,(f b hb).2.2.2.2.1,(f b hb).2.2.2.2.2⟩
 have lookX:(relabel sc X.env).names.lookup x=some .local:=lookup_relabel_local lx
 have loop:∀ s',(∃ (i:Nat) (o:Option V) (H':Hp),Inv (cxC X sc cl s3.heap.objs.size x ks s3 H3 fp pins) [] (o :: selC ks σ) H' s'∧tn i s'.heap∧(∀ b∈fp,H' b=none)∧W i m0 H') →
   codeAny (model X.prog X.w) X.A (.compLoop (.ListComp elt [⟨.Name x px,iter,[cnd],0⟩] sc pos) 0 (.ref it) (.ref D) (compEnvC sc cl s3.heap.objs.size X.env)) (RR (.ref D) s3.heap.objs.size) s':=by
  intro s' hs'
  refine loop_compF (fun n s'=>∃ (i:Nat) (o:Option V) (H':Hp),Inv (cxC X sc cl s3.heap.objs.size x ks s3 H3 fp pins) [] (o :: selC ks σ) H' s'∧tn i s'.heap∧(∀ b∈fp,H' b=none)∧W i n H') ?_ m0 hs'
  rintro n s5 ⟨i,o,H5,J5,t5,n5,w5⟩
  rcases turn i n H5 w5 with ⟨stop,hq⟩ | ⟨go,step⟩
  ·refine thn (T.done (cxC X sc cl s3.heap.objs.size x ks s3 H3 fp pins) rfl rfl rfl hc i [] s5 _ H5 _ J5 (fX n5) t5 stop) fun r s6 ⟨hr,J6⟩=>?_
   subst hr
   obtain ⟨m,hm,_⟩:=J6.loc
   exact hR D _ s6 H5 m (back J6) hq hm J6.free lC I3.sz cC pC
  ·refine thn (T.item (cxC X sc cl s3.heap.objs.size x ks s3 H3 fp pins) rfl rfl rfl hc i [] s5 _ H5 _ J5 (fX n5) t5 go) fun r s6 ⟨u,hr,h6⟩=>?_
   subst hr
   refine thn h6 fun _ s7 ⟨v,H7,J7,r7,y7,t7,n7⟩=>?_
   have J7':=J7.pinned (fX n7) (T.obj _ _ t7)
   refine wpAny_assign_Name (store_ok (X:=cxC X sc cl s3.heap.objs.size x ks s3 H3 fp pins) (i:=0) J7' nd rfl (.inl lookX) r7 (fun s8 J8=>?_) (.inr lookX))
   refine thn (hcn cl s3.heap.objs.size s3 H3 fp pins _ s8 _ H7 _ J8 (step v H7 y7)) fun ok s8' ⟨H8,J8',q8⟩=>?_
   cases ok with
   | false =>
    simp only [Bool.false_eq_true,if_false] at q8 ⊢
    obtain ⟨m',hm,w'⟩:=q8
    refine ⟨m',hm,i + 1,_,_,J8'.unpinned,?_,?_,w'⟩
    ·exact T.keep _ _ _ t7 fun b hb o e=>(J8'.pin (b,o) (List.mem_append_right _ (List.mem_append_right _ (mem_pinsAt hb e)))).1
    ·intro b hb
     obtain ⟨o,e,d⟩:=T.obj _ _ t7 b hb
     exact (J8'.pin (b,o) (List.mem_append_right _ (List.mem_append_right _ (mem_pinsAt hb e)))).2.1
   | true =>
    simp only [if_true] at q8 ⊢
    refine thn (he cl s3.heap.objs.size s3 H3 fp pins _ s8' _ H8 _ J8' q8) fun y s9 ⟨vy,H9,J9,r9,ys,hys,hz,m',hm,w'⟩=>?_
    refine thn (mt_append (X:=cxC X sc cl s3.heap.objs.size x ks s3 H3 fp pins) _ s9 _ H9 (.ref D) [vy] (.ref D) [y] (fun _ H'=>H'=upd H9 D (.lst (ys ++ [vy]))) J9 rfl (.cons r9 .nil) ⟨D,ys,vy,rfl,rfl,hys,hz,rfl⟩) fun _ s10 ⟨_,H10,J10,_,eH⟩=>?_
    subst eH
    refine ⟨m',hm,i + 1,_,_,J10.unpinned,?_,?_,w'⟩
    ·exact T.keep _ _ _ t7 fun b hb o e=>(J10.pin (b,o) (List.mem_append_right _ (List.mem_append_right _ (mem_pinsAt hb e)))).1
    ·intro b hb
     obtain ⟨o,e,d⟩:=T.obj _ _ t7 b hb
     exact (J10.pin (b,o) (List.mem_append_right _ (List.mem_append_right _ (mem_pinsAt hb e)))).2.1
 have l0:=loop _ ⟨0,none,H3,J0,st4,fun b hb=>(f3 b hb).1,w0⟩
 exact codeAny_compStart_list l0 (T.self _ 0 _ _ _ st4 l0)
theorem pe_lcF {elt iter cnd:Expr} {x:Str} {px:Pos} {sc:Scope} {pos:Pos} {wi:TI} {te:TE} {tc:TT} (osc:Scope) (N:List Str) (ks:List (Str × Nat)) (hc:X.calm=true) (ho:X.env.scope=osc) (hN:X.N=N) (hi:PI X (.Name x px) iter wi)
  (he:∀ cl C s₀ H₀ fp pins,PE (cxC X sc cl C x ks s₀ H₀ fp pins) elt te) (hcn:∀ cl C s₀ H₀ fp pins,PT (cxC X sc cl C x ks s₀ H₀ fp pins) cnd tc) (ok:CompOk sc osc N x ks:=by decide +kernel) (hs:∀ x,foldedSetIterable iter X.env x=pure x:=by intro _;rfl) :
  PE X (.ListComp elt [⟨.Name x px,iter,[cnd],0⟩] sc pos) (tLCF wi ks tc te):=by
 intro pins s σ H Q I hw
 obtain ⟨cl,hcl,h1,h2⟩:=closure_at (osc_free ok I ho)
 have ok':CompOk sc X.env.scope X.N x ks:=by rw [ho,hN];exact ok
 rw [eval_ListComp]
 refine wpAny_comprehension_free (use:=none) rfl hs hcl ok.1 ok.2.2.2.1 (thn (hi pins s σ H _ I hw) fun v s1 h3=>thn h3 fun itv s2 h4=>?_)
 obtain ⟨it,fp,tn,J,H2,rfl,I2,T,st2,f2,hR⟩:=h4
 refine run_compF (RR:=fun acc C=>compPost (model X.prog X.w) X.A X.xe none (EP X pins σ Q) acc C) hc ok' h1 h2 he hcn I2 T st2 f2 hR ?_
 intro D C s' H' m J' q hn hC cl' cs cc cp
 refine ⟨m,hn,fun h' hsb=>⟨.ref D,H',?_,rfl,q⟩⟩
 exact J'.turned (t':=s'.toks) (it:=C) (fun b o ne e=>hsb.extBut b o ne e) hC cl' (.inr cs) cc cp
def tLCsF (wi:TI) (ks:List (Str × Nat)) (tc:TT) (te:TE) (i:Nat):TS:=fun D σ H=>tLCF wi ks tc te σ H fun v H1=>D.nx (σ.set i (some v)) H1
theorem ps_lcF {elt iter cnd:Expr} {x y:Str} {px py:Pos} {sc:Scope} {pos spos:Pos} {wi:TI} {te:TE} {tc:TT} {i:Nat} (osc:Scope) (N:List Str) (ks:List (Str × Nat)) (hc:X.calm=true) (ho:X.env.scope=osc) (hN:X.N=N) (hnd:X.N.Nodup) (hy:X.N[i]?=some y) (hl:Loc X.env.scope y)
  (hi:PI X (.Name x px) iter wi) (he:∀ cl C s₀ H₀ fp pins,PE (cxC X sc cl C x ks s₀ H₀ fp pins) elt te) (hcn:∀ cl C s₀ H₀ fp pins,PT (cxC X sc cl C x ks s₀ H₀ fp pins) cnd tc) (ok:CompOk sc osc N x ks:=by decide +kernel) (hs:∀ x,foldedSetIterable iter X.env x=pure x:=by intro _;rfl)
  (hsw:swapsWith (.ListComp elt [⟨.Name x px,iter,[cnd],0⟩] sc pos) (some (.Name y py)) spos.line X.env=pure true:=by rfl) (hf:X.fn y=true∨X.env.scope.names.lookup y=some .local:=by first | exact .inl rfl | exact .inr rfl | assumption) :
  PS X (.Assign [.Name y py] (.ListComp elt [⟨.Name x px,iter,[cnd],0⟩] sc pos) spos) (tLCsF wi ks tc te i):=by
 intro pins s σ H Dn I hw
 obtain ⟨cl,hcl,h1,h2⟩:=closure_at (osc_free ok I ho)
 have ok':CompOk sc X.env.scope X.N x ks:=by rw [ho,hN];exact ok
 rw [exec_Assign_Name_used _ _ _ _ hsw]
 refine wpAny_bind (wpAny_standAt (wpAny_bind ?_))
 show wpAny _ X.A (do let _ ← comprehension (.ListComp elt [⟨.Name x px,iter,[cnd],0⟩] sc pos) sc X.env _ (newList []) false (eval iter X.env) (some (assign (.Name y py) X.env))) _ _ s
 refine wpAny_bind (wpAny_mono (wpAny_comprehension_free (use:=some (assign (.Name y py) X.env)) (Q:=fun _ s'=>SP X pins Dn .next s') rfl hs hcl ok.1 ok.2.2.2.1
  (thn (hi pins s σ H _ I hw) fun v s1 h3=>thn h3 fun itv s2 h4=>?_)) (fun _ s' hq=>wpAny_pure (wpAny_pure hq)) fun _ _ e=>e)
 obtain ⟨it,fp,tn,J,H2,rfl,I2,T,st2,f2,hR⟩:=h4
 refine run_compF (Q:=fun v H1=>Dn.nx (σ.set i (some v)) H1) (RR:=fun acc C=>compPost (model X.prog X.w) X.A X.xe (some (assign (.Name y py) X.env)) (fun _ s'=>SP X pins Dn .next s') acc C) hc ok' h1 h2 he hcn I2 T st2 f2 hR ?_
 intro D C s' H' m J' q hn hC cl' cs cc cp
 show wpAny _ X.A (assign (.Name y py) X.env (.ref D)) _ _ _
 refine wpAny_assign_Name (store_ok2 J' hnd hy hl (v:=.ref D) rfl (fun s'' J'' ⟨a,hsb,ha⟩=>?_) hf)
 refine ⟨m,hn.sameBut hsb (fun z=>?_),fun h' hsb'=>⟨_,H',?_,q⟩⟩
 ·rcases ha with e | e
  ·exact cl' (z.trans e)
  ·exact cc _ _ e z.symm
 ·exact J''.turned (t':=s''.toks) (it:=C) (fun b o ne e=>hsb'.extBut b o ne e) hC cl' (.inr cs) cc cp
end
end Ov
namespace Ov
open PySem PySem.Spec PyProof.Rows
open L2 (V HO Hp Inv Cx VK XK TE TT TA TS TG TGs TI TO TSet Ends Vis Loc Gl Rd RelV Vals OpR UnR CallR IxR SlR MtR PSet R2 upd upd_same upd_ne SqL SqT Sp CXT It Same)
inductive PV where
 | non | bl (b:Bool) | int (i:Int) | str (x:Str) | ref (a:Addr) | ty (n:String) | tup (xs:List PV) | fl (xs:List PV)
inductive HQ where
 | lst (xs:List PV) | ins (C:Addr) (fs:List (Str × PV)) | dct (kvs:List (Str × PV)) (ep:Nat) | tab
abbrev Hq:=Addr→Option HQ
def put (J:Hq) (a:Addr) (o:HQ):Hq:=fun b=>if b=a then some o else J b
theorem put_same {J:Hq} {a:Addr} {o:HQ}:put J a o a=some o:=by unfold put;rw [if_pos rfl]
theorem put_ne {J:Hq} {a b:Addr} {o:HQ} (h:b≠a):put J a o b=J b:=by unfold put;rw [if_neg h]
theorem put_put {J:Hq} {a:Addr} {o u:HQ}:put (put J a o) a u=put J a u:=by
 funext b;unfold put;split <;> rfl
theorem put_swap {J:Hq} {a b:Addr} {o u:HQ} (h:a≠b):put (put J a o) b u=put (put J b u) a o:=by
 funext c;unfold put
 by_cases h1:c=b <;> by_cases h2:c=a <;> simp [h1,h2]
 ·exact absurd (h2.symm.trans h1) h
 ·intro z;exact absurd z.symm h
 ·intro z;exact absurd z h
theorem put_id {J:Hq} {a:Addr} {o:HQ} (h:J a=some o):put J a o=J:=by
 funext b;unfold put
 by_cases e:b=a
 ·subst e;rw [if_pos rfl,h]
 ·rw [if_neg e]
def FlAt (K:PySem.W.Frag) (J:Hq) (H:Hp) (a:Addr) (vs:List V):Prop:=(J a=none∧Rd H a (.lst vs))∨∃ (o:Obj) (its:Array Value) (n:Nat),K.lookup a=some o∧o.cls=.type "list"∧o.dict=none∧o.data=.seq its n∧its.size≤sizeLine∧Vals vs its.toList
theorem FlAt.sq {K:PySem.W.Frag} {J:Hq} {H:Hp} {a:Addr} {vs:List V} (h:FlAt K J H a vs):SqL K H a vs:=by
 rcases h with h | h
 ·exact .inl h.2
 ·exact .inr h
section
variable (K:PySem.W.Frag)
mutual
def RepV (J:Hq) (H:Hp):PV→V→Prop
 | .non,v=>v=.non
 | .bl b,v=>v=.bl b
 | .int i,v=>v=.int i
 | .str x,v=>v=.str x
 | .ref a,v=>v=.ref a
 | .ty n,v=>v=.ty n
 | .tup xs,v=>∃ a vs,v=.ref a∧SqT K H a vs∧RepVs J H xs vs
 | .fl xs,v=>∃ a vs,v=.ref a∧FlAt K J H a vs∧RepVs J H xs vs
def RepVs (J:Hq) (H:Hp):List PV→List V→Prop
 | [],vs=>vs=[]
 | x :: xs,vs=>∃ v us,vs=v :: us∧RepV J H x v∧RepVs J H xs us
end
def RepF {κ:Type} (J:Hq) (H:Hp) (fs:List (κ × PV)) (gs:List (κ × V)):Prop:=fs.map (·.1)=gs.map (·.1)∧RepVs K J H (fs.map (·.2)) (gs.map (·.2))
def RepO (J:Hq) (H:Hp) (a:Addr):HQ→Prop
 | .lst xs=>∃ vs,H a=some (.lst vs)∧RepVs K J H xs vs
 | .ins C fs=>∃ dx gs,H a=some (.ins C dx gs)∧RepF K J H fs gs
 | .dct kvs ep=>∃ gs,H a=some (.dE gs ep)∧RepF K J H kvs gs
 | .tab=>H a=some (.ext (TabOk a))
def Rep (J:Hq) (H:Hp):Prop:=∀ a o,J a=some o→RepO K J H a o
structure Ext (J:Hq) (H:Hp) (J':Hq) (H':Hp):Prop where
 tup:∀ a vs,SqT K H a vs→SqT K H' a vs
 ll:∀ a o,J a=none→H a=some o→((∃ vs,o=.lst vs)∨∃ ob vs,o=.frz ob (.lst vs))→J' a=none∧H' a=some o
end
section
variable {K:PySem.W.Frag} {J J' J'':Hq} {H H' H'':Hp}
theorem Ext.fl (e:Ext K J H J' H') (a:Addr) (vs:List V) (n:J a=none) (h:Rd H a (.lst vs)):J' a=none∧Rd H' a (.lst vs):=by
 rcases h with h | ⟨o,h⟩
 ·obtain ⟨a,b⟩:=e.ll a _ n h (.inl ⟨_,rfl⟩);exact ⟨a,.inl b⟩
 ·obtain ⟨a,b⟩:=e.ll a _ n h (.inr ⟨_,_,rfl⟩);exact ⟨a,.inr ⟨o,b⟩⟩
theorem Ext.flat (e:Ext K J H J' H') {a:Addr} {vs:List V} (h:FlAt K J H a vs):FlAt K J' H' a vs:=by
 rcases h with h | h
 ·exact .inl (e.fl a vs h.1 h.2)
 ·exact .inr h
mutual
theorem Ext.rep (e:Ext K J H J' H'):∀ {x:PV} {v:V},RepV K J H x v→RepV K J' H' x v
 | .non,_,h=>h
 | .bl _,_,h=>h
 | .int _,_,h=>h
 | .str _,_,h=>h
 | .ref _,_,h=>h
 | .ty _,_,h=>h
 | .tup xs,_,⟨a,vs,e1,h,k⟩=>⟨a,vs,e1,e.tup _ _ h,Ext.reps e k⟩
 | .fl xs,_,⟨a,vs,e1,h,k⟩=>⟨a,vs,e1,e.flat h,Ext.reps e k⟩
theorem Ext.reps (e:Ext K J H J' H'):∀ {xs:List PV} {vs:List V},RepVs K J H xs vs→RepVs K J' H' xs vs
 | [],_,h=>h
 | _ :: _,_,⟨v,us,e1,h,k⟩=>⟨v,us,e1,Ext.rep e h,Ext.reps e k⟩
end
theorem Ext.refl:Ext K J H J H:=⟨fun _ _ h=>h,fun _ _ n h _=>⟨n,h⟩⟩
theorem Ext.trans (a:Ext K J H J' H') (b:Ext K J' H' J'' H''):Ext K J H J'' H'' :=
 ⟨fun c vs h=>b.tup c vs (a.tup c vs h),fun c o n h z=>b.ll c o (a.ll c o n h z).1 (a.ll c o n h z).2 z⟩
theorem Ext.repF {κ:Type} (e:Ext K J H J' H') {fs:List (κ × PV)} {gs:List (κ × V)} (h:RepF K J H fs gs):RepF K J' H' fs gs:=⟨h.1,e.reps h.2⟩
theorem Rd.same {a:Addr} {u:HO} (s:Same H H') (h:Rd H a u):Rd H' a u:=by
 rcases h with h | ⟨o,h⟩
 ·exact .inl (s _ _ h)
 ·exact .inr ⟨o,s _ _ h⟩
theorem Ext.same (s:Same H H'):Ext K J H J H':=⟨fun a vs h=>s.tup h,fun a o n h _=>⟨n,s _ _ h⟩⟩
theorem RepO.same (s:Same H H') {a:Addr} {o:HQ} (h:RepO K J H a o):RepO K J H' a o:=by
 have e:=Ext.same (K:=K) (J:=J) s
 cases o with
 | lst xs=>obtain ⟨vs,h1,h2⟩:=h;exact ⟨vs,s _ _ h1,e.reps h2⟩
 | ins C fs=>obtain ⟨dx,gs,h1,h2⟩:=h;exact ⟨dx,gs,s _ _ h1,e.repF h2⟩
 | dct kvs ep=>obtain ⟨gs,h1,h2⟩:=h;exact ⟨gs,s _ _ h1,e.repF h2⟩
 | tab=>exact s _ _ (show H a=some (.ext (TabOk a)) from h)
theorem Rep.same (s:Same H H') (h:Rep K J H):Rep K J H':=fun a o q=>(h a o q).same s
theorem Ext.less (h:∀ a,J' a=J a∨J' a=none):Ext K J H J' H:=⟨fun _ _ h=>h,fun a o n z _=>⟨(h a).elim (fun e=>e.trans n) (fun e=>e),z⟩⟩
theorem Rep.less (h:∀ a,J' a=J a∨J' a=none) (r:Rep K J H):Rep K J' H:=fun a o q=>by
 have e:J a=some o:=by
  rcases h a with e | e
  ·rw [← e];exact q
  ·rw [e] at q;cases q
 have x:=Ext.less (K:=K) (H:=H) h
 have z:=r a o e
 cases o with
 | lst xs=>obtain ⟨vs,h1,h2⟩:=z;exact ⟨vs,h1,x.reps h2⟩
 | ins C fs=>obtain ⟨dx,gs,h1,h2⟩:=z;exact ⟨dx,gs,h1,x.repF h2⟩
 | dct kvs ep=>obtain ⟨gs,h1,h2⟩:=z;exact ⟨gs,h1,x.repF h2⟩
 | tab=>exact z
theorem RepVs.length:∀ {xs:List PV} {vs:List V},RepVs K J H xs vs→xs.length=vs.length
 | [],_,h=>by cases h;rfl
 | _ :: xs,_,⟨v,us,e1,_,k⟩=>by subst e1;simp [RepVs.length k]
theorem RepVs.get:∀ {xs:List PV} {vs:List V} {i:Nat} {x:PV},RepVs K J H xs vs→xs[i]?=some x→∃ v,vs[i]?=some v∧RepV K J H x v
 | [],_,i,x,h,e=>by simp at e
 | y :: xs,_,0,x,⟨v,us,e1,h,k⟩,e=>by subst e1;simp at e;subst e;exact ⟨v,rfl,h⟩
 | y :: xs,_,i + 1,x,⟨v,us,e1,h,k⟩,e=>by
  subst e1
  obtain ⟨w,h1,h2⟩:=RepVs.get (i:=i) (x:=x) k (by simpa using e)
  exact ⟨w,by simpa using h1,h2⟩
theorem RepVs.get':∀ {xs:List PV} {vs:List V} {i:Nat} {v:V},RepVs K J H xs vs→vs[i]?=some v→∃ x,xs[i]?=some x∧RepV K J H x v
 | [],_,i,x,h,e=>by cases h;simp at e
 | y :: xs,_,0,x,⟨v,us,e1,h,k⟩,e=>by subst e1;simp at e;subst e;exact ⟨y,rfl,h⟩
 | y :: xs,_,i + 1,x,⟨v,us,e1,h,k⟩,e=>by
  subst e1
  obtain ⟨w,h1,h2⟩:=RepVs.get' (i:=i) (v:=x) k (by simpa using e)
  exact ⟨w,by simpa using h1,h2⟩
theorem RepVs.append:∀ {xs ys:List PV} {vs us:List V},RepVs K J H xs vs→RepVs K J H ys us→RepVs K J H (xs ++ ys) (vs ++ us)
 | [],_,_,_,h,k=>by cases h;exact k
 | x :: xs,ys,_,us,⟨v,ws,e1,h,h'⟩,k=>by subst e1;exact ⟨v,ws ++ us,rfl,h,RepVs.append h' k⟩
theorem RepVs.drop:∀ (n:Nat) {xs:List PV} {vs:List V},RepVs K J H xs vs→RepVs K J H (xs.drop n) (vs.drop n)
 | 0,_,_,h=>h
 | n + 1,[],_,h=>by cases h;rfl
 | n + 1,x :: xs,_,⟨v,ws,e1,h,h'⟩=>by subst e1;exact RepVs.drop n h'
theorem RepVs.take:∀ (n:Nat) {xs:List PV} {vs:List V},RepVs K J H xs vs→RepVs K J H (xs.take n) (vs.take n)
 | 0,_,_,h=>rfl
 | n + 1,[],_,h=>by cases h;rfl
 | n + 1,x :: xs,_,⟨v,ws,e1,h,h'⟩=>by subst e1;exact ⟨v,_,rfl,h,RepVs.take n h'⟩
theorem RepVs.set {x:PV} {v:V} (r:RepV K J H x v):∀ (n:Nat) {xs:List PV} {vs:List V},RepVs K J H xs vs→RepVs K J H (xs.set n x) (vs.set n v)
 | n,[],_,h=>by cases h;rfl
 | 0,y :: xs,_,⟨w,ws,e1,h,h'⟩=>by subst e1;exact ⟨v,ws,rfl,r,h'⟩
 | n + 1,y :: xs,_,⟨w,ws,e1,h,h'⟩=>by subst e1;exact ⟨w,_,rfl,h,RepVs.set r n h'⟩
theorem RepF.look {κ:Type} [BEq κ] [LawfulBEq κ] {f:κ}:∀ {fs:List (κ × PV)} {gs:List (κ × V)} {x:PV},RepF K J H fs gs→fs.lookup f=some x→∃ v,gs.lookup f=some v∧RepV K J H x v
 | [],_,_,_,e=>by cases e
 | (k,y) :: fs,[],x,h,e=>by cases h.1
 | (k,y) :: fs,(k',w) :: gs,x,h,e=>by
  obtain ⟨h1,v,us,h2,h3,h4⟩:=h
  simp only [List.map_cons,List.cons.injEq] at h1 h2
  obtain ⟨rfl,h1⟩:=h1
  obtain ⟨rfl,rfl⟩:=h2
  rw [List.lookup_cons] at e ⊢
  cases hk:f == k with
  | true=>rw [hk] at e;cases e;exact ⟨w,rfl,h3⟩
  | false=>rw [hk] at e;exact RepF.look ⟨h1,h4⟩ e
theorem RepF.none {κ:Type} [BEq κ] [LawfulBEq κ] {f:κ}:∀ {fs:List (κ × PV)} {gs:List (κ × V)},RepF K J H fs gs→fs.lookup f=none→gs.lookup f=none
 | [],[],_,_=>rfl
 | [],_ :: _,h,e=>by cases h.1
 | (k,y) :: fs,[],h,e=>by cases h.1
 | (k,y) :: fs,(k',w) :: gs,h,e=>by
  obtain ⟨h1,v,us,h2,h3,h4⟩:=h
  simp only [List.map_cons,List.cons.injEq] at h1 h2
  obtain ⟨rfl,h1⟩:=h1
  obtain ⟨rfl,rfl⟩:=h2
  rw [List.lookup_cons] at e ⊢
  cases hk:f == k with
  | true=>rw [hk] at e;cases e
  | false=>rw [hk] at e;exact RepF.none ⟨h1,h4⟩ e
end
section
variable {K:PySem.W.Frag} {J J':Hq} {H H':Hp} {p:Addr}
theorem ne_free {a p:Addr} {o:HQ} (r:Rep K J H) (h:J a=some o) (n:H p=none):a≠p:=by
 intro e;subst e
 have:=r _ _ h
 cases o with
 | lst xs=>obtain ⟨vs,h1,_⟩:=this;rw [n] at h1;cases h1
 | ins C fs=>obtain ⟨dx,gs,h1,_⟩:=this;rw [n] at h1;cases h1
 | dct kvs ep=>obtain ⟨gs,h1,_⟩:=this;rw [n] at h1;cases h1
 | tab=>have h1:H a=some (.ext (TabOk a)):=this;rw [n] at h1;cases h1
theorem Rep.free (r:Rep K J H) (n:H p=none):J p=none:=by
 cases e:J p with
 | none=>rfl
 | some o=>exact absurd rfl (ne_free r e n)
theorem Ext.laid {o:HO} {u:HQ} (n:H p=none):Ext K J H (put J p u) (upd H p o):=by
 refine ⟨fun a vs h=>(Same.new n o).tup h,fun a o' z h _=>⟨?_,Same.new n o _ _ h⟩⟩
 have ne:a≠p:=by intro e;subst e;rw [n] at h;cases h
 rw [put_ne ne];exact z
theorem Rep.upto {J':Hq} {H':Hp} (e:Ext K J H J' H') (r:Rep K J H) (p:Addr) (q:∀ a,a≠p→J' a=J a) (s:∀ a o,a≠p→J a≠none→H a=some o→H' a=some o) (h:∀ u,J' p=some u→RepO K J' H' p u):Rep K J' H':=fun a o z=>by
 by_cases ep:a=p
 ·subst ep;exact h o z
 ·rw [q a ep] at z
  have t:=r a o z
  have jn:J a≠none:=by rw [z];exact fun y=>nomatch y
  cases o with
  | lst xs=>obtain ⟨vs,h1,h2⟩:=t;exact ⟨vs,s _ _ ep jn h1,e.reps h2⟩
  | ins C fs=>obtain ⟨dx,gs,h1,h2⟩:=t;exact ⟨dx,gs,s _ _ ep jn h1,e.repF h2⟩
  | dct kvs eq=>obtain ⟨gs,h1,h2⟩:=t;exact ⟨gs,s _ _ ep jn h1,e.repF h2⟩
  | tab=>exact s _ _ ep jn (show H a=some (.ext (TabOk a)) from t)
theorem Rep.laidL {xs:List PV} {vs:List V} (r:Rep K J H) (n:H p=none) (h:RepVs K J H xs vs):Rep K (put J p (.lst xs)) (upd H p (.lst vs)):=by
 have e:=Ext.laid (K:=K) (J:=J) (o:=.lst vs) (u:=.lst xs) n
 refine r.upto e p (fun a ne=>put_ne ne) (fun a o ne _ z=>by rw [upd_ne ne];exact z) fun u z=>?_
 rw [put_same] at z;cases z
 exact ⟨vs,upd_same,e.reps h⟩
theorem Ext.wrote {xs ys:List PV} {ws vs:List V} (h:J p=some (.lst xs)) (k:H p=some (.lst ws)):Ext K J H (put J p (.lst ys)) (upd H p (.lst vs)):=by
 have sm:∀ a u,(∀ l,u≠HO.lst l)∨a≠p→Rd H a u→Rd (upd H p (.lst vs)) a u:=fun a u d z=>by
  have ne:a≠p:=by
   rcases d with d | d
   ·intro e;subst e
    rcases z with z | ⟨o,z⟩
    ·rw [k] at z;cases z;exact d _ rfl
    ·rw [k] at z;cases z
   ·exact d
  rcases z with z | ⟨o,z⟩
  ·exact .inl (by rw [upd_ne ne];exact z)
  ·exact .inr ⟨o,by rw [upd_ne ne];exact z⟩
 refine ⟨fun a vs' z=>?_,fun a o z q _=>?_⟩
 ·rcases z with z | z
  ·exact .inl (sm a _ (.inl fun l e=>nomatch e) z)
  ·exact .inr z
 ·have ne:a≠p:=by intro e;subst e;rw [h] at z;cases z
  exact ⟨by rw [put_ne ne];exact z,by rw [upd_ne ne];exact q⟩
theorem Rep.wrote {xs ys:List PV} {ws vs:List V} (r:Rep K J H) (h:J p=some (.lst xs)) (k:H p=some (.lst ws)) (q:RepVs K J H ys vs):Rep K (put J p (.lst ys)) (upd H p (.lst vs)):=by
 have e:=Ext.wrote (K:=K) (ys:=ys) (vs:=vs) h k
 refine r.upto e p (fun a ne=>put_ne ne) (fun a o ne _ z=>by rw [upd_ne ne];exact z) fun u z=>?_
 rw [put_same] at z;cases z
 exact ⟨vs,upd_same,e.reps q⟩
end
abbrev Sr:=List (Option PV)
abbrev TEr:=Sr→Hq→(PV→Hq→Prop)→Prop
abbrev TTr:=Sr→Hq→(Bool→Hq→Prop)→Prop
abbrev TAr:=Sr→Hq→(List PV→Hq→Prop)→Prop
structure En where
 nx:Sr→Hq→Prop
 rt:PV→Hq→Prop
 bk:Sr→Hq→Prop:=fun _ _=>False
 ct:Sr→Hq→Prop:=fun _ _=>False
abbrev TSr:=En→Sr→Hq→Prop
structure RepS (K:PySem.W.Frag) (J:Hq) (H:Hp) (τ:Sr) (σ:L2.St):Prop where
 len:τ.length=σ.length
 get:∀ (i:Nat) (x:PV),τ[i]?=some (some x)→∃ v,σ[i]?=some (some v)∧RepV K J H x v
theorem RepS.ext {K:PySem.W.Frag} {J J':Hq} {H H':Hp} {τ:Sr} {σ:L2.St} (r:RepS K J H τ σ) (e:Ext K J H J' H'):RepS K J' H' τ σ :=
 ⟨r.len,fun i x h=>let ⟨v,a,b⟩:=r.get i x h;⟨v,a,e.rep b⟩⟩
theorem RepS.set {K:PySem.W.Frag} {J:Hq} {H:Hp} {τ:Sr} {σ:L2.St} (r:RepS K J H τ σ) {x:PV} {v:V} (i:Nat) (h:RepV K J H x v):RepS K J H (τ.set i (some x)) (σ.set i (some v)):=by
 refine ⟨by rw [List.length_set,List.length_set,r.len],fun j y e=>?_⟩
 by_cases hj:i=j
 ·subst hj
  by_cases hl:i < τ.length
  ·rw [List.getElem?_set_self hl] at e
   cases e
   exact ⟨v,List.getElem?_set_self (by rw [← r.len];exact hl),h⟩
  ·rw [List.getElem?_eq_none (by rw [List.length_set];omega)] at e
   cases e
 ·rw [List.getElem?_set_ne hj] at e ⊢
  exact r.get j y e
abbrev G2:=Hq × Hp
structure At2 (K:PySem.W.Frag) (G:G2) (τ:Sr) (J:Hq) (σ:L2.St) (H:Hp):Prop where
 sl:RepS K J H τ σ
 hp:Rep K J H
 ext:Ext K G.1 G.2 J H
section
variable (K:PySem.W.Frag) (G:G2)
def LE (t:TEr):TE:=fun σ H Q=>∃ τ J Q2,At2 K G τ J σ H∧t τ J Q2∧∀ x J' v H',RepV K J' H' x v→Rep K J' H'→Ext K J H J' H'→Q2 x J'→Q v H'
def LT (t:TTr):TT:=fun σ H Q=>∃ τ J Q2,At2 K G τ J σ H∧t τ J Q2∧∀ b J' H',Rep K J' H'→Ext K J H J' H'→Q2 b J'→Q b H'
def LA (t:TAr):TA:=fun σ H Q=>∃ τ J Q2,At2 K G τ J σ H∧t τ J Q2∧∀ xs J' vs H',RepVs K J' H' xs vs→Rep K J' H'→Ext K J H J' H'→Q2 xs J'→Q vs H'
structure Goes (J:Hq) (H:Hp) (D2:En) (D:Ends):Prop where
 nx:∀ τ J' σ H',RepS K J' H' τ σ→Rep K J' H'→Ext K J H J' H'→D2.nx τ J'→D.nx σ H'
 rt:∀ x J' v H',RepV K J' H' x v→Rep K J' H'→Ext K J H J' H'→D2.rt x J'→D.rt v H'
 bk:∀ τ J' σ H',RepS K J' H' τ σ→Rep K J' H'→Ext K J H J' H'→D2.bk τ J'→D.bk σ H'
 ct:∀ τ J' σ H',RepS K J' H' τ σ→Rep K J' H'→Ext K J H J' H'→D2.ct τ J'→D.ct σ H'
def LS (t:TSr):TS:=fun D σ H=>∃ τ J D2,At2 K G τ J σ H∧t D2 τ J∧Goes K J H D2 D
end
theorem Goes.ext {K:PySem.W.Frag} {J J':Hq} {H H':Hp} {D2:En} {D:Ends} (g:Goes K J H D2 D) (e:Ext K J H J' H'):Goes K J' H' D2 D :=
 ⟨fun τ J1 σ H1 a b c=>g.nx τ J1 σ H1 a b (e.trans c),fun x J1 v H1 a b c=>g.rt x J1 v H1 a b (e.trans c),fun τ J1 σ H1 a b c=>g.bk τ J1 σ H1 a b (e.trans c),fun τ J1 σ H1 a b c=>g.ct τ J1 σ H1 a b (e.trans c)⟩
theorem At2.go {K:PySem.W.Frag} {G:G2} {τ:Sr} {J J':Hq} {σ:L2.St} {H H':Hp} (a:At2 K G τ J σ H) (r:Rep K J' H') (e:Ext K J H J' H'):At2 K G τ J' σ H':=⟨a.sl.ext e,r,a.ext.trans e⟩
structure RE (X:Cx) (G:G2) (e:Expr) (t:TEr):Prop where
 run:L2.PE X e (LE X.K G t)
structure RT (X:Cx) (G:G2) (e:Expr) (t:TTr):Prop where
 run:L2.PT X e (LT X.K G t)
structure RW (X:Cx) (G:G2) (e:Expr) (t:TTr):Prop where
 run:L2.PW X e (LT X.K G t)
structure RA (X:Cx) (G:G2) (es:List Expr) (t:TAr):Prop where
 run:L2.PA X es (LA X.K G t)
structure RS (X:Cx) (G:G2) (st:Stmt) (t:TSr):Prop where
 run:L2.PS X st (LS X.K G t)
structure RB (X:Cx) (G:G2) (st:List Stmt) (t:TSr):Prop where
 run:L2.PSs X st (LS X.K G t)
theorem peW {X:Cx} {e:Expr} {t t':TE} (h:L2.PE X e t) (k:∀ σ H Q,t' σ H Q→t σ H Q):L2.PE X e t':=fun pins s σ H Q I q=>h pins s σ H Q I (k _ _ _ q)
theorem ptW {X:Cx} {e:Expr} {t t':TT} (h:L2.PT X e t) (k:∀ σ H Q,t' σ H Q→t σ H Q):L2.PT X e t':=fun pins s σ H Q I q=>h pins s σ H Q I (k _ _ _ q)
theorem pwW {X:Cx} {e:Expr} {t t':TT} (h:L2.PW X e t) (k:∀ σ H Q,t' σ H Q→t σ H Q):L2.PW X e t':=fun wh pins s σ H Q I q=>h wh pins s σ H Q I (k _ _ _ q)
theorem paW {X:Cx} {e:List Expr} {t t':TA} (h:L2.PA X e t) (k:∀ σ H Q,t' σ H Q→t σ H Q):L2.PA X e t':=fun pos pins s σ H Q I q=>h pos pins s σ H Q I (k _ _ _ q)
theorem psW {X:Cx} {e:Stmt} {t t':TS} (h:L2.PS X e t) (k:∀ D σ H,t' D σ H→t D σ H):L2.PS X e t':=fun pins s σ H D I q=>h pins s σ H D I (k _ _ _ q)
theorem pbW {X:Cx} {e:List Stmt} {t t':TS} (h:L2.PSs X e t) (k:∀ D σ H,t' D σ H→t D σ H):L2.PSs X e t':=fun pins s σ H D I q=>h pins s σ H D I (k _ _ _ q)
end Ov
namespace Ov
open PySem PySem.Spec PyProof.Rows
open L2 (V HO Hp Inv Cx VK XK TE TT TA TS TG TGs TI TO TSet Ends Vis Loc Gl Rd RelV Vals OpR UnR CallR IxR SlR MtR PSet R2 upd upd_same upd_ne SqL SqT Sp CXT It Same PlainIx Room Passes Cls NoAttr Meth Mk Binds FnOk Fun FnScope atI TyOf)
section
variable {X:Cx} {G:G2} {a b c e o:Expr} {es rest:List Expr} {ta tb te tc to:TEr} {tA tB':TTr} {t:TAr} {pos px p p2 apos cpos:Pos} {x:Str} {i j:Nat}
def rVar (i:Nat):TEr:=fun τ J Q=>∃ x,τ[i]?=some (some x)∧Q x J
theorem rv (i:Nat) {x:Str} {pos:Pos} (hN:X.N[i]?=some x:=by rfl) (hv:Vis X.env.scope x:=by first | exact Or.inl rfl | exact Or.inr (Or.inl rfl) | exact Or.inr (Or.inr rfl)) (hd:(x == ("__debug__":Str))=false:=by decide)
  (hcd:(x == ("__classdict__":Str))=false:=by decide):RE X G (.Name x pos) (rVar i) :=
 ⟨peW (L2.pe_var hN hv hd hcd) fun σ H Q ⟨τ,J,Q2,a2,⟨y,ey,q⟩,k⟩=>let ⟨v,e1,r⟩:=a2.sl.get i y ey;⟨v,e1,k y J v H r a2.hp .refl q⟩⟩
def rC (x:PV):TEr:=fun _ J Q=>Q x J
theorem re_int {i:Int} {j pos}:RE X G (.Constant (.int i) j pos) (rC (.int i)):=⟨peW L2.pe_int fun σ H Q ⟨τ,J,Q2,a2,q,k⟩=>k (.int i) J _ H rfl a2.hp .refl q⟩
theorem re_bl {b:Bool} {j pos}:RE X G (.Constant (.bool b) j pos) (rC (.bl b)):=⟨peW L2.pe_bl fun σ H Q ⟨τ,J,Q2,a2,q,k⟩=>k (.bl b) J _ H rfl a2.hp .refl q⟩
theorem re_non {j pos}:RE X G (.Constant .none j pos) (rC .non):=⟨peW L2.pe_non fun σ H Q ⟨τ,J,Q2,a2,q,k⟩=>k .non J _ H rfl a2.hp .refl q⟩
theorem re_str {x:Str} {j pos}:RE X G (.Constant (.str x) j pos) (rC (.str x)):=⟨peW L2.pe_str fun σ H Q ⟨τ,J,Q2,a2,q,k⟩=>k (.str x) J _ H rfl a2.hp .refl q⟩
theorem re_glob {v:V} {u:Value} (y:PV) (hg:Gl X x) (hm:X.mg x=some u) (r:RelV v u) (hr:∀ J H,RepV X.K J H y v) (hd:(x == ("__debug__":Str))=false:=by decide):RE X G (.Name x pos) (rC y) :=
 ⟨peW (L2.pe_glob hg hm r hd) fun σ H Q ⟨τ,J,Q2,a2,q,k⟩=>k y J v H (hr J H) a2.hp .refl q⟩
theorem re_ty {n:String} (hg:Gl X x) (hm:X.mg x=none) (hv:bootBuiltins x=some (.type n)) (hn:x≠"__name__":=by decide) (hd:(x == ("__debug__":Str))=false:=by decide):RE X G (.Name x pos) (rC (.ty n)) :=
 ⟨peW (L2.pe_bltn (v:=.ty n) hg hm hv rfl hn hd) fun σ H Q ⟨τ,J,Q2,a2,q,k⟩=>k (.ty n) J _ H rfl a2.hp .refl q⟩
abbrev R2r:=PV→PV→Hq→(PV→Hq→Prop)→Prop
abbrev R1r:=PV→Hq→(PV→Hq→Prop)→Prop
abbrev RLr:=List PV→Hq→(PV→Hq→Prop)→Prop
def Kn (K:PySem.W.Frag) (J:Hq) (H:Hp) (Q2:PV→Hq→Prop) (Q:VK):Prop:=∀ z J' u H',RepV K J' H' z u→Rep K J' H'→Ext K J H J' H'→Q2 z J'→Q u H'
def LR (K:PySem.W.Frag) (r:R2) (q:R2r):Prop:=∀ J H x y v w Q2 Q,RepV K J H x v→RepV K J H y w→Rep K J H→q x y J Q2→Kn K J H Q2 Q→r v w H Q
def LR1 (K:PySem.W.Frag) (r:V→Hp→VK→Prop) (q:R1r):Prop:=∀ J H x v Q2 Q,RepV K J H x v→Rep K J H→q x J Q2→Kn K J H Q2 Q→r v H Q
def LRL (K:PySem.W.Frag) (r:List V→Hp→VK→Prop) (q:RLr):Prop:=∀ J H xs vs Q2 Q,RepVs K J H xs vs→Rep K J H→q xs J Q2→Kn K J H Q2 Q→r vs H Q
def OpL (X:Cx) (f:Value→Value→Sem Value) (q:R2r):Prop:=∃ r,OpR X f r∧LR X.K r q
def UnL (X:Cx) (f:Value→Sem Value) (q:R1r):Prop:=∃ r,UnR X f r∧LR1 X.K r q
def IxL (X:Cx) (q:R2r):Prop:=∃ r,IxR X r∧LR X.K r q
def CaL (X:Cx) (f:Value) (q:RLr):Prop:=∃ r,CallR X f r∧LRL X.K r q
def rOp (q:R2r) (ta tb:TEr):TEr:=fun τ J Q=>ta τ J fun x J1=>tb τ J1 fun y J2=>q x y J2 Q
def rUn (q:R1r) (ta:TEr):TEr:=fun τ J Q=>ta τ J fun x J1=>q x J1 Q
theorem op_lift {r:R2} {q:R2r} (lr:LR X.K r q):∀ σ H Q,LE X.K G (rOp q ta tb) σ H Q→L2.tOp r (LE X.K G ta) (LE X.K G tb) σ H Q:=fun σ H Q ⟨τ,J,Q2,a2,h,k⟩ =>
 ⟨τ,J,_,a2,h,fun x J1 v H1 rx r1 e1 q1=>⟨τ,J1,_,a2.go r1 e1,q1,fun y J2 w H2 ry r2 e2 q2 =>
  lr J2 H2 x y v w Q2 Q (e2.rep rx) ry r2 q2 fun z J' u H' rz rr ee qq=>k z J' u H' rz rr ((e1.trans e2).trans ee) qq⟩⟩
theorem re_op {op:Operator} {q:R2r} (ho:OpL X (binaryOp op) q) (ha:RE X G a ta) (hb:RE X G b tb):RE X G (.BinOp a op b pos) (rOp q ta tb):=by
 obtain ⟨r,h,lr⟩:=ho
 exact ⟨peW (L2.pe_op h ha.run hb.run) (op_lift lr)⟩
theorem re_un {op:UnaryOp} {q:R1r} (ho:UnL X (unaryOp op) q) (ha:RE X G a ta):RE X G (.UnaryOp op a pos) (rUn q ta):=by
 obtain ⟨r,h,lr⟩:=ho
 exact ⟨peW (L2.pe_un h ha.run) fun σ H Q ⟨τ,J,Q2,a2,h,k⟩=>⟨τ,J,_,a2,h,fun x J1 v H1 rx r1 e1 q1 =>
  lr J1 H1 x v Q2 Q rx r1 q1 fun z J' u H' rz rr ee qq=>k z J' u H' rz rr (e1.trans ee) qq⟩⟩
theorem re_ix {q:R2r} (hr:IxL X q) (ha:RE X G a ta) (hb:RE X G b tb) (hs:PlainIx b):RE X G (.Subscript a b pos) (rOp q ta tb):=by
 obtain ⟨r,h,lr⟩:=hr
 exact ⟨peW (L2.pe_ix h ha.run hb.run hs) (op_lift lr)⟩
theorem re_cmp {op:CmpOp} {q:R2r} (ho:OpL X (compareOp op) q) (ha:RE X G a ta) (hb:RE X G b tb) (hm:behindInMarks op b=false):RE X G (.Compare a [op] [b] pos) (rOp q ta tb):=by
 obtain ⟨r,h,lr⟩:=ho
 exact ⟨peW (L2.pe_cmpR h ha.run hb.run hm) (op_lift lr)⟩
def rB (t:TEr):TTr:=fun τ J Q=>t τ J fun x J1=>∃ k,x=.bl k∧Q k J1
theorem rt_cmp {op:CmpOp} {q:R2r} (ho:OpL X (compareOp op) q) (ha:RE X G a ta) (hb:RE X G b tb) (hm:behindInMarks op b=false):RT X G (.Compare a [op] [b] pos) (rB (rOp q ta tb)):=by
 obtain ⟨r,h,lr⟩:=ho
 refine ⟨ptW (L2.pt_cmpR h ha.run hb.run hm) fun σ H Q ⟨τ,J,Q2,a2,h,k⟩=>?_⟩
 refine op_lift lr σ H _ ⟨τ,J,_,a2,h,fun z J' u H' rz rr ee qq=>?_⟩
 obtain ⟨b,rfl,q⟩:=qq
 exact ⟨b,rz,k b J' H' rr ee q⟩
theorem rt_val (h:RE X G e te) (he:∀ whole,isTrue e X.env whole=(do let v ← whole;standAt e.pos;holding [v] (truthy v)):=by intro _;rfl):RT X G e (rB te) :=
 ⟨ptW (L2.pt_val h.run he) fun σ H Q ⟨τ,J,Q2,a2,h,k⟩=>⟨τ,J,_,a2,h,fun z J' u H' rz rr ee ⟨b,eb,q⟩=>by subst eb;exact ⟨b,rz,k b J' H' rr ee q⟩⟩⟩
def truQ (J:Hq):PV→Option Bool
 | .non=>some false
 | .bl b=>some b
 | .int i=>some (i != 0)
 | .tup xs=>some (!xs.isEmpty)
 | .fl xs=>some (!xs.isEmpty)
 | .ref a=>match J a with
  | some (.lst xs)=>some (!xs.isEmpty)
  | some (.dct kvs _)=>some (!kvs.isEmpty)
  | _=>none
 | _=>none
theorem isEmpty_len {α β:Type} {xs:List α} {ys:List β} (h:xs.length=ys.length):xs.isEmpty=ys.isEmpty:=by cases xs <;> cases ys <;> simp_all
theorem tru_rep {K:PySem.W.Frag} {J:Hq} {H:Hp} {x:PV} {v:V} {k:Bool} (r:RepV K J H x v) (hp:Rep K J H) (h:truQ J x=some k):L2.TruV K v H k:=by
 cases x with
 | non=>cases r;cases h;rfl
 | bl b=>cases r;cases h;rfl
 | int i=>cases r;cases h;rfl
 | str s=>cases h
 | ty n=>cases h
 | tup xs=>obtain ⟨a,vs,rfl,h1,h2⟩:=r;cases h;exact .inr (.inl ⟨vs,h1,by rw [isEmpty_len h2.length]⟩)
 | fl xs=>obtain ⟨a,vs,rfl,h1,h2⟩:=r;cases h;exact .inl ⟨vs,h1.sq,by rw [isEmpty_len h2.length]⟩
 | ref a =>
  cases r
  unfold truQ at h
  dsimp only at h
  cases e:J a with
  | none=>rw [e] at h;cases h
  | some o =>
   rw [e] at h
   have z:=hp a o e
   cases o with
   | lst xs=>obtain ⟨vs,h1,h2⟩:=z;cases h;exact .inl ⟨vs,.inl (.inl h1),by rw [isEmpty_len h2.length]⟩
   | ins C fs=>cases h
   | tab=>cases h
   | dct kvs ep =>
    obtain ⟨gs,h1,h2⟩:=z;cases h
    refine .inr (.inr ⟨gs,ep,h1,?_⟩)
    have:=congrArg List.length h2.1
    simp only [List.length_map] at this
    rw [isEmpty_len this]
def rTru (te:TEr):TTr:=fun τ J Q=>te τ J fun x J1=>∃ k,truQ J1 x=some k∧Q k J1
theorem rt_tru (h:RE X G e te) (he:∀ whole,isTrue e X.env whole=(do let v ← whole;standAt e.pos;holding [v] (truthy v)):=by intro _;rfl):RT X G e (rTru te) :=
 ⟨ptW (L2.pt_truth h.run he) fun σ H Q ⟨τ,J,Q2,a2,h,k⟩=>⟨τ,J,_,a2,h,fun z J' u H' rz rr ee ⟨b,eb,q⟩=>⟨b,tru_rep rz rr eb,k b J' H' rr ee q⟩⟩⟩
def rAnd (t u:TTr):TTr:=fun τ J Q=>t τ J fun c J1=>if c=true then u τ J1 Q else Q false J1
def rOr (t u:TTr):TTr:=fun τ J Q=>t τ J fun c J1=>if c=true then Q true J1 else u τ J1 Q
def rNot (t:TTr):TTr:=fun τ J Q=>t τ J fun c J1=>Q (!c) J1
theorem rt_not (ha:RT X G a tA):RT X G (.UnaryOp .Not a pos) (rNot tA):=⟨ptW (L2.pt_not ha.run) fun σ H Q ⟨τ,J,Q2,a2,h,k⟩=>⟨τ,J,_,a2,h,fun b J' H' rr ee q=>k _ J' H' rr ee q⟩⟩
theorem rw_and1 (ha:RT X G a tA):RW X G (.BoolOp .And [a] pos) tA:=⟨L2.pw_and1 ha.run⟩
theorem rw_or1 (ha:RT X G a tA):RW X G (.BoolOp .Or [a] pos) tA:=⟨L2.pw_or1 ha.run⟩
theorem and_lift {σ:L2.St} {H:Hp} {Q:Bool→Hp→Prop}:LT X.K G (rAnd tA tB') σ H Q→L2.tAnd (LT X.K G tA) (LT X.K G tB') σ H Q:=fun ⟨τ,J,Q2,a2,h,k⟩ =>
 ⟨τ,J,_,a2,h,fun b J' H' rr ee q=>by
  cases b with
  | true=>simp only [if_true] at q ⊢;exact ⟨τ,J',Q2,a2.go rr ee,q,fun b J2 H2 r2 e2 q2=>k b J2 H2 r2 (ee.trans e2) q2⟩
  | false=>simp only [Bool.false_eq_true,if_false] at q ⊢;exact k _ J' H' rr ee q⟩
theorem or_lift {σ:L2.St} {H:Hp} {Q:Bool→Hp→Prop}:LT X.K G (rOr tA tB') σ H Q→L2.tOr (LT X.K G tA) (LT X.K G tB') σ H Q:=fun ⟨τ,J,Q2,a2,h,k⟩ =>
 ⟨τ,J,_,a2,h,fun b J' H' rr ee q=>by
  cases b with
  | false=>simp only [Bool.false_eq_true,if_false] at q ⊢;exact ⟨τ,J',Q2,a2.go rr ee,q,fun b J2 H2 r2 e2 q2=>k b J2 H2 r2 (ee.trans e2) q2⟩
  | true=>simp only [if_true] at q ⊢;exact k _ J' H' rr ee q⟩
theorem rw_and (ha:RT X G a tA) (hb:RW X G (.BoolOp .And (b :: rest) pos) tB'):RW X G (.BoolOp .And (a :: b :: rest) pos) (rAnd tA tB'):=⟨pwW (L2.pw_and ha.run hb.run) fun σ H Q h=>and_lift h⟩
theorem rw_or (ha:RT X G a tA) (hb:RW X G (.BoolOp .Or (b :: rest) pos) tB'):RW X G (.BoolOp .Or (a :: b :: rest) pos) (rOr tA tB'):=⟨pwW (L2.pw_or ha.run hb.run) fun σ H Q h=>or_lift h⟩
theorem rw_rt (h:RW X G e tA):RT X G e tA:=⟨h.run.pt⟩
def rAndV (ta tb:TEr):TEr:=fun τ J Q=>ta τ J fun x J1=>∃ c,x=.bl c∧if c=true then tb τ J1 Q else Q (.bl false) J1
def rOrV (ta tb:TEr):TEr:=fun τ J Q=>ta τ J fun x J1=>∃ c,x=.bl c∧if c=true then Q (.bl true) J1 else tb τ J1 Q
def rNotV (ta:TEr):TEr:=fun τ J Q=>ta τ J fun x J1=>∃ c,x=.bl c∧Q (.bl (!c)) J1
theorem re_one {op} (h:RE X G a ta):RE X G (.BoolOp op [a] pos) ta:=⟨L2.pe_one h.run⟩
theorem re_and (ha:RE X G a ta) (hb:RE X G (.BoolOp .And (b :: rest) pos) tb):RE X G (.BoolOp .And (a :: b :: rest) pos) (rAndV ta tb):=⟨peW (L2.pe_and ha.run hb.run) fun σ H Q ⟨τ,J,Q2,a2,h,k⟩ =>
 ⟨τ,J,_,a2,h,fun x J' v H' rx rr ee ⟨c,ec,q⟩=>by
  subst ec
  refine ⟨c,rx,?_⟩
  cases c with
  | true=>simp only [if_true] at q ⊢;exact ⟨τ,J',Q2,a2.go rr ee,q,fun z J2 u H2 rz r2 e2 q2=>k z J2 u H2 rz r2 (ee.trans e2) q2⟩
  | false=>simp only [Bool.false_eq_true,if_false] at q ⊢;exact k (.bl false) J' _ H' rfl rr ee q⟩⟩
theorem re_or (ha:RE X G a ta) (hb:RE X G (.BoolOp .Or (b :: rest) pos) tb):RE X G (.BoolOp .Or (a :: b :: rest) pos) (rOrV ta tb):=⟨peW (L2.pe_or ha.run hb.run) fun σ H Q ⟨τ,J,Q2,a2,h,k⟩ =>
 ⟨τ,J,_,a2,h,fun x J' v H' rx rr ee ⟨c,ec,q⟩=>by
  subst ec
  refine ⟨c,rx,?_⟩
  cases c with
  | false=>simp only [Bool.false_eq_true,if_false] at q ⊢;exact ⟨τ,J',Q2,a2.go rr ee,q,fun z J2 u H2 rz r2 e2 q2=>k z J2 u H2 rz r2 (ee.trans e2) q2⟩
  | true=>simp only [if_true] at q ⊢;exact k (.bl true) J' _ H' rfl rr ee q⟩⟩
theorem re_not (ha:RE X G a ta):RE X G (.UnaryOp .Not a pos) (rNotV ta):=⟨peW (L2.pe_not ha.run) fun σ H Q ⟨τ,J,Q2,a2,h,k⟩ =>
 ⟨τ,J,_,a2,h,fun x J' v H' rx rr ee ⟨c,ec,q⟩=>by subst ec;exact ⟨c,rx,k (.bl (!c)) J' _ H' rfl rr ee q⟩⟩⟩
def rIf (t:TTr) (ta tb:TEr):TEr:=fun τ J Q=>t τ J fun c J1=>if c=true then ta τ J1 Q else tb τ J1 Q
theorem re_if (hc:RT X G c tA) (ha:RE X G a ta) (hb:RE X G b tb):RE X G (.IfExp c a b pos) (rIf tA ta tb):=⟨peW (L2.pe_ifExp hc.run ha.run hb.run) fun σ H Q ⟨τ,J,Q2,a2,h,k⟩ =>
 ⟨τ,J,_,a2,h,fun c J' H' rr ee q=>by
  cases c with
  | true=>simp only [if_true] at q ⊢;exact ⟨τ,J',Q2,a2.go rr ee,q,fun z J2 u H2 rz r2 e2 q2=>k z J2 u H2 rz r2 (ee.trans e2) q2⟩
  | false=>simp only [Bool.false_eq_true,if_false] at q ⊢;exact ⟨τ,J',Q2,a2.go rr ee,q,fun z J2 u H2 rz r2 e2 q2=>k z J2 u H2 rz r2 (ee.trans e2) q2⟩⟩⟩
def rNil:TAr:=fun _ J Q=>Q [] J
def rCons (ta:TEr) (tr:TAr):TAr:=fun τ J Q=>ta τ J fun x J1=>tr τ J1 fun xs J2=>Q (x :: xs) J2
theorem ra_nil:RA X G [] rNil:=⟨paW L2.pa_nil fun σ H Q ⟨τ,J,Q2,a2,h,k⟩=>k [] J [] H rfl a2.hp .refl h⟩
theorem ra_cons (ha:RE X G e te) (hr:RA X G es t) (hs:starEach (e :: es) X.env=(false,eval e X.env) :: starEach es X.env:=by rfl):RA X G (e :: es) (rCons te t) :=
 ⟨paW (L2.pa_cons ha.run hr.run hs) fun σ H Q ⟨τ,J,Q2,a2,h,k⟩=>⟨τ,J,_,a2,h,fun x J' v H' rx rr ee q=>⟨τ,J',_,a2.go rr ee,q,fun xs J2 vs H2 rs r2 e2 q2=>k (x :: xs) J2 (v :: vs) H2 ⟨v,vs,rfl,e2.rep rx,rs⟩ r2 (ee.trans e2) q2⟩⟩⟩
def vP:V→PV
 | .non=>.non | .bl b=>.bl b | .int i=>.int i | .str x=>.str x | _=>.non
theorem reps_const {K:PySem.W.Frag} {J:Hq} {H:Hp}:∀ {es:List Expr} {vs:List V},es.map constV=vs.map some→RepVs K J H (vs.map vP) vs
 | [],[],_=>rfl
 | [],_ :: _,h=>by cases h
 | _ :: _,[],h=>by cases h
 | e :: es,v :: vs,h=>by
  rw [List.map_cons,List.map_cons] at h
  injection h with h1 h2
  refine ⟨v,vs,rfl,?_,reps_const h2⟩
  cases e with
  | Constant c j pos =>
   cases c with
   | int i=>cases h1;rfl
   | str x=>cases h1;rfl
   | bool b=>cases h1;rfl
   | _=>cases h1
  | _=>cases h1
theorem ra_cst {es:List Expr} (vs:List V) (h:es.map constV=vs.map some) (xs:List PV) (hx:vs.map vP=xs):RA X G es (fun _ J Q=>Q xs J) :=
 ⟨paW (pa_const vs h) fun σ H Q ⟨τ,J,Q2,a2,q,k⟩=>k _ J _ H (by rw [← hx];exact reps_const h) a2.hp .refl q⟩
def rTup (t:TAr):TEr:=fun τ J Q=>t τ J fun xs J1=>xs.length≤sizeLine∧Q (.tup xs) J1
theorem re_tup {x1} (h:RA X G es t):RE X G (.Tuple es x1 pos) (rTup t):=⟨peW (L2.pe_tup h.run) fun σ H Q ⟨τ,J,Q2,a2,h,k⟩=>⟨τ,J,_,a2,h,fun xs J' vs H' rs rr ee ⟨hl,q⟩ =>
 ⟨by rw [← rs.length];exact hl,fun p hp=>by
  have sm:=Same.new hp (.tup vs)
  have e2:=Ext.same (K:=X.K) (J:=J') sm
  exact k (.tup xs) J' (.ref p) _ ⟨p,vs,rfl,.inl (.inl upd_same),e2.reps rs⟩ (rr.same sm) (ee.trans e2) q⟩⟩⟩
def rLst (t:TAr):TEr:=fun τ J Q=>t τ J fun xs J1=>xs.length≤sizeLine∧∀ p,J1 p=none→Q (.ref p) (put J1 p (.lst xs))
theorem re_lst (h:RA X G es t):RE X G (.List es pos) (rLst t):=⟨peW (L2.pe_lst h.run) fun σ H Q ⟨τ,J,Q2,a2,h,k⟩=>⟨τ,J,_,a2,h,fun xs J' vs H' rs rr ee ⟨hl,q⟩ =>
 ⟨by rw [← rs.length];exact hl,fun p hp=>k (.ref p) _ (.ref p) _ rfl (rr.laidL hp rs) (ee.trans (.laid hp)) (q p (rr.free hp))⟩⟩⟩
def rFl (t:TAr):TEr:=fun τ J Q=>t τ J fun xs J1=>xs.length≤sizeLine∧Q (.fl xs) J1
theorem new_fl {K:PySem.W.Frag} {J:Hq} {H:Hp} {xs:List PV} {vs:List V} {p:Addr} (rr:Rep K J H) (rs:RepVs K J H xs vs) (hp:H p=none):RepV K J (upd H p (.lst vs)) (.fl xs) (.ref p)∧Rep K J (upd H p (.lst vs))∧Ext K J H J (upd H p (.lst vs)):=by
 have sm:=Same.new hp (.lst vs)
 have e2:=Ext.same (K:=K) (J:=J) sm
 exact ⟨⟨p,vs,rfl,.inl ⟨rr.free hp,.inl upd_same⟩,e2.reps rs⟩,rr.same sm,e2⟩
theorem re_fl (h:RA X G es t):RE X G (.List es pos) (rFl t):=⟨peW (L2.pe_lst h.run) fun σ H Q ⟨τ,J,Q2,a2,h,k⟩=>⟨τ,J,_,a2,h,fun xs J' vs H' rs rr ee ⟨hl,q⟩ =>
 ⟨by rw [← rs.length];exact hl,fun p hp=>let ⟨x1,x2,x3⟩:=new_fl rr rs hp;k (.fl xs) _ (.ref p) _ x1 x2 (ee.trans x3) q⟩⟩⟩
abbrev TOr:=Sr→Hq→(Option Int→Hq→Prop)→Prop
def LO (K:PySem.W.Frag) (G:G2) (t:TOr):TO:=fun σ H Q=>∃ τ J Q2,At2 K G τ J σ H∧t τ J Q2∧∀ b J' H',Rep K J' H'→Ext K J H J' H'→Q2 b J'→Q b H'
structure RO (X:Cx) (G:G2) (e:Option Expr) (t:TOr):Prop where
 run:L2.PO X e (LO X.K G t)
theorem poW {X:Cx} {e:Option Expr} {t t':TO} (h:L2.PO X e t) (k:∀ σ H Q,t' σ H Q→t σ H Q):L2.PO X e t':=fun pins s σ H Q I q=>h pins s σ H Q I (k _ _ _ q)
def rNoPart:TOr:=fun _ J Q=>Q none J
def rPart (t:TEr):TOr:=fun τ J Q=>t τ J fun x J1=>∃ i,x=.int i∧Q (some i) J1
theorem ro_none:RO X G none rNoPart:=⟨poW L2.po_none fun σ H Q ⟨τ,J,Q2,a2,h,k⟩=>k none J H a2.hp .refl h⟩
theorem ro_some (h:RE X G e te):RO X G (some e) (rPart te):=⟨poW (L2.po_some h.run) fun σ H Q ⟨τ,J,Q2,a2,h,k⟩=>⟨τ,J,_,a2,h,fun x J' v H' rx rr ee ⟨i,ei,q⟩=>by subst ei;exact ⟨i,rx,k _ J' H' rr ee q⟩⟩⟩
abbrev RSlr:=PV→Option Int→Option Int→Hq→(PV→Hq→Prop)→Prop
def SlL (X:Cx) (q:RSlr):Prop:=∃ r,SlR X r∧∀ J H x lo hi v Q2 Q,RepV X.K J H x v→Rep X.K J H→q x lo hi J Q2→Kn X.K J H Q2 Q→r v lo hi H Q
def rSl (q:RSlr) (te:TEr) (tl th:TOr):TEr:=fun τ J Q=>te τ J fun x J1=>tl τ J1 fun l J2=>th τ J2 fun u J3=>q x l u J3 Q
theorem re_slice {lo hi:Option Expr} {tl th:TOr} {q:RSlr} (hr:SlL X q) (he:RE X G e te) (hl:RO X G lo tl) (hu:RO X G hi th):RE X G (.Subscript e (.Slice lo hi none p2) pos) (rSl q te tl th):=by
 obtain ⟨r,h,lr⟩:=hr
 exact ⟨peW (L2.pe_slice h he.run hl.run hu.run) fun σ H Q ⟨τ,J,Q2,a2,h,k⟩=>⟨τ,J,_,a2,h,fun x J' v H' rx rr ee q1=>⟨τ,J',_,a2.go rr ee,q1,fun l J2 H2 r2 e2 q2 =>
  ⟨τ,J2,_,a2.go r2 (ee.trans e2),q2,fun u J3 H3 r3 e3 q3=>lr J3 H3 x l u v Q2 Q ((e2.trans e3).rep rx) r3 q3 fun z J4 w H4 rz r4 e4 q4=>k z J4 w H4 rz r4 (((ee.trans e2).trans e3).trans e4) q4⟩⟩⟩⟩
def rCB (q:RLr) (t:TAr):TEr:=fun τ J Q=>t τ J fun xs J1=>q xs J1 Q
theorem cb_lift {r:List V→Hp→VK→Prop} {q:RLr} (lr:LRL X.K r q):∀ σ H Q,LE X.K G (rCB q t) σ H Q→L2.tCB r (LA X.K G t) σ H Q:=fun σ H Q ⟨τ,J,Q2,a2,h,k⟩ =>
 ⟨τ,J,_,a2,h,fun xs J1 vs H1 rs r1 e1 q1=>lr J1 H1 xs vs Q2 Q rs r1 q1 fun z J' u H' rz rr ee qq=>k z J' u H' rz rr (e1.trans ee) qq⟩
theorem re_callB {id:String} {q:RLr} (hc:CaL X (.builtin id) q) (hg:Gl X x) (hm:X.mg x=none) (hv:bootBuiltins x=some (.builtin id)) (ha:RA X G (e :: es) t) (hn:x≠"__name__":=by decide) (hdb:(x == ("__debug__":Str))=false:=by decide)
  (he:starEach (e :: es) X.env=(false,eval e X.env) :: starEach es X.env:=by rfl) (hpl:(backTo pos (starEach es X.env)).any (·.1)=false:=by rfl):RE X G (.Call (.Name x p) (e :: es) [] pos) (rCB q t):=by
 obtain ⟨r,h,lr⟩:=hc
 exact ⟨peW (L2.pe_callB h hg hm hv ha.run hn hdb he hpl) (cb_lift lr)⟩
theorem re_callTy {T:String} {q:RLr} (hc:CaL X (.type T) q) (hg:Gl X x) (hm:X.mg x=none) (hv:bootBuiltins x=some (.type T)) (ha:RA X G (e :: es) t) (hn:x≠"__name__":=by decide) (hdb:(x == ("__debug__":Str))=false:=by decide)
  (he:starEach (e :: es) X.env=(false,eval e X.env) :: starEach es X.env:=by rfl) (hpl:(backTo pos (starEach es X.env)).any (·.1)=false:=by rfl):RE X G (.Call (.Name x p) (e :: es) [] pos) (rCB q t):=by
 obtain ⟨r,h,lr⟩:=hc
 exact ⟨peW (L2.pe_callTy h hg hm hv ha.run hn hdb he hpl) (cb_lift lr)⟩
abbrev RMr:=PV→List PV→Hq→(PV→Hq→Prop)→Prop
def MtL (X:Cx) (T id:String) (q:RMr):Prop:=∃ r,MtR X id r∧∀ J H x xs v vs Q2 Q,RepV X.K J H x v→RepVs X.K J H xs vs→Rep X.K J H→q x xs J Q2→Kn X.K J H Q2 Q→r v vs H Q
def tyQ (T:String) (J:Hq):PV→Prop
 | .str _=>T="str"
 | .fl _=>T="list"
 | .ref a=>(T="list"∧∃ xs,J a=some (.lst xs))∨(T="dict"∧∃ kvs ep,J a=some (.dct kvs ep))
 | _=>False
theorem tyQ_rep {K:PySem.W.Frag} {T:String} {J:Hq} {H:Hp} {x:PV} {v:V} (r:RepV K J H x v) (hp:Rep K J H) (h:tyQ T J x):L2.tyV K T v H:=by
 cases x with
 | str s=>cases r;exact h
 | fl xs=>obtain ⟨a,vs,rfl,h1,h2⟩:=r;exact .inl ⟨h,vs,h1.sq⟩
 | ref a =>
  cases r
  rcases h with ⟨h,xs,e⟩ | ⟨h,kvs,ep,e⟩
  ·obtain ⟨vs,h1,_⟩:=hp _ _ e;exact .inl ⟨h,vs,.inl (.inl h1)⟩
  ·obtain ⟨gs,h1,_⟩:=hp _ _ e;exact .inr (.inr (.inl ⟨h,.inr ⟨gs,ep,h1⟩⟩))
 | _=>cases h
def rBM (T:String) (q:RMr) (to:TEr) (t:TAr):TEr:=fun τ J Q=>to τ J fun x J1=>tyQ T J1 x∧t τ J1 fun xs J2=>q x xs J2 Q
def rBM0 (T:String) (q:RMr) (to:TEr):TEr:=fun τ J Q=>to τ J fun x J1=>tyQ T J1 x∧q x [] J1 Q
theorem re_bm {name:Str} {T id:String} {q:RMr} (pa:PlainAttrs T) (slot:Slot T name id) (hty:typeOf (.builtin id)=pure (.type "method_descriptor")) (hm:MtL X T id q) (ho:RE X G o to) (ha:RA X G (e :: es) t)
  (hbase:attributeBase o name X.env (eval o X.env)=eval o X.env:=by rfl)
  (hfew:((backTo cpos (starEach (e :: es) X.env)).all (fun x=>!x.1) && (backToKw cpos (keywordEach [] X.env)).all (fun x=>x.1.isSome)
   && decide ((e :: es).length + ([]:List Keyword).length + (if ([]:List Keyword).isEmpty then 0 else 1) < 30))=true:=by rfl)
  (hline:(apos.endLine == cpos.line)=true:=by rfl) (hs:starEach (e :: es) X.env=(false,eval e X.env) :: starEach es X.env:=by rfl) (hplain:(backTo cpos (starEach es X.env)).any (·.1)=false:=by rfl) :
  RE X G (.Call (.Attribute o name apos) (e :: es) [] cpos) (rBM T q to t):=by
 obtain ⟨r,h,lr⟩:=hm
 exact ⟨peW (L2.pe_bm pa slot hty h ho.run ha.run hbase hfew hline hs hplain) fun σ H Q ⟨τ,J,Q2,a2,h,k⟩=>⟨τ,J,_,a2,h,fun x J1 v H1 rx r1 e1 ⟨ty,q1⟩=>⟨tyQ_rep rx r1 ty,τ,J1,_,a2.go r1 e1,q1,fun xs J2 vs H2 rs r2 e2 q2 =>
  lr J2 H2 x xs v vs Q2 Q (e2.rep rx) rs r2 q2 fun z J' u H' rz rr ee qq=>k z J' u H' rz rr ((e1.trans e2).trans ee) qq⟩⟩⟩
theorem re_bm0 {name:Str} {T id:String} {q:RMr} (pa:PlainAttrs T) (slot:Slot T name id) (hty:typeOf (.builtin id)=pure (.type "method_descriptor")) (hm:MtL X T id q) (ho:RE X G o to)
  (hbase:attributeBase o name X.env (eval o X.env)=eval o X.env:=by rfl) (hline:(apos.endLine == cpos.line)=true:=by rfl):RE X G (.Call (.Attribute o name apos) [] [] cpos) (rBM0 T q to):=by
 obtain ⟨r,h,lr⟩:=hm
 exact ⟨peW (L2.pe_bm0 pa slot hty h ho.run hbase hline) fun σ H Q ⟨τ,J,Q2,a2,h,k⟩=>⟨τ,J,_,a2,h,fun x J1 v H1 rx r1 e1 ⟨ty,q1⟩=>⟨tyQ_rep rx r1 ty,
  lr J1 H1 x [] v [] Q2 Q rx rfl r1 q1 fun z J' u H' rz rr ee qq=>k z J' u H' rz rr (e1.trans ee) qq⟩⟩⟩
end
end Ov
namespace Ov
open PySem PySem.Spec PyProof.Rows
open L2 (V HO Hp Inv Cx VK XK TE TT TA TS TG TGs TI TO TSet Ends Vis Loc Gl Rd RelV Vals OpR UnR CallR IxR SlR MtR PSet R2 upd upd_same upd_ne SqL SqT Sp CXT It Same PlainIx Room Passes Cls NoAttr Meth Mk Binds FnOk Fun FnScope atI TyOf putF)
abbrev Spr:=List PV→Hq→(PV→Hq→Prop)→(Addr→Hq→Prop)→Prop
def KnE (K:PySem.W.Frag) (J:Hq) (H:Hp) (E2:Addr→Hq→Prop) (E:XK):Prop:=∀ c J' H',Rep K J' H'→Ext K J H J' H'→E2 c J'→E (.ref c) none H'
def LSp (K:PySem.W.Frag) (sp:Spr):Sp:=fun vs H Q E=>∃ xs J Q2 E2,RepVs K J H xs vs∧Rep K J H∧sp xs J Q2 E2∧Kn K J H Q2 Q∧KnE K J H E2 E
theorem KnE.ext {K:PySem.W.Frag} {J J':Hq} {H H':Hp} {E2:Addr→Hq→Prop} {E:XK} (k:KnE K J H E2 E) (e:Ext K J H J' H'):KnE K J' H' E2 E:=fun c J1 H1 r x q=>k c J1 H1 r (e.trans x) q
theorem _root_.L2.FnOk.fly {P:Program} {w:World} {K:PySem.W.Frag} {mg:Str→Option Value} {base:Heap} {k:Nat} {f:Addr} {fd:FuncData} {ps:List Str} {sp:Sp} (F:FnOk P w K mg base L2.CX0 k f fd ps sp):FnOk P w K mg base (Fly P w) k f fd ps sp :=
 ⟨F.len,fun A outer s H args us vs Q E hr he hb hv hs=>codeAny_mono (F.run A outer s H args us vs Q E hr he hb hv hs) fun r s' q=>by
  cases r with
  | error e=>exact False.elim q
  | ok fl=>cases fl <;> exact q⟩
theorem _root_.L2.FnOk.unfly {P:Program} {w:World} {K:PySem.W.Frag} {mg:Str→Option Value} {base:Heap} {k:Nat} {f:Addr} {fd:FuncData} {ps:List Str} {sp:Sp} (F:FnOk P w K mg base (Fly P w) k f fd ps sp):FnOk P w K mg base L2.CX0 k f fd ps (fun vs H Q _=>sp vs H Q L2.E0) :=
 ⟨fun vs H Q E q=>F.len vs H Q _ q,fun A outer s H args us vs Q E hr he hb hv hs=>codeAny_mono (F.run A outer s H args us vs Q _ hr he hb hv hs) fun r s' q=>by
  cases r with
  | error e=>obtain ⟨_,_,_,_,_,z⟩:=q;exact z.elim
  | ok fl=>cases fl <;> exact q⟩
def CanR (P:Program) (w:World) (K:PySem.W.Frag) (mg:Str→Option Value) (base:Heap) (k:Nat) (x:Str) (ps:List Str) (sp:Spr):Prop:=CanX P w K mg base k x ps (LSp K sp)
theorem CanR.imp {P:Program} {w:World} {K:PySem.W.Frag} {mg:Str→Option Value} {base:Heap} {k:Nat} {x:Str} {ps:List Str} {sp sp':Spr} (C:CanR P w K mg base k x ps sp) (h:∀ xs J Q E,sp' xs J Q E→sp xs J Q E):CanR P w K mg base k x ps sp':=by
 obtain ⟨f,fd,F,r⟩:=C
 exact ⟨f,fd,F.imp fun vs H Q E ⟨xs,J,Q2,E2,a,b,c,d⟩=>⟨xs,J,Q2,E2,a,b,h _ _ _ _ c,d⟩,r⟩
theorem _root_.Ov.Can.lift {P:Program} {w:World} {K:PySem.W.Frag} {mg:Str→Option Value} {base:Heap} {k:Nat} {x:Str} {ps:List Str} {sp:Sp} (C:Can P w K mg base k x ps sp) {sp':Spr}
  (h:∀ xs J vs H Q2 E2 Q E,RepVs K J H xs vs→Rep K J H→sp' xs J Q2 E2→Kn K J H Q2 Q→sp vs H Q E):CanR P w K mg base k x ps sp':=by
 obtain ⟨f,fd,F,r⟩:=C
 exact ⟨f,fd,(F.fly).imp fun vs H Q E ⟨xs,J,Q2,E2,a,b,c,d,_⟩=>h xs J vs H Q2 E2 Q E a b c d,r⟩
section
variable {X:Cx} {G:G2} {a b c e o value:Expr} {es rest:List Expr} {ta tb te tc to tv:TEr} {tA tB':TTr} {t:TAr} {pos px p p2 apos cpos pos':Pos} {x:Str} {i j:Nat} {E:XK} {E2:Addr→Hq→Prop}
structure Ebd (X:Cx) (G:G2) (E2:Addr→Hq→Prop) (E:XK):Prop where
 pass:Passes (Fly X.prog X.w) X E
 kn:KnE X.K G.1 G.2 E2 E
def rCall (sp:Spr) (E2:Addr→Hq→Prop) (t:TAr):TEr:=fun τ J Q=>t τ J fun xs J1=>sp xs J1 Q E2
theorem re_fn {k k':Nat} {ps:List Str} {sp:Spr} (C:CanR X.prog X.w X.K X.mg X.base k x ps sp) (B:Ebd X G E2 E) (hr:Room k' X.A) (hk:k≤k') (hg:Gl X x) (ha:RA X G (e :: es) t)
  (hdb:(x == ("__debug__":Str))=false:=by decide) (he:starEach (e :: es) X.env=(false,eval e X.env) :: starEach es X.env:=by rfl) (hpl:(backTo pos (starEach es X.env)).any (·.1)=false:=by rfl) :
  RE X G (.Call (.Name x p) (e :: es) [] pos) (rCall sp E2 t) :=
 ⟨peW (pe_canX C B.pass hr hk hg ha.run hdb he hpl) fun σ H Q ⟨τ,J,Q2,a2,h,k⟩=>⟨τ,J,_,a2,h,fun xs J1 vs H1 rs r1 e1 q1=>by
  simp only [List.append_nil]
  exact ⟨xs,J1,Q2,E2,rs,r1,q1,fun z J' u H' rz rr ee qq=>k z J' u H' rz rr (e1.trans ee) qq,B.kn.ext (a2.ext.trans e1)⟩⟩⟩
def rFld (C:Addr) (ta:TEr) (f:Str):TEr:=fun τ J Q=>ta τ J fun x J1=>∃ a fs v,x=.ref a∧J1 a=some (.ins C fs)∧fs.lookup f=some v∧Q v J1
theorem re_fld {C:Addr} {f:Str} (cl:Cls X.K C) (na:NoAttr X.K C f) (he:RE X G e ta) (hb:attributeBase e f X.env (eval e X.env)=eval e X.env:=by rfl):RE X G (.Attribute e f pos) (rFld C ta f) :=
 ⟨peW (L2.pe_fld he.run hb) fun σ H Q ⟨τ,J,Q2,a2,h,k⟩=>⟨τ,J,_,a2,h,fun x J1 v H1 rx r1 e1 ⟨a,fs,y,ex,ja,lk,q⟩=>by
  subst ex;cases rx
  obtain ⟨dx,gs,ha,rf⟩:=r1 _ _ ja
  obtain ⟨w,lw,rw'⟩:=rf.look lk
  exact ⟨a,C,dx,gs,w,rfl,ha,cl,na,lw,k y J1 w H1 rw' r1 e1 q⟩⟩⟩
structure MthR (P:Program) (w:World) (K:PySem.W.Frag) (mg:Str→Option Value) (base:Heap) (C:Addr) (k:Nat) (m:Str) (ps:List Str) (sp:Spr):Prop where
 cl:Cls K C
 ex:∃ f fd,Meth K C m f∧FnOk P w K mg base (Fly P w) k f fd ps (LSp K sp)∧Binds K fd ps []
theorem MthR.imp {P:Program} {w:World} {K:PySem.W.Frag} {mg:Str→Option Value} {base:Heap} {C:Addr} {k:Nat} {m:Str} {ps:List Str} {sp sp':Spr} (M:MthR P w K mg base C k m ps sp) (h:∀ xs J Q E,sp' xs J Q E→sp xs J Q E):MthR P w K mg base C k m ps sp':=by
 obtain ⟨cl,f,fd,hm,F,r⟩:=M
 exact ⟨cl,f,fd,hm,F.imp fun vs H Q E ⟨xs,J,Q2,E2,a,b,c,d⟩=>⟨xs,J,Q2,E2,a,b,h _ _ _ _ c,d⟩,r⟩
def rMth (C:Addr) (m:Str) (sp:Spr) (E2:Addr→Hq→Prop) (ta:TEr) (t:TAr):TEr:=fun τ J Q=>ta τ J fun x J1=>∃ a fs,x=.ref a∧J1 a=some (.ins C fs)∧fs.lookup m=none∧t τ J1 fun xs J2=>sp (x :: xs) J2 Q E2
theorem mth_lift {C:Addr} {m:Str} {sp:Spr} (B:Ebd X G E2 E):∀ σ H Q,LE X.K G (rMth C m sp E2 to t) σ H Q→L2.tMeth C m (LSp X.K sp) [] E (LE X.K G to) (LA X.K G t) σ H Q:=fun σ H Q ⟨τ,J,Q2,a2,h,k⟩ =>
 ⟨τ,J,_,a2,h,fun x J1 v H1 rx r1 e1 ⟨a,fs,ex,ja,lk,q⟩=>by
  subst ex;cases rx
  obtain ⟨dx,gs,ha,rf⟩:=r1 _ _ ja
  refine ⟨a,dx,gs,rfl,ha,rf.none lk,τ,J1,_,a2.go r1 e1,q,fun xs J2 vs H2 rs r2 e2 q2=>?_⟩
  simp only [List.append_nil]
  exact ⟨.ref a :: xs,J2,Q2,E2,⟨.ref a,vs,rfl,rfl,rs⟩,r2,q2,fun z J' u H' rz rr ee qq=>k z J' u H' rz rr ((e1.trans e2).trans ee) qq,B.kn.ext ((a2.ext.trans e1).trans e2)⟩⟩
theorem re_meth {C:Addr} {m:Str} {k k':Nat} {ps:List Str} {sp:Spr} {pl:Sem Bool} (M:MthR X.prog X.w X.K X.mg X.base C k m ps sp) (B:Ebd X G E2 E) (hr:Room k' X.A) (hk:k≤k') (ho:RE X G o to) (ha:RA X G (e :: es) t)
  (hst:starEach (e :: es) X.env=(false,eval e X.env) :: starEach es X.env:=by rfl) (hpl:(backTo pos (starEach es X.env)).any (·.1)=false:=by rfl)
  (ht:eval (.Call (.Attribute o m apos) (e :: es) [] pos) X.env=(do
   let ov ← eval o X.env
   standAt apos.atName
   let (f,first) ← holding [ov] (getMethod ov m pl)
   callWith pos f first (backTo pos (starEach (e :: es) X.env)) (backToKw pos (keywordEach [] X.env))):=by rfl) :
  RE X G (.Call (.Attribute o m apos) (e :: es) [] pos) (rMth C m sp E2 to t):=by
 obtain ⟨cl,f,fd,hm,F,b⟩:=M
 exact ⟨peW (L2.pe_meth (pl:=pl) ho.run cl hm F (hr.mono hk) b .nil B.pass ha.run hst hpl ht) (mth_lift B)⟩
theorem re_meth0 {C:Addr} {m:Str} {k k':Nat} {ps:List Str} {sp:Spr} {pl:Sem Bool} (M:MthR X.prog X.w X.K X.mg X.base C k m ps sp) (B:Ebd X G E2 E) (hr:Room k' X.A) (hk:k≤k') (ho:RE X G o to)
  (ht:eval (.Call (.Attribute o m apos) [] [] pos) X.env=(do
   let ov ← eval o X.env
   standAt apos.atName
   let (f,first) ← holding [ov] (getMethod ov m pl)
   callWith pos f first (backTo pos (starEach [] X.env)) (backToKw pos (keywordEach [] X.env))):=by rfl) :
  RE X G (.Call (.Attribute o m apos) [] [] pos) (rMth C m sp E2 to rNil):=by
 obtain ⟨cl,f,fd,hm,F,b⟩:=M
 refine ⟨peW (L2.pe_meth0 (pl:=pl) ho.run cl hm F (hr.mono hk) b .nil B.pass ht) fun σ H Q h=>?_⟩
 have z:=mth_lift B σ H Q h
 obtain ⟨τ,J,Q2,a2,h1,k1⟩:=z
 refine ⟨τ,J,Q2,a2,h1,fun x J1 v H1 rx r1 e1 q1=>?_⟩
 obtain ⟨a,dx,fs,h2,h3,h4,τ',J',Q',a2',h5,k5⟩:=k1 x J1 v H1 rx r1 e1 q1
 exact ⟨a,dx,fs,h2,h3,h4,k5 [] J' [] H1 rfl a2'.hp .refl h5⟩
structure MakR (P:Program) (w:World) (K:PySem.W.Frag) (mg:Str→Option Value) (base:Heap) (C:Addr) (k:Nat) (x:Str) (ps:List Str) (sp:Spr):Prop where
 m:mg x=some (.ref C)
 ex:∃ f fd,Mk K C f∧FnOk P w K mg base (Fly P w) k f fd ps (LSp K sp)∧Binds K fd ps []
def rMak (C:Addr) (sp:Spr) (E2:Addr→Hq→Prop) (t:TAr):TEr:=fun τ J Q=>t τ J fun xs J1=>∀ a,J1 a=none→sp (.ref a :: xs) (put J1 a (.ins C [])) (fun v J2=>v=.non∧Q (.ref a) J2) E2
theorem mak_lift {C:Addr} {sp:Spr} (B:Ebd X G E2 E):∀ σ H Q,LE X.K G (rMak C sp E2 t) σ H Q→L2.tMake C (LSp X.K sp) [] E (LA X.K G t) σ H Q:=fun σ H Q ⟨τ,J,Q2,a2,h,k⟩ =>
 ⟨τ,J,_,a2,h,fun xs J1 vs H1 rs r1 e1 q1 x dx hx hdx ne=>by
  have s1:=Same.new hdx (.own x)
  have hx':upd H1 dx (.own x) x=none:=by rw [upd_ne (Ne.symm ne)];exact hx
  have r2:=r1.same s1
  have e2:Ext X.K J1 H1 (put J1 x (.ins C [])) (upd (upd H1 dx (.own x)) x (.ins C dx [])):=(Ext.same s1).trans (.laid hx')
  have r3:Rep X.K (put J1 x (.ins C [])) (upd (upd H1 dx (.own x)) x (.ins C dx [])):=r2.upto (.laid hx') x (fun a ne=>put_ne ne) (fun a o ne _ z=>by rw [upd_ne ne];exact z) fun u z=>by
   rw [put_same] at z;cases z
   exact ⟨dx,[],upd_same,rfl,rfl⟩
  simp only [List.append_nil]
  refine ⟨.ref x :: xs,_,_,E2,⟨.ref x,vs,rfl,rfl,e2.reps rs⟩,r3,q1 x (r1.free hx),fun z J' u H' rz rr ee ⟨ez,qq⟩=>?_,B.kn.ext ((a2.ext.trans e1).trans e2)⟩
  subst ez
  exact ⟨rz,k (.ref x) J' (.ref x) H' rfl rr ((e1.trans e2).trans ee) qq⟩⟩
theorem re_make {C:Addr} {k k':Nat} {ps:List Str} {sp:Spr} (M:MakR X.prog X.w X.K X.mg X.base C k x ps sp) (B:Ebd X G E2 E) (hr:Room k' X.A) (hk:k + 1≤k') (hg:Gl X x) (ha:RA X G (e :: es) t)
  (hdb:(x == ("__debug__":Str))=false:=by decide) (he:starEach (e :: es) X.env=(false,eval e X.env) :: starEach es X.env:=by rfl) (hpl:(backTo pos (starEach es X.env)).any (·.1)=false:=by rfl) :
  RE X G (.Call (.Name x p) (e :: es) [] pos) (rMak C sp E2 t):=by
 obtain ⟨hm,f,fd,mk,F,b⟩:=M
 exact ⟨peW (L2.pe_make mk F (hr.mono hk) hg hm b .nil B.pass ha.run hdb he hpl) (mak_lift B)⟩
theorem re_make0 {C:Addr} {k k':Nat} {ps:List Str} {sp:Spr} (M:MakR X.prog X.w X.K X.mg X.base C k x ps sp) (B:Ebd X G E2 E) (hr:Room k' X.A) (hk:k + 1≤k') (hg:Gl X x)
  (hdb:(x == ("__debug__":Str))=false:=by decide):RE X G (.Call (.Name x p) [] [] pos) (rMak C sp E2 rNil):=by
 obtain ⟨hm,f,fd,mk,F,b⟩:=M
 refine ⟨peW (L2.pe_make0 mk F (hr.mono hk) hg hm b .nil B.pass hdb) fun σ H Q h=>?_⟩
 obtain ⟨τ,J,Q2,a2,h1,k1⟩:=mak_lift (t:=rNil) B σ H Q h
 exact k1 [] J [] H rfl a2.hp .refl h1
end
section
variable {X:Cx} {G:G2} {st:Stmt} {rest:List Stmt} {t u:TSr} {e tg o value:Expr} {es:List Expr} {te ta tv:TEr} {tc:TTr} {pos pos':Pos}
def rNext:TSr:=fun D τ J=>D.nx τ J
def rSeq (t u:TSr):TSr:=fun D τ J=>t { D with nx:=u D } τ J
theorem rb_nil:RB X G [] rNext:=⟨pbW L2.pss_nil fun D σ H ⟨τ,J,D2,a2,h,g⟩=>g.nx τ J σ H a2.sl a2.hp .refl h⟩
theorem rb_cons (h1:RS X G st t) (h2:RB X G rest u):RB X G (st :: rest) (rSeq t u):=⟨pbW (L2.pss_cons h1.run h2.run) fun D σ H ⟨τ,J,D2,a2,h,g⟩=>⟨τ,J,{ D2 with nx:=u D2 },a2,h,
 { nx:=fun τ' J' σ' H' rs rr ee q=>⟨τ',J',D2,⟨rs,rr,a2.ext.trans ee⟩,q,g.ext ee⟩,rt:=g.rt,bk:=g.bk,ct:=g.ct }⟩⟩
theorem rb_one (h1:RS X G st t):RB X G [st] t:=⟨L2.pss_one h1.run⟩
def rCut (t u:TSr):TSr:=fun D τ J=>∃ M:Sr→Hq→Prop,t { D with nx:=M } τ J∧∀ τ' J',M τ' J'→u D τ' J'
theorem rb_join (h1:RS X G st t) (h2:RB X G rest u):RB X G (st :: rest) (rCut t u):=⟨pbW (L2.pss_cons h1.run h2.run) fun D σ H ⟨τ,J,D2,a2,⟨M,h,hm⟩,g⟩=>⟨τ,J,{ D2 with nx:=M },a2,h,
 { nx:=fun τ' J' σ' H' rs rr ee q=>⟨τ',J',D2,⟨rs,rr,a2.ext.trans ee⟩,hm _ _ q,g.ext ee⟩,rt:=g.rt,bk:=g.bk,ct:=g.ct }⟩⟩
def rBrk:TSr:=fun D τ J=>D.bk τ J
def rCnt:TSr:=fun D τ J=>D.ct τ J
def rDrop (te:TEr):TSr:=fun D τ J=>te τ J fun _ J1=>D.nx τ J1
theorem rs_expr (he:RE X G e te) (hs:swapsWith e none pos.line X.env=pure false:=by rfl):RS X G (.Expr e pos) (rDrop te):=⟨psW (L2.ps_expr he.run hs) fun D σ H ⟨τ,J,D2,a2,h,g⟩ =>
 ⟨τ,J,_,a2,h,fun x J' v H' rx rr ee q=>g.nx τ J' σ H' (a2.sl.ext ee) rr ee q⟩⟩
def rRet (te:TEr):TSr:=fun D τ J=>te τ J D.rt
theorem rs_ret (he:RE X G e te):RS X G (.Return (some e) pos) (rRet te):=⟨psW (L2.ps_ret he.run) fun D σ H ⟨τ,J,D2,a2,h,g⟩=>⟨τ,J,_,a2,h,fun x J' v H' rx rr ee q=>g.rt x J' v H' rx rr ee q⟩⟩
def rRetN:TSr:=fun D _ J=>D.rt .non J
theorem rs_retN:RS X G (.Return none pos) rRetN:=⟨psW L2.ps_retN fun D σ H ⟨τ,J,D2,a2,h,g⟩=>g.rt .non J .non H rfl a2.hp .refl h⟩
def rIfS (c:TTr) (t u:TSr):TSr:=fun D τ J=>c τ J fun b J1=>if b=true then t D τ J1 else u D τ J1
theorem rs_if {c:Expr} {a b:List Stmt} (hc:RT X G c tc) (ha:RB X G a t) (hb:RB X G b u):RS X G (.If c a b pos) (rIfS tc t u):=⟨psW (L2.ps_if hc.run ha.run hb.run) fun D σ H ⟨τ,J,D2,a2,h,g⟩ =>
 ⟨τ,J,_,a2,h,fun c J' H' rr ee q=>by
  cases c with
  | true=>simp only [if_true] at q ⊢;exact ⟨τ,J',D2,a2.go rr ee,q,g.ext ee⟩
  | false=>simp only [Bool.false_eq_true,if_false] at q ⊢;exact ⟨τ,J',D2,a2.go rr ee,q,g.ext ee⟩⟩⟩
abbrev TGr:=PV→Sr→Hq→(Sr→Hq→Prop)→Prop
abbrev TGsr:=List PV→Sr→Hq→(Sr→Hq→Prop)→Prop
def LG (K:PySem.W.Frag) (G:G2) (t:TGr):TG:=fun v σ H Q=>∃ x τ J Q2,RepV K J H x v∧At2 K G τ J σ H∧t x τ J Q2∧∀ τ' J' σ' H',RepS K J' H' τ' σ'→Rep K J' H'→Ext K J H J' H'→Q2 τ' J'→Q σ' H'
def LGs (K:PySem.W.Frag) (G:G2) (t:TGsr):TGs:=fun vs σ H Q=>∃ xs τ J Q2,RepVs K J H xs vs∧At2 K G τ J σ H∧t xs τ J Q2∧∀ τ' J' σ' H',RepS K J' H' τ' σ'→Rep K J' H'→Ext K J H J' H'→Q2 τ' J'→Q σ' H'
structure RG (X:Cx) (G:G2) (e:Expr) (t:TGr):Prop where
 run:L2.PG X e (LG X.K G t)
structure RGs (X:Cx) (G:G2) (es:List Expr) (t:TGsr):Prop where
 run:L2.PGs X es (LGs X.K G t)
theorem pgW {X:Cx} {e:Expr} {t t':TG} (h:L2.PG X e t) (k:∀ v σ H Q,t' v σ H Q→t v σ H Q):L2.PG X e t':=fun pins s σ H v u Q I r q=>h pins s σ H v u Q I r (k _ _ _ _ q)
theorem pgsW {X:Cx} {e:List Expr} {t t':TGs} (h:L2.PGs X e t) (k:∀ v σ H Q,t' v σ H Q→t v σ H Q):L2.PGs X e t':=fun pins s σ H v u Q I r q=>h pins s σ H v u Q I r (k _ _ _ _ q)
def gNm (i:Nat):TGr:=fun x τ J Q=>Q (τ.set i (some x)) J
theorem rg_name {i:Nat} {x:Str} (hN:X.N.Nodup) (hi:X.N[i]?=some x) (hx:Loc X.env.scope x) (hf:X.fn x=true∨X.env.scope.names.lookup x=some .local:=by first | exact .inl rfl | exact .inr rfl | assumption):RG X G (.Name x pos) (gNm i) :=
 ⟨pgW (L2.pg_name hN hi hx hf) fun v σ H Q ⟨x,τ,J,Q2,rx,a2,q,k⟩=>k _ J _ H (a2.sl.set i rx) a2.hp .refl q⟩
def gNi:TGsr:=fun vs τ J Q=>vs=[]∧Q τ J
def gCo (t:TGr) (u:TGsr):TGsr:=fun vs τ J Q=>∃ v r,vs=v :: r∧t v τ J fun τ' J'=>u r τ' J' Q
theorem rgs_nil:RGs X G [] gNi:=⟨pgsW L2.pgs_nil fun vs σ H Q ⟨xs,τ,J,Q2,rs,a2,⟨e,q⟩,k⟩=>by subst e;exact ⟨rs,k τ J σ H a2.sl a2.hp .refl q⟩⟩
theorem rgs_cons {e:Expr} {es:List Expr} {t:TGr} {u:TGsr} (h1:RG X G e t) (h2:RGs X G es u)
  (hs:(assignEach (e :: es) X.env).map (·.2)=assign e X.env :: (assignEach es X.env).map (·.2):=by rfl):RGs X G (e :: es) (gCo t u):=⟨pgsW (L2.pgs_cons h1.run h2.run hs) fun vs σ H Q ⟨xs,τ,J,Q2,rs,a2,⟨y,r,e,q⟩,k⟩=>by
 subst e
 obtain ⟨v,us,rfl,rv,ru⟩:=rs
 exact ⟨v,us,rfl,y,τ,J,_,rv,a2,q,fun τ' J' σ' H' rs' rr ee q'=>⟨r,τ',J',Q2,ee.reps ru,⟨rs',rr,a2.ext.trans ee⟩,q',fun τ2 J2 σ2 H2 rs2 rr2 ee2 q2=>k τ2 J2 σ2 H2 rs2 rr2 (ee.trans ee2) q2⟩⟩⟩
def gTu (n:Nat) (t:TGsr):TGr:=fun x τ J Q=>∃ xs,x=.tup xs∧xs.length=n∧t xs τ J Q
theorem rg_tup {k:Nat} {t:TGsr} {n:Nat} (hc:X.calm=true) (h:RGs X G es t)
  (hn:(assignEach es X.env).length=n:=by rfl) (hst:(assignEach es X.env).findIdx? (·.1)=none:=by rfl):RG X G (.Tuple es k pos) (gTu n t):=⟨pgW (L2.pg_tup hc h.run hn hst) fun v σ H Q ⟨x,τ,J,Q2,rx,a2,⟨xs,e,l,q⟩,k⟩=>by
 subst e
 obtain ⟨a,vs,rfl,h1,h2⟩:=rx
 exact ⟨a,vs,rfl,h1,by rw [← h2.length];exact l,xs,τ,J,Q2,h2,a2,q,k⟩⟩
def rAsg (te:TEr) (g:TGr):TSr:=fun D τ J=>te τ J fun x J1=>g x τ J1 D.nx
theorem rs_asg {tg e:Expr} {g:TGr} (he:RE X G e te) (hg:RG X G tg g) (hs:swapsWithSole [tg] e pos.line X.env=pure false:=by rfl) (hw:swappedStores [tg] e X.env=pure none:=by rfl)
  (h1:(assignEach [tg] X.env).map (·.2)=[assign tg X.env]:=by rfl):RS X G (.Assign [tg] e pos) (rAsg te g):=⟨psW (L2.ps_asg he.run hg.run hs hw h1) fun D σ H ⟨τ,J,D2,a2,h,g⟩ =>
 ⟨τ,J,_,a2,h,fun x J' v H' rx rr ee q=>⟨x,τ,J',_,rx,a2.go rr ee,q,fun τ' J2 σ' H2 rs r2 e2 q2=>g.nx τ' J2 σ' H2 rs r2 (ee.trans e2) q2⟩⟩⟩
theorem rs_set {i:Nat} {x:Str} {pos':Pos} (hN:X.N.Nodup) (hi:X.N[i]?=some x) (hx:Loc X.env.scope x) (he:RE X G e te) (hs:swapsWith e (some (.Name x pos')) pos.line X.env=pure false:=by rfl) (hf:X.fn x=true∨X.env.scope.names.lookup x=some .local:=by first | exact .inl rfl | exact .inr rfl | assumption) :
  RS X G (.Assign [.Name x pos'] e pos) (rAsg te (gNm i)):=⟨psW (L2.ps_set hN hi hx he.run hs hf) fun D σ H ⟨τ,J,D2,a2,h,g⟩ =>
 ⟨τ,J,_,a2,h,fun x J' v H' rx rr ee q=>g.nx _ J' _ H' ((a2.sl.ext ee).set i rx) rr ee q⟩⟩
def rPar (i j:Nat) (ta:TAr):TSr:=fun D τ J=>ta τ J fun vs J1=>∃ v w,vs=[v,w]∧D.nx ((τ.set i (some v)).set j (some w)) J1
theorem rs_par {i j:Nat} {x y:Str} {a b:Expr} {ta:TAr} {px py pt:Pos} {kt k2 pt2} (hc:X.calm=true) (hN:X.N.Nodup) (hi:X.N[i]?=some x) (hj:X.N[j]?=some y) (hij:i≠j)
  (hx:X.env.scope.names.lookup x=some .local) (hy:X.env.scope.names.lookup y=some .local) (ha:RA X G [a,b] ta)
  (hw:swappedStores [.Tuple [.Name x px,.Name y py] kt pt] (.Tuple [a,b] k2 pt2) X.env=pure (some [x,y]))
  (hs:swapsWithSole [.Tuple [.Name x px,.Name y py] kt pt] (.Tuple [a,b] k2 pt2) pos.line X.env=pure false:=by rfl) :
  RS X G (.Assign [.Tuple [.Name x px,.Name y py] kt pt] (.Tuple [a,b] k2 pt2) pos) (rPar i j ta):=⟨psW (L2.ps_par hc hN hi hj hij hx hy ha.run hw hs) fun D σ H ⟨τ,J,D2,a2,h,g⟩ =>
 ⟨τ,J,_,a2,h,fun xs J' vs H' rs rr ee ⟨v,w,e,q⟩=>by
  subst e
  obtain ⟨v',us,rfl,rv,w',us',rfl,rw',e'⟩:=rs
  cases e'
  exact ⟨v',w',rfl,g.nx _ J' _ H' (((a2.sl.ext ee).set i rv).set j rw') rr ee q⟩⟩⟩
def putR (f:Str) (v:PV):List (Str × PV)→List (Str × PV)
 | []=>[(f,v)]
 | (g,w) :: r=>if g=f then (g,v) :: r else (g,w) :: putR f v r
theorem putR_rep {K:PySem.W.Frag} {J:Hq} {H:Hp} {f:Str} {y:PV} {v:V} (r:RepV K J H y v):∀ {fs:List (Str × PV)} {gs:List (Str × V)},RepF K J H fs gs→RepF K J H (putR f y fs) (putF f v gs)
 | [],[],_=>⟨rfl,v,[],rfl,r,rfl⟩
 | [],_ :: _,h=>by cases h.1
 | _ :: _,[],h=>by cases h.1
 | (k,y') :: fs,(k',w) :: gs,h=>by
  obtain ⟨h1,v',us,h2,h3,h4⟩:=h
  simp only [List.map_cons,List.cons.injEq] at h1 h2
  obtain ⟨rfl,h1⟩:=h1
  obtain ⟨rfl,rfl⟩:=h2
  unfold putR L2.putF
  by_cases hk:k=f
  ·rw [if_pos hk,if_pos hk]
   exact ⟨by simp only [List.map_cons,h1],v,_,rfl,r,h4⟩
  ·rw [if_neg hk,if_neg hk]
   obtain ⟨z1,z2⟩:=putR_rep (f:=f) r (⟨h1,h4⟩:RepF K J H fs gs)
   exact ⟨by simp only [List.map_cons,z1],w,_,rfl,h3,z2⟩
def rFldS (C:Addr) (ta tv:TEr) (f:Str):TSr:=fun D τ J=>tv τ J fun y J1=>ta τ J1 fun x J2=>∃ a fs,x=.ref a∧J2 a=some (.ins C fs)∧fs.length < 1000∧D.nx τ (put J2 a (.ins C (putR f y fs)))
theorem Ext.wroteI {K:PySem.W.Frag} {J:Hq} {H:Hp} {p C dx:Addr} {fs gs:List (Str × PV)} {fs' gs':List (Str × V)} (h:J p=some (.ins C fs)) (k:H p=some (.ins C dx fs')):Ext K J H (put J p (.ins C gs)) (upd H p (.ins C dx gs')):=by
 have sm:∀ a u,a≠p→Rd H a u→Rd (upd H p (.ins C dx gs')) a u:=fun a u ne z=>by
  rcases z with z | ⟨o,z⟩
  ·exact .inl (by rw [upd_ne ne];exact z)
  ·exact .inr ⟨o,by rw [upd_ne ne];exact z⟩
 have nn:∀ a u,(∀ c d l,u≠HO.ins c d l)→Rd H a u→a≠p:=fun a u d z e=>by
  subst e
  rcases z with z | ⟨o,z⟩
  ·rw [k] at z;cases z;exact d _ _ _ rfl
  ·rw [k] at z;cases z
 refine ⟨fun a vs' z=>?_,fun a o z q _=>?_⟩
 ·rcases z with z | z
  ·exact .inl (sm a _ (nn a (.tup vs') (fun _ _ _ e=>nomatch e) z) z)
  ·exact .inr z
 ·have ne:a≠p:=by intro e;subst e;rw [h] at z;cases z
  exact ⟨by rw [put_ne ne];exact z,by rw [upd_ne ne];exact q⟩
theorem rs_fld {C:Addr} {f:Str} (cl:Cls X.K C) (na:NoAttr X.K C f) (ha:RE X G o ta) (hv:RE X G value tv) (hs:swapsWith value (some (.Attribute o f pos')) pos.line X.env=pure false:=by rfl):RS X G (.Assign [.Attribute o f pos'] value pos) (rFldS C ta tv f) :=
 ⟨psW (L2.ps_fld ha.run hv.run hs) fun D σ H ⟨τ,J,D2,a2,h,g⟩=>⟨τ,J,_,a2,h,fun y J1 v H1 ry r1 e1 q1=>⟨τ,J1,_,a2.go r1 e1,q1,fun x J2 w H2 rx r2 e2 ⟨a,fs,ex,ja,hl,q2⟩=>by
  subst ex;cases rx
  obtain ⟨dx,gs,h2,rf⟩:=r2 _ _ ja
  have ll:gs.length=fs.length:=by have:=congrArg List.length rf.1;simpa using this.symm
  have e3:=Ext.wroteI (K:=X.K) (gs:=putR f y fs) (gs':=putF f v gs) ja h2
  refine ⟨a,C,dx,gs,rfl,h2,cl,na,by omega,g.nx τ _ σ _ (((a2.sl.ext e1).ext e2).ext e3) ?_ ((e1.trans e2).trans e3) q2⟩
  refine r2.upto e3 a (fun b ne=>put_ne ne) (fun b o ne _ z=>by rw [upd_ne ne];exact z) fun u z=>?_
  rw [put_same] at z;cases z
  exact ⟨dx,_,upd_same,e3.repF (putR_rep (e2.rep ry) rf)⟩⟩⟩⟩
def rWhile (c:TTr) (tb:TSr):TSr:=fun D τ J=>∃ W:Nat→Sr→Hq→Prop,(∃ m,W m τ J)∧∀ m τ J,W m τ J →
 c τ J fun b J1=>if b=true then ∃ N:Sr→Hq→Prop,(∀ τ' J',N τ' J'→∃ m',m' < m∧W m' τ' J')∧tb { D with nx:=N,ct:=N,bk:=D.nx } τ J1 else D.nx τ J1
theorem rs_while {c:Expr} {body:List Stmt} {tb:TSr} (hp:PassesOwn (model X.prog X.w) X.A X.env X.xe) (hc:RT X G c tc) (hb:RB X G body tb):RS X G (.While c body [] pos) (rWhile tc tb):=⟨psW (L2.ps_while hp hc.run hb.run) fun D σ H ⟨τ,J,D2,a2,⟨W,⟨m0,w0⟩,h⟩,g⟩=>by
 refine ⟨fun m σ' H'=>∃ τ' J',At2 X.K G τ' J' σ' H'∧Ext X.K J H J' H'∧W m τ' J',⟨m0,τ,J,a2,.refl,w0⟩,fun m σ1 H1 ⟨τ1,J1,a1,e1,w1⟩=>?_⟩
 refine ⟨τ1,J1,_,a1,h m τ1 J1 w1,fun b J2 H2 r2 e2 q=>?_⟩
 cases b with
 | false=>simp only [Bool.false_eq_true,if_false] at q ⊢;exact g.nx τ1 J2 σ1 H2 (a1.sl.ext e2) r2 (e1.trans e2) q
 | true =>
  simp only [if_true] at q ⊢
  obtain ⟨N,hN,q⟩:=q
  refine ⟨fun σ' H'=>∃ τ' J',At2 X.K G τ' J' σ' H'∧Ext X.K J H J' H'∧N τ' J',fun σ' H' ⟨τ',J',a',e',n'⟩=>let ⟨m',lt,w'⟩:=hN τ' J' n';⟨m',lt,τ',J',a',e',w'⟩,τ1,J2,{ D2 with nx:=N,ct:=N,bk:=D2.nx },a1.go r2 e2,q,?_⟩
  have ge:=g.ext (e1.trans e2)
  exact { nx:=fun τ' J' σ' H' rs rr ee q=>⟨τ',J',⟨rs,rr,(a1.ext.trans e2).trans ee⟩,(e1.trans e2).trans ee,q⟩,rt:=ge.rt,bk:=ge.nx,ct:=fun τ' J' σ' H' rs rr ee q=>⟨τ',J',⟨rs,rr,(a1.ext.trans e2).trans ee⟩,(e1.trans e2).trans ee,q⟩ }⟩
structure Itr2 where
 xs:List PV
 ok:Hq→Prop
structure ItRel (K:PySem.W.Frag) (it:Itr2) (I:It) (J:Hq) (H:Hp):Prop where
 go:∀ J' H',Ext K J H J' H'→Rep K J' H'→it.ok J'→∀ i,i < it.xs.length→I.go i H'
 yl:∀ J' H',Ext K J H J' H'→Rep K J' H'→it.ok J'→∀ i,i < it.xs.length→∀ v H2,I.yld i H' v H2→∃ x,it.xs[i]?=some x∧RepV K J' H2 x v∧Rep K J' H2∧Ext K J' H' J' H2
 stop:∀ J' H',Ext K J H J' H'→Rep K J' H'→it.ok J'→I.stop it.xs.length H'
abbrev TIr:=Sr→Hq→(Itr2→Hq→Prop)→Prop
def LI (K:PySem.W.Frag) (G:G2) (t:TIr):TI:=fun σ H R=>∃ τ J R2,At2 K G τ J σ H∧t τ J R2∧∀ it J' I H',ItRel K it I J' H'→Rep K J' H'→Ext K J H J' H'→R2 it J'→R I H'
structure RI (X:Cx) (G:G2) (tg e:Expr) (t:TIr):Prop where
 run:L2.PI X tg e (LI X.K G t)
theorem piW {X:Cx} {tg e:Expr} {t t':TI} (h:L2.PI X tg e t) (k:∀ σ H Q,t' σ H Q→t σ H Q):L2.PI X tg e t':=fun pins s σ H Q I q=>h pins s σ H Q I (k _ _ _ q)
def rFor (wi:TIr) (g:TGr) (tb:TSr):TSr:=fun D τ J=>wi τ J fun it J1=>∃ Pv:Nat→Sr→Hq→Prop,Pv 0 τ J1∧(∀ i τ J,Pv i τ J→it.ok J) ∧
 (∀ i x τ J,it.xs[i]?=some x→Pv i τ J→g x τ J fun τ2 J2=>tb { D with nx:=Pv (i + 1),ct:=Pv (i + 1),bk:=D.nx } τ2 J2)∧∀ τ J,Pv it.xs.length τ J→D.nx τ J
theorem rs_for {iter:Expr} {body:List Stmt} {wi:TIr} {g:TGr} {tb:TSr} {pos:Pos} (hp:PassesOwn (model X.prog X.w) X.A X.env X.xe) (hc:X.calm=true) (hi:RI X G tg iter wi) (hg:RG X G tg g) (hb:RB X G body tb)
  (hs:∀ x,foldedSetIterable iter X.env x=pure x:=by intro _;rfl):RS X G (.For tg iter body [] pos) (rFor wi g tb):=⟨psW (L2.ps_for hp hc hi.run hg.run hb.run hs) fun D σ H ⟨τ,J,D2,a2,h,g⟩=>by
 refine ⟨τ,J,_,a2,h,fun it J1 I H1 ir r1 e1 ⟨Pv,p0,pok,step,fin⟩=>?_⟩
 refine ⟨fun i m σ' H'=>m=it.xs.length - i∧i≤it.xs.length∧∃ τ' J',At2 X.K G τ' J' σ' H'∧Ext X.K J1 H1 J' H'∧Pv i τ' J',⟨_,rfl,Nat.zero_le _,τ,J1,a2.go r1 e1,.refl,p0⟩,?_⟩
 rintro i m σ2 H2 ⟨rfl,hil,τ2,J2,a3,e3,p3⟩
 by_cases hlt:i < it.xs.length
 ·refine .inr ⟨ir.go J2 H2 e3 a3.hp (pok _ _ _ p3) i hlt,fun σ' H'=>∃ τ' J',At2 X.K G τ' J' σ' H'∧Ext X.K J1 H1 J' H'∧Pv (i + 1) τ' J',fun σ' H' z=>⟨_,by omega,rfl,hlt,z⟩,fun v H4 y=>?_⟩
  obtain ⟨x,ex,rx,r4,e4⟩:=ir.yl J2 H2 e3 a3.hp (pok _ _ _ p3) i hlt v H4 y
  refine ⟨x,τ2,J2,_,rx,a3.go r4 e4,step i x τ2 J2 ex p3,fun τ5 J5 σ5 H5 rs5 r5 e5 q5=>?_⟩
  have ae:=(a3.ext.trans e4).trans e5
  have ge:=g.ext (((e1.trans e3).trans e4).trans e5)
  refine ⟨τ5,J5,{ D2 with nx:=Pv (i + 1),ct:=Pv (i + 1),bk:=D2.nx },⟨rs5,r5,ae⟩,q5,?_⟩
  exact { nx:=fun τ' J' σ' H' rs rr ee q=>⟨τ',J',⟨rs,rr,ae.trans ee⟩,((e3.trans e4).trans e5).trans ee,q⟩,rt:=ge.rt,bk:=ge.nx,ct:=fun τ' J' σ' H' rs rr ee q=>⟨τ',J',⟨rs,rr,ae.trans ee⟩,((e3.trans e4).trans e5).trans ee,q⟩ }
 ·have ei:i=it.xs.length:=by omega
  subst ei
  exact .inl ⟨ir.stop J2 H2 e3 a3.hp (pok _ _ _ p3),g.nx τ2 J2 σ2 H2 a3.sl a3.hp (e1.trans e3) (fin _ _ p3)⟩⟩
def itQ (J:Hq):PV→Option Itr2
 | .fl xs=>some ⟨xs,fun _=>True⟩
 | .ref a=>match J a with
  | some (.lst xs)=>some ⟨xs,fun J'=>J' a=some (.lst xs)⟩
  | _=>none
 | _=>none
def iLs (te:TEr):TIr:=fun τ J R=>te τ J fun x J1=>∃ it,itQ J1 x=some it∧R it J1
theorem ItRel.list {K:PySem.W.Frag} {it:Itr2} {a:Addr} {J:Hq} {H:Hp} (h:∀ J' H',Ext K J H J' H'→Rep K J' H'→it.ok J'→∃ vs,SqL K H' a vs∧RepVs K J' H' it.xs vs):ItRel K it (L2.Itl K a) J H where
 go:=fun J' H' e r o i hi=>by
  obtain ⟨vs,s,rs⟩:=h J' H' e r o
  exact ⟨vs,vs[i]'(by rw [← rs.length];exact hi),s,by simp⟩
 yl:=fun J' H' e r o i hi v H2 y=>by
  obtain ⟨vs,s,rs⟩:=h J' H' e r o
  obtain ⟨e1,y⟩:=y
  subst e1
  obtain ⟨x,ex,rx⟩:=rs.get' (y vs s)
  exact ⟨x,ex,rx,r,.refl⟩
 stop:=fun J' H' e r o=>by
  obtain ⟨vs,s,rs⟩:=h J' H' e r o
  exact ⟨vs,s,by rw [rs.length];exact Nat.le_refl _⟩
theorem ri_list {l:Expr} {tl:TEr} (hl:RE X G l tl):RI X G tg l (iLs tl):=⟨piW (L2.pi_list hl.run) fun σ H R ⟨τ,J,R2,a2,h,k⟩=>⟨τ,J,_,a2,h,fun x J1 v H1 rx r1 e1 ⟨it,ei,q⟩=>by
 cases x with
 | fl xs =>
  obtain ⟨a,vs,rfl,h1,h2⟩:=rx
  cases ei
  refine ⟨a,rfl,⟨vs,h1.sq⟩,k _ J1 _ H1 (.list fun J' H' e r _=>⟨vs,(e.flat h1).sq,e.reps h2⟩) r1 e1 q⟩
 | ref a =>
  cases rx
  unfold itQ at ei
  dsimp only at ei
  cases ej:J1 a with
  | none=>rw [ej] at ei;cases ei
  | some o =>
   rw [ej] at ei
   cases o with
   | lst xs =>
    cases ei
    obtain ⟨vs,h1,h2⟩:=r1 _ _ ej
    refine ⟨a,rfl,⟨vs,.inl (.inl h1)⟩,k _ J1 _ H1 (.list fun J' H' e r o=>?_) r1 e1 q⟩
    obtain ⟨vs',h1',h2'⟩:=r _ _ o
    exact ⟨vs',.inl (.inl h1'),h2'⟩
   | _=>cases ei
 | _=>cases ei⟩⟩
def iTu (te:TEr):TIr:=fun τ J R=>te τ J fun x J1=>∃ xs,x=.tup xs∧R ⟨xs,fun _=>True⟩ J1
def irow (lo:Int) (n:Nat):List PV:=(List.range n).map fun (i:Nat)=>PV.int (lo + (i:Int))
theorem irow_len (lo:Int) (n:Nat):(irow lo n).length=n:=by simp [irow]
theorem irow_get (lo:Int) (n i:Nat) (x:PV):(irow lo n)[i]?=some x↔i < n∧x=.int (lo + i):=by
 unfold irow
 rw [List.getElem?_map]
 by_cases h:i < n
 ·rw [List.getElem?_range h];simp [h,eq_comm]
 ·rw [List.getElem?_eq_none (by simpa using h)];simp [h]
theorem ItRel.rng {K:PySem.W.Frag} {J:Hq} {H:Hp} (lo:Int) (n:Nat):ItRel K ⟨irow lo n,fun _=>True⟩ (L2.Itr lo n) J H where
 go:=fun J' H' e r o i hi=>by
  show i < n
  simpa [irow_len] using hi
 yl:=fun J' H' e r o i hi v H2 y=>by
  obtain ⟨e1,y⟩:=y
  subst e1 y
  exact ⟨.int (lo + i),(irow_get lo n i _).mpr ⟨by simpa [irow_len] using hi,rfl⟩,rfl,r,.refl⟩
 stop:=fun J' H' e r o=>by
  show n≤(irow lo n).length
  rw [irow_len];exact Nat.le_refl _
def iR1 (ta:TAr):TIr:=fun τ J R=>ta τ J fun vs J1=>∃ j:Int,vs=[.int j]∧-(2 ^ 62)≤j∧j < 2 ^ 62∧R ⟨irow 0 j.toNat,fun _=>True⟩ J1
def iR2 (ta:TAr):TIr:=fun τ J R=>ta τ J fun vs J1=>∃ i j:Int,vs=[.int i,.int j]∧(-(2 ^ 62)≤i∧i < 2 ^ 62∧-(2 ^ 62)≤j∧j < 2 ^ 62)∧R ⟨irow i (j - i).toNat,fun _=>True⟩ J1
theorem ri_range1 {a:Expr} {ta:TAr} {p pos:Pos} (hg:Gl X "range") (hm:X.mg "range"=none) (ha:RA X G [a] ta) (hs:starEach [a] X.env=[(false,eval a X.env)]:=by rfl):RI X G tg (.Call (.Name "range" p) [a] [] pos) (iR1 ta) :=
 ⟨piW (L2.pi_range1 hg hm ha.run hs) fun σ H R ⟨τ,J,R2,a2,h,k⟩=>⟨τ,J,_,a2,h,fun xs J1 vs H1 rs r1 e1 ⟨j,ej,l1,l2,q⟩=>by
  subst ej
  obtain ⟨v,us,rfl,rv,e'⟩:=rs
  cases rv;cases e'
  exact ⟨j,rfl,l1,l2,k _ J1 _ H1 (.rng 0 _) r1 e1 q⟩⟩⟩
def rRaise (C:Addr) (E2:Addr→Hq→Prop) (t:TAr):TSr:=fun _ τ J=>t τ J fun xs J1=>xs.length≤sizeLine∧E2 C J1
theorem rs_raise {E:XK} {E2:Addr→Hq→Prop} {C:Addr} {x:Str} {t:TAr} {np cpos:Pos} (O:Own X.K X.mg x C) (hc:X.calm=true) (hx:Throws X E) (kn:KnE X.K G.1 G.2 E2 E) (hg:Gl X x) (ha:RA X G (e :: es) t)
  (hd:(x == ("__debug__":Str))=false:=by decide) (he:starEach (e :: es) X.env=(false,eval e X.env) :: starEach es X.env:=by rfl) (hpl:(backTo cpos (starEach es X.env)).any (·.1)=false:=by rfl) :
  RS X G (.Raise (some (.Call (.Name x np) (e :: es) [] cpos)) none pos) (rRaise C E2 t):=⟨psW (ps_raiseL O hc hx hg ha.run hd he hpl) fun D σ H ⟨τ,J,D2,a2,h,g⟩ =>
 ⟨τ,J,_,a2,h,fun xs J1 vs H1 rs r1 e1 ⟨hl,q⟩=>⟨by rw [← rs.length];exact hl,kn C J1 H1 r1 (a2.ext.trans e1) q⟩⟩⟩
end
section
variable {P:Program} {w:World} {K:PySem.W.Frag} {mg:Str→Option Value} {base:Heap}
def strt (N:List Str) (xs:List PV):Sr:=xs.map some ++ List.replicate (N.length - xs.length) none
theorem strt_rep {J:Hq} {H:Hp} {N:List Str} {xs:List PV} {vs:List V} (r:RepVs K J H xs vs):RepS K J H (strt N xs) (L2.start N vs):=by
 refine ⟨by simp [strt,L2.start,r.length],fun i x e=>?_⟩
 unfold strt at e
 unfold L2.start
 by_cases hi:i < xs.length
 ·rw [List.getElem?_append_left (by simpa using hi),List.getElem?_map] at e
  cases ex:xs[i]? with
  | none=>rw [ex] at e;cases e
  | some y =>
   rw [ex] at e
   cases e
   obtain ⟨v,h1,h2⟩:=r.get ex
   exact ⟨v,by rw [List.getElem?_append_left (by rw [List.length_map,← r.length];exact hi),List.getElem?_map,h1];rfl,h2⟩
 ·rw [List.getElem?_append_right (by simpa using hi)] at e
  have:=List.mem_of_getElem? e
  rw [List.mem_replicate] at this
  cases this.2
theorem okR {x qual:Str} {st:Stmt} {f:Addr} {fd:FuncData} {N ps:List Str} {k:Nat} {sp:Spr} (F:Fun K x qual st f fd) (S:FnScope N ps (L2.defScope st)) (len:∀ xs J Q E,sp xs J Q E→xs.length=ps.length)
  (hbody:∀ (cdv:Value) (A:Around) (outer:List Env) (s:Shared) (H:Hp) (E:XK) (G:G2) (xs:List PV) (J:Hq) (Q:PV→Hq→Prop) (E2:Addr→Hq→Prop),Room k (A.deeper (envOfC qual (L2.defScope st) s.heap.objs.size f cdv))→sp xs J Q E2 →
   Ebd (cxF P w K mg base N qual (L2.defScope st) f cdv A outer s H E) G E2 E →
   ∃ t,RB (cxF P w K mg base N qual (L2.defScope st) f cdv A outer s H E) G (L2.defBody st) t∧t { nx:=fun _ J'=>Q .non J',rt:=Q } (strt N xs) J):FnOk P w K mg base (Fly P w) (k + 1) f fd ps (LSp K sp):=by
 refine okX F S (fun vs H Q E ⟨xs,J,Q2,E2,a,_,b,_⟩=>by rw [← a.length];exact len _ _ _ _ b) fun cdv A outer s H vs Q E hr ⟨xs,J,Q2,E2,rs,rr,hs,kn,ke⟩=>?_
 obtain ⟨t,hb,q⟩:=hbody cdv A outer s H E (J,H) xs J Q2 E2 hr hs ⟨cxF_passes,ke⟩
 refine ⟨_,⟨hb.run⟩,strt N xs,J,_,⟨strt_rep rs,rr,.refl⟩,q,?_⟩
 exact { nx:=fun τ J' σ H' _ r e q=>kn .non J' .non H' rfl r e q,rt:=fun x J' v H' rx r e q=>kn x J' v H' rx r e q,bk:=fun _ _ _ _ _ _ _ q=>q.elim,ct:=fun _ _ _ _ _ _ _ q=>q.elim }
theorem _root_.Ov.Def.canR {x:Str} {st:Stmt} {k:Nat} {ps:List Str} {sp:Spr} (D:Def K mg x st)
  (h:∀ f fd,Fun K x x st f fd→FnOk P w K mg base (Fly P w) k f fd ps (LSp K sp))
  (hb:∀ (kV doc pm:Value) (an:Option Addr) (cdv ct:Value) (us:List Value),us.length=ps.length→bindArgs (PySem.W.fnOf x x (L2.defArgs st) (L2.defBody st) (L2.defScope st) .none kV doc pm an cdv ct) ⟨us,[]⟩=pure (ps.zip us)) :
  CanR P w K mg base k x ps sp:=D.canX h hb
end
section
variable {X:Cx} {K:PySem.W.Frag}
def qI0 (g:Int→Int→PV):R2r:=fun x y J Q=>∃ i j,x=.int i∧y=.int j∧Q (g i j) J
def qI (C:Int→Int→Prop) (g:Int→Int→PV):R2r:=fun x y J Q=>∃ i j,x=.int i∧y=.int j∧C i j∧Q (g i j) J
theorem lr_I0 {g:Int→Int→V} {g':Int→Int→PV} (hg:∀ J H i j,RepV K J H (g' i j) (g i j)):LR K (L2.rI0 g) (qI0 g'):=fun J H x y v w Q2 Q rx ry r ⟨i,j,ex,ey,q⟩ k=>by
 subst ex ey;exact ⟨i,j,rx,ry,k _ J _ H (hg _ _ _ _) r .refl q⟩
theorem lr_I {C:Int→Int→Prop} {g:Int→Int→V} {g':Int→Int→PV} (hg:∀ J H i j,RepV K J H (g' i j) (g i j)):LR K (L2.rI C g) (qI C g'):=fun J H x y v w Q2 Q rx ry r ⟨i,j,ex,ey,c,q⟩ k=>by
 subst ex ey;exact ⟨i,j,rx,ry,c,k _ J _ H (hg _ _ _ _) r .refl q⟩
theorem oq_add:OpL X (binaryOp .Add) (qI0 fun i j=>.int (i + j)):=⟨_,L2.op_add,lr_I0 fun _ _ _ _=>rfl⟩
theorem oq_sub:OpL X (binaryOp .Sub) (qI0 fun i j=>.int (i - j)):=⟨_,L2.op_sub,lr_I0 fun _ _ _ _=>rfl⟩
theorem oq_mul:OpL X (binaryOp .Mult) (qI CM fun i j=>.int (i * j)):=⟨_,op_mulB,lr_I fun _ _ _ _=>rfl⟩
theorem oq_fdiv:OpL X (binaryOp .FloorDiv) (qI CQ fun i j=>.int (i.fdiv j)):=⟨_,op_fdivB,lr_I fun _ _ _ _=>rfl⟩
theorem oq_mod:OpL X (binaryOp .Mod) (qI (fun _ j=>0 < j) fun i j=>.int (i % j)):=⟨_,L2.op_mod,lr_I fun _ _ _ _=>rfl⟩
theorem oq_pow:OpL X (binaryOp .Pow) (qI L2.CPow fun i j=>.int (i ^ j.toNat)):=⟨_,L2.op_pow,lr_I fun _ _ _ _=>rfl⟩
theorem oq_lt:OpL X (compareOp .Lt) (qI0 fun i j=>.bl (decide (i < j))):=⟨_,L2.op_lt,lr_I0 fun _ _ _ _=>rfl⟩
theorem oq_le:OpL X (compareOp .LtE) (qI0 fun i j=>.bl (decide (i≤j))):=⟨_,L2.op_le,lr_I0 fun _ _ _ _=>rfl⟩
theorem oq_gt:OpL X (compareOp .Gt) (qI0 fun i j=>.bl (decide (j < i))):=⟨_,L2.op_gt,lr_I0 fun _ _ _ _=>rfl⟩
theorem oq_ge:OpL X (compareOp .GtE) (qI0 fun i j=>.bl (decide (j≤i))):=⟨_,L2.op_ge,lr_I0 fun _ _ _ _=>rfl⟩
def qU (g:Int→PV):R1r:=fun x J Q=>∃ i,x=.int i∧Q (g i) J
theorem uq_neg:UnL X (unaryOp .USub) (qU fun i=>.int (-i)):=⟨_,L2.un_neg,fun J H x v Q2 Q rx r ⟨i,ex,q⟩ k=>by subst ex;exact ⟨i,rx,k (.int (-i)) J _ H rfl r .refl q⟩⟩
def qLtS:R2r:=fun x y J Q=>∃ i j,x=.str i∧y=.str j∧Q (.bl (decide (i.cps.toList < j.cps.toList))) J
theorem oq_ltS:OpL X (compareOp .Lt) qLtS:=⟨_,L2.op_lt_str,fun J H x y v w Q2 Q rx ry r ⟨i,j,ex,ey,q⟩ k=>by subst ex ey;exact ⟨i,j,rx,ry,k (.bl _) J _ H rfl r .refl q⟩⟩
def isN:PV→Bool
 | .non=>true
 | _=>false
theorem isN_rep {J:Hq} {H:Hp} {x:PV} {v:V} (r:RepV K J H x v):decide (v=.non)=isN x:=by
 cases x with
 | non=>cases r;rfl
 | tup xs=>obtain ⟨a,vs,rfl,_⟩:=r;rfl
 | fl xs=>obtain ⟨a,vs,rfl,_⟩:=r;rfl
 | _=>cases r;rfl
def qIs:R2r:=fun x y J Q=>y=.non∧Q (.bl (isN x)) J
def qIsNot:R2r:=fun x y J Q=>y=.non∧Q (.bl (!isN x)) J
theorem oq_is:OpL X (compareOp .Is) qIs:=⟨_,L2.op_isN,fun J H x y v w Q2 Q rx ry r ⟨ey,q⟩ k=>by subst ey;cases ry;exact ⟨rfl,by rw [isN_rep rx];exact k (.bl _) J _ H rfl r .refl q⟩⟩
theorem oq_isNot:OpL X (compareOp .IsNot) qIsNot:=⟨_,L2.op_notN,fun J H x y v w Q2 Q rx ry r ⟨ey,q⟩ k=>by subst ey;cases ry;exact ⟨rfl,by rw [isN_rep rx];exact k (.bl _) J _ H rfl r .refl q⟩⟩
mutual
def pyOf:PV→Py
 | .non=>.non | .bl b=>.bl b | .int i=>.int i | .str x=>.str x | .ref _=>.non | .ty _=>.non | .tup xs=>.tup (pyOfs xs) | .fl xs=>.lst (pyOfs xs)
def pyOfs:List PV→List Py
 | []=>[]
 | x :: xs=>pyOf x :: pyOfs xs
end
mutual
def pur:PV→Bool
 | .ref _=>false | .ty _=>false | .tup xs=>purs xs | .fl xs=>purs xs | _=>true
def purs:List PV→Bool
 | []=>true
 | x :: xs=>pur x && purs xs
end
mutual
theorem at_pyOf {J:Hq} {H:Hp}:∀ {x:PV} {v:V},pur x=true→RepV K J H x v→At K H (pyOf x) v
 | .non,_,_,h=>h
 | .bl _,_,_,h=>h
 | .int _,_,_,h=>h
 | .str _,_,_,h=>h
 | .tup xs,_,p,⟨a,vs,e,h,k⟩=>⟨a,vs,e,h,ats_pyOf (by simpa [pur] using p) k⟩
 | .fl xs,_,p,⟨a,vs,e,h,k⟩=>⟨a,vs,e,h.sq,ats_pyOf (by simpa [pur] using p) k⟩
theorem ats_pyOf {J:Hq} {H:Hp}:∀ {xs:List PV} {vs:List V},purs xs=true→RepVs K J H xs vs→Ats K H (pyOfs xs) vs
 | [],_,_,h=>h
 | x :: xs,_,p,⟨v,us,e,h,k⟩=>by
  have p':pur x=true∧purs xs=true:=by simpa [purs] using p
  exact ⟨v,us,e,at_pyOf p'.1 h,ats_pyOf p'.2 k⟩
end
def eqQ (x y:PV):Bool:=eqP (pyOf x) (pyOf y)
def cmQ (x:PV):Prop:=pur x=true∧dep (pyOf x)≤60
def qEq (f:Bool→Bool):R2r:=fun x y J Q=>cmQ x∧pur y=true∧Q (.bl (f (eqQ x y))) J
theorem lr_eq (f:Bool→Bool):LR K (rP K f) (qEq f):=fun J H x y v w Q2 Q rx ry r ⟨⟨px,d⟩,py,q⟩ k=>⟨pyOf x,pyOf y,at_pyOf px rx,at_pyOf py ry,d,k (.bl _) J _ H rfl r .refl q⟩
theorem oq_eq (hu:X.A.units + 61 < cLine):OpL X (compareOp .Eq) (qEq id):=⟨_,op_eqP hu,lr_eq id⟩
theorem oq_ne (hu:X.A.units + 61 < cLine):OpL X (compareOp .NotEq) (qEq not):=⟨_,op_neP hu,lr_eq not⟩
def ixQ (J:Hq):PV→PV→Option PV
 | .tup xs,.int i=>atI xs i
 | .fl xs,.int i=>atI xs i
 | .ref a,.int i=>match J a with
  | some (.lst xs)=>atI xs i
  | _=>none
 | _,_=>none
theorem RepVs.atI {J:Hq} {H:Hp} {xs:List PV} {vs:List V} {i:Int} {x:PV} (r:RepVs K J H xs vs) (h:L2.atI xs i=some x):∃ v,L2.atI vs i=some v∧RepV K J H x v:=by
 unfold L2.atI at h ⊢
 rw [← r.length]
 cases e:L2.ixN xs.length i with
 | none=>rw [e] at h;cases h
 | some j =>
  rw [e] at h
  obtain ⟨v,h1,h2⟩:=r.get h
  exact ⟨v,h1,h2⟩
def qIx:R2r:=fun x y J Q=>∃ v,ixQ J x y=some v∧Q v J
theorem iq_ix:IxL X qIx:=⟨_,L2.ix_list.or L2.ix_tup,fun J H x y v w Q2 Q rx ry r ⟨z,ez,q⟩ k=>by
 cases y with
 | int i =>
  cases ry
  cases x with
  | tup xs =>
   obtain ⟨a,vs,rfl,h1,h2⟩:=rx
   obtain ⟨u,e1,e2⟩:=h2.atI (show L2.atI xs i=some z from ez)
   exact .inr ⟨a,vs,i,u,rfl,rfl,h1,e1,k z J u H e2 r .refl q⟩
  | fl xs =>
   obtain ⟨a,vs,rfl,h1,h2⟩:=rx
   obtain ⟨u,e1,e2⟩:=h2.atI (show L2.atI xs i=some z from ez)
   exact .inl ⟨a,vs,i,u,rfl,rfl,h1.sq,e1,k z J u H e2 r .refl q⟩
  | ref a =>
   cases rx
   unfold ixQ at ez
   dsimp only at ez
   cases ej:J a with
   | none=>rw [ej] at ez;cases ez
   | some o =>
    rw [ej] at ez
    cases o with
    | lst xs =>
     obtain ⟨vs,h1,h2⟩:=r _ _ ej
     obtain ⟨u,e1,e2⟩:=h2.atI (show L2.atI xs i=some z from ez)
     exact .inl ⟨a,vs,i,u,rfl,rfl,.inl (.inl h1),e1,k z J u H e2 r .refl q⟩
    | _=>cases ez
  | _=>cases ez
 | _=>cases x <;> cases ez⟩
def cutQ (xs:List PV) (lo hi:Option Int):List PV:=(xs.drop (HT.sIx xs.length 0 lo)).take (HT.sIx xs.length xs.length hi - HT.sIx xs.length 0 lo)
theorem cut_rep {J:Hq} {H:Hp} {xs:List PV} {vs:List V} {lo hi:Option Int} (r:RepVs K J H xs vs):RepVs K J H (cutQ xs lo hi) (L2.cutV vs lo hi):=by
 unfold cutQ L2.cutV
 rw [← r.length]
 exact (r.drop _).take _
def qSlT:RSlr:=fun x lo hi J Q=>∃ xs,x=.tup xs∧¬ (HT.sIx xs.length 0 lo=0∧HT.sIx xs.length xs.length hi=xs.length)∧Q (.tup (cutQ xs lo hi)) J
theorem sq_tup:SlL X qSlT:=⟨_,L2.sl_tup,fun J H x lo hi v Q2 Q rx r ⟨xs,ex,hn,q⟩ k=>by
 subst ex
 obtain ⟨a,vs,rfl,h1,h2⟩:=rx
 refine ⟨a,vs,rfl,h1,by rw [← h2.length];exact hn,fun p hp=>?_⟩
 have sm:=Same.new hp (.tup (L2.cutV vs lo hi))
 have e2:=Ext.same (K:=X.K) (J:=J) sm
 exact k (.tup (cutQ xs lo hi)) J (.ref p) _ ⟨p,_,rfl,.inl (.inl upd_same),e2.reps (cut_rep h2)⟩ (r.same sm) e2 q⟩
def lsQ (J:Hq):PV→Option (List PV)
 | .fl xs=>some xs
 | .ref a=>match J a with
  | some (.lst xs)=>some xs
  | _=>none
 | _=>none
theorem lsQ_rep {J:Hq} {H:Hp} {x:PV} {v:V} {xs:List PV} (rx:RepV K J H x v) (r:Rep K J H) (h:lsQ J x=some xs):∃ a vs,v=.ref a∧SqL K H a vs∧RepVs K J H xs vs:=by
 cases x with
 | fl ys=>obtain ⟨a,vs,rfl,h1,h2⟩:=rx;cases h;exact ⟨a,vs,rfl,h1.sq,h2⟩
 | ref a =>
  cases rx
  unfold lsQ at h
  dsimp only at h
  cases ej:J a with
  | none=>rw [ej] at h;cases h
  | some o =>
   rw [ej] at h
   cases o with
   | lst ys=>cases h;obtain ⟨vs,h1,h2⟩:=r _ _ ej;exact ⟨a,vs,rfl,.inl (.inl h1),h2⟩
   | _=>cases h
 | _=>cases h
def qSlF:RSlr:=fun x lo hi J Q=>∃ xs,lsQ J x=some xs∧Q (.fl (cutQ xs lo hi)) J
theorem sq_fl:SlL X qSlF:=⟨_,L2.sl_list,fun J H x lo hi v Q2 Q rx r ⟨xs,ex,q⟩ k=>by
 obtain ⟨a,vs,rfl,h1,h2⟩:=lsQ_rep rx r ex
 refine ⟨a,vs,rfl,h1,fun p hp=>?_⟩
 obtain ⟨x1,x2,x3⟩:=new_fl r (cut_rep (lo:=lo) (hi:=hi) h2) hp
 exact k _ J _ _ x1 x2 x3 q⟩
def qSlL:RSlr:=fun x lo hi J Q=>∃ xs,lsQ J x=some xs∧∀ p,J p=none→Q (.ref p) (put J p (.lst (cutQ xs lo hi)))
def qAbs:RLr:=fun xs J Q=>∃ i,xs=[.int i]∧Q (.int (if i < 0 then -i else i)) J
theorem cq_abs:CaL X (.builtin "abs") qAbs:=⟨_,L2.call_abs,fun J H xs vs Q2 Q rs r ⟨i,ex,q⟩ k=>by
 subst ex;obtain ⟨v,us,rfl,rv,e⟩:=rs;cases rv;cases e
 exact ⟨i,rfl,k (.int _) J _ H rfl r .refl q⟩⟩
def lenQ (J:Hq):PV→Option Nat
 | .tup xs=>some xs.length
 | x=>(lsQ J x).map List.length
def qLen:RLr:=fun xs J Q=>∃ x n,xs=[x]∧lenQ J x=some n∧Q (.int n) J
theorem cq_len:CaL X (.builtin "len") qLen:=⟨_,L2.call_len_seq,fun J H xs vs Q2 Q rs r ⟨x,n,ex,en,q⟩ k=>by
 subst ex;obtain ⟨v,us,rfl,rv,e⟩:=rs;cases e
 have go:∀ ys,lsQ J x=some ys→ys.length=n→∃ p ws,([v]:List V)=[.ref p]∧(SqL X.K H p ws∨SqT X.K H p ws)∧Q (.int ws.length) H:=fun ys h1 h2=>by
  obtain ⟨a,ws,rfl,h3,h4⟩:=lsQ_rep rv r h1
  exact ⟨a,ws,rfl,.inl h3,by rw [← h4.length,h2];exact k (.int _) J _ H rfl r .refl q⟩
 cases x with
 | tup ys =>
  obtain ⟨a,ws,rfl,h1,h2⟩:=rv
  cases en
  exact ⟨a,ws,rfl,.inr h1,by rw [← h2.length];exact k (.int _) J _ H rfl r .refl q⟩
 | fl ys=>cases en;exact go _ rfl rfl
 | ref a =>
  unfold lenQ at en
  cases el:lsQ J (.ref a) with
  | none=>simp [el] at en
  | some ys=>simp [el] at en;exact go _ el en
 | _=>cases en⟩
def tyN (J:Hq):PV→Option String
 | .non=>some "NoneType" | .bl _=>some "bool" | .int _=>some "int" | .str _=>some "str" | .tup _=>some "tuple" | .fl _=>some "list"
 | .ref a=>match J a with
  | some (.lst _)=>some "list"
  | some (.dct _ _)=>some "dict"
  | _=>none
 | _=>none
def subT (t n:String):Option Bool :=
 if n∈["int","bool","str","tuple","list"] then some (t == n || (t == "bool" && n == "int")) else none
theorem kit_all (K:PySem.W.Frag) {t n:String} {b:Bool} (ht:t∈["NoneType","bool","int","str","tuple","list","dict"]) (h:subT t n=some b):PySem.W.kitOne K (.type t) (.type n)=some b:=by
 unfold subT at h
 by_cases hn:n∈["int","bool","str","tuple","list"]
 ·rw [if_pos hn] at h
  simp only [List.mem_cons,List.not_mem_nil,or_false] at ht hn
  rcases ht with rfl | rfl | rfl | rfl | rfl | rfl | rfl <;> rcases hn with rfl | rfl | rfl | rfl | rfl <;> cases h <;> with_unfolding_all rfl
 ·rw [if_neg hn] at h;cases h
theorem tyN_mem {J:Hq} {x:PV} {t:String} (h:tyN J x=some t):t∈["NoneType","bool","int","str","tuple","list","dict"]:=by
 cases x with
 | ref a =>
  unfold tyN at h
  dsimp only at h
  cases ej:J a with
  | none=>rw [ej] at h;cases h
  | some o=>rw [ej] at h;cases o <;> cases h <;> simp
 | ty n=>cases h
 | _=>cases h;simp
def qIsi:RLr:=fun xs J Q=>∃ x n t b,xs=[x,.ty n]∧tyN J x=some t∧subT t n=some b∧Q (.bl b) J
theorem call_isiT:CallR X (.builtin "isinstance") (fun xs H Q=>∃ x n t b,xs=[x,.ty n]∧(TyOf X.K H x (.type t)∨(t="tuple"∧∃ a vs,x=.ref a∧SqT X.K H a vs)∨(t="list"∧∃ a vs,x=.ref a∧SqL X.K H a vs))∧PySem.W.kitOne X.K (.type t) (.type n)=some b∧Q (.bl b) H):=by
 intro pins s σ H xs us Q I r h
 obtain ⟨x,n,t,b,rfl,ty,e,q⟩:=h
 obtain ⟨u,w',rfl,rx,ry⟩:=L2.vals2 r
 cases (show w'=Value.type n from ry)
 rcases ty with ty | ⟨rfl,a,vs,rfl,hs⟩ | ⟨rfl,a,vs,rfl,hs⟩
 ·exact L2.isinst_ok I rx ty e fun tk=>⟨.bl b,H,I.tok _,rfl,q⟩
 ·cases rx
  obtain ⟨its,_,⟨o,h1,h2,_⟩,_⟩:=I.tuple hs
  exact PySem.W.kia_one PySem.W.kitx_tuple I.kIn ⟨o,h1,h2⟩ e (fun z=>nomatch z) fun tk=>⟨.bl b,H,I.tok _,rfl,q⟩
 ·cases rx
  obtain ⟨its,_,⟨o,_,h1,h2,_⟩,_⟩:=I.list hs
  exact PySem.W.kia_one PySem.W.kitx_list I.kIn ⟨o,h1,h2⟩ e (fun z=>nomatch z) fun tk=>⟨.bl b,H,I.tok _,rfl,q⟩
theorem cq_isi:CaL X (.builtin "isinstance") qIsi:=⟨_,call_isiT,fun J H xs vs Q2 Q rs r ⟨x,n,t,b,ex,et,es,q⟩ k=>by
 subst ex
 obtain ⟨v,us,rfl,rv,w,us',rfl,rw',e⟩:=rs
 cases rw';cases e
 refine ⟨v,n,t,b,rfl,?_,kit_all X.K (tyN_mem et) es,k (.bl _) J _ H rfl r .refl q⟩
 cases x with
 | non=>cases rv;cases et;exact .inl .non
 | bl i=>cases rv;cases et;exact .inl (.bl i)
 | int i=>cases rv;cases et;exact .inl (.int i)
 | str i=>cases rv;cases et;exact .inl (.str i)
 | tup xs=>obtain ⟨a,ws,rfl,h1,_⟩:=rv;cases et;exact .inr (.inl ⟨rfl,a,ws,rfl,h1⟩)
 | fl xs =>
  obtain ⟨a,ws,rfl,h1,_⟩:=rv;cases et
  exact .inr (.inr ⟨rfl,a,ws,rfl,h1.sq⟩)
 | ty n=>cases et
 | ref a =>
  cases rv
  unfold tyN at et
  dsimp only at et
  cases ej:J a with
  | none=>rw [ej] at et;cases et
  | some o =>
   rw [ej] at et
   have z:=r _ _ ej
   cases o with
   | lst xs=>obtain ⟨ws,h1,_⟩:=z;cases et;exact .inl (.lst h1)
   | dct kvs ep=>obtain ⟨gs,h1,_⟩:=z;cases et;exact .inl (.dE h1)
   | tab=>cases et
   | ins C fs=>cases et⟩
def qCopyF:RLr:=fun xs J Q=>∃ x ys,xs=[x]∧lsQ J x=some ys∧Q (.fl ys) J
def qCopyL:RLr:=fun xs J Q=>∃ x ys,xs=[x]∧lsQ J x=some ys∧∀ p,J p=none→Q (.ref p) (put J p (.lst ys))
theorem cq_copyL:CaL X (.type "list") qCopyL:=⟨_,L2.call_list_of,fun J H xs vs Q2 Q rs r ⟨x,ys,ex,el,q⟩ k=>by
 subst ex;obtain ⟨v,us,rfl,rv,e⟩:=rs;cases e
 obtain ⟨a,ws,rfl,h3,h4⟩:=lsQ_rep rv r el
 exact ⟨a,ws,rfl,.inl h3,fun p hp=>k (.ref p) _ _ _ rfl (r.laidL hp h4) (.laid hp) (q p (r.free hp))⟩⟩
def qMax:RLr:=fun xs J Q=>∃ i j,xs=[.int i,.int j]∧Q (.int (if j > i then j else i)) J
def qAppend:RMr:=fun x xs J Q=>∃ a ys y,x=.ref a∧xs=[y]∧J a=some (.lst ys)∧ys.length < sizeLine∧Q .non (put J a (.lst (ys ++ [y])))
theorem mq_append:MtL X "list" "list.append" qAppend:=⟨_,L2.mt_append,fun J H x xs v vs Q2 Q rx rs r ⟨a,ys,y,ex,exs,ja,hl,q⟩ k=>by
 subst ex exs;cases rx;obtain ⟨w,us,rfl,rw',e⟩:=rs;cases e
 obtain ⟨ws,h1,h2⟩:=r _ _ ja
 exact ⟨a,ws,w,rfl,rfl,h1,by rw [← h2.length];exact hl,k .non _ _ _ rfl (r.wrote (ys:=ys ++ [y]) ja h1 (h2.append (show RepVs X.K J H [y] [w] from ⟨w,[],rfl,rw',rfl⟩))) (.wrote ja h1) q⟩⟩
def qPop:RMr:=fun x xs J Q=>∃ a ys y,x=.ref a∧xs=[]∧J a=some (.lst ys)∧ys[ys.length - 1]?=some y∧Q y (put J a (.lst ys.dropLast))
theorem RepVs.dropLast {J:Hq} {H:Hp} {xs:List PV} {vs:List V} (r:RepVs K J H xs vs):RepVs K J H xs.dropLast vs.dropLast:=by
 rw [List.dropLast_eq_take,List.dropLast_eq_take,← r.length]
 exact r.take _
theorem mq_pop:MtL X "list" "list.pop" qPop:=⟨_,L2.mt_pop,fun J H x xs v vs Q2 Q rx rs r ⟨a,ys,y,ex,exs,ja,hy,q⟩ k=>by
 subst ex exs;cases rx;cases rs
 obtain ⟨ws,h1,h2⟩:=r _ _ ja
 obtain ⟨w,e1,e2⟩:=h2.get hy
 have ex:=Ext.wrote (K:=X.K) (ys:=ys.dropLast) (vs:=ws.dropLast) ja h1
 exact ⟨a,ws,w,rfl,rfl,h1,by rw [← h2.length];exact e1,k y _ w _ (ex.rep e2) (r.wrote ja h1 h2.dropLast) ex q⟩⟩
def qClear:RMr:=fun x xs J Q=>∃ a ys,x=.ref a∧xs=[]∧J a=some (.lst ys)∧Q .non (put J a (.lst []))
def rInsert:V→List V→Hp→VK→Prop:=fun x vs H Q=>∃ l xs i y,x=.ref l∧vs=[.int (i:Nat),y]∧H l=some (.lst xs)∧i≤xs.length∧xs.length < sizeLine∧i < 2 ^ 62∧Q .non (upd H l (.lst (xs.take i ++ y :: xs.drop i)))
theorem insert_arr (its:List Value) (i:Nat) (u:Value) (h:i≤its.length):((its.toArray.extract 0 (min ((i:Int)).toNat its.toArray.size)).push u ++ its.toArray.extract (min ((i:Int)).toNat its.toArray.size))=(its.take i ++ u :: its.drop i).toArray:=by
 have e:min ((i:Int)).toNat its.toArray.size=i:=by simp;omega
 rw [e]
 apply Array.ext'
 simp
 exact List.take_of_length_le (by simp)
theorem mt_insert:MtR X "list.insert" rInsert:=by
 intro pins s σ H x vs v us Q I rx rv h
 obtain ⟨l,xs,i,y,rfl,rfl,hH,hi,hz,hb,q⟩:=h
 cases rx
 obtain ⟨u,w,rfl,ru,rw'⟩:=L2.vals2 rv
 obtain ⟨t,rfl⟩:=ru
 obtain ⟨z,its,n,r,hl,e⟩:=I.lstM hH
 have h63:((i:Nat):Int) < 2 ^ 63:=by
  have:((i:Nat):Int) < ((2 ^ 62:Nat):Int):=Int.ofNat_lt.mpr hb
  exact Int.lt_trans this (by decide)
 have hf:Builtin.List.listFitsIndex ((i:Nat):Int)=true:=fitsIndex_both (Int.le_trans (by decide) (Int.natCast_nonneg i)) h63
 have hs:its.toArray.size≤sizeLine:=by rw [List.size_toArray,← hl];exact z
 have hn:¬(!Builtin.List.listFitsIndex ((i:Nat):Int))=true:=by rw [hf];exact fun z=>nomatch z
 have hneg:¬ (((i:Nat):Int) < 0):=by omega
 have hins:=insert_arr its i w (by omega)
 clear hb h63 hf
 generalize ((i:Nat):Int)=ii at *
 have mm:=PySem.AutoSeq1.list_insert_list_int_val_1 l its.toArray n ii t w hn hs
 refine call_meets PySem.F.slot_list_insert ⟨_,e,rfl⟩ PySem.F.entry_list_insert (PySem.F.args_list_insert_3 _ _ _) mm ⟨e,?_⟩
 refine ⟨.non,_,I.lset (its':=its.take i ++ w :: its.drop i) hH e ?_ ((r.take i).append (.cons rw' (r.drop i))) ?_,rfl,q⟩
 ·simp only [if_neg hneg]
  exact hins
 ·rw [List.length_append,List.length_cons,List.length_take,List.length_drop];omega
def qInsert:RMr:=fun x xs J Q=>∃ a ys i y,x=.ref a∧xs=[.int (i:Nat),y]∧J a=some (.lst ys)∧i≤ys.length∧ys.length < sizeLine∧i < 2 ^ 62∧Q .non (put J a (.lst (ys.take i ++ y :: ys.drop i)))
theorem mq_insert:MtL X "list" "list.insert" qInsert:=⟨_,mt_insert,fun J H x xs v vs Q2 Q rx rs r ⟨a,ys,i,y,ex,exs,ja,hi,hl,hb,q⟩ k=>by
 subst ex exs;cases rx;obtain ⟨w0,us,rfl,rw0,w,us',rfl,rw',e⟩:=rs;cases e;cases rw0
 obtain ⟨ws,h1,h2⟩:=r _ _ ja
 exact ⟨a,ws,i,w,rfl,rfl,h1,by rw [← h2.length];exact hi,by rw [← h2.length];exact hl,hb,k .non _ _ _ rfl (r.wrote (ys:=ys.take i ++ y :: ys.drop i) ja h1 ((h2.take i).append (show RepVs X.K J H (y :: ys.drop i) (w :: ws.drop i) from ⟨w,_,rfl,rw',h2.drop i⟩))) (.wrote ja h1) q⟩⟩
end
def selR (ks:List (Str × Nat)) (τ:Sr):Sr:=ks.map fun p=>(τ[p.2]?).getD none
theorem sel_rep {K:PySem.W.Frag} {J:Hq} {H:Hp} {τ:Sr} {σ:L2.St} (r:RepS K J H τ σ) {x:PV} {v:V} (rx:RepV K J H x v) (ks:List (Str × Nat)):RepS K J H (some x :: selR ks τ) (some v :: selC ks σ):=by
 refine ⟨by simp [selR,selC],fun i y e=>?_⟩
 cases i with
 | zero=>rw [List.getElem?_cons_zero] at e ⊢;cases e;exact ⟨v,rfl,rx⟩
 | succ i =>
  rw [List.getElem?_cons_succ] at e ⊢
  unfold selR at e
  unfold selC
  rw [List.getElem?_map] at e ⊢
  cases ep:ks[i]? with
  | none=>rw [ep] at e;cases e
  | some p =>
   rw [ep] at e
   have e':(τ[p.2]?).getD none=some y:=Option.some.inj e
   have e2:τ[p.2]?=some (some y):=by
    cases q:τ[p.2]? with
    | none=>rw [q] at e';cases e'
    | some w=>rw [q] at e';exact congrArg some e'
   obtain ⟨v',h1,h2⟩:=r.get _ _ e2
   exact ⟨v',by show some ((σ[p.2]?).getD none)=_;rw [h1];rfl,h2⟩
def Sub (J J':Hq):Prop:=∀ a o,J a=some o→J' a=some o
theorem Sub.refl (J:Hq):Sub J J:=fun _ _ h=>h
theorem Sub.put {J:Hq} {D:Addr} {o:HQ} (h:J D=none):Sub J (put J D o):=fun a u e=>by
 have ne:a≠D:=by intro z;subst z;rw [h] at e;cases e
 rw [put_ne ne];exact e
def LCw (it:Itr2) (J1:Hq) (ks:List (Str × Nat)) (τ:Sr) (tc:TTr) (te:TEr) (c:PV→Bool) (g:PV→PV):Prop:=it.xs.length < sizeLine∧∀ J',Sub J1 J'→it.ok J' ∧
 ∀ x∈it.xs,tc (some x :: selR ks τ) J' (fun b J2=>b=c x∧J2=J')∧(c x=true→te (some x :: selR ks τ) J' fun y J2=>y=g x∧J2=J')
def rLCf (wi:TIr) (ks:List (Str × Nat)) (tc:TTr) (te:TEr):TEr:=fun τ J Q=>wi τ J fun it J1=>∃ (c:PV→Bool) (g:PV→PV),LCw it J1 ks τ tc te c g∧Q (.fl ((it.xs.filter c).map g)) J1
def rLCm (wi:TIr) (ks:List (Str × Nat)) (tc:TTr) (te:TEr):TEr:=fun τ J Q=>wi τ J fun it J1=>∃ (c:PV→Bool) (g:PV→PV),LCw it J1 ks τ tc te c g∧∀ p,J1 p=none→Q (.ref p) (put J1 p (.lst ((it.xs.filter c).map g)))
def rTrue:TTr:=fun _ J Q=>Q true J
section
variable {X:Cx} {G:G2}
theorem take_filter {α:Type} (c:α→Bool) {xs:List α} {i:Nat} {x:α} (h:xs[i]?=some x):(xs.take (i + 1)).filter c=(xs.take i).filter c ++ (if c x=true then [x] else []):=by
 rw [List.take_add_one,h,List.filter_append]
 congr 1
 simp only [Option.toList_some,List.filter_cons,List.filter_nil]
theorem lc_lift {K:PySem.W.Frag} {ks:List (Str × Nat)} {tc:TTr} {te:TEr} {σ:L2.St} {H:Hp} {Q:VK} {τ:Sr} {J:Hq} (a2:At2 K G τ J σ H) {it:Itr2} {J1:Hq} {I:It} {H1:Hp} (ir:ItRel K it I J1 H1) (r1:Rep K J1 H1) (e1:Ext K J H J1 H1) {c:PV→Bool} {g:PV→PV}
  (w:LCw it J1 ks τ tc te c g)
  (q:∀ D H2,H1 D=none→J1 D=none→Rep K (put J1 D (.lst ((it.xs.filter c).map g))) H2→Ext K J1 H1 (put J1 D (.lst ((it.xs.filter c).map g))) H2→Q (.ref D) H2) :
  ∀ D,H1 D=none→∃ W:Nat→Nat→Hp→Prop,(∃ m,W 0 m (upd H1 D (.lst [])))∧∀ i m H2,W i m H2→(I.stop i H2∧Q (.ref D) H2) ∨
   (I.go i H2∧∀ v H3,I.yld i H2 v H3→LT K G tc (some v :: selC ks σ) H3 fun b H4=>if b=true then LE K G te (some v :: selC ks σ) H4 fun y H5=>∃ ys,H5 D=some (.lst ys)∧ys.length < sizeLine∧∃ m',m' < m∧W (i + 1) m' (upd H5 D (.lst (ys ++ [y]))) else ∃ m',m' < m∧W (i + 1) m' H4):=by
 intro D hD
 obtain ⟨hlen,w⟩:=w
 have jD:J1 D=none:=r1.free hD
 refine ⟨fun i m H2=>m=it.xs.length - i∧i≤it.xs.length∧Rep K (put J1 D (.lst (((it.xs.take i).filter c).map g))) H2∧Ext K J1 H1 (put J1 D (.lst (((it.xs.take i).filter c).map g))) H2,⟨_,rfl,Nat.zero_le _,r1.laidL (xs:=[]) (vs:=[]) hD rfl,.laid hD⟩,?_⟩
 rintro i m H2 ⟨rfl,hi,r2,e2⟩
 obtain ⟨ok,ww⟩:=w _ (Sub.put (o:=.lst (((it.xs.take i).filter c).map g)) jD)
 by_cases hlt:i < it.xs.length
 ·refine .inr ⟨ir.go _ H2 e2 r2 ok i hlt,fun v H3 y=>?_⟩
  obtain ⟨x,ex,rx,r3,e3⟩:=ir.yl _ H2 e2 r2 ok i hlt v H3 y
  obtain ⟨hc,he⟩:=ww x (List.mem_of_getElem? ex)
  have a3:At2 K G (some x :: selR ks τ) _ (some v :: selC ks σ) H3:=⟨sel_rep (a2.sl.ext ((e1.trans e2).trans e3)) rx ks,r3,((a2.ext.trans e1).trans e2).trans e3⟩
  refine ⟨_,_,_,a3,hc,fun b J4 H4 r4 e4 ⟨eb,ej⟩=>?_⟩
  subst ej
  cases hb:c x with
  | false =>
   rw [eb,hb]
   simp only [Bool.false_eq_true,if_false]
   refine ⟨_,by omega,rfl,hlt,?_⟩
   rw [take_filter c ex,hb]
   simp only [Bool.false_eq_true,if_false,List.append_nil]
   exact ⟨r4,(e2.trans e3).trans e4⟩
  | true =>
   rw [eb,hb]
   simp only [if_true]
   refine ⟨_,_,_,a3.go r4 e4,he hb,fun z J5 u H5 rz r5 e5 ⟨ez,ej⟩=>?_⟩
   subst ej ez
   obtain ⟨ys,h5,ry⟩:=r5 D _ put_same
   have ll:ys.length≤i:=by
    rw [← ry.length,List.length_map]
    exact Nat.le_trans (List.length_filter_le _ _) (by rw [List.length_take];omega)
   have r6:=r5.wrote (ys:=((it.xs.take i).filter c).map g ++ [g x]) (vs:=ys ++ [u]) put_same h5 (ry.append (show RepVs K _ H5 [g x] [u] from ⟨u,[],rfl,rz,rfl⟩))
   have e6:=Ext.wrote (K:=K) (ys:=((it.xs.take i).filter c).map g ++ [g x]) (vs:=ys ++ [u]) (J:=put J1 D (.lst (((it.xs.take i).filter c).map g))) put_same h5
   rw [put_put] at r6 e6
   refine ⟨ys,h5,by omega,_,by omega,rfl,hlt,?_⟩
   rw [take_filter c ex,hb,if_pos rfl,List.map_append]
   exact ⟨r6,(((e2.trans e3).trans e4).trans e5).trans e6⟩
 ·have ei:i=it.xs.length:=by omega
  subst ei
  rw [List.take_length] at r2 e2 ok
  exact .inl ⟨ir.stop _ H2 e2 r2 ok,q D H2 hD jD r2 e2⟩
theorem freeze {K:PySem.W.Frag} {J1:Hq} {H2:Hp} {D:Addr} {xs:List PV} (jD:J1 D=none) (r:Rep K (put J1 D (.lst xs)) H2):RepV K J1 H2 (.fl xs) (.ref D)∧Rep K J1 H2∧Ext K (put J1 D (.lst xs)) H2 J1 H2:=by
 obtain ⟨ys,h,ry⟩:=r D _ put_same
 have less:∀ a,J1 a=put J1 D (.lst xs) a∨J1 a=none:=fun a=>by
  by_cases e:a=D
  ·subst e;exact .inr jD
  ·rw [put_ne e];exact .inl rfl
 have e:=Ext.less (K:=K) (H:=H2) less
 exact ⟨⟨D,ys,rfl,.inl ⟨jD,.inl h⟩,e.reps ry⟩,r.less less,e⟩
theorem lcF_lift {wi:TIr} {ks:List (Str × Nat)} {tc:TTr} {te:TEr}:∀ σ H Q,LE X.K G (rLCf wi ks tc te) σ H Q→tLCF (LI X.K G wi) ks (LT X.K G tc) (LE X.K G te) σ H Q:=fun σ H Q ⟨τ,J,Q2,a2,h,k⟩ =>
 ⟨τ,J,_,a2,h,fun it J1 I H1 ir r1 e1 ⟨c,g,w,q⟩=>lc_lift (Q:=Q) a2 ir r1 e1 w fun D H2 hD jD r2 e2=>let ⟨x1,x2,x3⟩:=freeze jD r2;k _ J1 _ H2 x1 x2 ((e1.trans e2).trans x3) q⟩
theorem lcM_lift {wi:TIr} {ks:List (Str × Nat)} {tc:TTr} {te:TEr}:∀ σ H Q,LE X.K G (rLCm wi ks tc te) σ H Q→tLCF (LI X.K G wi) ks (LT X.K G tc) (LE X.K G te) σ H Q:=fun σ H Q ⟨τ,J,Q2,a2,h,k⟩ =>
 ⟨τ,J,_,a2,h,fun it J1 I H1 ir r1 e1 ⟨c,g,w,q⟩=>lc_lift (Q:=Q) a2 ir r1 e1 w fun D H2 hD jD r2 e2=>k (.ref D) _ _ H2 rfl r2 (e1.trans e2) (q D jD)⟩
theorem lc1_lift {wi:TIr} {ks:List (Str × Nat)} {te:TEr}:∀ σ H Q,LE X.K G (rLCf wi ks rTrue te) σ H Q→tLC (LI X.K G wi) ks (LE X.K G te) σ H Q:=fun σ H Q ⟨τ,J,Q2,a2,h,k⟩ =>
 ⟨τ,J,_,a2,h,fun it J1 I H1 ir r1 e1 ⟨c,g,w,q⟩ D hD=>by
  obtain ⟨W,w0,turn⟩:=lc_lift (Q:=Q) a2 ir r1 e1 w (fun D H2 hD jD r2 e2=>let ⟨x1,x2,x3⟩:=freeze jD r2;k _ J1 _ H2 x1 x2 ((e1.trans e2).trans x3) q) D hD
  refine ⟨W,w0,fun i m H2 hw=>?_⟩
  rcases turn i m H2 hw with z | ⟨go,z⟩
  ·exact .inl z
  ·refine .inr ⟨go,fun v H3 y=>?_⟩
   obtain ⟨τ',J',Q',a',t',k'⟩:=z v H3 y
   have:=k' true J' H3 a'.hp .refl t'
   simpa using this⟩
variable {elt iter cnd:Expr} {x y:Str} {px py:Pos} {sc:Scope} {pos spos:Pos} {wi:TIr} {te:TEr} {tc:TTr} {i:Nat}
theorem re_lcF (osc:Scope) (N:List Str) (ks:List (Str × Nat)) (hc:X.calm=true) (ho:X.env.scope=osc) (hN:X.N=N) (hi:RI X G (.Name x px) iter wi) (he:∀ cl C s₀ H₀ fp pins,RE (cxC X sc cl C x ks s₀ H₀ fp pins) G elt te) (hcn:∀ cl C s₀ H₀ fp pins,RT (cxC X sc cl C x ks s₀ H₀ fp pins) G cnd tc)
  (ok:CompOk sc osc N x ks:=by decide +kernel) (hs:∀ x,foldedSetIterable iter X.env x=pure x:=by intro _;rfl):RE X G (.ListComp elt [⟨.Name x px,iter,[cnd],0⟩] sc pos) (rLCf wi ks tc te) :=
 ⟨peW (pe_lcF osc N ks hc ho hN hi.run (fun cl C s₀ H₀ fp pins=>(he cl C s₀ H₀ fp pins).run) (fun cl C s₀ H₀ fp pins=>(hcn cl C s₀ H₀ fp pins).run) ok hs) lcF_lift⟩
theorem lcs_lift {t:TEr} {u:TE} (h:∀ σ H Q,LE X.K G t σ H Q→u σ H Q):∀ D σ H,LS X.K G (rAsg t (gNm i)) D σ H→u σ H fun v H1=>D.nx (σ.set i (some v)) H1:=fun D σ H ⟨τ,J,D2,a2,q,g⟩ =>
 h σ H _ ⟨τ,J,_,a2,q,fun x J' v H' rx rr ee q=>g.nx _ J' _ H' ((a2.sl.ext ee).set i rx) rr ee q⟩
theorem rs_lcF (osc:Scope) (N:List Str) (ks:List (Str × Nat)) (hc:X.calm=true) (ho:X.env.scope=osc) (hN:X.N=N) (hnd:X.N.Nodup) (hy:X.N[i]?=some y) (hl:Loc X.env.scope y) (hi:RI X G (.Name x px) iter wi) (he:∀ cl C s₀ H₀ fp pins,RE (cxC X sc cl C x ks s₀ H₀ fp pins) G elt te) (hcn:∀ cl C s₀ H₀ fp pins,RT (cxC X sc cl C x ks s₀ H₀ fp pins) G cnd tc)
  (ok:CompOk sc osc N x ks:=by decide +kernel) (hs:∀ x,foldedSetIterable iter X.env x=pure x:=by intro _;rfl) (hsw:swapsWith (.ListComp elt [⟨.Name x px,iter,[cnd],0⟩] sc pos) (some (.Name y py)) spos.line X.env=pure true:=by rfl) (hf:X.fn y=true∨X.env.scope.names.lookup y=some .local:=by first | exact .inl rfl | exact .inr rfl | assumption) :
  RS X G (.Assign [.Name y py] (.ListComp elt [⟨.Name x px,iter,[cnd],0⟩] sc pos) spos) (rAsg (rLCf wi ks tc te) (gNm i)) :=
 ⟨psW (ps_lcF osc N ks hc ho hN hnd hy hl hi.run (fun cl C s₀ H₀ fp pins=>(he cl C s₀ H₀ fp pins).run) (fun cl C s₀ H₀ fp pins=>(hcn cl C s₀ H₀ fp pins).run) ok hs hsw hf) (lcs_lift lcF_lift)⟩
theorem rs_lcFm (osc:Scope) (N:List Str) (ks:List (Str × Nat)) (hc:X.calm=true) (ho:X.env.scope=osc) (hN:X.N=N) (hnd:X.N.Nodup) (hy:X.N[i]?=some y) (hl:Loc X.env.scope y) (hi:RI X G (.Name x px) iter wi) (he:∀ cl C s₀ H₀ fp pins,RE (cxC X sc cl C x ks s₀ H₀ fp pins) G elt te) (hcn:∀ cl C s₀ H₀ fp pins,RT (cxC X sc cl C x ks s₀ H₀ fp pins) G cnd tc)
  (ok:CompOk sc osc N x ks:=by decide +kernel) (hs:∀ x,foldedSetIterable iter X.env x=pure x:=by intro _;rfl) (hsw:swapsWith (.ListComp elt [⟨.Name x px,iter,[cnd],0⟩] sc pos) (some (.Name y py)) spos.line X.env=pure true:=by rfl) (hf:X.fn y=true∨X.env.scope.names.lookup y=some .local:=by first | exact .inl rfl | exact .inr rfl | assumption) :
  RS X G (.Assign [.Name y py] (.ListComp elt [⟨.Name x px,iter,[cnd],0⟩] sc pos) spos) (rAsg (rLCm wi ks tc te) (gNm i)) :=
 ⟨psW (ps_lcF osc N ks hc ho hN hnd hy hl hi.run (fun cl C s₀ H₀ fp pins=>(he cl C s₀ H₀ fp pins).run) (fun cl C s₀ H₀ fp pins=>(hcn cl C s₀ H₀ fp pins).run) ok hs hsw hf) (lcs_lift lcM_lift)⟩
theorem rs_lc (osc:Scope) (N:List Str) (ks:List (Str × Nat)) (hc:X.calm=true) (ho:X.env.scope=osc) (hN:X.N=N) (hnd:X.N.Nodup) (hy:X.N[i]?=some y) (hl:Loc X.env.scope y) (hi:RI X G (.Name x px) iter wi) (he:∀ cl C s₀ H₀ fp pins,RE (cxC X sc cl C x ks s₀ H₀ fp pins) G elt te)
  (ok:CompOk sc osc N x ks:=by decide +kernel) (hs:∀ x,foldedSetIterable iter X.env x=pure x:=by intro _;rfl) (hsw:swapsWith (.ListComp elt [⟨.Name x px,iter,[],0⟩] sc pos) (some (.Name y py)) spos.line X.env=pure true:=by rfl) (hf:X.fn y=true∨X.env.scope.names.lookup y=some .local:=by first | exact .inl rfl | exact .inr rfl | assumption) :
  RS X G (.Assign [.Name y py] (.ListComp elt [⟨.Name x px,iter,[],0⟩] sc pos) spos) (rAsg (rLCf wi ks rTrue te) (gNm i)) :=
 ⟨psW (ps_lc osc N ks hc ho hN hnd hy hl hi.run (fun cl C s₀ H₀ fp pins=>(he cl C s₀ H₀ fp pins).run) ok hs hsw hf) (lcs_lift lc1_lift)⟩
end
end Ov
namespace Ov
open PySem PySem.Spec PyProof.Rows
section
open HT (lexLt)
def lexS:List Str→List Str→Bool
 | [],[]=>false
 | [],_ :: _=>true
 | _ :: _,[]=>false
 | x :: xs,y :: ys=>if x=y then lexS xs ys else decide (x.cps.toList < y.cps.toList)
theorem lexS_cons (x y:Str) (xs ys:List Str):lexS (x :: xs) (y :: ys)=if x=y then lexS xs ys else decide (x.cps.toList < y.cps.toList):=rfl
theorem lexS_nil_nil:lexS [] []=false:=rfl
theorem lexS_nil_cons (y:Str) (ys:List Str):lexS [] (y :: ys)=true:=rfl
theorem lexS_cons_nil (x:Str) (xs:List Str):lexS (x :: xs) []=false:=rfl
theorem eqAt_str (A:Around) (s:Shared) (a:Str) (t:Tok) (c:Str) (u:Tok):∃ e,SeqAt.EqAt A s (.str a t) (.str c u) e∧(e=true↔a=c) :=
 ⟨(a == c),SeqAt.EqAt.str_str a t c u,by simp⟩
theorem rcLt_str (A:Around) (s:Shared) (a:Str) (t:Tok) (c:Str) (u:Tok) (prog:Program) (w:World) (E:Value→Shared→Prop) (Q:Value→Shared→Prop) (h:Q (.bool (decide (a.cps.toList < c.cps.toList))) s) :
  wpAny (model prog w) A (richCompare .Lt (.str a t) (.str c u)) Q E s :=
 (PyProof.Rows.lt_str h:wpAny (model prog w) A (compareOp .Lt (.str a t) (.str c u)) Q E s)
open PySem.SeqAt
open PySem.AutoSeq1 (wpAny_loadPart')
open PySem.MeetsSeq PySem.MeetsSeq2 PySem.MeetsSeq3
theorem tuple_lt_strs (l b:Addr) (items items2:Array Value) (n n2:Nat) (dd dd2:Option Addr) (sl sl2:Array (Option Value)) (ns ms:List Str) (hi:StrsAre items.toList ns) (hj:StrsAre items2.toList ms) :
  Meets (Builtin.«tuple.__lt__» ⟨[.ref l,.ref b],[]⟩)
   (fun _ R s=>s.heap.get? l=some { cls:=.type "tuple",dict:=dd,data:=.seq items n,slots:=sl }∧s.heap.get? b=some { cls:=.type "tuple",dict:=dd2,data:=.seq items2 n2,slots:=sl2 } ∧
    R (.ok (.ret (.bool (lexS ns ms)))) s) :=
 .of_wp fun prog w A R s h=>by
  obtain ⟨hp,g,d,tk,os⟩:=s;obtain ⟨hl,hb,h⟩:=h
  have f2:=AutoSeq1.sub_tuple_tuple
  have z1:items.size=ns.length:=by rw [← hi.length];simp
  have z2:items2.size=ms.length:=by rw [← hj.length];simp
  wp_walk using wpAny_loadPart' hl,wpAny_loadPart' hb,wpAny_forIn_list _ (fun rest b s'=>b.1=none∧s'=⟨hp,g,d,tk,os⟩∧∃ (vs ws:List Value) (ns' ms':List Str),rest=vs.zip ws ∧
   StrsAre vs ns'∧StrsAre ws ms'∧ns'.length + items2.size=ms'.length + items.size∧R (.ok (.ret (.bool (lexS ns' ms')))) ⟨hp,g,d,tk,os⟩) _
  case turn =>
   rintro ⟨y,x⟩ rest b s' ⟨hb',rfl,vs,ws,ns',ms',hz,hvi,hwi,hlen,hR⟩
   cases hvi with
   | nil=>rw [List.zip_nil_left] at hz;cases hz
   | cons a t hvi' =>
    cases hwi with
    | nil=>rw [List.zip_nil_right] at hz;cases hz
    | cons c u hwi' =>
     rw [List.zip_cons_cons] at hz
     injection hz with hyx hrest
     injection hyx with hy hx
     subst hy hx
     rw [lexS_cons] at hR
     simp only [List.length_cons] at hlen
     obtain ⟨e,he,hiff⟩:=eqAt_str A.in1 ⟨hp,g,d,tk,os⟩ a t c u
     refine wpAny_bind (he prog w _ _ ?_)
     cases e with
     | true =>
      rw [if_pos (hiff.mp rfl)] at hR
      wp_walk
      exact ⟨rfl,rfl,_,_,_,_,hrest,hvi',hwi',by omega,hR⟩
     | false =>
      rw [if_neg (fun q=>absurd (hiff.mpr q) Bool.false_ne_true)] at hR
      have hri:=rcLt_str A.in1 ⟨hp,g,d,tk,os⟩ a t c u prog w
      wp_walk using hri
      exact ⟨_,rfl,by simpa using hR⟩
  case fin =>
   rintro ⟨b1,b2⟩ s' ⟨hb',rfl,vs,ws,ns',ms',hz,hvi,hwi,hlen,hR⟩
   simp only at hb'
   subst hb'
   have hv:lexS ns' ms'=decide (items.size < items2.size):=by
    cases hvi with
    | nil =>
     cases hwi with
     | nil =>
      simp only [List.length_nil] at hlen
      rw [lexS_nil_nil]
      exact (decide_eq_false (by omega)).symm
     | cons c u hw =>
      simp only [List.length_nil,List.length_cons] at hlen
      rw [lexS_nil_cons]
      exact (decide_eq_true (by omega)).symm
    | cons a t hv =>
     cases hwi with
     | nil =>
      simp only [List.length_nil,List.length_cons] at hlen
      rw [lexS_cons_nil]
      exact (decide_eq_false (by omega)).symm
     | cons c u hw =>
      rw [List.zip_cons_cons] at hz
      cases hz
   rw [hv] at hR
   wp_walk
   exact ⟨_,rfl,by simpa [Builtin.Tuple.tupleCompareSizes] using hR⟩
  case h =>
   exact ⟨rfl,rfl,items.toList,items2.toList,ns,ms,rfl,hi,hj,by omega,h⟩
section
variable {prog:Program} {w:World} {A:Around} {E:Value→Shared→Prop} {s:Shared}
theorem lt_tupStrs {l b:Addr} {items items2:Array Value} {ns ms:List Str} {Q:Value→Shared→Prop} (hl:IsTup s.heap l items) (hb:IsTup s.heap b items2) (hi:StrsAre items.toList ns) (hj:StrsAre items2.toList ms)
  (hu:A.units < cLine) (h:Q (.bool (lexS ns ms)) s):wpAny (model prog w) A (compareOp .Lt (.ref l) (.ref b)) Q E s:=by
 obtain ⟨⟨cls,dd,data,sl⟩,ho,hc,n,hd⟩:=id hl
 obtain ⟨⟨cls2,dd2,data2,sl2⟩,ho2,hc2,n2,hd2⟩:=id hb
 simp only at hc hd hc2 hd2
 subst hc hd hc2 hd2
 exact richCompare_meets_room (op:=.Lt) ⟨_,ho,rfl⟩ ⟨_,ho2,rfl⟩ PySem.F.slot_tuple_lt PySem.F.entry_tuple_lt (PySem.F.args_tuple_lt_2 _ _) (tuple_lt_strs l b items items2 n n2 dd dd2 sl sl2 ns ms hi hj)
  ⟨ho,ho2,show Value.bool (lexS ns ms)≠Value.notImplemented∧Q (.bool (lexS ns ms)) s from ⟨(fun x=>nomatch x),h⟩⟩ hu
end
end
open L2 (V HO Hp Inv Cx VK XK TE TT TA TS TG TGs TI TO TSet Ends Vis Loc Gl Rd RelV Vals OpR UnR CallR IxR SlR MtR PSet R2 upd upd_same upd_ne SqL SqT Sp CXT It Same PlainIx Room Passes Cls NoAttr Meth Mk Binds FnOk Fun FnScope atI TyOf putF)
section
variable {X:Cx} {K:PySem.W.Frag}
theorem op_ltTS (hu:X.A.units < cLine):OpR X (compareOp .Lt) (fun x y H Q=>∃ a b ns ms,x=.ref a∧y=.ref b∧SqT X.K H a (ns.map V.str)∧SqT X.K H b (ms.map V.str)∧Q (.bl (lexS ns ms)) H):=by
 intro pins s σ H x y v u Q I rx ry h
 obtain ⟨a,b,ns,ms,rfl,rfl,ha,hb,q⟩:=h
 cases rx;cases ry
 obtain ⟨is,r1,t1,_⟩:=I.tuple ha
 obtain ⟨js,r2,t2,_⟩:=I.tuple hb
 exact lt_tupStrs t1 t2 (by simpa using strsAre_of r1) (by simpa using strsAre_of r2) hu ⟨.bl _,H,I,rfl,q⟩
theorem strs_rep {J:Hq} {H:Hp}:∀ {ns:List Str} {vs:List V},RepVs K J H (ns.map PV.str) vs→vs=ns.map V.str
 | [],_,h=>h
 | n :: ns,_,⟨v,us,e,h,k⟩=>by subst e;cases h;rw [strs_rep k];rfl
def qLtTS:R2r:=fun x y J Q=>∃ ns ms,x=.tup (ns.map .str)∧y=.tup (ms.map .str)∧Q (.bl (lexS ns ms)) J
theorem oq_ltTS (hu:X.A.units < cLine):OpL X (compareOp .Lt) qLtTS:=⟨_,op_ltTS hu,fun J H x y v w Q2 Q rx ry r ⟨ns,ms,ex,ey,q⟩ k=>by
 subst ex ey
 obtain ⟨a,vs,rfl,h1,h2⟩:=rx
 obtain ⟨b,ws,rfl,h3,h4⟩:=ry
 cases strs_rep h2;cases strs_rep h4
 exact ⟨a,b,ns,ms,rfl,rfl,h1,h3,k (.bl _) J _ H rfl r .refl q⟩⟩
def qCatF:R2r:=fun x y J Q=>∃ xs ys,lsQ J x=some xs∧lsQ J y=some ys∧xs.length + ys.length≤sizeLine∧Q (.fl (xs ++ ys)) J
end
def MDef (K:PySem.W.Frag) (C:Addr) (m qual:Str) (st:Stmt):Prop:=∃ f fd,Meth K C m f∧Fun K m qual st f fd
structure KDef (K:PySem.W.Frag) (mg:Str→Option Value) (x:Str) (C:Addr):Prop where
 cl:Cls K C
 m:mg x=some (.ref C)
 mkz:PySem.W.makesIn K C=true
 kp:PySem.W.keepIn K (.ref C)=true
theorem mdef_mk {K:PySem.W.Frag} {C f:Addr} {m qual:Str} {st:Stmt} {od an:Option Addr} {sl:Array (Option Value)} {oc kV dc pm cd ct:Value} (a:PySem.W.findIn K (.ref C) m=some (some (.ref f))) (i:PySem.W.isFn K (.ref f)=true)
  (l:K.lookup f=some ⟨oc,od,.func (PySem.W.fnOf m qual (L2.defArgs st) (L2.defBody st) (L2.defScope st) .none kV dc pm an cd ct),sl⟩) (c:PySem.W.codeIn K cd qual=true) (k:PySem.W.keepIn K (.ref f)=true):MDef K C m qual st :=
 ⟨f,_,⟨a,i,k⟩,L2.fun_mk l c k⟩
theorem kdef_mk {K:PySem.W.Frag} {h:Heap} {mg:Str→Option Value} {x:Str} {C:Addr} (X:K.In h) (G:h.Ns mainGlobals mg) (aC:PySem.W.nsIn K mainGlobals x=some (some (.ref C)))
  (pg:PySem.W.plainGet K C Str.empty=true) (hd:PySem.W.hasDictIn K C=true) (po:PySem.W.plainOver K C=true) (sa:PySem.W.findIn K (.ref C) "__setattr__"=some (some (.builtin "object.__setattr__"))) (mk:PySem.W.makesIn K C=true) (kc:PySem.W.keepIn K (.ref C)=true):KDef K mg x C :=
 ⟨⟨pg,hd,po,sa⟩,PySem.W.mg_of X G aC,mk,kc⟩
section
variable {P:Program} {w:World} {K:PySem.W.Frag} {mg:Str→Option Value} {base:Heap}
theorem MDef.mth {C:Addr} {m qual:Str} {st:Stmt} {k:Nat} {ps:List Str} {sp:Spr} (D:MDef K C m qual st) (cl:Cls K C) (h:∀ f fd,Fun K m qual st f fd→FnOk P w K mg base (Fly P w) k f fd ps (LSp K sp))
  (hb:∀ (kV doc pm:Value) (an:Option Addr) (cdv ct:Value) (us:List Value),us.length=ps.length→bindArgs (PySem.W.fnOf m qual (L2.defArgs st) (L2.defBody st) (L2.defScope st) .none kV doc pm an cdv ct) ⟨us,[]⟩=pure (ps.zip us)):MthR P w K mg base C k m ps sp:=by
 obtain ⟨f,fd,hm,F⟩:=D
 exact ⟨cl,f,fd,hm,h f fd F,F.binds hb⟩
theorem MDef.mak {x:Str} {C:Addr} {qual:Str} {st:Stmt} {k:Nat} {ps:List Str} {sp:Spr} (D:MDef K C "__init__" qual st) (kd:KDef K mg x C) (h:∀ f fd,Fun K "__init__" qual st f fd→FnOk P w K mg base (Fly P w) k f fd ps (LSp K sp))
  (hb:∀ (kV doc pm:Value) (an:Option Addr) (cdv ct:Value) (us:List Value),us.length=ps.length→bindArgs (PySem.W.fnOf "__init__" qual (L2.defArgs st) (L2.defBody st) (L2.defScope st) .none kV doc pm an cdv ct) ⟨us,[]⟩=pure (ps.zip us)):MakR P w K mg base C k x ps sp:=by
 obtain ⟨f,fd,hm,F⟩:=D
 exact ⟨kd.m,f,fd,⟨kd.mkz,hm.at_,hm.fn,kd.kp⟩,h f fd F,F.binds hb⟩
end
theorem ar1 {F:List Value→Prop} (h:∀ a,F [a]):∀ us:List Value,us.length=1→F us
 | [a],_=>h a
theorem ar2 {F:List Value→Prop} (h:∀ a b,F [a,b]):∀ us:List Value,us.length=2→F us
 | [a,b],_=>h a b
theorem ar3 {F:List Value→Prop} (h:∀ a b c,F [a,b,c]):∀ us:List Value,us.length=3→F us
 | [a,b,c],_=>h a b c
theorem ar4 {F:List Value→Prop} (h:∀ a b c d,F [a,b,c,d]):∀ us:List Value,us.length=4→F us
 | [a,b,c,d],_=>h a b c d
theorem ar5 {F:List Value→Prop} (h:∀ a b c d e,F [a,b,c,d,e]):∀ us:List Value,us.length=5→F us
 | [a,b,c,d,e],_=>h a b c d e
theorem ar6 {F:List Value→Prop} (h:∀ a b c d e f,F [a,b,c,d,e,f]):∀ us:List Value,us.length=6→F us
 | [a,b,c,d,e,f],_=>h a b c d e f
end Ov
namespace Ov
open PySem PySem.Spec PyProof.Rows
open L2 (V HO Hp Inv Cx VK XK Rd SqL SqT Sp Same Room Passes FnOk Fun FnScope atI upd upd_same upd_ne)
def fr (q:Rat):PV:=.tup [.int q.num,.int (q.den:Int)]
theorem fr_inj (a b:Rat):(fr a=fr b)=(a=b):=by
 apply propext
 constructor
 ·intro h
  unfold fr at h
  simp only [PV.tup.injEq,List.cons.injEq,PV.int.injEq,and_true] at h
  exact Rat.ext h.1 (by have:=h.2;omega)
 ·intro h;rw [h]
theorem fr_eq (a:Rat):fr a=.tup [.int a.num,.int (a.den:Int)]:=rfl
theorem ix_fr0 (J:Hq) (q:Rat):ixQ J (fr q) (.int 0)=some (.int q.num):=atI_0 _ _
theorem ix_fr1 (J:Hq) (q:Rat):ixQ J (fr q) (.int 1)=some (.int (q.den:Int)):=atI_1 _ _ _
theorem ty_fr (J:Hq) (q:Rat):tyN J (fr q)=some "tuple":=rfl
theorem len_fr (J:Hq) (q:Rat):lenQ J (fr q)=some 2:=rfl
theorem pur_fr (q:Rat):pur (fr q)=true:=by simp [fr,pur,purs]
theorem isN_fr (q:Rat):isN (fr q)=false:=rfl
theorem dep_fr (q:Rat):dep (pyOf (fr q))=1:=by simp [fr,pyOf,pyOfs,dep,deps]
theorem cm_fr (q:Rat):cmQ (fr q)=True:=eq_true ⟨pur_fr q,by rw [dep_fr];decide⟩
theorem cm_int (i:Int):cmQ (.int i)=True:=eq_true ⟨by simp [pur],by simp [pyOf,dep]⟩
theorem cm_str (i:Str):cmQ (.str i)=True:=eq_true ⟨by simp [pur],by simp [pyOf,dep]⟩
theorem cm_bl (i:Bool):cmQ (.bl i)=True:=eq_true ⟨by simp [pur],by simp [pyOf,dep]⟩
theorem cm_non:cmQ .non=True:=eq_true ⟨by simp [pur],by simp [pyOf,dep]⟩
theorem pur_int (i:Int):pur (.int i)=true:=by simp [pur]
theorem pur_str (i:Str):pur (.str i)=true:=by simp [pur]
theorem pur_bl (i:Bool):pur (.bl i)=true:=by simp [pur]
theorem pur_non:pur .non=true:=by simp [pur]
theorem eq_int (a b:Int):eqQ (.int a) (.int b)=decide (a=b):=by unfold eqQ pyOf eqP;rw [Bool.beq_eq_decide_eq]
theorem eq_str (a b:Str):eqQ (.str a) (.str b)=decide (a=b):=by
 unfold eqQ pyOf eqP
 cases h:a == b with
 | true=>simp at h;simp [h]
 | false=>simp at h;simp [h]
theorem eq_bl (a b:Bool):eqQ (.bl a) (.bl b)=decide (a=b):=by unfold eqQ pyOf eqP;rw [Bool.beq_eq_decide_eq]
def eqQs (xs ys:List PV):Bool:=eqPs (pyOfs xs) (pyOfs ys)
theorem eq_tup (xs ys:List PV):eqQ (.tup xs) (.tup ys)=eqQs xs ys:=by unfold eqQ pyOf eqP eqQs;rfl
theorem eqs_cons (x y:PV) (xs ys:List PV):eqQs (x :: xs) (y :: ys)=(eqQ x y && eqQs xs ys):=by unfold eqQs eqQ;simp [pyOfs,eqPs]
theorem eqs_nil:eqQs [] []=true:=by unfold eqQs;simp [pyOfs,eqPs]
theorem eq_self (x:PV):eqQ x x=true:=eqP_self _
theorem eq_fr (a b:Rat):eqQ (fr a) (fr b)=decide (a=b):=by
 rw [fr_eq,fr_eq,eq_tup,eqs_cons,eqs_cons,eqs_nil,eq_int,eq_int,Bool.and_true,← Bool.decide_and]
 exact decide_eq_decide.mpr (by rw [rat_iff])
theorem sl3 (a b c:PV):cutQ [a,b,c] (some 1) none=[b,c]:=rfl
theorem ty_int (b:Bool):(subT "int" "int"=some b)=(b=true):=by cases b <;> simp [subT]
theorem ty_bool (b:Bool):(subT "int" "bool"=some b)=(b=false):=by cases b <;> simp [subT]
theorem ty_bb (b:Bool):(subT "bool" "bool"=some b)=(b=true):=by cases b <;> simp [subT]
theorem ty_str (b:Bool):(subT "str" "str"=some b)=(b=true):=by cases b <;> simp [subT]
theorem ty_tup (b:Bool):(subT "tuple" "tuple"=some b)=(b=true):=by cases b <;> simp [subT]
theorem ty_list (b:Bool):(subT "list" "list"=some b)=(b=true):=by cases b <;> simp [subT]
theorem le_line {n:Nat} (h:n≤1000):n≤sizeLine:=Nat.le_of_lt (L2.small1000 h)
theorem line0:(0≤sizeLine)=True:=eq_true (Nat.zero_le _)
theorem line1:(1≤sizeLine)=True:=eq_true (le_line (by decide))
theorem line2:(2≤sizeLine)=True:=eq_true (le_line (by decide))
theorem line3:(3≤sizeLine)=True:=eq_true (le_line (by decide))
theorem line4:(4≤sizeLine)=True:=eq_true (le_line (by decide))
section
variable (J:Hq) (xs:List PV) (a:Addr) (i:Int) (b:Bool) (z:Str) (T:String)
theorem ix_t:ixQ J (.tup xs) (.int i)=atI xs i:=rfl
theorem ix_f:ixQ J (.fl xs) (.int i)=atI xs i:=rfl
theorem ix_r:ixQ J (.ref a) (.int i)=(match J a with | some (.lst xs)=>atI xs i | _=>none):=rfl
theorem ls_f:lsQ J (.fl xs)=some xs:=rfl
theorem ls_r:lsQ J (.ref a)=(match J a with | some (.lst xs)=>some xs | _=>none):=rfl
theorem len_t:lenQ J (.tup xs)=some xs.length:=rfl
theorem len_f:lenQ J (.fl xs)=some xs.length:=rfl
theorem len_r:lenQ J (.ref a)=(match J a with | some (.lst xs)=>some xs | _=>none).map List.length:=rfl
theorem ty_n:tyN J .non=some "NoneType":=rfl
theorem ty_b':tyN J (.bl b)=some "bool":=rfl
theorem ty_i:tyN J (.int i)=some "int":=rfl
theorem ty_s:tyN J (.str z)=some "str":=rfl
theorem ty_t:tyN J (.tup xs)=some "tuple":=rfl
theorem ty_f:tyN J (.fl xs)=some "list":=rfl
theorem ty_r:tyN J (.ref a)=(match J a with | some (.lst _)=>some "list" | some (.dct _ _)=>some "dict" | _=>none):=rfl
theorem tru_n:truQ J .non=some false:=rfl
theorem tru_b:truQ J (.bl b)=some b:=rfl
theorem tru_i:truQ J (.int i)=some (i != 0):=rfl
theorem tru_t:truQ J (.tup xs)=some (!xs.isEmpty):=rfl
theorem tru_f:truQ J (.fl xs)=some (!xs.isEmpty):=rfl
theorem tru_r:truQ J (.ref a)=(match J a with | some (.lst xs)=>some (!xs.isEmpty) | some (.dct kvs _)=>some (!kvs.isEmpty) | _=>none):=rfl
theorem it_f:itQ J (.fl xs)=some ⟨xs,fun _=>True⟩:=rfl
theorem it_r:itQ J (.ref a)=(match J a with | some (.lst xs)=>some ⟨xs,fun J'=>J' a=some (.lst xs)⟩ | _=>none):=rfl
theorem is_n:isN .non=true:=rfl
theorem is_b:isN (.bl b)=false:=rfl
theorem is_i:isN (.int i)=false:=rfl
theorem is_s:isN (.str z)=false:=rfl
theorem is_t:isN (.tup xs)=false:=rfl
theorem is_f:isN (.fl xs)=false:=rfl
theorem is_r:isN (.ref a)=false:=rfl
theorem tq_f:tyQ T J (.fl xs)=(T="list"):=rfl
theorem tq_s:tyQ T J (.str z)=(T="str"):=rfl
theorem tq_r:tyQ T J (.ref a)=((T="list"∧∃ xs,J a=some (.lst xs))∨(T="dict"∧∃ kvs ep,J a=some (.dct kvs ep))):=rfl
end
def Fo (it:Itr2) (g:TGr) (tb:TSr) (D:En) (τ:Sr) (J1:Hq):Prop:=∃ Pv:Nat→Sr→Hq→Prop,Pv 0 τ J1∧(∀ i τ J,Pv i τ J→it.ok J) ∧
 (∀ i x τ J,it.xs[i]?=some x→Pv i τ J→g x τ J fun τ2 J2=>tb { D with nx:=Pv (i + 1),ct:=Pv (i + 1),bk:=D.nx } τ2 J2)∧∀ τ J,Pv it.xs.length τ J→D.nx τ J
theorem rFor_eq (wi:TIr) (g:TGr) (tb:TSr) (D:En) (τ:Sr) (J:Hq):rFor wi g tb D τ J=wi τ J fun it J1=>Fo it g tb D τ J1:=rfl
theorem for_rng {lo:Int} {n:Nat} {g:TGr} {tb:TSr} {D:En} {τ:Sr} {J1:Hq} (Pv:Nat→Sr→Hq→Prop) (h0:Pv 0 τ J1)
  (hs:∀ (i:Nat) τ J,i < n→Pv i τ J→g (.int (lo + (i:Int))) τ J fun τ2 J2=>tb { D with nx:=Pv (i + 1),ct:=Pv (i + 1),bk:=D.nx } τ2 J2) (hd:∀ τ J,Pv n τ J→D.nx τ J):Fo ⟨irow lo n,fun _=>True⟩ g tb D τ J1 :=
 ⟨Pv,h0,fun _ _ _ _=>trivial,fun i x τ J e p=>by obtain ⟨a,b⟩:=(irow_get lo n i x).mp e;subst b;exact hs i τ J a p,fun τ J p=>hd τ J (by simpa [irow_len] using p)⟩
structure BltR (mg:Str→Option Value):Prop extends Blt mg where
 str:mg "str"=none
 dict:mg "dict"=none
 max:mg "max"=none
 zip:mg "zip"=none
 enumerate:mg "enumerate"=none
def Less (J' J:Hq):Prop:=∀ a,J' a=J a∨J' a=none
def Fg (Q:PV→Hq→Prop) (v:PV) (J:Hq):Prop:=∃ x J',Less J' J∧(x=v∨∃ a xs,v=.ref a∧x=.fl xs∧J a=some (.lst xs)∧J' a=none)∧Q x J'
theorem Fg.same {Q:PV→Hq→Prop} {v:PV} {J:Hq} (h:Q v J):Fg Q v J:=⟨v,J,fun _=>.inl rfl,.inl rfl,h⟩
theorem Fg.less {Q:PV→Hq→Prop} {v:PV} {J J':Hq} (l:Less J' J) (h:Q v J'):Fg Q v J:=⟨v,J',l,.inl rfl,h⟩
theorem Fg.frz {Q:PV→Hq→Prop} {a:Addr} {xs:List PV} {J J':Hq} (l:Less J' J) (ha:J a=some (.lst xs)) (hn:J' a=none) (h:Q (.fl xs) J'):Fg Q (.ref a) J:=⟨.fl xs,J',l,.inr ⟨a,xs,rfl,rfl,ha,hn⟩,h⟩
section
variable {P:Program} {w:World} {K:PySem.W.Frag} {mg:Str→Option Value} {base:Heap}
theorem Fg.kn {J:Hq} {H:Hp} {Q2:PV→Hq→Prop} {Q:VK} (k:Kn K J H Q2 Q):Kn K J H (Fg Q2) Q:=fun z J1 u H1 rz r1 e1 ⟨x,J',l,hx,q⟩=>by
 have el:=Ext.less (K:=K) (H:=H1) l
 rcases hx with rfl | ⟨a,xs,rfl,rfl,ha,hn⟩
 ·exact k x J' u H1 (el.rep rz) (r1.less l) (e1.trans el) q
 ·cases rz
  obtain ⟨vs,h1,h2⟩:=r1 _ _ ha
  exact k (.fl xs) J' _ H1 ⟨a,vs,rfl,.inl ⟨hn,.inl h1⟩,el.reps h2⟩ (r1.less l) (e1.trans el) q
theorem okF {x qual:Str} {st:Stmt} {f:Addr} {fd:FuncData} {N ps:List Str} {k:Nat} {sp:Spr} (F:Fun K x qual st f fd) (S:FnScope N ps (L2.defScope st)) (len:∀ xs J Q E,sp xs J Q E→xs.length=ps.length)
  (hbody:∀ (cdv:Value) (A:Around) (outer:List Env) (s:Shared) (H:Hp) (E:XK) (G:G2) (xs:List PV) (J:Hq) (Q:PV→Hq→Prop) (E2:Addr→Hq→Prop),Room k (A.deeper (envOfC qual (L2.defScope st) s.heap.objs.size f cdv))→sp xs J Q E2 →
   Ebd (cxF P w K mg base N qual (L2.defScope st) f cdv A outer s H E) G E2 E →
   ∃ t,RB (cxF P w K mg base N qual (L2.defScope st) f cdv A outer s H E) G (L2.defBody st) t∧t { nx:=fun _ J'=>Fg Q .non J',rt:=Fg Q } (strt N xs) J):FnOk P w K mg base (Fly P w) (k + 1) f fd ps (LSp K sp):=by
 have:=okR (sp:=fun xs J Q E=>∃ Q0,Q=Fg Q0∧sp xs J Q0 E) F S (fun xs J Q E ⟨Q0,_,h⟩=>len xs J Q0 E h) (fun cdv A outer s H E G xs J Q E2 hr ⟨Q0,eq,h⟩ B=>by subst eq;exact hbody cdv A outer s H E G xs J Q0 E2 hr h B)
 exact this.imp fun vs H Q E ⟨xs,J,Q2,E2,a,b,c,d,e⟩=>⟨xs,J,Fg Q2,E2,a,b,⟨Q2,rfl,c⟩,Fg.kn d,e⟩
end
theorem ebd0 {X:Cx} {G:G2}:Ebd X G (fun _ _=>False) L2.E0:=⟨fun _ _ _ _ _ _ _ ⟨_,_,_,_,_,z⟩=>z.elim,fun _ _ _ _ _ z=>z.elim⟩
theorem reps_ints {K:PySem.W.Frag} {J:Hq} {H:Hp}:∀ ns:List Int,RepVs K J H (ns.map PV.int) (ns.map V.int)
 | []=>rfl
 | n :: ns=>⟨_,_,rfl,rfl,reps_ints ns⟩
end Ov
namespace Ov
open PySem PySem.Spec PyProof.Rows L2
theorem atI_4 {α:Type} (a b c d e:α) (xs:List α):atI (a :: b :: c :: d :: e :: xs) 4=some e:=atI_nat (j:=4) rfl
theorem atI_5 {α:Type} (a b c d e f:α) (xs:List α):atI (a :: b :: c :: d :: e :: f :: xs) 5=some f:=atI_nat (j:=5) rfl
theorem atI_6 {α:Type} (a b c d e f g:α) (xs:List α):atI (a :: b :: c :: d :: e :: f :: g :: xs) 6=some g:=atI_nat (j:=6) rfl
theorem atI_7 {α:Type} (a b c d e f g h:α) (xs:List α):atI (a :: b :: c :: d :: e :: f :: g :: h :: xs) 7=some h:=atI_nat (j:=7) rfl
theorem atI_8 {α:Type} (a b c d e f g h i:α) (xs:List α):atI (a :: b :: c :: d :: e :: f :: g :: h :: i :: xs) 8=some i:=atI_nat (j:=8) rfl
theorem atI_9 {α:Type} (a b c d e f g h i j:α) (xs:List α):atI (a :: b :: c :: d :: e :: f :: g :: h :: i :: j :: xs) 9=some j:=atI_nat (j:=9) rfl
theorem atI_10 {α:Type} (a b c d e f g h i j k:α) (xs:List α):atI (a :: b :: c :: d :: e :: f :: g :: h :: i :: j :: k :: xs) 10=some k:=atI_nat (j:=10) rfl
theorem atI_11 {α:Type} (a b c d e f g h i j k l:α) (xs:List α):atI (a :: b :: c :: d :: e :: f :: g :: h :: i :: j :: k :: l :: xs) 11=some l:=atI_nat (j:=11) rfl
theorem line5:(5≤sizeLine)=True:=eq_true (le_line (by decide))
theorem line6:(6≤sizeLine)=True:=eq_true (le_line (by decide))
theorem line7:(7≤sizeLine)=True:=eq_true (le_line (by decide))
theorem line8:(8≤sizeLine)=True:=eq_true (le_line (by decide))
theorem line9:(9≤sizeLine)=True:=eq_true (le_line (by decide))
theorem line10:(10≤sizeLine)=True:=eq_true (le_line (by decide))
theorem line11:(11≤sizeLine)=True:=eq_true (le_line (by decide))
theorem line12:(12≤sizeLine)=True:=eq_true (le_line (by decide))
theorem sizes_ok {ss:List Int} (h:ss.all (fun s=>decide (0 < s) && decide (s < 2 ^ 63))=true):∀ s∈ss,0 < s∧Bd 9000 s:=fun s hs=>by
 have:=List.all_eq_true.mp h s hs
 rw [Bool.and_eq_true,decide_eq_true_eq,decide_eq_true_eq] at this
 exact ⟨this.1,(Bd.small (by omega) (by omega)).mono (by decide)⟩
theorem Sz.div {n:Nat} {t b:Int} (ht:Bd n t) (hb:Bd n b) (h:b≠0):Sz n (Rat.divInt t b):=⟨ht.le (num_abs t b),hb.le (den_abs h)⟩
end Ov
namespace Ov
open PySem PySem.Spec PyProof.Rows
open L2 (V HO Hp Inv Cx VK XK TE TT TA TS TG TGs TI TO TSet Ends Vis Loc Gl Rd RelV Vals OpR UnR CallR IxR SlR MtR PSet R2 upd upd_same upd_ne SqL SqT Sp CXT It Same PlainIx Room Passes Cls NoAttr Meth Mk Binds FnOk Fun FnScope atI TyOf putF)
section
variable {X:Cx} {G:G2}
abbrev TStr:=PV→PV→PV→Hq→(Hq→Prop)→Prop
def StL (X:Cx) (q:TStr):Prop:=∃ r,PSet X r∧∀ J H o i y ov iv u R2 R,RepV X.K J H o ov→RepV X.K J H i iv→RepV X.K J H y u→Rep X.K J H→q o i y J R2→(∀ J' H',Rep X.K J' H'→Ext X.K J H J' H'→R2 J'→R H')→r ov iv u H R
def gSb (to ti:TEr) (t:TStr):TGr:=fun y τ J R=>to τ J fun o J1=>ti τ J1 fun i J2=>t o i y J2 fun J3=>R τ J3
theorem rg_sub {o i:Expr} {to ti:TEr} {t:TStr} {pos:Pos} (hs:StL X t) (ho:RE X G o to) (hi:RE X G i ti)
  (ha:∀ v,assign (.Subscript o i pos) X.env v=(do
   let ov ← holding [v] (eval o X.env)
   let iv ← holding [v,ov] (eval i X.env)
   standAt pos
   holding [v,ov,iv] (setItem ov iv v)
   release [v,ov,iv] []):=by intro _;rfl):RG X G (.Subscript o i pos) (gSb to ti t):=by
 obtain ⟨r,hr,lf⟩:=hs
 exact ⟨pgW (L2.pg_sub ho.run hi.run hr ha) fun v σ H Q ⟨y,τ,J,Q2,ry,a2,h,k⟩ =>
  ⟨τ,J,_,a2,h,fun x J1 ov H1 rx r1 e1 h1=>⟨τ,J1,_,a2.go r1 e1,h1,fun z J2 iv H2 rz r2 e2 h2 =>
   lf J2 H2 x z y ov iv v _ _ (e2.rep rx) rz (e2.rep (e1.rep ry)) r2 h2 fun J3 H3 r3 e3 q=>k τ J3 σ H3 ((((a2.sl.ext e1).ext e2).ext e3)) r3 ((e1.trans e2).trans e3) q⟩⟩⟩
def qSetL:TStr:=fun o i y J R=>∃ p xs k j,o=.ref p∧i=.int k∧J p=some (.lst xs)∧L2.ixN xs.length k=some j∧R (put J p (.lst (xs.set j y)))
theorem rs_sub {o i e:Expr} {to ti te:TEr} {t:TStr} {pos pos':Pos} (hs:StL X t) (ho:RE X G o to) (hi:RE X G i ti) (he:RE X G e te)
  (ha:∀ v,assign (.Subscript o i pos') X.env v=(do
   let ov ← holding [v] (eval o X.env)
   let iv ← holding [v,ov] (eval i X.env)
   standAt pos'
   holding [v,ov,iv] (setItem ov iv v)
   release [v,ov,iv] []):=by intro _;rfl)
  (hq:swapsWithSole [.Subscript o i pos'] e pos.line X.env=pure false:=by rfl) (hw:swappedStores [.Subscript o i pos'] e X.env=pure none:=by rfl)
  (h1:(assignEach [.Subscript o i pos'] X.env).map (·.2)=[assign (.Subscript o i pos') X.env]:=by rfl):RS X G (.Assign [.Subscript o i pos'] e pos) (rAsg te (gSb to ti t)):=rs_asg he (rg_sub hs ho hi ha) hq hw h1
def IpL (X:Cx) (op:Operator) (q:R2r):Prop:=∃ r,L2.PIp X op r∧LR X.K r q
def rAug (i:Nat) (te:TEr) (q:R2r):TSr:=fun D τ J=>∃ x,τ[i]?=some (some x)∧te τ J fun y J1=>q x y J1 fun z J2=>D.nx (τ.set i (some z)) J2
theorem rs_aug {i:Nat} {x:Str} {e:Expr} {te:TEr} {op:Operator} {q:R2r} {pos pos':Pos} (hN:X.N.Nodup) (hi:X.N[i]?=some x) (hx:Loc X.env.scope x) (he:RE X G e te) (ho:IpL X op q) (hf:X.fn x=true∨X.env.scope.names.lookup x=some .local:=by first | exact .inl rfl | exact .inr rfl | assumption) :
  RS X G (.AugAssign (.Name x pos') op e pos) (rAug i te q):=by
 obtain ⟨r,hr,lf⟩:=ho
 exact ⟨psW (L2.ps_aug hN hi hx he.run hr hf) fun D σ H ⟨τ,J,D2,a2,⟨x,hx,h⟩,g⟩=>by
  obtain ⟨v,h1,h2⟩:=a2.sl.get _ _ hx
  exact ⟨v,h1,τ,J,_,a2,h,fun y J1 u H1 ry r1 e1 q1=>lf J1 H1 x y v u _ _ (e1.rep h2) ry r1 q1 fun z J2 u2 H2 rz r2 e2 q2=>g.nx _ J2 _ H2 (((a2.sl.ext e1).ext e2).set i rz) r2 (e1.trans e2) q2⟩⟩
theorem iq_sub:IpL X .Sub (qI0 fun i j=>.int (i - j)):=⟨_,L2.ip_sub,fun J H x y v w Q2 Q rx ry r ⟨i,j,ex,ey,q⟩ k=>by
 subst ex ey;cases rx;cases ry;exact ⟨i,j,rfl,rfl,k (.int _) J _ H rfl r .refl q⟩⟩
end
theorem for_ls {xs:List PV} {ok:Hq→Prop} {g:TGr} {tb:TSr} {D:En} {τ:Sr} {J1:Hq} (Pv:Nat→Sr→Hq→Prop) (h0:Pv 0 τ J1) (hk:∀ i τ J,Pv i τ J→ok J)
  (hs:∀ (i:Nat) x τ J,xs[i]?=some x→Pv i τ J→g x τ J fun τ2 J2=>tb { D with nx:=Pv (i + 1),ct:=Pv (i + 1),bk:=D.nx } τ2 J2) (hd:∀ τ J,Pv xs.length τ J→D.nx τ J):Fo ⟨xs,ok⟩ g tb D τ J1:=⟨Pv,h0,hk,hs,hd⟩
theorem at_last {α:Type} (xs:List α) (x:α):atI (xs ++ [x]) (-1)=some x:=by
 unfold L2.atI L2.ixN
 rw [if_neg (by decide),if_pos (by simp;omega)]
 have e:(-1 + ((xs ++ [x]).length:Int)).toNat=xs.length:=by simp only [List.length_append,List.length_cons,List.length_nil];omega
 rw [e]
 simp
theorem own_mk {K:PySem.W.Frag} {h:Heap} {mg:Str→Option Value} {x:Str} {C:Addr} (X:K.In h) (G:h.Ns mainGlobals mg) (a:PySem.W.nsIn K mainGlobals x=some (some (.ref C))) (b:(PySem.W.excIn K C bmV "ValueError.__new__" && xclsB K C)=true):Own K mg x C :=
 ⟨PySem.W.mg_of X G a,(Bool.and_eq_true_iff.mp b).1,xcls_of (Bool.and_eq_true_iff.mp b).2⟩
theorem ls_cases {J:Hq} {x:PV} {ys:List PV} (h:lsQ J x=some ys):x=.fl ys∨∃ a,x=.ref a∧J a=some (.lst ys):=by
 cases x with
 | fl xs=>cases h;exact .inl rfl
 | ref a =>
  right
  refine ⟨a,rfl,?_⟩
  unfold lsQ at h
  simp only at h
  split at h
  ·rename_i e;cases h;exact e
  ·cases h
 | _=>cases h
theorem ls_len {J:Hq} {x:PV} {ys:List PV} (h:lsQ J x=some ys):lenQ J x=some ys.length:=by
 rcases ls_cases h with rfl | ⟨a,rfl,ha⟩
 ·rfl
 ·rw [len_r,ha];rfl
theorem ls_ix {J:Hq} {x:PV} {ys:List PV} (h:lsQ J x=some ys) (i:Int):ixQ J x (.int i)=atI ys i:=by
 rcases ls_cases h with rfl | ⟨a,rfl,ha⟩
 ·rfl
 ·rw [ix_r,ha]
def flagsP (j:Nat):List PV:=.bl true :: (List.range 10).map fun k=>.bl (decide (j=k))
def rTry (c:Nat→Addr) (N n:Nat) (t:(Addr→Hq→Prop)→TSr):TSr:=fun D τ J =>
 t (fun a J'=>∃ j,j < 10∧a=c j∧D.nx ((List.replicate N none).set n (some (.fl (flagsP j)))) J') D τ J
section
variable {X:Cx} {G:G2}
end
theorem seq_st {a b:TSr} {D:En} {τ:Sr} {J:Hq} (h:a { D with nx:=fun τ' J'=>b D τ' J' } τ J):rSeq a b D τ J:=h
def sqQ (J:Hq):PV→Option (List PV)
 | .tup xs=>some xs
 | .fl xs=>some xs
 | .ref a=>match J a with
  | some (.lst xs)=>some xs
  | _=>none
 | _=>none
theorem sq_rep {K:PySem.W.Frag} {J:Hq} {H:Hp} {y:PV} {u:V} {xs:List PV} (h:sqQ J y=some xs) (r:RepV K J H y u) (rr:Rep K J H):∃ p vs,u=.ref p∧(SqL K H p vs∨SqT K H p vs)∧RepVs K J H xs vs:=by
 cases y with
 | tup ys=>cases h;obtain ⟨a,vs,rfl,h1,h2⟩:=r;exact ⟨a,vs,rfl,.inr h1,h2⟩
 | fl ys=>cases h;obtain ⟨a,vs,rfl,h1,h2⟩:=r;exact ⟨a,vs,rfl,.inl h1.sq,h2⟩
 | ref a =>
  cases r
  unfold sqQ at h
  simp only at h
  split at h
  ·rename_i e;cases h
   obtain ⟨vs,h1,h2⟩:=rr _ _ e
   exact ⟨a,vs,rfl,.inl (SqL.of h1),h2⟩
  ·cases h
 | _=>cases h
theorem reps_strs_eq {K:PySem.W.Frag} {J:Hq} {H:Hp}:∀ {ns:List Str} {vs:List V},RepVs K J H (ns.map PV.str) vs→vs=ns.map V.str
 | [],_,h=>h
 | n :: ns,_,⟨v,us,e,h,k⟩=>by subst e;cases h;rw [reps_strs_eq k];rfl
theorem reps_ints_eq {K:PySem.W.Frag} {J:Hq} {H:Hp}:∀ {ns:List Int} {vs:List V},RepVs K J H (ns.map PV.int) vs→vs=ns.map V.int
 | [],_,h=>h
 | n :: ns,_,⟨v,us,e,h,k⟩=>by subst e;cases h;rw [reps_ints_eq k];rfl
theorem beq_dec {α:Type} [BEq α] [LawfulBEq α] [DecidableEq α] (x y:α):(x == y)=decide (x=y):=by by_cases h:x=y <;> simp [h]
theorem inV_str (s:Str) (ss:List Str):L2.inV (.str s) (ss.map V.str)=decide (s∈ss):=by
 unfold L2.inV
 induction ss with
 | nil=>rfl
 | cons x ss ih =>
  rw [List.map_cons,List.any_cons,ih,show L2.eqV (.str x) (.str s)=(x == s) from rfl,beq_dec]
  by_cases h:x=s
  ·subst h;simp
  ·simp [h,show ¬ s=x from fun e=>h e.symm]
theorem inV_int (s:Int) (ss:List Int):L2.inV (.int s) (ss.map V.int)=decide (s∈ss):=by
 unfold L2.inV
 induction ss with
 | nil=>rfl
 | cons x ss ih =>
  rw [List.map_cons,List.any_cons,ih,show L2.eqV (.int x) (.int s)=(x == s) from rfl,beq_dec]
  by_cases h:x=s
  ·subst h;simp
  ·simp [h,show ¬ s=x from fun e=>h e.symm]
section
variable {X:Cx} {G:G2}
def qInS (f:Bool→Bool):R2r:=fun x y J Q=>∃ (s:Str) (ss:List Str),x=.str s∧sqQ J y=some (ss.map .str)∧Q (.bl (f (decide (s∈ss)))) J
def qInI (f:Bool→Bool):R2r:=fun x y J Q=>∃ (s:Int) (ss:List Int),x=.int s∧sqQ J y=some (ss.map .int)∧Q (.bl (f (decide (s∈ss)))) J
theorem flat_strs (ss:List Str):(ss.map V.str).all L2.flatV=true:=by simp [L2.flatV]
theorem flat_ints (ss:List Int):(ss.map V.int).all L2.flatV=true:=by simp [L2.flatV]
theorem oq_ninS:OpL X (compareOp .NotIn) (qInS not):=⟨_,L2.op_notIn_seq,fun J H x y v w Q2 Q rx ry r ⟨s,ss,ex,hy,q⟩ k=>by
 subst ex;cases rx
 obtain ⟨p,vs,rfl,hq,h2⟩:=sq_rep hy ry r
 cases reps_strs_eq h2
 exact ⟨p,_,rfl,hq,rfl,flat_strs ss,k (.bl _) J _ H (by rw [if_pos rfl,inV_str];rfl) r .refl q⟩⟩
theorem oq_inI:OpL X (compareOp .In) (qInI id):=⟨_,L2.op_in_seq,fun J H x y v w Q2 Q rx ry r ⟨s,ss,ex,hy,q⟩ k=>by
 subst ex;cases rx
 obtain ⟨p,vs,rfl,hq,h2⟩:=sq_rep hy ry r
 cases reps_ints_eq h2
 exact ⟨p,_,rfl,hq,rfl,flat_ints ss,k (.bl _) J _ H (by rw [if_neg (by decide),inV_int];rfl) r .refl q⟩⟩
end
end Ov
namespace L2
open PySem PySem.Spec PyProof.Rows
section
variable {X:Cx} {tg:Expr}
end
end L2
namespace Ov
open PySem PySem.Spec PyProof.Rows
open L2 (V HO Hp Inv Cx VK XK TE TT TA TS TG TGs TI TO TSet Ends Vis Loc Gl Rd RelV Vals OpR UnR CallR IxR SlR MtR PSet R2 upd upd_same upd_ne SqL SqT Sp CXT It Same PlainIx Room Passes Cls NoAttr Meth Mk Binds FnOk Fun FnScope atI TyOf putF)
section
variable {X:Cx} {G:G2} {tg:Expr}
theorem ls_rep {K:PySem.W.Frag} {J:Hq} {H:Hp} {y:PV} {u:V} {xs:List PV} (h:lsQ J y=some xs) (r:RepV K J H y u) (rr:Rep K J H):∃ p vs,u=.ref p∧SqL K H p vs∧RepVs K J H xs vs:=by
 rcases ls_cases h with rfl | ⟨a,rfl,ha⟩
 ·obtain ⟨a,vs,rfl,h1,h2⟩:=r;exact ⟨a,vs,rfl,h1.sq,h2⟩
 ·cases r
  obtain ⟨vs,h1,h2⟩:=rr _ _ ha
  exact ⟨a,vs,rfl,SqL.of h1,h2⟩
theorem RepVs.flat {K:PySem.W.Frag} {J:Hq} {H:Hp} {xs:List PV} {vs:List V} (r:RepVs K J H xs vs):∀ k:Nat,RepVs K J H (List.replicate k xs).flatten (List.replicate k vs).flatten
 | 0=>rfl
 | k + 1=>by rw [List.replicate_succ,List.replicate_succ,List.flatten_cons,List.flatten_cons];exact r.append (RepVs.flat r k)
end
end Ov
namespace L2
open PySem PySem.Spec PyProof.Rows
section
variable {X:Cx} {pins:List (Addr × Obj)} {σ:St} {H:Hp} {s:Shared} {h':Heap}
theorem Inv.turnedL {t':Nat} {ch:List Addr} (I:Inv X pins σ H s) (k:∀ b o,b ∉ ch→s.heap.get? b=some o→h'.get? b=some o) (hf:∀ b∈ch,FpOk X pins H b):Inv X pins σ H { s with heap:=h',toks:=t' }:=by
 have nit:∀ b u,H b=some u→b ∉ ch:=fun b u e z=>by rw [(hf b z).1] at e;cases e
 refine I.step (g':=s.gens) (d':=s.drawn) (ch:=ch) (fun b hb=>?_) (fun b o _ _ hc e _=>k b o hc e) (fun b o _ _ hc e _=>⟨o.slots,k b o hc e⟩) (fun _ _ _ _ n=>n)
  (fun b o hc e=>⟨o,k b o hc e⟩) (fun _ _ e=>e) (fun _ _ _ e=>e) (fun b ps e=>⟨#[],by rw [e];simp⟩) (fun m hm=>?_) (fun b u e=>?_) I.bare
 ·obtain ⟨f0,f1,f2,f3,f4,f5⟩:=hf b hb
  exact ⟨f3,f1,f4,f5⟩
 ·obtain ⟨o,es,ep,ho,r⟩:=hm
  exact ⟨o,es,ep,k _ o (fun z=>(hf _ z).2.1 rfl) ho,r⟩
 ·refine (I.hok b u e).stay (fun c v hc q=>k c v ?_ q) (fun _ q=>q) fun _ _ q=>q
  rcases hc with z | z
  ·rw [z];exact nit b u e
  ·exact nit c _ z
end
section
variable {X:Cx}
end
end L2
namespace Ov
open PySem PySem.Spec PyProof.Rows
open L2 (V HO Hp Inv Cx VK XK TE TT TA TS TG TGs TI TO TSet Ends Vis Loc Gl Rd RelV Vals OpR UnR CallR IxR SlR MtR PSet R2 upd upd_same upd_ne SqL SqT Sp CXT It Same PlainIx Room Passes Cls NoAttr Meth Mk Binds FnOk Fun FnScope atI TyOf putF)
section
variable {X:Cx} {G:G2}
end
end Ov
namespace L2
open PySem PySem.Spec PyProof.Rows
section
variable {α β:Type}
def vaL (kvs:List (Str × α)) (k:Str):Option α:=(kvs.find? fun kv=>decide (kv.1=k)).map (·.2)
def puL (kvs:List (Str × α)) (k:Str) (v:α):List (Str × α):=if kvs.any (fun kv=>decide (kv.1=k)) then kvs.map (fun kv=>if kv.1=k then (kv.1,v) else kv) else kvs ++ [(k,v)]
def drL (kvs:List (Str × α)) (k:Str):List (Str × α):=kvs.filter fun kv=>decide (kv.1≠k)
theorem vaL_cons (p:Str × α) (r:List (Str × α)) (k:Str):vaL (p :: r) k=if p.1=k then some p.2 else vaL r k:=by
 unfold vaL
 rw [List.find?_cons]
 by_cases h:p.1=k <;> simp [h]
theorem puL_len (kvs:List (Str × α)) (k:Str) (v:α):(puL kvs k v).length≤kvs.length + 1:=by
 unfold puL;split <;> simp
theorem drL_len (kvs:List (Str × α)) (k:Str):(drL kvs k).length≤kvs.length:=List.length_filter_le _ _
abbrev PrK (R:α→β→Prop):List (Str × α)→List (Str × β)→Prop:=Paired fun p q=>p.1=q.1∧R p.2 q.2
variable {R:α→β→Prop}
theorem PrK.va {kvs:List (Str × α)} {vs:List (Str × β)} (h:PrK R kvs vs) (k:Str):(∀ x,vaL kvs k=some x→∃ y,vaL vs k=some y∧R x y)∧(vaL kvs k).isSome=(vaL vs k).isSome:=by
 induction h with
 | nil=>exact ⟨fun x e=>by simp [vaL] at e,rfl⟩
 | @cons p q kvs vs r _ ih =>
  rw [vaL_cons,vaL_cons,← r.1]
  by_cases e:p.1=k
  ·rw [if_pos e,if_pos e];exact ⟨fun x z=>by cases z;exact ⟨_,rfl,r.2⟩,rfl⟩
  ·rw [if_neg e,if_neg e];exact ih
theorem PrK.any {kvs:List (Str × α)} {vs:List (Str × β)} (h:PrK R kvs vs) (k:Str):(kvs.any fun kv=>decide (kv.1=k))=vs.any fun kv=>decide (kv.1=k):=by
 induction h with
 | nil=>rfl
 | cons r _ ih=>rw [List.any_cons,List.any_cons,ih,r.1]
theorem PrK.snoc {kvs:List (Str × α)} {vs:List (Str × β)} (h:PrK R kvs vs) {k:Str} {x:α} {y:β} (r:R x y):PrK R (kvs ++ [(k,x)]) (vs ++ [(k,y)]):=by
 induction h with
 | nil=>exact .cons ⟨rfl,r⟩ .nil
 | cons q _ ih=>exact .cons q ih
theorem PrK.pu {kvs:List (Str × α)} {vs:List (Str × β)} (h:PrK R kvs vs) {k:Str} {x:α} {y:β} (r:R x y):PrK R (puL kvs k x) (puL vs k y):=by
 unfold puL
 rw [h.any k]
 split
 ·rename_i hany;clear hany
  induction h with
  | nil=>exact .nil
  | @cons p q kvs vs z _ ih =>
   rw [List.map_cons,List.map_cons]
   refine .cons ?_ ih
   by_cases e:p.1=k
   ·rw [if_pos e,if_pos (z.1 ▸ e)];exact ⟨z.1,r⟩
   ·rw [if_neg e,if_neg (z.1 ▸ e)];exact z
 ·exact h.snoc r
theorem PrK.dr {kvs:List (Str × α)} {vs:List (Str × β)} (h:PrK R kvs vs) (k:Str):PrK R (drL kvs k) (drL vs k):=by
 unfold drL
 induction h with
 | nil=>exact .nil
 | @cons p q kvs vs z _ ih =>
  rw [List.filter_cons,List.filter_cons,z.1]
  split
  ·exact .cons z ih
  ·exact ih
theorem PrK.len {kvs:List (Str × α)} {vs:List (Str × β)} (h:PrK R kvs vs):kvs.length=vs.length:=Paired.length h
theorem PrK.keys {kvs:List (Str × α)} {vs:List (Str × β)} (h:PrK R kvs vs):kvs.map (·.1)=vs.map (·.1):=by
 induction h with
 | nil=>rfl
 | cons r _ ih=>rw [List.map_cons,List.map_cons,ih,r.1]
end
theorem vaL_value (vs:List (Str × Value)) (k:Str):valueAt vs k=vaL vs k:=rfl
theorem str_is {P:Program} {w:World} {k:Str} {u:Value} (r:RelV (.str k) u):(PySem.strKind P w).is k u=true:=by
 obtain ⟨t,rfl⟩:=r
 simp [PySem.strKind,Value.isStrOf]
theorem is_str {P:Program} {w:World} {k:Str} {u:Value} (h:(PySem.strKind P w).is k u=true):RelV (.str k) u:=Value.isStrOf_shape h
section
variable {X:Cx} {pins:List (Addr × Obj)} {σ:St} {H:Hp} {s:Shared} {a:Addr} {A:Around} {E:Value→Shared→Prop} {kvs:List (Str × V)} {ep:Nat}
theorem dE_at (I:Inv X pins σ H s) (e:H a=some (.dE kvs ep)):kvs.length≤sizeLine∧(a == sysModules)=false∧∃ vs,PrK RelV kvs vs∧s.heap.DictAt (PySem.strKind X.prog X.w) a vs ep:=I.hok a _ e
theorem dE_write {h':Heap} {t':Nat} {kvs':List (Str × V)} {vs':List (Str × Value)} (I:Inv X pins σ H s) (e:H a=some (.dE kvs ep)) (hs:Heap.SameBut a s.heap h') (hz:kvs'.length≤sizeLine) (hd:(a == sysModules)=false) (rel:PrK RelV kvs' vs') (dd:h'.DictOf (PySem.strKind X.prog X.w) a vs') :
  ∃ ep',Inv X pins σ (upd H a (.dE kvs' ep')) { s with heap:=h',toks:=t' }:=by
 obtain ⟨ep',da⟩:=dd.dictAt
 refine ⟨ep',I.write (x:=a) (e:=a) (by rw [e];exact True.intro) (.inl rfl) (fun b q hb z=>(hs.2 b hb).trans z) (let ⟨q,_,_,hq,_⟩:=dd;⟨q,hq⟩) ⟨hz,hd,vs',rel,da⟩⟩
theorem Inv.big' (I:Inv X pins σ H s):sysModules < s.heap.objs.size:=by
 have h:mainGlobals < s.heap.objs.size:=(I.mod.glob.keeps I.bk).lt
 exact Nat.lt_trans (by decide) h
end
theorem keys_vals {P:Program} {w:World} {kvs:List (Str × V)} {vs:List (Str × Value)} (rel:PrK RelV kvs vs):∀ {us:List Value},us.length=kvs.length→(∀ (j:Nat) (v:Value),us[j]?=some v→∃ k x,vs[j]?=some (k,x)∧(PySem.strKind P w).is k v=true)→Vals (kvs.map fun kv=>V.str kv.1) us:=by
 induction rel with
 | nil =>
  intro us hlen _
  cases us with
  | nil=>exact .nil
  | cons _ _=>cases hlen
 | @cons p q kvs vs z _ ih =>
  intro us hlen hget
  cases us with
  | nil=>cases hlen
  | cons u us =>
   rw [List.map_cons]
   refine .cons ?_ (ih (by simpa using hlen) fun j v e=>?_)
   ·obtain ⟨k,x,e1,e2⟩:=hget 0 u rfl
    rw [List.getElem?_cons_zero] at e1
    cases e1
    rw [z.1];exact is_str e2
   ·obtain ⟨k,x,e1,e2⟩:=hget (j + 1) v (by rw [List.getElem?_cons_succ];exact e)
    rw [List.getElem?_cons_succ] at e1
    exact ⟨k,x,e1,e2⟩
def rIxD:R2:=fun x y H Q=>∃ a kvs ep k v,x=.ref a∧y=.str k∧H a=some (.dE kvs ep)∧vaL kvs k=some v∧Q v H
def rInD (f:Bool→Bool):R2:=fun x y H Q=>∃ a kvs ep k,x=.str k∧y=.ref a∧H a=some (.dE kvs ep)∧Q (.bl (f (vaL kvs k).isSome)) H
def rLenD:List V→Hp→VK→Prop:=fun xs H Q=>∃ a kvs ep,xs=[.ref a]∧H a=some (.dE kvs ep)∧Q (.int kvs.length) H
def rListD:List V→Hp→VK→Prop:=fun xs H Q=>∃ a kvs ep,xs=[.ref a]∧H a=some (.dE kvs ep)∧∀ p,H p=none→Q (.ref p) (upd H p (.lst (kvs.map fun kv=>.str kv.1)))
def rPopD:V→List V→Hp→VK→Prop:=fun x xs H Q=>∃ a kvs ep k v,x=.ref a∧xs=[.str k]∧H a=some (.dE kvs ep)∧vaL kvs k=some v∧∀ ep',Q v (upd H a (.dE (drL kvs k) ep'))
def rSetD:TSet:=fun o i v H Q=>∃ a kvs ep k,o=.ref a∧i=.str k∧H a=some (.dE kvs ep)∧kvs.length < sizeLine∧∀ ep',Q (upd H a (.dE (puL kvs k v) ep'))
def tNewD:TE:=fun _ H Q=>∀ p,H p=none→∀ ep,Q (.ref p) (upd H p (.dE [] ep))
section
variable {X:Cx}
theorem ix_dE:IxR X rIxD:=by
 intro value slice pins s σ H x y v u Q I rx ry q hs
 obtain ⟨a,kvs,ep,k,z,rfl,rfl,hp,hz,q⟩:=q
 cases rx
 obtain ⟨_,hd,vs,rel,da⟩:=dE_at I hp
 have hT:s.TypeIs (.ref a) "dict":=da.dictOf.typeIs
 obtain ⟨w',hw,rw'⟩:=(rel.va k).1 z hz
 unfold subscriptTail
 refine wpAny_bind ?_
 rw [getitemInPython_of_ne hT.not_modules]
 refine wpAny_bind (wpAny_specialOf hT PySem.F.slot_dict_getitem.lookup ?_)
 have fin:wpAny (model X.prog X.w) X.A (subscripted slice false (.ref a) u) (fun r s₃=>wpAny (model X.prog X.w) X.A (letTemporaryGo value (.ref a) r >>= fun _=>pure r) (EP X pins σ Q) X.xe s₃) X.xe s:=by
  rw [hs]
  exact wpAny_operating (wpAny_getItem_of (str_is ry) da.dictOf.mapOf hw (wpAny_bind (wpAny_letTemporaryGo (wpAny_pure ⟨z,H,I.tok _,rw',q⟩))))
 first
  | exact wpAny_pure (wpAny_bind fin)
  | exact wpAny_bind (wpAny_pure (wpAny_bind fin))
  | exact wpAny_bind fin
theorem op_inD:OpR X (compareOp .In) (rInD id):=by
 intro pins s σ H x y v u Q I rx ry ⟨a,kvs,ep,k,ex,ey,hp,q⟩
 subst ex ey
 cases ry
 obtain ⟨_,hd,vs,rel,da⟩:=dE_at I hp
 refine wpAny_in_of (str_is rx) hd da.dictOf.mapOf ?_
 exact ⟨.bl _,H,I.tok _,by rw [vaL_value,← (rel.va k).2];rfl,q⟩
theorem call_lenDE:CallR X (.builtin "len") rLenD:=by
 intro pins s σ H xs us Q I r ⟨a,kvs,ep,ex,hp,q⟩
 subst ex
 obtain ⟨u,rfl,ru⟩:=vals1 r
 cases ru
 obtain ⟨hz,hd,vs,rel,da⟩:=dE_at I hp
 have hl:=rel.len
 refine call_len_dict hd da.dictOf (by rw [← hl];rw [sizeLine_eq] at hz;omega) ?_
 rw [← hl]
 exact ⟨.int _,H,(I.tok _),⟨_,rfl⟩,q⟩
theorem call_listDE (hc:X.calm=true):CallR X (.type "list") rListD:=by
 intro pins s σ H xs us Q I r ⟨a,kvs,ep,ex,hp,q⟩
 subst ex
 obtain ⟨u,rfl,ru⟩:=vals1 r
 cases ru
 obtain ⟨hz,hd,vs,rel,da⟩:=dE_at I hp
 have hl:=rel.len
 refine PySem.W.kdl_call (PySem.W.kdl_dict (knd:=PySem.strKind X.prog X.w) (kvs:=vs) (ep:=ep) hd) (I.ok.hd hc) da (by rw [← hl];exact hz) fun h' tk acc c hk hS hacc=>?_
 have hkeys:Vals (kvs.map fun kv=>V.str kv.1) acc.toList:=by
  have hlen:acc.toList.length=kvs.length:=by rw [Array.length_toList,hacc.1,hl]
  have hget:∀ j v,acc.toList[j]?=some v→∃ k x,vs[j]?=some (k,x)∧(PySem.strKind X.prog X.w).is k v=true:=fun j v e=>hacc.2 j v (by rw [← Array.getElem?_toList];exact e)
  exact keys_vals rel hlen hget
 have I2:Inv X pins σ (upd H s.heap.objs.size (.lst (kvs.map fun kv=>V.str kv.1))) { s with heap:=h',toks:=tk } :=
  I.laid (t':=tk) hk (Nat.le_refl _) (show ObjOk X.prog X.w _ _ _ (.lst _) from ⟨by rw [List.length_map];exact hz,acc.toList,c,hkeys,by rw [Array.toArray_toList];exact hS⟩)
 exact ⟨.ref s.heap.objs.size,_,I2,rfl,q _ (I.hok.fresh (Nat.le_refl _))⟩
theorem mt_popD:MtR X "dict.pop" rPopD:=by
 intro pins s σ H x xs v us Q I rx r ⟨a,kvs,ep,k,z,ex,exs,hp,hv,q⟩
 subst ex exs
 cases rx
 obtain ⟨u,rfl,ru⟩:=vals1 r
 obtain ⟨hz,hd,vs,rel,da⟩:=dE_at I hp
 obtain ⟨w',hw,rw'⟩:=(rel.va k).1 z hv
 have hpart:(keyPart u).isSome=true:=by obtain ⟨t,q⟩:=(show ∃ t,u=Value.str k t from ru);subst q;rfl
 refine call_meetsIn PySem.F.slot_dict_pop da.dictOf.typeIs PySem.F.entry_dict_pop (PySem.F.args_dict_pop_2 _ _) (meets_dict_pop_there (PySem.strKind X.prog X.w) a (str_is ru) [] (.inl rfl) hpart)
  ⟨vs,w',da.dictOf,by rw [← rel.len];exact hz,hw,fun h' dd' hs=>?_⟩
 obtain ⟨ep',I2⟩:=dE_write (t':=s.toks + 1) I hp hs (Nat.le_trans (drL_len kvs k) hz) hd (rel.dr k) dd'
 exact ⟨z,_,I2,rw',q ep'⟩
theorem set_dE:PSet X rSetD:=by
 intro pins s σ H o i v ov iv u Q I ro ri rv ⟨a,kvs,ep,k,eo,ei,hp,hl,q⟩
 subst eo ei
 cases ro
 obtain ⟨hz,hd,vs,rel,da⟩:=dE_at I hp
 refine wpAny_setItem_pairs (hsz:=by rw [← rel.len];exact hz) (str_is ri) da.dictOf fun h' dd' hs=>?_
 obtain ⟨ep',I2⟩:=dE_write (t':=s.toks + 1) I hp hs (show (puL kvs k v).length≤sizeLine from Nat.le_trans (puL_len kvs k v) hl) hd (rel.pu rv) dd'
 exact ⟨_,I2,q ep'⟩
theorem pe_newD {pos:Pos}:PE X (.Dict [] [] pos) tNewD:=fun pins s σ H Q I h=>by
 have hd:(s.heap.push { cls:=.type "dict",data:=.dict #[] }).DictOf (PySem.strKind X.prog X.w) s.heap.objs.size []:=Heap.DictOf.new s.heap
 obtain ⟨ep,da⟩:=hd.dictAt
 exact wpAny_Dict_empty ⟨.ref s.heap.objs.size,_,I.laid (a:=s.heap.objs.size) (o:=.dE [] ep) (t':=s.toks) (fun _ _ q=>Heap.get?_push_of_some _ q) (Nat.le_refl _)
  ⟨Nat.zero_le _,beq_eq_false_iff_ne.mpr (Ne.symm (Nat.ne_of_lt I.big')),[],.nil,da⟩,rfl,h _ (I.hok.fresh (Nat.le_refl _)) ep⟩
end
def Itd (a:Addr) (ks:List Str) (ep:Nat):It :=
 ⟨fun i H=>(∃ kvs,H a=some (.dE kvs ep)∧kvs.map (·.1)=ks)∧i < ks.length,
  fun i H z H'=>H'=H∧∃ k,ks[i]?=some k∧z=.str k,
  fun i H=>(∃ kvs,H a=some (.dE kvs ep)∧kvs.map (·.1)=ks)∧ks.length≤i⟩
theorem turn_dict {P:Program} {w:World} {K:PySem.W.Frag} {tg:Expr} (a it:Addr) (ks:List Str) (ep:Nat):Turn P w K tg (Itd a ks ep) [it] it (fun i h=>h.IsKeyIter it a i ks.length ep) where
 mem:=by simp
 obj:=fun i h st b hb=>by
  have e:b=it:=by simpa using hb
  subst e
  obtain ⟨o,e,c,d⟩:=st
  exact ⟨o,e,fun v z=>by rw [d] at z;cases z⟩
 keep:=fun i h h' st k=>st.at fun o e=>k it (by simp) o e
 item:=by
  intro X hP hw hK hc i pins s σ H E I hf st hg
  subst hP hw hK
  obtain ⟨⟨kvs,hp,hks⟩,hi⟩:=hg
  obtain ⟨hz,hd,vs,rel,da⟩:=dE_at I hp
  have hl:ks.length=vs.length:=by rw [← hks,List.length_map];exact rel.len
  obtain ⟨f0,f1,f2,f3,f4,f5⟩:=hf it (by simp)
  obtain ⟨⟨k,x⟩,hx⟩:∃ p,vs[i]?=some p:=⟨vs[i]'(by omega),List.getElem?_eq_getElem (by omega)⟩
  have hk:ks[i]?=some k:=by rw [← hks,rel.keys,List.getElem?_map,hx];rfl
  refine wpAny_pyNext_dict_item (by rw [← hl];exact st) da hx fun key h' hkey st' sb=>?_
  rw [← hl] at st'
  have I1:Inv X pins σ H { s with heap:=h' }:=I.turned (t':=s.toks) (fun b o hb e=>(sb.2 b hb).trans e) f0 f1 f3 f4 f5
  obtain ⟨o,e,c,d⟩:=id st'
  exact ⟨key,rfl,go_of (s:={ s with heap:=h' }) e c d (by decide) ⟨.str k,H,I1,is_str hkey,⟨rfl,k,hk,rfl⟩,st',fun b hb=>(hf b hb).1⟩⟩
 done:=by
  intro X hP hw hK hc i pins s σ H E I hf st hg
  subst hP hw hK
  obtain ⟨⟨kvs,hp,hks⟩,hi⟩:=hg
  obtain ⟨hz,hd,vs,rel,da⟩:=dE_at I hp
  have hl:ks.length=vs.length:=by rw [← hks,List.length_map];exact rel.len
  obtain ⟨f0,f1,f2,f3,f4,f5⟩:=hf it (by simp)
  refine wpAny_pyNext_dict_end (I.ok.hd hc) (by rw [← hl];exact st) da (by rw [List.getElem?_eq_none_iff];omega) fun h' hk=>⟨rfl,I.turned (t':=s.toks) (fun b o hb e=>hk b o hb e) f0 f1 f3 f4 f5⟩
 self:=fun _ _ _ _ _ st h=>wpAny_pyIter_keyiter st h
def iDict (td:TE):TI:=fun σ H R=>td σ H fun x H1=>∃ a kvs ep,x=.ref a∧H1 a=some (.dE kvs ep)∧R (Itd a (kvs.map (·.1)) ep) H1
theorem pi_dict {X:Cx} {tg l:Expr} {tl:TE} (hl:PE X l tl):PI X tg l (iDict tl):=by
 intro pins s σ H R I h
 refine thn (hl pins s σ H _ I h) fun v s1 ⟨x,H1,I1,r1,q1⟩=>?_
 obtain ⟨a,kvs,ep,e,hp,q⟩:=q1
 subst e
 cases r1
 obtain ⟨hz,hd,vs,rel,da⟩:=dE_at I1 hp
 refine wpAny_pyIter_dict hd da ?_
 refine ⟨s1.heap.objs.size,[s1.heap.objs.size],_,_,H1,rfl,I1.kept (t':=s1.toks) fun b o e=>Heap.get?_push_of_some _ e,turn_dict a _ (kvs.map (·.1)) ep,⟨_,Heap.get?_push_size _ rfl,rfl,by rw [List.length_map,rel.len];rfl⟩,fun b hb=>?_,q⟩
 have e:b=s1.heap.objs.size:=by simpa using hb
 subst e
 exact I1.fpOk (Nat.le_refl _) (I1.hok.fresh (Nat.le_refl _))
end L2
namespace Ov
open PySem PySem.Spec PyProof.Rows L2
def PTs (X:Cx) (ifs:List Expr) (t:TT):Prop :=
 ∀ (pins:List (Addr × Obj)) (s:Shared) (σ:L2.St) (H:Hp) (Q:Bool→Hp→Prop),Inv X pins σ H s→t σ H Q →
  wpAny (model X.prog X.w) X.A (forIn ifs true fun c r=>if r=true then do let ok ← isTrue c X.env (eval c X.env);pure (ForInStep.yield ok) else pure (ForInStep.yield r)) (TP X pins σ Q) X.xe s
theorem pts_nil {X:Cx}:PTs X [] (fun _ H Q=>Q true H):=fun pins s σ H Q I h=>by rw [List.forIn_nil];exact wpAny_pure ⟨H,I,h⟩
section
variable {prog:Program} {w:World} {A:Around} {R:Result→Shared→Prop} {s:Shared}
theorem loop_compD {kx vx iter:Expr} {ifs:List Expr} {x:Str} {px:Pos} {sc:Scope} {pos:Pos} {it:Value} {D:Addr} {env:Env} (I:Nat→Shared→Prop)
  (turn:∀ n s,I n s→wpAny (model prog w) A (pyNext it) (fun r s₁=>match r with
   | none=>R (.ok .next) s₁
   | some v=>wpAny (model prog w) A (letOwnedTupleGo (.Name x px) it v) (fun _ s₂=>wpAny (model prog w) A (assign (.Name x px) env v) (fun _ s₃=>wpAny (model prog w) A (forIn ifs true fun c r=>if r=true then do let ok ← isTrue c env (eval c env);pure (ForInStep.yield ok) else pure (ForInStep.yield r)) (fun ok s₃=>if ok=true then wpAny (model prog w) A (eval kx env) (fun kv s₄ =>
     wpAny (model prog w) A (eval vx env) (fun vv s₅=>wpAny (model prog w) A (dictSet D kv vv) (fun _ s₅=>∃ m,m < n∧I m s₅) (fun _ _=>False) s₅) (fun _ _=>False) s₄) (fun _ _=>False) s₃ else ∃ m,m < n∧I m s₃) (fun _ _=>False) s₃) (fun _ _=>False) s₂) (fun _ _=>False) s₁) (fun _ _=>False) s)
  (n:Nat) (h:I n s):codeAny (model prog w) A (.compLoop (.DictComp kx vx [⟨.Name x px,iter,ifs,0⟩] sc pos) 0 it (.ref D) env) R s:=by
 refine codeAny_loop rfl I (fun n s hI=>?_) n h
 show wpAny _ _ ((compTurn (.DictComp kx vx [⟨.Name x px,iter,ifs,0⟩] sc pos) 0 it (.ref D) env).onRaise (fun x=>do noteFrame x env;theTreesLotGoes x)) _ _ s
 refine wpAny_noted ?_
 rw [compTurn_dict]
 have no:∀ (e:Value) (s':Shared),False→notedBy (model prog w) A env (fun e s'=>R (.error e) s') e s':=fun _ _ z=>z.elim
 refine wpAny_bind (wpAny_standAt (wpAny_bind (wpAny_mono (turn n s hI) (fun r s₁ h₁=>?_) no)))
 cases r with
 | none=>exact wpAny_pure h₁
 | some v =>
  refine wpAny_bind (wpAny_mono h₁ (fun _ s₂ h₂=>?_) no)
  refine wpAny_bind (wpAny_mono h₂ (fun _ s₃ h₃=>wpAny_bind (wpAny_mono h₃ (fun ok s₃' h₃'=>?_) no)) no)
  cases ok with
  | false=>exact wpAny_pure ⟨rfl,h₃'⟩
  | true =>
   exact wpAny_bind (wpAny_bind (wpAny_mono h₃' (fun kv s₄ h₄=>wpAny_bind (wpAny_holding (wpAny_mono h₄ (fun vv s₅ h₅=>wpAny_bind (wpAny_standAt (wpAny_holding (wpAny_mono h₅ (fun _ s₆ h₆=>wpAny_pure ⟨rfl,h₆⟩) no)))) no))) no))
end
def tDC (wi:TI) (ks:List (Str × Nat)) (tc:TT) (tk te:TE):TE:=fun σ H Q=>wi σ H fun J H1=>∀ D,H1 D=none→∀ ep,∃ W:Nat→Nat→Hp→Prop,(∃ m,W 0 m (upd H1 D (.dE [] ep))) ∧
 ∀ i m H2,W i m H2→(J.stop i H2∧Q (.ref D) H2)∨(J.go i H2∧∀ v H3,J.yld i H2 v H3→tc (some v :: selC ks σ) H3 fun b H4=>if b=true then tk (some v :: selC ks σ) H4 fun y H5=>te (some v :: selC ks σ) H5 fun z H6=>∃ kvs ep k,y=.str k∧H6 D=some (.dE kvs ep)∧kvs.length < sizeLine∧∃ m',m' < m∧∀ ep',W (i + 1) m' (upd H6 D (.dE (L2.puL kvs k z) ep')) else ∃ m',m' < m∧W (i + 1) m' H4)
section
variable {X:Cx}
theorem run_compD {kx vx iter:Expr} {ifs:List Expr} {x:Str} {px:Pos} {sc:Scope} {pos:Pos} {tk te:TE} {tc:TT} {ks:List (Str × Nat)} {cl:List (Str × Addr)} {pins:List (Addr × Obj)} {σ:L2.St} {H:Hp} {s:Shared} {it:Addr} {fp:List Addr} {tn:Nat→Heap→Prop} {J:It} {Q:VK}
  {RR:Value→Addr→Result→Shared→Prop} {E:Value→Shared→Prop}
  (hc:X.calm=true) (ok:CompOk sc X.env.scope X.N x ks) (h1:∀ y c,cl.lookup y=some c→X.env.cells.lookup y=some c) (h2:∀ y∈sc.names,y.2=.free→∃ c,cl.lookup y.1=some c)
  (hk:∀ cl C s₀ H₀ fp pins,PE (cxC X sc cl C x ks s₀ H₀ fp pins) kx tk) (he:∀ cl C s₀ H₀ fp pins,PE (cxC X sc cl C x ks s₀ H₀ fp pins) vx te) (hcn:∀ cl C s₀ H₀ fp pins,PTs (cxC X sc cl C x ks s₀ H₀ fp pins) ifs tc)
  (I:Inv X pins σ H s) (T:Turn X.prog X.w X.K (.Name x px) J fp it tn) (st:tn 0 s.heap) (f:∀ b∈fp,FpOk X pins H b)
  (hw:∀ D,H D=none→∀ ep,∃ W:Nat→Nat→Hp→Prop,(∃ m,W 0 m (upd H D (.dE [] ep)))∧∀ i m H2,W i m H2→(J.stop i H2∧Q (.ref D) H2) ∨
   (J.go i H2∧∀ v H3,J.yld i H2 v H3→tc (some v :: selC ks σ) H3 fun b H4=>if b=true then tk (some v :: selC ks σ) H4 fun y H5=>te (some v :: selC ks σ) H5 fun z H6=>∃ kvs ep k,y=.str k∧H6 D=some (.dE kvs ep)∧kvs.length < sizeLine∧∃ m',m' < m∧∀ ep',W (i + 1) m' (upd H6 D (.dE (L2.puL kvs k z) ep')) else ∃ m',m' < m∧W (i + 1) m' H4))
  (hR:∀ (D C:Addr) (s':Shared) (H':Hp) (m:Str→Option Value),Inv X pins σ H' s'→Q (.ref D) H'→s'.heap.Ns C m→H' C=none→C≠X.env.locals→X.s₀.heap.objs.size≤C→(∀ y c,X.env.cells.lookup y=some c→c≠C)→(∀ p∈X.pn ++ pins,p.1≠C)→RR (.ref D) C (.ok .next) s') :
  wpAny (model X.prog X.w) X.A newDict (fun acc s₃=>wpAny (model X.prog X.w) X.A (newFunctionEnv sc X.env.globals cl [] X.env.qual none .none (some X.env)) (fun cenv s₄ =>
   codeAny (model X.prog X.w) X.A (.compStart (.DictComp kx vx [⟨.Name x px,iter,ifs,0⟩] sc pos) 0 (.ref it) acc { cenv with scope:=relabel sc X.env }) (RR acc cenv.locals) s₄) E s₃) E s:=by
 have okk:=ok
 obtain ⟨kd,nc,lx,ll,fr,kk,nd⟩:=okk
 have hD0:H s.heap.objs.size=none:=I.hok.fresh (Nat.le_refl _)
 have hdd:(s.heap.push { cls:=.type "dict",dict:=none,data:=.dict #[] }).DictOf (PySem.strKind X.prog X.w) s.heap.objs.size []:=Heap.DictOf.new s.heap
 obtain ⟨ep0,da⟩:=hdd.dictAt
 obtain ⟨W,⟨m0,w0⟩,turn⟩:=hw s.heap.objs.size hD0 ep0
 refine wpAny_newObj_type ?_
 have I3:Inv X pins σ (upd H s.heap.objs.size (.dE [] ep0)) { s with heap:=s.heap.push { cls:=.type "dict",dict:=none,data:=.dict #[] } } :=
  I.laid (t':=s.toks) (fun b u e=>Heap.get?_push_of_some _ e) (Nat.le_refl _) ⟨Nat.zero_le _,beq_eq_false_iff_ne.mpr (Ne.symm (Nat.ne_of_lt I.big')),[],.nil,da⟩
 have st3:tn 0 (s.heap.push { cls:=.type "dict",dict:=none,data:=.dict #[] }):=T.keep 0 _ _ st fun b hb o e=>Heap.get?_push_of_some _ e
 clear da hdd
 generalize hD:s.heap.objs.size=D at *
 generalize hH:upd H D (.dE [] ep0)=H3 at *
 generalize hs3:({ s with heap:=s.heap.push { cls:=.type "dict",dict:=none,data:=.dict #[] } }:Shared)=s3 at *
 have e3:s.heap.push { cls:=.type "dict",dict:=none,data:=.dict #[] }=s3.heap:=by rw [← hs3]
 rw [e3] at st3
 have fD:∀ b∈fp,b≠D:=fun b hb z=>by
  obtain ⟨o,ho,_⟩:=T.obj 0 _ st b hb
  have:=Heap.lt_size ho
  rw [z,← hD] at this
  exact Nat.lt_irrefl _ this
 have f3:∀ b∈fp,FpOk X pins H3 b:=fun b hb=>⟨by rw [← hH,upd_ne (fD b hb)];exact (f b hb).1,(f b hb).2⟩
 have g3:∀ b∈fp,∃ o,s3.heap.get? b=some o:=fun b hb=>by
  obtain ⟨o,ho,_⟩:=T.obj 0 _ st3 b hb
  exact ⟨o,ho⟩
 refine wpAny_newFunctionEnv nc (by intro y hy;simp at hy) (fun h₁ hns hsb=>?_) kd
 have kp:∀ b o,s3.heap.get? b=some o→h₁.get? b=some o:=fun b o e=>hsb.extBut b o (Nat.ne_of_lt (Heap.lt_size e)) (Heap.get?_push_of_some _ e)
 have J0:=inv_comp (fp:=fp) (cl:=cl) (t':=s3.toks + ([]:List (Str × Value)).length) I3 ok h1 h2 (fun b hb=>⟨f3 b hb,g3 b hb⟩) hns kp
 have st4:tn 0 h₁:=T.keep 0 _ _ st3 fun b hb o e=>kp b o e
 have ltC:∀ b o,s3.heap.get? b=some o→b≠s3.heap.objs.size:=fun b o e=>Nat.ne_of_lt (Heap.lt_size e)
 have cC:∀ y c,X.env.cells.lookup y=some c→c≠s3.heap.objs.size:=fun y c e=>by
  obtain ⟨v,o,ho,_⟩:=I3.cell y c e
  exact ltC c o ho
 have pC:∀ p∈X.pn ++ pins,p.1≠s3.heap.objs.size:=fun p hp=>ltC _ _ (I3.pin p hp).1
 have lC:s3.heap.objs.size≠X.env.locals:=Nat.ne_of_gt I3.lt
 have fX:∀ {H':Hp},(∀ b∈fp,H' b=none)→∀ b∈fp,FpOk (cxC X sc cl s3.heap.objs.size x ks s3 H3 fp pins) [] H' b:=fun hn b hb=>by
  obtain ⟨o,ho⟩:=g3 b hb
  obtain ⟨_,q1,q2,q3,q4,q5⟩:=f b hb
  refine ⟨hn b hb,ltC b o ho,fun z=>?_,.inl hb,fun y c e=>q4 y c (h1 y c e),fun p hp=>q5 p (by simpa [cxC] using hp)⟩
  rcases List.mem_cons.mp (I3.stkSub b z) with e | e
  ·exact q1 e
  ·exact q2 e
 have back:∀ {o:Option V} {H':Hp} {s':Shared},Inv (cxC X sc cl s3.heap.objs.size x ks s3 H3 fp pins) [] (o :: selC ks σ) H' s'→Inv X pins σ H' s':=fun {o H' s'} J=>by
  obtain ⟨hh,g,d,t,os'⟩:=s'
  obtain rfl:os'=s3.os:=J.os
  exact I3.call (h':=hh) (g':=g) (d':=d) (t':=t) (ch:=fp) J.base J.hok J.bare fun b hb=>⟨(f b hb).2.2.2.1,(f b hb).2.1,(f b hb).2.2.2.2.1,(f b hb).2.2.2.2.2⟩
 have lookX:(relabel sc X.env).names.lookup x=some .local:=lookup_relabel_local lx
 have loop:∀ s',(∃ (i:Nat) (o:Option V) (H':Hp),Inv (cxC X sc cl s3.heap.objs.size x ks s3 H3 fp pins) [] (o :: selC ks σ) H' s'∧tn i s'.heap∧(∀ b∈fp,H' b=none)∧W i m0 H') →
   codeAny (model X.prog X.w) X.A (.compLoop (.DictComp kx vx [⟨.Name x px,iter,ifs,0⟩] sc pos) 0 (.ref it) (.ref D) (compEnvC sc cl s3.heap.objs.size X.env)) (RR (.ref D) s3.heap.objs.size) s':=by
  intro s' hs'
  refine loop_compD (fun n s'=>∃ (i:Nat) (o:Option V) (H':Hp),Inv (cxC X sc cl s3.heap.objs.size x ks s3 H3 fp pins) [] (o :: selC ks σ) H' s'∧tn i s'.heap∧(∀ b∈fp,H' b=none)∧W i n H') ?_ m0 hs'
  rintro n s5 ⟨i,o,H5,J5,t5,n5,w5⟩
  rcases turn i n H5 w5 with ⟨stop,hq⟩ | ⟨go,step⟩
  ·refine thn (T.done (cxC X sc cl s3.heap.objs.size x ks s3 H3 fp pins) rfl rfl rfl hc i [] s5 _ H5 _ J5 (fX n5) t5 stop) fun r s6 ⟨hr,J6⟩=>?_
   subst hr
   obtain ⟨m,hm,_⟩:=J6.loc
   exact hR D _ s6 H5 m (back J6) hq hm J6.free lC I3.sz cC pC
  ·refine thn (T.item (cxC X sc cl s3.heap.objs.size x ks s3 H3 fp pins) rfl rfl rfl hc i [] s5 _ H5 _ J5 (fX n5) t5 go) fun r s6 ⟨u,hr,h6⟩=>?_
   subst hr
   refine thn h6 fun _ s7 ⟨v,H7,J7,r7,y7,t7,n7⟩=>?_
   have J7':=J7.pinned (fX n7) (T.obj _ _ t7)
   refine wpAny_assign_Name (store_ok (X:=cxC X sc cl s3.heap.objs.size x ks s3 H3 fp pins) (i:=0) J7' nd rfl (.inl lookX) r7 (fun s8 J8=>?_) (.inr lookX))
   refine thn (hcn cl s3.heap.objs.size s3 H3 fp pins _ s8 _ H7 _ J8 (step v H7 y7)) fun ok s8' ⟨H8,J8',q8⟩=>?_
   cases ok with
   | false =>
    simp only [Bool.false_eq_true,if_false] at q8 ⊢
    obtain ⟨m',hm,w'⟩:=q8
    refine ⟨m',hm,i + 1,_,_,J8'.unpinned,?_,?_,w'⟩
    ·exact T.keep _ _ _ t7 fun b hb o e=>(J8'.pin (b,o) (List.mem_append_right _ (List.mem_append_right _ (mem_pinsAt hb e)))).1
    ·intro b hb
     obtain ⟨o,e,d⟩:=T.obj _ _ t7 b hb
     exact (J8'.pin (b,o) (List.mem_append_right _ (List.mem_append_right _ (mem_pinsAt hb e)))).2.1
   | true =>
    simp only [if_true] at q8 ⊢
    refine thn (hk cl s3.heap.objs.size s3 H3 fp pins _ s8' _ H8 _ J8' q8) fun ky s8'' ⟨vk,H8',J8'',rk,q8'⟩=>?_
    refine thn (he cl s3.heap.objs.size s3 H3 fp pins _ s8'' _ H8' _ J8'' q8') fun y s9 ⟨vy,H9,J9,r9,kvs,ep,k,ek,hys,hz,m',hm,w'⟩=>?_
    subst ek
    obtain ⟨hz',hd',vs,rel,da⟩:=dE_at J9 hys
    refine wpAny_dictSet_pairs (hsz:=by rw [← rel.len];exact hz') (str_is rk) da.dictOf fun h' dd' hsb=>?_
    obtain ⟨ep',J10⟩:=dE_write (t':=s9.toks + 1) J9 hys hsb (show (L2.puL kvs k vy).length≤sizeLine from Nat.le_trans (puL_len kvs k vy) hz) hd' (rel.pu r9) dd'
    refine ⟨m',hm,i + 1,_,_,J10.unpinned,?_,?_,w' ep'⟩
    ·exact T.keep _ _ _ t7 fun b hb o e=>(J10.pin (b,o) (List.mem_append_right _ (List.mem_append_right _ (mem_pinsAt hb e)))).1
    ·intro b hb
     obtain ⟨o,e,d⟩:=T.obj _ _ t7 b hb
     exact (J10.pin (b,o) (List.mem_append_right _ (List.mem_append_right _ (mem_pinsAt hb e)))).2.1
 have l0:=loop _ ⟨0,none,H3,J0,st4,fun b hb=>(f3 b hb).1,w0⟩
 exact codeAny_compStart_dict l0 (T.self _ 0 _ _ _ st4 l0)
theorem pe_dc {kx vx iter:Expr} {ifs:List Expr} {x:Str} {px:Pos} {sc:Scope} {pos:Pos} {wi:TI} {tk te:TE} {tc:TT} (osc:Scope) (N:List Str) (ks:List (Str × Nat)) (hc:X.calm=true) (ho:X.env.scope=osc) (hN:X.N=N) (hi:PI X (.Name x px) iter wi)
  (hk:∀ cl C s₀ H₀ fp pins,PE (cxC X sc cl C x ks s₀ H₀ fp pins) kx tk) (he:∀ cl C s₀ H₀ fp pins,PE (cxC X sc cl C x ks s₀ H₀ fp pins) vx te) (hcn:∀ cl C s₀ H₀ fp pins,PTs (cxC X sc cl C x ks s₀ H₀ fp pins) ifs tc) (ok:CompOk sc osc N x ks:=by decide +kernel) (hs:∀ x,foldedSetIterable iter X.env x=pure x:=by intro _;rfl) :
  PE X (.DictComp kx vx [⟨.Name x px,iter,ifs,0⟩] sc pos) (tDC wi ks tc tk te):=by
 intro pins s σ H Q I hw
 obtain ⟨cl,hcl,h1,h2⟩:=closure_at (osc_free ok I ho)
 have ok':CompOk sc X.env.scope X.N x ks:=by rw [ho,hN];exact ok
 rw [arm_eval_DictComp]
 refine wpAny_comprehension_free (use:=none) rfl hs hcl ok.1 ok.2.2.2.1 (thn (hi pins s σ H _ I hw) fun v s1 h3=>thn h3 fun itv s2 h4=>?_)
 obtain ⟨it,fp,tn,J,H2,rfl,I2,T,st2,f2,hR⟩:=h4
 refine run_compD (RR:=fun acc C=>compPost (model X.prog X.w) X.A X.xe none (EP X pins σ Q) acc C) hc ok' h1 h2 hk he hcn I2 T st2 f2 hR ?_
 intro D C s' H' m J' q hn hC cl' cs cc cp
 refine ⟨m,hn,fun h' hsb=>⟨.ref D,H',?_,rfl,q⟩⟩
 exact J'.turned (t':=s'.toks) (it:=C) (fun b o ne e=>hsb.extBut b o ne e) hC cl' (.inr cs) cc cp
end
end Ov
namespace Ov
open PySem PySem.Spec PyProof.Rows
open L2 (V HO Hp Inv Cx VK XK TE TT TA TS TG TGs TI TO TSet Ends Vis Loc Gl Rd RelV Vals OpR UnR CallR IxR SlR MtR PSet R2 upd upd_same upd_ne SqL SqT Sp CXT It Same PlainIx Room Passes Cls NoAttr Meth Mk Binds FnOk Fun FnScope atI TyOf putF vaL puL drL PrK)
section
variable {K:PySem.W.Frag} {J:Hq} {H:Hp}
theorem repF_prk:∀ {kvs:List (Str × PV)} {gs:List (Str × V)},RepF K J H kvs gs→PrK (RepV K J H) kvs gs
 | [],[],_=>.nil
 | [],_ :: _,h=>by cases h.1
 | _ :: _,[],h=>by cases h.1
 | (k,y) :: fs,(k',w) :: gs,h=>by
  obtain ⟨h1,v',us,h2,h3,h4⟩:=h
  simp only [List.map_cons,List.cons.injEq] at h1 h2
  obtain ⟨rfl,h1⟩:=h1
  obtain ⟨rfl,rfl⟩:=h2
  exact .cons ⟨rfl,h3⟩ (repF_prk ⟨h1,h4⟩)
theorem prk_repF:∀ {kvs:List (Str × PV)} {gs:List (Str × V)},PrK (RepV K J H) kvs gs→RepF K J H kvs gs
 | _,_,.nil=>⟨rfl,rfl⟩
 | _,_,.cons (a:=p) (b:=q) r t=>by
  obtain ⟨h1,h2⟩:=prk_repF t
  exact ⟨by rw [List.map_cons,List.map_cons,h1,r.1],q.2,_,rfl,r.2,h2⟩
theorem Ext.wroteD {p:Addr} {kvs kvs':List (Str × PV)} {gs gs':List (Str × V)} {ep ep':Nat} (h:J p=some (.dct kvs ep)) (k:H p=some (.dE gs ep)):Ext K J H (put J p (.dct kvs' ep')) (upd H p (.dE gs' ep')):=by
 have sm:∀ a u,a≠p→Rd H a u→Rd (upd H p (.dE gs' ep')) a u:=fun a u ne z=>by
  rcases z with z | ⟨o,z⟩
  ·exact .inl (by rw [upd_ne ne];exact z)
  ·exact .inr ⟨o,by rw [upd_ne ne];exact z⟩
 refine ⟨fun a vs' z=>?_,fun a o z q _=>?_⟩
 ·rcases z with z | z
  ·have ne:a≠p:=by
    intro e;subst e
    rcases z with z | ⟨o,z⟩
    ·rw [k] at z;cases z
    ·rw [k] at z;cases z
   exact .inl (sm a _ ne z)
  ·exact .inr z
 ·have ne:a≠p:=by intro e;subst e;rw [h] at z;cases z
  exact ⟨by rw [put_ne ne];exact z,by rw [upd_ne ne];exact q⟩
theorem Rep.wroteD {p:Addr} {kvs kvs':List (Str × PV)} {gs gs':List (Str × V)} {ep ep':Nat} (r:Rep K J H) (h:J p=some (.dct kvs ep)) (k:H p=some (.dE gs ep)) (q:PrK (RepV K J H) kvs' gs'):Rep K (put J p (.dct kvs' ep')) (upd H p (.dE gs' ep')):=by
 have e:=Ext.wroteD (K:=K) (kvs':=kvs') (gs':=gs') (ep':=ep') h k
 refine r.upto e p (fun a ne=>put_ne ne) (fun a o ne _ z=>by rw [upd_ne ne];exact z) fun u z=>?_
 rw [put_same] at z;cases z
 exact ⟨gs',upd_same,e.repF (prk_repF q)⟩
theorem Rep.laidD {p:Addr} {ep:Nat} (r:Rep K J H) (n:H p=none):Rep K (put J p (.dct [] ep)) (upd H p (.dE [] ep)):=by
 have e:=Ext.laid (K:=K) (J:=J) (o:=.dE [] ep) (u:=.dct [] ep) n
 refine r.upto e p (fun a ne=>put_ne ne) (fun a o ne _ z=>by rw [upd_ne ne];exact z) fun u z=>?_
 rw [put_same] at z;cases z
 exact ⟨[],upd_same,⟨rfl,rfl⟩⟩
end
def qIxD:R2r:=fun x y J Q=>∃ a kvs ep k v,x=.ref a∧y=.str k∧J a=some (.dct kvs ep)∧vaL kvs k=some v∧Q v J
def qInD (f:Bool→Bool):R2r:=fun x y J Q=>∃ a kvs ep k,x=.str k∧y=.ref a∧J a=some (.dct kvs ep)∧Q (.bl (f (vaL kvs k).isSome)) J
def qLenD:RLr:=fun xs J Q=>∃ a kvs ep,xs=[.ref a]∧J a=some (.dct kvs ep)∧Q (.int kvs.length) J
def qListD:RLr:=fun xs J Q=>∃ a kvs ep,xs=[.ref a]∧J a=some (.dct kvs ep)∧Q (.fl (kvs.map fun kv=>.str kv.1)) J
def qPopD:RMr:=fun x xs J Q=>∃ a kvs ep k v,x=.ref a∧xs=[.str k]∧J a=some (.dct kvs ep)∧vaL kvs k=some v∧∀ ep',Q v (put J a (.dct (drL kvs k) ep'))
def qSetD:TStr:=fun o i y J R=>∃ a kvs ep k,o=.ref a∧i=.str k∧J a=some (.dct kvs ep)∧kvs.length < sizeLine∧∀ ep',R (put J a (.dct (puL kvs k y) ep'))
def rNewD:TEr:=fun _ J Q=>∀ p,J p=none→∀ ep,Q (.ref p) (put J p (.dct [] ep))
def iDc (te:TEr):TIr:=fun τ J R=>te τ J fun x J1=>∃ a kvs ep,x=.ref a∧J1 a=some (.dct kvs ep)∧R ⟨kvs.map fun kv=>.str kv.1,fun J'=>J' a=some (.dct kvs ep)⟩ J1
section
variable {X:Cx} {G:G2}
theorem iq_ixD:IxL X qIxD:=⟨_,L2.ix_dE,fun J H x y v w Q2 Q rx ry r ⟨a,kvs,ep,k,z,ex,ey,ja,hz,q⟩ kn=>by
 subst ex ey
 cases rx;cases ry
 obtain ⟨gs,h1,h2⟩:=r _ _ ja
 obtain ⟨u,hu,ru⟩:=((repF_prk h2).va k).1 z hz
 exact ⟨a,gs,ep,k,u,rfl,rfl,h1,hu,kn z J u H ru r .refl q⟩⟩
theorem lr_inD (f:Bool→Bool):LR X.K (L2.rInD f) (qInD f):=fun J H x y v w Q2 Q rx ry r ⟨a,kvs,ep,k,ex,ey,ja,q⟩ kn=>by
 subst ex ey
 cases rx;cases ry
 obtain ⟨gs,h1,h2⟩:=r _ _ ja
 exact ⟨a,gs,ep,k,rfl,rfl,h1,by rw [← ((repF_prk h2).va k).2];exact kn (.bl _) J _ H rfl r .refl q⟩
theorem oq_inD:OpL X (compareOp .In) (qInD id):=⟨_,L2.op_inD,lr_inD id⟩
theorem cq_lenD:CaL X (.builtin "len") qLenD:=⟨_,L2.call_lenDE,fun J H xs vs Q2 Q rs r ⟨a,kvs,ep,ex,ja,q⟩ k=>by
 subst ex;obtain ⟨v,us,rfl,rv,e⟩:=rs;cases e;cases rv
 obtain ⟨gs,h1,h2⟩:=r _ _ ja
 exact ⟨a,gs,ep,rfl,h1,by rw [← (repF_prk h2).len];exact k (.int _) J _ H rfl r .refl q⟩⟩
theorem reps_keys {K:PySem.W.Frag} {J:Hq} {H:Hp}:∀ {ks:List Str},RepVs K J H (ks.map PV.str) (ks.map V.str)
 | []=>rfl
 | k :: ks=>⟨_,_,rfl,rfl,reps_keys (ks:=ks)⟩
theorem cq_listD (hc:X.calm=true):CaL X (.type "list") qListD:=⟨_,L2.call_listDE hc,fun J H xs vs Q2 Q rs r ⟨a,kvs,ep,ex,ja,q⟩ k=>by
 subst ex;obtain ⟨v,us,rfl,rv,e⟩:=rs;cases e;cases rv
 obtain ⟨gs,h1,h2⟩:=r _ _ ja
 refine ⟨a,gs,ep,rfl,h1,fun p hp=>?_⟩
 have hk:RepVs X.K J H (kvs.map fun kv=>PV.str kv.1) (gs.map fun kv=>V.str kv.1):=by
  have:=(repF_prk h2).keys
  rw [show (kvs.map fun kv=>PV.str kv.1)=(kvs.map (·.1)).map PV.str by rw [List.map_map];rfl,show (gs.map fun kv=>V.str kv.1)=(gs.map (·.1)).map V.str by rw [List.map_map];rfl,this]
  exact reps_keys
 obtain ⟨x1,x2,x3⟩:=new_fl r hk hp
 exact k _ J _ _ x1 x2 x3 q⟩
theorem mq_popD:MtL X "dict" "dict.pop" qPopD:=⟨_,L2.mt_popD,fun J H x xs v vs Q2 Q rx rs r ⟨a,kvs,ep,k,z,ex,exs,ja,hz,q⟩ kn=>by
 subst ex exs;cases rx
 obtain ⟨u,us,rfl,ru,e⟩:=rs;cases e;cases ru
 obtain ⟨gs,h1,h2⟩:=r _ _ ja
 have pk:=repF_prk h2
 obtain ⟨y,hy,ry⟩:=(pk.va k).1 z hz
 refine ⟨a,gs,ep,k,y,rfl,rfl,h1,hy,fun ep'=>?_⟩
 have e2:=Ext.wroteD (K:=X.K) (kvs':=drL kvs k) (gs':=drL gs k) (ep':=ep') ja h1
 exact kn z _ y _ (e2.rep ry) (r.wroteD ja h1 (pk.dr k)) e2 (q ep')⟩
theorem st_dict:StL X qSetD:=⟨_,L2.set_dE,fun J H o i y ov iv u R2 R ro ri ry r ⟨a,kvs,ep,k,eo,ei,ja,hl,q⟩ kk=>by
 subst eo ei;cases ro;cases ri
 obtain ⟨gs,h1,h2⟩:=r _ _ ja
 have pk:=repF_prk h2
 refine ⟨a,gs,ep,k,rfl,rfl,h1,by rw [← pk.len];exact hl,fun ep'=>?_⟩
 exact kk _ _ (r.wroteD ja h1 (pk.pu ry)) (Ext.wroteD (K:=X.K) ja h1) (q ep')⟩
theorem re_newD {pos:Pos}:RE X G (.Dict [] [] pos) rNewD:=⟨peW L2.pe_newD fun σ H Q ⟨τ,J,Q2,a2,q,k⟩ p hp ep=>k (.ref p) _ _ _ rfl (a2.hp.laidD hp) (.laid hp) (q p (a2.hp.free hp) ep)⟩
theorem ri_dict {tg l:Expr} {tl:TEr} (hl:RE X G l tl):RI X G tg l (iDc tl):=⟨piW (L2.pi_dict hl.run) fun σ H R ⟨τ,J,R2,a2,h,k⟩=>⟨τ,J,_,a2,h,fun x J1 v H1 rx r1 e1 ⟨a,kvs,ep,ex,ja,q⟩=>by
 subst ex;cases rx
 obtain ⟨gs,h1,h2⟩:=r1 _ _ ja
 have pk:=repF_prk h2
 have hl':=pk.len
 refine ⟨a,gs,ep,rfl,h1,k _ J1 _ H1 ?_ r1 e1 q⟩
 have hks:=pk.keys
 have key:∀ J' H',Rep X.K J' H'→J' a=some (.dct kvs ep)→∃ gs',H' a=some (.dE gs' ep)∧gs'.map (·.1)=gs.map (·.1):=fun J' H' r o=>by
  obtain ⟨gs',h1',h2'⟩:=r _ _ o
  exact ⟨gs',h1',by rw [← (repF_prk h2').keys,hks]⟩
 exact {
  go:=fun J' H' e r o i hi=>⟨key J' H' r o,by rw [List.length_map] at hi ⊢;omega⟩
  yl:=fun J' H' e r o i hi v H2 y=>by
   obtain ⟨rfl,k,hk,rfl⟩:=y
   rw [← hks,List.getElem?_map] at hk
   obtain ⟨kv,hkv,rfl⟩:=Option.map_eq_some_iff.mp hk
   exact ⟨.str kv.1,by rw [List.getElem?_map,hkv];rfl,rfl,r,.refl⟩
  stop:=fun J' H' e r o=>⟨key J' H' r o,by rw [List.length_map,List.length_map];omega⟩ }⟩⟩
def rDC (wi:TIr) (ks:List (Str × Nat)) (tc:TTr) (tk te:TEr):TEr:=fun τ J Q=>wi τ J fun it J1=>∀ D,J1 D=none→∀ ep,∃ W:Nat→Hq→Prop,W 0 (put J1 D (.dct [] ep))∧(∀ i J2,W i J2→it.ok J2) ∧
 (∀ i x J2,it.xs[i]?=some x→W i J2→tc (some x :: selR ks τ) J2 fun b J3=>if b=true then tk (some x :: selR ks τ) J3 fun y J4=>te (some x :: selR ks τ) J4 fun z J5 =>
  ∃ kvs ep k,y=.str k∧J5 D=some (.dct kvs ep)∧kvs.length < sizeLine∧∀ ep',W (i + 1) (put J5 D (.dct (puL kvs k z) ep')) else W (i + 1) J3)∧∀ J2,W it.xs.length J2→Q (.ref D) J2
theorem dc_lift {wi:TIr} {ks:List (Str × Nat)} {tc:TTr} {tk te:TEr}:∀ σ H Q,LE X.K G (rDC wi ks tc tk te) σ H Q→tDC (LI X.K G wi) ks (LT X.K G tc) (LE X.K G tk) (LE X.K G te) σ H Q:=fun σ H Q ⟨τ,J,Q2,a2,h,k⟩ =>
 ⟨τ,J,_,a2,h,fun it J1 I H1 ir r1 e1 w D hD ep=>by
  obtain ⟨W,w0,wok,step,fin⟩:=w D (r1.free hD) ep
  refine ⟨fun i m H2=>m=it.xs.length - i∧i≤it.xs.length∧∃ J2,Rep X.K J2 H2∧Ext X.K J1 H1 J2 H2∧W i J2,⟨_,rfl,Nat.zero_le _,_,r1.laidD hD,.laid hD,w0⟩,?_⟩
  rintro i m H2 ⟨rfl,hi,J2,r2,e2,w2⟩
  by_cases hlt:i < it.xs.length
  ·refine .inr ⟨ir.go J2 H2 e2 r2 (wok i J2 w2) i hlt,fun v H3 y=>?_⟩
   obtain ⟨x,ex,rx,r3,e3⟩:=ir.yl J2 H2 e2 r2 (wok i J2 w2) i hlt v H3 y
   have a3:At2 X.K G (some x :: selR ks τ) J2 (some v :: selC ks σ) H3:=⟨sel_rep (a2.sl.ext ((e1.trans e2).trans e3)) rx ks,r3,((a2.ext.trans e1).trans e2).trans e3⟩
   refine ⟨_,_,_,a3,step i x J2 ex w2,fun b J4 H4 r4 e4 q=>?_⟩
   cases b with
   | false =>
    simp only [Bool.false_eq_true,if_false] at q ⊢
    exact ⟨_,by omega,rfl,hlt,J4,r4,(e2.trans e3).trans e4,q⟩
   | true =>
    simp only [if_true] at q ⊢
    refine ⟨_,_,_,a3.go r4 e4,q,fun yk J5 u H5 rk r5 e5 q5=>?_⟩
    refine ⟨_,_,_,(a3.go r4 e4).go r5 e5,q5,fun z J6 vz H6 rz r6 e6 ⟨kvs,ep2,kk,ek,jD,hl,q6⟩=>?_⟩
    subst ek
    cases rk
    obtain ⟨gs,h1,h2⟩:=r6 _ _ jD
    have pk:=repF_prk h2
    refine ⟨gs,ep2,kk,rfl,h1,by rw [← pk.len];exact hl,it.xs.length - (i + 1),by omega,fun ep'=>⟨rfl,hlt,_,r6.wroteD jD h1 (pk.pu rz),?_,q6 ep'⟩⟩
    exact ((((e2.trans e3).trans e4).trans e5).trans e6).trans (Ext.wroteD (K:=X.K) jD h1)
  ·have ei:i=it.xs.length:=by omega
   subst ei
   exact .inl ⟨ir.stop J2 H2 e2 r2 (wok _ J2 w2),k (.ref D) J2 _ H2 rfl r2 (e1.trans e2) (fin J2 w2)⟩⟩
theorem ptsW {X:Cx} {ifs:List Expr} {t t':TT} (h:PTs X ifs t) (k:∀ σ H Q,t' σ H Q→t σ H Q):PTs X ifs t':=fun pins s σ H Q I q=>h pins s σ H Q I (k _ _ _ q)
variable {kx vx iter cnd:Expr} {x y:Str} {px py:Pos} {sc:Scope} {pos spos:Pos} {wi:TIr} {tk te:TEr} {tc:TTr} {i:Nat}
theorem re_dc (osc:Scope) (N:List Str) (ks:List (Str × Nat)) (hc:X.calm=true) (ho:X.env.scope=osc) (hN:X.N=N) (hi:RI X G (.Name x px) iter wi) (hk:∀ cl C s₀ H₀ fp pins,RE (cxC X sc cl C x ks s₀ H₀ fp pins) G kx tk) (he:∀ cl C s₀ H₀ fp pins,RE (cxC X sc cl C x ks s₀ H₀ fp pins) G vx te)
  (ok:CompOk sc osc N x ks:=by decide +kernel) (hs:∀ x,foldedSetIterable iter X.env x=pure x:=by intro _;rfl):RE X G (.DictComp kx vx [⟨.Name x px,iter,[],0⟩] sc pos) (rDC wi ks rTrue tk te) :=
 ⟨peW (pe_dc osc N ks hc ho hN hi.run (fun cl C s₀ H₀ fp pins=>(hk cl C s₀ H₀ fp pins).run) (fun cl C s₀ H₀ fp pins=>(he cl C s₀ H₀ fp pins).run) (fun cl C s₀ H₀ fp pins=>ptsW pts_nil fun σ H Q ⟨τ,J,Q2,a2,q,k⟩=>k true J H a2.hp .refl q) ok hs) dc_lift⟩
end
def spLawG (tabs:List Addr):Spr:=fun xs J Q _=>∃ ns:List Int,xs=[.fl (ns.map .int)]∧ns.length≤63∧(∀ T∈tabs,J T=some .tab)∧(∀ a,a ∉ tabs→J a=none)∧∀ J',(∀ T∈tabs,J' T=some .tab)→Q (.bl true) J'
def spLawH (tabs:List Addr) (K:PySem.W.Frag):Sp:=fun vs H Q _=>∃ (a:Addr) (ns:List Int),vs=[.ref a]∧SqL K H a (ns.map V.int)∧ns.length≤63∧(∀ T∈tabs,H T=some (.ext (TabOk T))) ∧
 (∀ b,H b≠none→b=a∨b∈tabs)∧(∀ u,H a=some u→∃ o xs,u=.frz o (.lst xs))∧∀ H',Same H H'→Q (.bl true) H'
theorem law_downG {P:Program} {w:World} {K:PySem.W.Frag} {mg:Str→Option Value} {base:Heap} {k:Nat} {f:Addr} {fd:FuncData} {ps:List Str} {tabs:List Addr} (F:FnOk P w K mg base (Fly P w) k f fd ps (LSp K (spLawG tabs))) :
  FnOk P w K mg base L2.CX0 k f fd ps (spLawH tabs K) :=
 F.unfly.imp fun vs H Q E ⟨a,ns,e,hS,hl,hT,hA,hK,q⟩=>by
  subst e
  classical
  have na:∀ u,H a=some u→a ∉ tabs:=fun u hu hm=>by
   obtain ⟨o,xs,rfl⟩:=hK u hu
   rw [hT a hm] at hu;cases hu
  refine ⟨[.fl (ns.map .int)],fun b=>if b∈tabs then some .tab else none,fun x J'=>x=.bl true∧∀ T∈tabs,J' T=some .tab,fun _ _=>False,⟨.ref a,[],rfl,⟨a,ns.map V.int,rfl,?_,reps_ints ns⟩,rfl⟩,?_,⟨ns,rfl,hl,fun T hT=>if_pos hT,fun b hb=>if_neg hb,fun J' h=>⟨rfl,h⟩⟩,?_,?_⟩
  ·rcases hS with h | h
   ·refine .inl ⟨?_,h⟩
    have:a ∉ tabs:=by
     rcases h with h | ⟨o,h⟩
     ·exact na _ h
     ·exact na _ h
    exact if_neg this
   ·exact .inr h
  ·intro b o z
   by_cases hb:b∈tabs
   ·have z':=(if_pos hb).symm.trans z
    cases z'
    exact hT b hb
   ·have z':=(if_neg hb).symm.trans z
    cases z'
  ·rintro z J' u H' rz rr ee ⟨rfl,ht⟩
   cases rz
   refine q H' fun b o hb=>?_
   rcases hA b (by rw [hb];simp) with rfl | hm
   ·obtain ⟨ob,xs,rfl⟩:=hK o hb
    exact (ee.ll b _ (if_neg (na _ hb)) hb (.inr ⟨_,_,rfl⟩)).2
   ·have:=hT b hm
    rw [hb] at this;cases this
    exact rr b _ (ht b hm)
  ·intro _ _ _ _ _ z;exact z.elim
end Ov
namespace L2
open PySem PySem.Spec PyProof.Rows
def isS (k:Str):Value→Bool
 | .str y _=>y.cps.toList == k.cps.toList
 | _=>false
theorem vals_strs {ss:List Str} {us:List Value} (r:Vals (ss.map V.str) us):us.length=ss.length∧∀ (j:Nat) (u:Value),us[j]?=some u→∃ y t,ss[j]?=some y∧u=.str y t:=by
 induction ss generalizing us with
 | nil=>cases r;exact ⟨rfl,fun j u e=>by simp at e⟩
 | cons y ss ih =>
  rw [List.map_cons] at r
  cases r with
  | cons ru rr =>
   obtain ⟨t,rfl⟩:=ru
   obtain ⟨h1,h2⟩:=ih rr
   refine ⟨by simp [h1],fun j u e=>?_⟩
   cases j with
   | zero=>cases e;exact ⟨y,t,rfl,rfl⟩
   | succ j=>exact h2 j u (by simpa using e)
theorem erase_map {α β:Type} (f:α→β):∀ (l:List α) (j:Nat),(l.eraseIdx j).map f=(l.map f).eraseIdx j
 | [],_=>rfl
 | _ :: _,0=>rfl
 | x :: l,j + 1=>by simp only [List.eraseIdx_cons_succ,List.map_cons,erase_map f l j]
section
variable {X:Cx}
def rRemoveS:V→List V→Hp→VK→Prop:=fun x vs H Q=>∃ (l:Addr) (ss:List Str) (k:Str) (j:Nat),x=.ref l∧vs=[.str k]∧H l=some (.lst (ss.map V.str))∧ss[j]?=some k∧(∀ m:Nat,m < j→ss[m]?≠some k)∧Q .non (upd H l (.lst ((ss.eraseIdx j).map V.str)))
theorem mt_removeS:MtR X "list.remove" rRemoveS:=by
 intro pins s σ H x vs v us Q I rx rv h
 obtain ⟨l,ss,k,j,rfl,rfl,hH,hj,hno,q⟩:=h
 cases rx
 obtain ⟨u,rfl,ru⟩:=rv.one
 obtain ⟨t,rfl⟩:=ru
 obtain ⟨z,its,n,r,hl,e⟩:=I.lstM hH
 obtain ⟨h1,h2⟩:=vals_strs r
 obtain ⟨hjl,hje⟩:=List.getElem?_eq_some_iff.mp hj
 have hz:ss.length≤sizeLine:=by simpa using z
 have at_:∀ (m:Nat) (hm:m < its.toArray.size),isS k its.toArray[m]=decide (ss[m]?=some k):=fun m hm=>by
  obtain ⟨y,t',hy,hu⟩:=h2 m its[m] (List.getElem?_eq_getElem (by simpa using hm))
  show isS k its[m]=_
  rw [hu,hy]
  show (y.cps.toList == k.cps.toList)=_
  by_cases hk:y=k
  ·subst hk;simp
  ·have:(y.cps.toList == k.cps.toList)=false:=by
    rw [beq_eq_false_iff_ne]
    intro z
    exact hk (by cases y;cases k;simp at z;rw [z])
   rw [this];symm;exact decide_eq_false fun z=>hk (Option.some.inj z)
 refine call_meets PySem.F.slot_list_remove ⟨_,e,rfl⟩ PySem.F.entry_list_remove (PySem.F.args_list_remove_2 _ _)
  (MeetsSeq.list_remove l its.toArray n (.str k t) (isS k) (fun y hy=>?_) j (by simpa using (show j < its.length by omega)) ?_ (fun m hm hlt=>?_) (by rw [List.size_toArray];omega)) ⟨e,?_⟩
 ·obtain ⟨m,hm⟩:=List.mem_iff_getElem?.mp (show y∈its by simpa using hy)
  obtain ⟨y',t',_,rfl⟩:=h2 m y hm
  exact SeqRoads2.EqGives.str _ _ _ _
 ·rw [at_];exact decide_eq_true hj
 ·rw [at_];exact decide_eq_false (hno m hlt)
 ·refine ⟨.non,_,I.lset (its':=its.eraseIdx j) hH e (by rw [List.eraseIdxIfInBounds_toArray]) ?_ ?_,rfl,q⟩
  ·rw [erase_map];exact r.eraseIdx j
  ·rw [List.length_map];exact Nat.le_trans (List.length_eraseIdx_le _ _) hz
end
end L2
namespace Ov
open PySem PySem.Spec PyProof.Rows
open L2 (V HO Hp Inv Cx VK XK TE TT TA TS TG TGs TI TO TSet Ends Vis Loc Gl Rd RelV Vals OpR UnR CallR IxR SlR MtR PSet R2 upd upd_same upd_ne SqL SqT Sp CXT It Same PlainIx Room Passes Cls NoAttr Meth Mk Binds FnOk Fun FnScope atI TyOf putF)
section
variable {X:Cx} {G:G2}
def qIndex:RMr:=fun x xs J Q=>∃ (a:Addr) (ss:List Str) (k:Str) (j:Nat),x=.ref a∧xs=[.str k]∧J a=some (.lst (ss.map .str))∧ss[j]?=some k∧(∀ m:Nat,m < j→ss[m]?≠some k)∧Q (.int (j:Nat)) J
def qRemove:RMr:=fun x xs J Q=>∃ (a:Addr) (ss:List Str) (k:Str) (j:Nat),x=.ref a∧xs=[.str k]∧J a=some (.lst (ss.map .str))∧ss[j]?=some k∧(∀ m:Nat,m < j→ss[m]?≠some k)∧Q .non (put J a (.lst ((ss.eraseIdx j).map .str)))
theorem mq_remove:MtL X "list" "list.remove" qRemove:=⟨_,L2.mt_removeS,fun J H x xs v vs Q2 Q rx rs r ⟨a,ss,k,j,ex,exs,ja,hj,hno,q⟩ kn=>by
 subst ex exs;cases rx
 obtain ⟨w,us,rfl,rw',e⟩:=rs;cases e;cases rw'
 obtain ⟨ws,h1,h2⟩:=r _ _ ja
 cases reps_strs_eq h2
 exact ⟨a,ss,k,j,rfl,rfl,h1,hj,hno,kn .non _ _ _ rfl (r.wrote (ys:=(ss.eraseIdx j).map .str) ja h1 reps_keys) (.wrote ja h1) q⟩⟩
variable {a b c:Expr} {ta tb tc:TEr} {pos:Pos}
def rChain (q q':R2r) (ta tb tc:TEr):TEr:=fun τ J Q=>ta τ J fun x J1=>tb τ J1 fun y J2=>q x y J2 fun z J3=>∃ k,z=.bl k∧(if k=true then tc τ J3 fun w J4=>q' y w J4 Q else Q (.bl false) J3)
theorem chain_lift {r r':R2} {q q':R2r} (lr:LR X.K r q) (lr':LR X.K r' q'):∀ σ H Q,LE X.K G (rChain q q' ta tb tc) σ H Q→L2.tChain r r' (LE X.K G ta) (LE X.K G tb) (LE X.K G tc) σ H Q:=fun σ H Q ⟨τ,J,Q2,a2,hh,k⟩=>⟨τ,J,_,a2,hh,fun x J1 v H1 rx r1 e1 q1=>⟨τ,J1,_,a2.go r1 e1,q1,fun y J2 w H2 ry r2 e2 q2 =>
  lr J2 H2 x y v w _ _ (e2.rep rx) ry r2 q2 fun z J3 u H3 rz r3 e3 ⟨kk,ez,q3⟩=>by
   subst ez;cases rz
   refine ⟨kk,rfl,?_⟩
   cases kk with
   | false=>simp only [Bool.false_eq_true,if_false] at q3 ⊢;exact k (.bl false) J3 _ H3 rfl r3 ((e1.trans e2).trans e3) q3
   | true =>
    simp only [if_true] at q3 ⊢
    exact ⟨τ,J3,_,((a2.go r1 e1).go r2 e2).go r3 e3,q3,fun w2 J4 u4 H4 r4 rr4 e4 q4=>lr' J4 H4 y w2 w u4 Q2 Q ((e3.trans e4).rep ry) r4 rr4 q4 fun z' J' u' H' rz' rr' ee' qq=>k z' J' u' H' rz' rr' ((((e1.trans e2).trans e3).trans e4).trans ee') qq⟩⟩⟩
theorem re_chain {op op':CmpOp} {q q':R2r} (ho:OpL X (compareOp op) q) (ho':OpL X (compareOp op') q') (ha:RE X G a ta) (hb:RE X G b tb) (hc:RE X G c tc) (hm:lastMarks [op,op'] [b,c]=false:=by with_unfolding_all rfl) :
  RE X G (.Compare a [op,op'] [b,c] pos) (rChain q q' ta tb tc):=by
 obtain ⟨r,h,lr⟩:=ho
 obtain ⟨r',h',lr'⟩:=ho'
 exact ⟨peW (L2.pe_chain h h' ha.run hb.run hc.run hm) (chain_lift lr lr')⟩
end
end Ov
namespace L2
open PySem PySem.Spec PyProof.Rows
def Ite (K:PySem.W.Frag) (a:Addr):It :=
 ⟨fun i H=>∃ xs x,SqL K H a xs∧xs[i]?=some x,
  fun i H z H'=>∃ T x,H T=none∧z=.ref T∧H'=upd H T (.tup [.int (i:Nat),x])∧(∀ xs,SqL K H a xs→xs[i]?=some x),
  fun i H=>∃ xs,SqL K H a xs∧xs.length≤i⟩
theorem turn_enum {P:Program} {w:World} {K:PySem.W.Frag} {elts:List Expr} {x1} {pos:Pos} {e it l:Addr} (ne:e≠it) :
  Turn P w K (.Tuple elts x1 pos) (Ite K l) [e,it] e (fun i h=>(∃ old,IsEnum h e it (i:Int) old)∧h.IsListIter it l i) where
 mem:=by simp
 obj:=fun i h ⟨⟨old,he⟩,h1⟩ c hc=>by
  simp only [List.mem_cons,List.not_mem_nil,or_false] at hc
  rcases hc with rfl | rfl
  ·exact ⟨_,he,fun v z=>by cases z⟩
  ·obtain ⟨o,e,c,d⟩:=h1;exact ⟨o,e,fun v z=>by rw [d] at z;cases z⟩
 keep:=fun i h h' ⟨⟨old,he⟩,h1⟩ k=>⟨⟨old,k e (by simp) _ he⟩,h1.at fun o q=>k it (by simp) o q⟩
 item:=by
  intro X hP hw hK hc i pins s σ H E I hf st hg
  subst hP hw hK
  obtain ⟨⟨old,he⟩,h1⟩:=st
  obtain ⟨xs,x,hqx,hx⟩:=hg
  obtain ⟨its,rv,p,hzx⟩:=I.list hqx
  obtain ⟨u,hu,rx⟩:=rv.get hx
  refine wpAny_pyNext_enum_item he h1 p.isList (x:=u) (by simpa using hu) ne fun h' a1 a3 a5 a6 hk=>?_
  refine ⟨_,rfl,wpAny_letOwnedTupleGo_enum a1 fun h'' hz' hs'=>?_⟩
  have hT:H s.heap.objs.size=none:=I.hok.fresh (Nat.le_refl _)
  have lt:∀ {c o},s.heap.get? c=some o→c≠s.heap.objs.size:=fun e=>Nat.ne_of_lt (Heap.lt_size e)
  have I0:Inv X pins σ (upd H s.heap.objs.size (.tup [.int (i:Nat),x])) { s with heap:=s.heap.push { cls:=.type "tuple",data:=.seq #[.int i s.toks,u] },toks:=s.toks + 1 }:=I.laid (t':=s.toks + 1) (fun b u e=>Heap.get?_push_of_some _ e) (Nat.le_refl _) ⟨by simp [sizeLine],[.int i s.toks,u],.cons ⟨_,rfl⟩ (.cons rx .nil),⟨_,Heap.get?_push_size _ rfl,rfl,_,rfl⟩⟩
  have fpn:∀ b∈[e,it],b≠s.heap.objs.size:=fun b hb=>by
   simp only [List.mem_cons,List.not_mem_nil,or_false] at hb
   rcases hb with rfl | rfl
   ·exact lt he
   ·obtain ⟨o,e,_⟩:=h1;exact lt e
  have fpu:∀ b∈[e,it],FpOk X pins (upd H s.heap.objs.size (.tup [.int (i:Nat),x])) b:=fun b hb=>⟨by rw [upd_ne (fpn b hb)];exact (hf b hb).1,(hf b hb).2⟩
  have I1:Inv X pins σ (upd H s.heap.objs.size (.tup [.int (i:Nat),x])) { s with heap:=h'',toks:=s.toks + 1 }:=Inv.turnedL (s:={ s with heap:=s.heap.push { cls:=.type "tuple",data:=.seq #[.int i s.toks,u] },toks:=s.toks + 1 }) (t':=s.toks + 1) (ch:=[e,it]) I0 (fun b o hb eb=>by
   simp only [List.mem_cons,List.not_mem_nil,or_false,not_or] at hb
   rcases Heap.get?_push_cases eb with ⟨rfl,rfl⟩ | e'
   ·exact hs'.extBut _ _ hb.1 a5
   ·exact hs'.extBut _ _ hb.1 (hk b o hb.1 hb.2 e')) fpu
  refine ⟨.ref s.heap.objs.size,_,I1,rfl,⟨_,x,hT,rfl,rfl,fun zs hq=>by rw [I.list_inj hq hqx];exact hx⟩,⟨⟨_,by rw [Int.natCast_add];exact hz'⟩,a3.extBut hs'.extBut (Ne.symm ne)⟩,fun b hb=>(fpu b hb).1⟩
 done:=by
  intro X hP hw hK hc i pins s σ H E I hf st hg
  subst hP hw hK
  obtain ⟨⟨old,he⟩,h1⟩:=st
  obtain ⟨xs,hqx,hl⟩:=hg
  obtain ⟨its,rv,p,hzx⟩:=I.list hqx
  have e1:=rv.length
  refine wpAny_pyNext_enum_end (I.ok.hd hc) he h1 p.isList (by rw [List.getElem?_toArray,List.getElem?_eq_none_iff];omega) fun h' hk=>⟨rfl,I.turnedL (t':=s.toks) (ch:=[e,it]) (fun b o hb e=>?_) hf⟩
  simp only [List.mem_cons,List.not_mem_nil,or_false,not_or] at hb
  exact hk b o hb.2 e
 self:=fun _ _ _ _ _ st h=>let ⟨⟨_,he⟩,_⟩:=st;wpAny_pyIter_enum he h
def iEnum (K:PySem.W.Frag) (ta:TA):TI:=fun σ H R=>ta σ H fun vs H1=>∃ a xs,vs=[.ref a]∧SqL K H1 a xs∧R (Ite K a) H1
section
variable {X:Cx}
theorem pi_enum {l:Expr} {elts:List Expr} {x1} {tp:Pos} {ta:TA} {p pos:Pos} (hg:Gl X "enumerate") (hm:X.mg "enumerate"=none) (ha:PA X [l] ta) (hs:starEach [l] X.env=(false,eval l X.env) :: starEach [] X.env:=by rfl) (hp:(backTo pos (starEach [] X.env)).any (·.1)=false:=by rfl):PI X (.Tuple elts x1 tp) (.Call (.Name "enumerate" p) [l] [] pos) (iEnum X.K ta):=by
 intro pins s σ H R I h
 refine Call_ (ld_blt I hg hm PyProof.Rows.Boot.«enumerate» (PyProof.Rows.callWith_type1 (thn (ha pos pins s σ H _ I h) fun us s1 ⟨vs,H1,I1,r1,q1⟩=>?_) hs hp))
 obtain ⟨a,xs,e,hqa,q⟩:=q1
 subst e
 cases r1 with
 | cons r rr =>
  cases rr
  cases r
  obtain ⟨its,rv,pl,hz⟩:=I1.list hqa
  refine call_enumerate_list pl.isList ?_
  intro h' b1 b2 b6 hk
  refine wpAny_pyIter_enum b1 ?_
  have ne:s1.heap.objs.size + 1≠s1.heap.objs.size:=Nat.succ_ne_self _
  refine ⟨_,_,_,_,H1,rfl,I1.kept (t':=s1.toks) hk,turn_enum ne,⟨⟨_,b1⟩,b2⟩,fun c hc=>?_,q⟩
  have hc':s1.heap.objs.size≤c:=by
   simp only [List.mem_cons,List.not_mem_nil,or_false] at hc
   show @LE.le Nat _ _ _
   rcases hc with rfl | rfl
   ·exact Nat.le_add_right _ _
   ·exact Nat.le_refl _
  exact I1.fpOk hc' (I1.hok.fresh hc')
end
end L2
namespace Ov
open PySem PySem.Spec PyProof.Rows
open L2 (V HO Hp Inv Cx VK XK TE TT TA TS TG TGs TI TO TSet Ends Vis Loc Gl Rd RelV Vals OpR UnR CallR IxR SlR MtR PSet R2 upd upd_same upd_ne SqL SqT Sp CXT It Same PlainIx Room Passes Cls NoAttr Meth Mk Binds FnOk Fun FnScope atI TyOf putF)
def enumV (xs:List PV):List PV:=(List.range xs.length).zipWith (fun i x=>PV.tup [.int ((i:Nat):Int),x]) xs
theorem enumV_len (xs:List PV):(enumV xs).length=xs.length:=by unfold enumV;simp
theorem enumV_get (xs:List PV) (i:Nat) (x:PV) (h:xs[i]?=some x):(enumV xs)[i]?=some (.tup [.int (i:Int),x]):=by
 unfold enumV
 obtain ⟨hi,e⟩:=List.getElem?_eq_some_iff.mp h
 rw [List.getElem?_zipWith,List.getElem?_range hi,h]
section
variable {X:Cx} {G:G2}
def iEn (ta:TAr):TIr:=fun τ J R=>ta τ J fun vs J1=>∃ x xs,vs=[x]∧lsQ J1 x=some xs∧R ⟨enumV xs,fun J'=>lsQ J' x=some xs⟩ J1
theorem ri_enum {l:Expr} {elts:List Expr} {x1} {tp:Pos} {ta:TAr} {p pos:Pos} (hg:Gl X "enumerate") (hm:X.mg "enumerate"=none) (ha:RA X G [l] ta) (hs:starEach [l] X.env=(false,eval l X.env) :: starEach [] X.env:=by rfl) (hp:(backTo pos (starEach [] X.env)).any (·.1)=false:=by rfl) :
  RI X G (.Tuple elts x1 tp) (.Call (.Name "enumerate" p) [l] [] pos) (iEn ta):=⟨piW (L2.pi_enum hg hm ha.run hs hp) fun σ H R ⟨τ,J,R2,a2,h,k⟩=>⟨τ,J,_,a2,h,fun vs J1 us H1 rs r1 e1 ⟨x,xs,ev,hx,q⟩=>by
 subst ev
 obtain ⟨v,us',rfl,rv,e'⟩:=rs
 cases e'
 obtain ⟨a,ws,rfl,h1,h2⟩:=ls_rep hx rv r1
 refine ⟨a,ws,rfl,h1,k _ J1 _ H1 ?_ r1 e1 q⟩
 have at_:∀ J' H',Ext X.K J1 H1 J' H'→Rep X.K J' H'→lsQ J' x=some xs→∃ vs,SqL X.K H' a vs∧RepVs X.K J' H' xs vs:=fun J' H' e r o=>by
  obtain ⟨c,vs,eb,g1,g2⟩:=ls_rep o (e.rep rv) r
  cases eb
  exact ⟨vs,g1,g2⟩
 exact {
  go:=fun J' H' e r o i hi=>by
   obtain ⟨vs,s,rs⟩:=at_ J' H' e r o
   rw [enumV_len] at hi
   exact ⟨vs,vs[i]'(by rw [← rs.length];exact hi),s,by simp⟩
  yl:=fun J' H' e r o i hi v H2 y=>by
   obtain ⟨vs,s,rs⟩:=at_ J' H' e r o
   obtain ⟨T,z,hT,rfl,rfl,y1⟩:=y
   obtain ⟨c,ec,rc⟩:=rs.get' (y1 vs s)
   have sm:=Same.new hT (.tup [.int (i:Nat),z])
   have e2:=Ext.same (K:=X.K) (J:=J') sm
   refine ⟨.tup [.int (i:Int),c],enumV_get _ _ _ ec,⟨T,[.int (i:Nat),z],rfl,.inl (.inl upd_same),e2.reps ⟨.int (i:Nat),_,rfl,rfl,z,_,rfl,rc,rfl⟩⟩,r.same sm,e2⟩
  stop:=fun J' H' e r o=>by
   obtain ⟨vs,s,rs⟩:=at_ J' H' e r o
   exact ⟨vs,s,by rw [enumV_len,← rs.length];exact Nat.le_refl _⟩ }⟩⟩
end
section
variable {X:Cx} {pins:List (Addr × Obj)} {σ:L2.St} {H:Hp} {s:Shared}
open Classical in
def eT (K:PySem.W.Frag) (H:Hp) (zs:List Py) (y:Py) (u:Value):Bool:=decide (∃ z∈zs,∃ v,RelV v u∧At K H z v∧eqP z y=true)
end
section
variable {X:Cx} {G:G2}
end
end Ov
namespace Ov
open PySem
structure Bell where
 m:Rat
 h:Str
 f:Str
 deriving DecidableEq
def slt (a b:Str):Prop:=a.cps.toList < b.cps.toList
instance (a b:Str):Decidable (slt a b):=inferInstanceAs (Decidable (a.cps.toList < b.cps.toList))
def Bell.lt (a b:Bell):Bool:=if a.m=b.m then (if a.h=b.h then decide (slt a.f b.f) else decide (slt a.h b.h)) else decide (a.m < b.m)
theorem slt_irr (a:Str):¬ slt a a:=List.lt_irrefl _
theorem slt_trans {a b c:Str} (h:slt a b) (k:slt b c):slt a c:=List.lt_trans h k
theorem nl_tot:∀ (a b:List Nat),a≠b→a < b∨b < a
 | [],[],h=>absurd rfl h
 | [],_ :: _,_=>.inl (List.nil_lt_cons _ _)
 | _ :: _,[],_=>.inr (List.nil_lt_cons _ _)
 | x :: a,y :: b,h=>by
  rcases Nat.lt_trichotomy x y with z | z | z
  ·exact .inl (List.cons_lt_cons_iff.mpr (.inl z))
  ·subst z
   rcases nl_tot a b (fun e=>h (by rw [e])) with q | q
   ·exact .inl (List.cons_lt_cons_iff.mpr (.inr ⟨rfl,q⟩))
   ·exact .inr (List.cons_lt_cons_iff.mpr (.inr ⟨rfl,q⟩))
  ·exact .inr (List.cons_lt_cons_iff.mpr (.inl z))
theorem slt_tot {a b:Str} (h:a≠b):slt a b∨slt b a:=by
 have ne:a.cps.toList≠b.cps.toList:=fun e=>h (by cases a;cases b;simp at e;rw [e])
 exact nl_tot _ _ ne
theorem slt_ne {a b:Str} (h:slt a b):a≠b:=fun e=>by subst e;exact slt_irr _ h
theorem Bell.lt_iff (a b:Bell):a.lt b=true↔a.m < b.m∨(a.m=b.m∧(slt a.h b.h∨(a.h=b.h∧slt a.f b.f))):=by
 unfold Bell.lt
 by_cases e:a.m=b.m
 ·rw [if_pos e]
  have n:¬ a.m < b.m:=by rw [e];exact Rat.lt_irrefl
  by_cases k:a.h=b.h
  ·rw [if_pos k]
   have n2:¬ slt a.h b.h:=fun z=>slt_ne z k
   simp [e,k,n,n2]
   try (intro z;first | exact absurd z Rat.lt_irrefl | exact absurd z (slt_irr _))
  ·rw [if_neg k]
   simp [e,k]
   try (intro z;exact absurd z Rat.lt_irrefl)
 ·rw [if_neg e]
  simp [e]
theorem Bell.lt_irr (a:Bell):a.lt a=false:=by
 cases h:a.lt a with
 | false=>rfl
 | true =>
  rcases (Bell.lt_iff a a).mp h with h | ⟨_,h | ⟨_,h⟩⟩
  ·exact absurd h Rat.lt_irrefl
  ·exact absurd h (slt_irr _)
  ·exact absurd h (slt_irr _)
theorem rlt_trans {a b c:Rat} (h:a < b) (k:b < c):a < c:=by grind
theorem Bell.lt_trans {a b c:Bell} (h:a.lt b=true) (k:b.lt c=true):a.lt c=true:=by
 rw [Bell.lt_iff] at *
 rcases h with h | ⟨e,h⟩ <;> rcases k with k | ⟨e',k⟩
 ·exact .inl (rlt_trans h k)
 ·exact .inl (e' ▸ h)
 ·exact .inl (e ▸ k)
 ·refine .inr ⟨e.trans e',?_⟩
  rcases h with h | ⟨z,h⟩ <;> rcases k with k | ⟨z',k⟩
  ·exact .inl (slt_trans h k)
  ·exact .inl (z' ▸ h)
  ·exact .inl (z ▸ k)
  ·exact .inr ⟨z.trans z',slt_trans h k⟩
theorem Bell.lt_tot {a b:Bell} (h:a≠b):a.lt b=true∨b.lt a=true:=by
 rw [Bell.lt_iff,Bell.lt_iff]
 by_cases e:a.m=b.m
 ·by_cases z:a.h=b.h
  ·have:a.f≠b.f:=fun q=>h (by cases a;cases b;simp_all)
   rcases slt_tot this with q | q
   ·exact .inl (.inr ⟨e,.inr ⟨z,q⟩⟩)
   ·exact .inr (.inr ⟨e.symm,.inr ⟨z.symm,q⟩⟩)
  ·rcases slt_tot z with q | q
   ·exact .inl (.inr ⟨e,.inl q⟩)
   ·exact .inr (.inr ⟨e.symm,.inl q⟩)
 ·rcases (by grind:a.m < b.m∨b.m < a.m) with q | q
  ·exact .inl (.inl q)
  ·exact .inr (.inl q)
def Srtd (l:List Bell):Prop:=l.Pairwise fun a b=>a.lt b=true
def insB (b:Bell) (l:List Bell):List Bell:=l.filter (fun x=>x.lt b) ++ b :: l.filter (fun x=>!x.lt b)
def samep (h f:Str) (x:Bell):Bool:=decide (x.h=h∧x.f=f)
def dropB (h f:Str) (l:List Bell):List Bell:=l.filter fun x=>!samep h f x
theorem dropB_srt {h f:Str} {l:List Bell} (s:Srtd l):Srtd (dropB h f l):=s.filter _
theorem insB_srt {b:Bell} {l:List Bell} (s:Srtd l) (n:∀ x∈l,x≠b):Srtd (insB b l):=by
 unfold insB Srtd
 rw [List.pairwise_append]
 refine ⟨s.filter _,?_,?_⟩
 ·rw [List.pairwise_cons]
  refine ⟨fun y hy=>?_,s.filter _⟩
  rw [List.mem_filter] at hy
  rcases Bell.lt_tot (n y hy.1) with q | q
  ·simp [q] at hy
  ·exact q
 ·intro x hx y hy
  rw [List.mem_filter] at hx
  rcases List.mem_cons.mp hy with rfl | hy
  ·exact hx.2
  ·rw [List.mem_filter] at hy
   rcases Bell.lt_tot (n y hy.1) with q | q
   ·simp [q] at hy
   ·exact Bell.lt_trans hx.2 q
theorem drop_ne {h f:Str} {l:List Bell} {m:Rat}:∀ x∈dropB h f l,x≠⟨m,h,f⟩:=fun x hx e=>by
 subst e
 unfold dropB at hx
 rw [List.mem_filter] at hx
 simp [samep] at hx
theorem part_take (p:Bell→Bool):∀ {l:List Bell} {i:Nat},i≤l.length→(∀ (j:Nat) x,j < i→l[j]?=some x→p x=true)→(∀ (j:Nat) x,i≤j→l[j]?=some x→p x=false)→l.take i ++ l.drop i=l∧l.filter p=l.take i∧l.filter (fun x=>!p x)=l.drop i
 | l,0,_,_,h=>by
  refine ⟨by simp,?_,?_⟩
  ·rw [List.take_zero]
   apply List.filter_eq_nil_iff.mpr
   intro x hx
   obtain ⟨j,hj⟩:=List.mem_iff_getElem?.mp hx
   rw [h j x (Nat.zero_le _) hj];simp
  ·rw [List.drop_zero]
   apply List.filter_eq_self.mpr
   intro x hx
   obtain ⟨j,hj⟩:=List.mem_iff_getElem?.mp hx
   rw [h j x (Nat.zero_le _) hj];rfl
 | [],i + 1,hi,_,_=>by simp at hi
 | x :: l,i + 1,hi,h1,h2=>by
  obtain ⟨a,b,c⟩:=part_take p (l:=l) (i:=i) (by simpa using hi) (fun j y hj e=>h1 (j + 1) y (by omega) (by simpa using e)) (fun j y hj e=>h2 (j + 1) y (by omega) (by simpa using e))
  have hx:p x=true:=h1 0 x (by omega) rfl
  refine ⟨by simp,?_,?_⟩
  ·rw [List.filter_cons,hx];simp [b]
  ·rw [List.filter_cons,hx];simp [c]
theorem insB_at {b:Bell} {l:List Bell} {i:Nat} (hi:i≤l.length) (h1:∀ (j:Nat) x,j < i→l[j]?=some x→x.lt b=true) (h2:∀ (j:Nat) x,i≤j→l[j]?=some x→x.lt b=false):l.take i ++ b :: l.drop i=insB b l:=by
 obtain ⟨_,e1,e2⟩:=part_take (fun x=>x.lt b) hi h1 h2
 unfold insB
 rw [e1,e2]
theorem srt_low {l:List Bell} {b x y:Bell} {i j:Nat} (s:Srtd l) (hx:l[i]?=some x) (hy:l[j]?=some y) (h:j≤i) (k:x.lt b=true):y.lt b=true:=by
 rcases Nat.lt_or_eq_of_le h with h | h
 ·obtain ⟨hi,ei⟩:=List.getElem?_eq_some_iff.mp hx
  obtain ⟨hj,ej⟩:=List.getElem?_eq_some_iff.mp hy
  have:=List.pairwise_iff_getElem.mp s j i hj hi h
  rw [ei,ej] at this
  exact Bell.lt_trans this k
 ·subst h;rw [hx] at hy;cases hy;exact k
theorem srt_high {l:List Bell} {b x y:Bell} {i j:Nat} (s:Srtd l) (hx:l[i]?=some x) (hy:l[j]?=some y) (h:i≤j) (k:x.lt b=false):y.lt b=false:=by
 cases q:y.lt b with
 | false=>rfl
 | true=>rw [srt_low s hy hx h q] at k;cases k
theorem insB_mem {b x:Bell} {l:List Bell} (h:x∈insB b l):x=b∨x∈l:=by
 unfold insB at h
 rcases List.mem_append.mp h with h | h
 ·exact .inr (List.mem_filter.mp h).1
 ·rcases List.mem_cons.mp h with h | h
  ·exact .inl h
  ·exact .inr (List.mem_filter.mp h).1
theorem filter_split (p:Bell→Bool):∀ l:List Bell,(l.filter p).length + (l.filter fun x=>!p x).length=l.length
 | []=>rfl
 | x :: l=>by
  have:=filter_split p l
  cases h:p x <;> simp [h] <;> omega
theorem insB_len (b:Bell) (l:List Bell):(insB b l).length=l.length + 1:=by
 unfold insB
 rw [List.length_append,List.length_cons]
 have:=filter_split (fun x=>x.lt b) l
 omega
theorem dropB_len (h f:Str) (l:List Bell):(dropB h f l).length≤l.length:=List.length_filter_le _ _
structure Leg where
 m:Rat
 p:Rat
 v:Int
 deriving DecidableEq
def Leg.at (l:Leg) (t:Rat):Rat:=l.p + (t - l.m) * l.v
def turned (rows:List Leg) (t:Rat) (v:Int):List Leg :=
 match rows.getLast? with
 | none=>[]
 | some l =>
  let rest:=if l.m=t then rows.dropLast else rows
  if rest.getLast?.map Leg.v=some v then rest else rest ++ [⟨t,l.at t,v⟩]
theorem turned_snoc (ls:List Leg) (l:Leg) (t:Rat) (v:Int):turned (ls ++ [l]) t v =
  if l.m=t then (if ls.getLast?.map Leg.v=some v then ls else ls ++ [⟨t,l.at t,v⟩]) else (if l.v=v then ls ++ [l] else ls ++ [l] ++ [⟨t,l.at t,v⟩]):=by
 unfold turned
 simp only [List.getLast?_concat,List.dropLast_concat]
 split
 ·rfl
 ·simp only [List.getLast?_concat,Option.map_some,Option.some.injEq]
theorem turned_ne {rows:List Leg} {t:Rat} {v:Int} (h:rows≠[]):turned rows t v≠[]:=by
 obtain ⟨ls,l,rfl⟩:∃ ls l,rows=ls ++ [l]:=⟨rows.dropLast,rows.getLast h,(List.dropLast_concat_getLast h).symm⟩
 rw [turned_snoc]
 split
 ·split
  ·rename_i e
   intro z;subst z;cases e
  ·simp
 ·split <;> simp
theorem turned_mem {rows:List Leg} {t:Rat} {v:Int} {x:Leg} (h:x∈turned rows t v):x∈rows∨∃ l∈rows,x=⟨t,l.at t,v⟩:=by
 by_cases e:rows=[]
 ·subst e;cases h
 obtain ⟨ls,l,rfl⟩:∃ ls l,rows=ls ++ [l]:=⟨rows.dropLast,rows.getLast e,(List.dropLast_concat_getLast e).symm⟩
 rw [turned_snoc] at h
 have key:∀ {y:List Leg},(∀ z∈y,z∈ls ++ [l])→x∈y ++ [⟨t,l.at t,v⟩]→x∈ls ++ [l]∨∃ l'∈ls ++ [l],x=⟨t,l'.at t,v⟩:=fun hy hx=>by
  rcases List.mem_append.mp hx with h | h
  ·exact .inl (hy _ h)
  ·exact .inr ⟨l,by simp,by simpa using h⟩
 split at h
 ·split at h
  ·exact .inl (List.mem_append.mpr (.inl h))
  ·exact key (fun z hz=>List.mem_append.mpr (.inl hz)) h
 ·split at h
  ·exact .inl h
  ·exact key (fun z hz=>hz) h
theorem turned_len (rows:List Leg) (t:Rat) (v:Int):(turned rows t v).length≤rows.length + 1:=by
 by_cases e:rows=[]
 ·subst e;simp [turned]
 obtain ⟨ls,l,rfl⟩:∃ ls l,rows=ls ++ [l]:=⟨rows.dropLast,rows.getLast e,(List.dropLast_concat_getLast e).symm⟩
 rw [turned_snoc]
 split <;> split <;> simp <;> omega
def legAt (rows:List Leg) (t:Rat):Option Leg:=(rows.filter fun l=>decide (l.m≤t)).getLast?
def lb (ms:List Rat) (t:Rat):Nat→Nat
 | 0=>0
 | k + 1=>if ms.getD k 0≤t then k + 1 else lb ms t k
theorem lb_le (ms:List Rat) (t:Rat):∀ k,lb ms t k≤k
 | 0=>Nat.le_refl _
 | k + 1=>by unfold lb;split;exact Nat.le_refl _;exact Nat.le_succ_of_le (lb_le ms t k)
theorem lb_pos {ms:List Rat} {t:Rat} {j:Nat} (h:ms.getD j 0≤t):∀ {k},j < k→0 < lb ms t k
 | 0,hk=>absurd hk (Nat.not_lt_zero _)
 | k + 1,hk=>by
  unfold lb
  split
  ·exact Nat.succ_pos _
  ·rename_i c
   exact lb_pos h (by rcases Nat.lt_succ_iff_lt_or_eq.mp hk with e | e;exact e;subst e;exact absurd h c)
theorem lb_take (t:Rat) (rows:List Leg):∀ k,k≤rows.length→((rows.take k).filter fun l=>decide (l.m≤t)).getLast?=if lb (rows.map Leg.m) t k=0 then none else rows[lb (rows.map Leg.m) t k - 1]?
 | 0,_=>rfl
 | k + 1,hk=>by
  have hk':k < rows.length:=by omega
  have e:rows.take (k + 1)=rows.take k ++ [rows[k]]:=by rw [List.take_add_one,List.getElem?_eq_getElem hk'];rfl
  have em:(rows.map Leg.m).getD k 0=rows[k].m:=by simp [List.getD,hk']
  rw [e,List.filter_append]
  unfold lb
  rw [em]
  by_cases c:rows[k].m≤t
  ·rw [if_pos c,List.filter_cons,if_pos (decide_eq_true c),List.filter_nil,List.getLast?_concat,if_neg (Nat.succ_ne_zero _),Nat.add_sub_cancel,List.getElem?_eq_getElem hk']
  ·rw [if_neg c,List.filter_cons,if_neg (by simp [c]),List.filter_nil,List.append_nil]
   exact lb_take t rows k (by omega)
theorem legAt_lb (rows:List Leg) (t:Rat):legAt rows t=if lb (rows.map Leg.m) t rows.length=0 then none else rows[lb (rows.map Leg.m) t rows.length - 1]?:=by
 have:=lb_take t rows rows.length (Nat.le_refl _)
 rw [List.take_length] at this
 exact this
def bef (g:Option Rat) (t:Rat):Bool:=match g with | none=>true | some q=>decide (t < q)
def there (rows:List Leg) (g:Option Rat) (t:Rat):Bool :=
 match rows.head? with
 | none=>false
 | some l=>!decide (t < l.m) && bef g t
theorem there_at {rows:List Leg} {g:Option Rat} {t:Rat} (h:there rows g t=true):∃ l,legAt rows t=some l∧l∈rows∧l.m≤t∧0 < lb (rows.map Leg.m) t rows.length∧rows[lb (rows.map Leg.m) t rows.length - 1]?=some l:=by
 cases rows with
 | nil=>cases h
 | cons l0 ls =>
  have h0:l0.m≤t:=by
   unfold there at h
   simp only [List.head?_cons,Bool.and_eq_true,Bool.not_eq_true',decide_eq_false_iff_not] at h
   exact Rat.not_lt.mp h.1
  have hp:0 < lb ((l0 :: ls).map Leg.m) t (l0 :: ls).length:=lb_pos (j:=0) (by simpa using h0) (by simp)
  have hle:=lb_le ((l0 :: ls).map Leg.m) t (l0 :: ls).length
  have hx:=legAt_lb (l0 :: ls) t
  rw [if_neg (by omega)] at hx
  obtain ⟨l,hl⟩:∃ l,(l0 :: ls)[lb ((l0 :: ls).map Leg.m) t (l0 :: ls).length - 1]?=some l:=⟨_,List.getElem?_eq_getElem (by omega)⟩
  rw [hl] at hx
  have hm:=List.mem_of_getLast? hx
  rw [List.mem_filter] at hm
  exact ⟨l,hx,hm.1,of_decide_eq_true hm.2,hp,hl⟩
def Sc (D A:Nat) (q:Rat):Prop:=∃ a:Int,q * (D:Rat)=(a:Rat)∧a.natAbs≤A
theorem Sc.mono {D A B:Nat} {q:Rat} (h:Sc D A q) (k:A≤B):Sc D B q:=let ⟨a,e,l⟩:=h;⟨a,e,Nat.le_trans l k⟩
theorem natq {D:Nat} (h:0 < D):(D:Rat)≠0:=by
 intro e
 have:D=0:=by exact_mod_cast e
 omega
theorem Sc.sz {D A n:Nat} {q:Rat} (h:Sc D A q) (hD:0 < D) (h1:D < 2 ^ n) (h2:A < 2 ^ n):Sz n q:=by
 obtain ⟨a,e,l⟩:=h
 have nz:=natq hD
 have:q=Rat.divInt a (D:Int):=by
  rw [Rat.divInt_eq_div,← e]
  have:((D:Int):Rat)=(D:Rat):=rfl
  rw [this]
  generalize (D:Rat)=d at nz ⊢
  grind
 rw [this]
 exact Sz.div ⟨Nat.lt_of_le_of_lt l h2⟩ ⟨by simpa using h1⟩ (by omega)
theorem Sc.add {D A B:Nat} {p q:Rat} (h:Sc D A p) (k:Sc D B q):Sc D (A + B) (p + q):=by
 obtain ⟨a,e,l⟩:=h
 obtain ⟨b,f,m⟩:=k
 refine ⟨a + b,?_,by omega⟩
 rw [Rat.intCast_add,← e,← f]
 grind
theorem Sc.sub {D A B:Nat} {p q:Rat} (h:Sc D A p) (k:Sc D B q):Sc D (A + B) (p - q):=by
 obtain ⟨a,e,l⟩:=h
 obtain ⟨b,f,m⟩:=k
 refine ⟨a - b,?_,by omega⟩
 rw [Rat.intCast_sub,← e,← f]
 grind
theorem Sc.mul {D A B:Nat} {p:Rat} {v:Int} (h:Sc D A p) (k:v.natAbs≤B):Sc D (A * B) (p * v):=by
 obtain ⟨a,e,l⟩:=h
 refine ⟨a * v,?_,?_⟩
 ·rw [Rat.intCast_mul,← e]
  grind
 ·rw [Int.natAbs_mul];exact Nat.mul_le_mul l k
theorem Sc.scale {D A E:Nat} {p:Rat} (h:Sc D A p):Sc (E * D) (E * A) p:=by
 obtain ⟨a,e,l⟩:=h
 refine ⟨E * a,?_,?_⟩
 ·rw [Rat.intCast_mul,← e]
  have h1:((E * D:Nat):Rat)=(E:Rat) * (D:Rat):=Rat.natCast_mul ..
  have h2:((E:Int):Rat)=(E:Rat):=rfl
  rw [h1,h2]
  grind
 ·rw [Int.natAbs_mul];exact Nat.mul_le_mul (by simp) l
theorem Sc.of_div {D A:Nat} {t:Int} {b:Nat} (hb:0 < b) (hd:b ∣ D) (hA:t.natAbs * (D / b)≤A):Sc D A (Rat.divInt t b):=by
 obtain ⟨c,rfl⟩:=hd
 rw [Nat.mul_div_cancel_left _ hb] at hA
 refine ⟨t * c,?_,by rw [Int.natAbs_mul];simpa using hA⟩
 have nb:=natq hb
 have e1:((b:Int):Rat)=(b:Rat):=rfl
 have e2:((c:Int):Rat)=(c:Rat):=rfl
 rw [Rat.divInt_eq_div,Rat.intCast_mul,e1,e2,Rat.natCast_mul]
 generalize (b:Rat)=b at nb ⊢
 grind
def L60:Nat:=9690712164777231700912800
theorem l60:∀ b:Nat,1≤b→b≤60→b ∣ L60:=by
 intro b h1 h2
 have:∀ b:Fin 61,1≤b.val→b.val ∣ L60:=by decide
 exact this ⟨b,by omega⟩ h1
theorem l60_pos:0 < L60:=by decide
def MM:Nat:=2097152 * L60
structure LOk (D k:Nat) (l:Leg):Prop where
 m:Sc L60 MM l.m
 p:Sc (D * L60) (L60 * 2 ^ 101 + k * (2000 * (D * MM))) l.p
 v:l.v.natAbs≤1000
theorem LOk.mono {D k j:Nat} {l:Leg} (h:LOk D k l) (e:k≤j):LOk D j l:=⟨h.m,h.p.mono (Nat.add_le_add_left (Nat.mul_le_mul_right _ e) _),h.v⟩
theorem LOk.at {D k:Nat} {l:Leg} {t:Rat} (h:LOk D k l) (ht:Sc L60 MM t):Sc (D * L60) (L60 * 2 ^ 101 + (k + 1) * (2000 * (D * MM))) (l.at t):=by
 have h1:Sc (D * L60) (D * (MM + MM)) (t - l.m):=(ht.sub h.m).scale
 have h2:=h1.mul h.v
 exact (h.p.add h2).mono (by
  have e:(k + 1) * (2000 * (D * MM))=k * (2000 * (D * MM)) + 2000 * (D * MM):=Nat.succ_mul ..
  rw [e,Nat.mul_add D]
  generalize D * MM=x
  generalize k * (2000 * x)=y
  omega)
theorem LOk.turn {D k:Nat} {l:Leg} {t:Rat} {v:Int} (h:LOk D k l) (ht:Sc L60 MM t) (hv:v.natAbs≤1000):LOk D (k + 1) ⟨t,l.at t,v⟩:=⟨ht,h.at ht,hv⟩
theorem mm_lt:MM < 2 ^ 106:=by decide
theorem mm_sz {q:Rat} (h:Sc L60 MM q):Sz 106 q:=h.sz l60_pos (by decide) mm_lt
structure Gd (D k:Nat) (rows:List Leg):Prop where
 ne:rows≠[]
 ok:∀ l∈rows,LOk D k l
 len:rows.length≤k + 1
theorem Gd.turn {D k:Nat} {rows:List Leg} {t:Rat} {v:Int} (h:Gd D k rows) (ht:Sc L60 MM t) (hv:v.natAbs≤1000):Gd D (k + 1) (turned rows t v) :=
 ⟨turned_ne h.ne,fun x hx=>by
  rcases turned_mem hx with h1 | ⟨l,h1,rfl⟩
  ·exact (h.ok x h1).mono (Nat.le_succ _)
  ·exact (h.ok l h1).turn ht hv,Nat.le_trans (turned_len _ _ _) (Nat.succ_le_succ h.len)⟩
def Later (c q:Rat):Prop:=q=c∨∃ u s:Nat,1≤u∧u≤60∧1≤s∧s≤500 * u∧q=Rat.divInt ((c.num * u).fdiv c.den + s) u
theorem Later.le {c q:Rat} (h:Later c q):c≤q:=by
 rcases h with rfl | ⟨u,s,h1,h2,h3,h4,rfl⟩
 ·exact Rat.le_refl
 have hf:c.num * u < ((c.num * u).fdiv c.den + 1) * c.den:=by
  rw [Int.fdiv_eq_ediv_of_nonneg _ (by omega)]
  exact Int.lt_ediv_add_one_mul_self (c.num * u) (den_gt c)
 generalize (c.num * u).fdiv c.den=F at hf ⊢
 have h5:c.num * u≤(F + s) * c.den:=by
  have:(F + 1) * c.den≤(F + s) * c.den:=Int.mul_le_mul_of_nonneg_right (by omega) (by omega)
  omega
 have hu:(0:Rat) < (u:Rat):=by exact_mod_cast (show 0 < u by omega)
 have hd:(0:Rat) < ((c.den:Int):Rat):=by exact_mod_cast den_gt c
 refine Rat.not_lt.mp fun hlt=>?_
 rw [Rat.divInt_eq_div] at hlt
 have e1:((u:Int):Rat)=(u:Rat):=rfl
 rw [e1,Rat.div_lt_iff hu] at hlt
 have h6:=Rat.mul_lt_mul_of_pos_right hlt hd
 have e2:c * (u:Rat) * ((c.den:Int):Rat)=((c.num * u:Int):Rat):=by
  rw [Rat.intCast_mul,cast_eq c,e1];grind
 rw [e2,← Rat.intCast_mul] at h6
 have h7:(F + s) * c.den < c.num * u:=by exact_mod_cast h6
 omega
section
variable {α:Type} {lt:α→α→Bool}
def insG (lt:α→α→Bool) (b:α) (l:List α):List α:=l.filter (fun x=>lt x b) ++ b :: l.filter (fun x=>!lt x b)
def SrtG (lt:α→α→Bool) (l:List α):Prop:=l.Pairwise fun a b=>lt a b=true
theorem part_g (p:α→Bool):∀ {l:List α} {i:Nat},i≤l.length→(∀ (j:Nat) x,j < i→l[j]?=some x→p x=true)→(∀ (j:Nat) x,i≤j→l[j]?=some x→p x=false)→l.filter p=l.take i∧l.filter (fun x=>!p x)=l.drop i
 | l,0,_,_,h=>by
  refine ⟨?_,?_⟩
  ·rw [List.take_zero]
   apply List.filter_eq_nil_iff.mpr
   intro x hx
   obtain ⟨j,hj⟩:=List.mem_iff_getElem?.mp hx
   rw [h j x (Nat.zero_le _) hj];simp
  ·rw [List.drop_zero]
   apply List.filter_eq_self.mpr
   intro x hx
   obtain ⟨j,hj⟩:=List.mem_iff_getElem?.mp hx
   rw [h j x (Nat.zero_le _) hj];rfl
 | [],i + 1,hi,_,_=>by simp at hi
 | x :: l,i + 1,hi,h1,h2=>by
  obtain ⟨b,c⟩:=part_g p (l:=l) (i:=i) (by simpa using hi) (fun j y hj e=>h1 (j + 1) y (by omega) (by simpa using e)) (fun j y hj e=>h2 (j + 1) y (by omega) (by simpa using e))
  have hx:p x=true:=h1 0 x (by omega) rfl
  refine ⟨?_,?_⟩
  ·rw [List.filter_cons,hx];simp [b]
  ·rw [List.filter_cons,hx];simp [c]
theorem insG_at {b:α} {l:List α} {i:Nat} (hi:i≤l.length) (h1:∀ (j:Nat) x,j < i→l[j]?=some x→lt x b=true) (h2:∀ (j:Nat) x,i≤j→l[j]?=some x→lt x b=false):l.take i ++ b :: l.drop i=insG lt b l:=by
 obtain ⟨e1,e2⟩:=part_g (fun x=>lt x b) hi h1 h2
 unfold insG
 rw [e1,e2]
theorem insG_mem {b x:α} {l:List α}:x∈insG lt b l↔x=b∨x∈l:=by
 unfold insG
 rw [List.mem_append,List.mem_cons,List.mem_filter,List.mem_filter]
 constructor
 ·rintro (h | h | h)
  ·exact .inr h.1
  ·exact .inl h
  ·exact .inr h.1
 ·rintro (h | h)
  ·exact .inr (.inl h)
  ·cases e:lt x b
   ·exact .inr (.inr ⟨h,by simp⟩)
   ·exact .inl ⟨h,rfl⟩
theorem insG_len (b:α) (l:List α):(insG lt b l).length=l.length + 1:=by
 unfold insG
 rw [List.length_append,List.length_cons]
 have:∀ l:List α,(l.filter fun x=>lt x b).length + (l.filter fun x=>!lt x b).length=l.length:=by
  intro l
  induction l with
  | nil=>rfl
  | cons x l ih=>cases h:lt x b <;> simp [h] <;> omega
 have:=this l
 omega
theorem insG_srt (tr:∀ {a b c},lt a b=true→lt b c=true→lt a c=true) {b:α} {l:List α} (s:SrtG lt l) (tot:∀ x∈l,lt x b=true∨lt b x=true):SrtG lt (insG lt b l):=by
 unfold insG SrtG
 rw [List.pairwise_append]
 refine ⟨s.filter _,?_,?_⟩
 ·rw [List.pairwise_cons]
  refine ⟨fun y hy=>?_,s.filter _⟩
  rw [List.mem_filter] at hy
  rcases tot y hy.1 with q | q
  ·simp [q] at hy
  ·exact q
 ·intro x hx y hy
  rw [List.mem_filter] at hx
  rcases List.mem_cons.mp hy with rfl | hy
  ·exact hx.2
  ·rw [List.mem_filter] at hy
   rcases tot y hy.1 with q | q
   ·simp [q] at hy
   ·exact tr hx.2 q
theorem srtG_low (tr:∀ {a b c},lt a b=true→lt b c=true→lt a c=true) {l:List α} {b x y:α} {i j:Nat} (s:SrtG lt l) (hx:l[i]?=some x) (hy:l[j]?=some y) (h:j≤i) (k:lt x b=true):lt y b=true:=by
 rcases Nat.lt_or_eq_of_le h with h | h
 ·obtain ⟨hi,ei⟩:=List.getElem?_eq_some_iff.mp hx
  obtain ⟨hj,ej⟩:=List.getElem?_eq_some_iff.mp hy
  have:=List.pairwise_iff_getElem.mp s j i hj hi h
  rw [ei,ej] at this
  exact tr this k
 ·subst h;rw [hx] at hy;cases hy;exact k
theorem srtG_ext (irr:∀ a,lt a a=false) (tr:∀ {a b c},lt a b=true→lt b c=true→lt a c=true):∀ {l k:List α},SrtG lt l→SrtG lt k→(∀ x,x∈l↔x∈k)→l=k
 | [],[],_,_,_=>rfl
 | [],y :: k,_,_,h=>by have:=(h y).mpr List.mem_cons_self;cases this
 | x :: l,[],_,_,h=>by have:=(h x).mp List.mem_cons_self;cases this
 | x :: l,y :: k,hl,hk,h=>by
  obtain ⟨a1,a2⟩:=List.pairwise_cons.mp hl
  obtain ⟨b1,b2⟩:=List.pairwise_cons.mp hk
  have exy:x=y:=by
   rcases List.mem_cons.mp ((h x).mp List.mem_cons_self) with e | e
   ·exact e
   ·rcases List.mem_cons.mp ((h y).mpr List.mem_cons_self) with e' | e'
    ·exact e'.symm
    ·have:=tr (a1 y e') (b1 x e)
     rw [irr] at this;cases this
  subst exy
  rw [srtG_ext irr tr a2 b2 fun z=>?_]
  constructor
  ·intro hz
   rcases List.mem_cons.mp ((h z).mp (List.mem_cons_of_mem _ hz)) with e | e
   ·have:=a1 z hz;rw [e,irr] at this;cases this
   ·exact e
  ·intro hz
   rcases List.mem_cons.mp ((h z).mpr (List.mem_cons_of_mem _ hz)) with e | e
   ·have:=b1 z hz;rw [e,irr] at this;cases this
   ·exact e
end
structure Ky where
 p:Rat
 v:Int
 n:Str
 deriving DecidableEq
def Ky.lt (a b:Ky):Bool:=if a.p=b.p then (if a.v=b.v then decide (slt a.n b.n) else decide (a.v < b.v)) else decide (a.p < b.p)
theorem Ky.lt_iff (a b:Ky):a.lt b=true↔a.p < b.p∨(a.p=b.p∧(a.v < b.v∨(a.v=b.v∧slt a.n b.n))):=by
 unfold Ky.lt
 by_cases e:a.p=b.p
 ·rw [if_pos e]
  have n:¬ a.p < b.p:=by rw [e];exact Rat.lt_irrefl
  by_cases k:a.v=b.v
  ·rw [if_pos k,decide_eq_true_eq]
   have n2:¬ a.v < b.v:=by omega
   exact ⟨fun h=>.inr ⟨e,.inr ⟨k,h⟩⟩,fun h=>by
    rcases h with h | ⟨_,h | h⟩
    ·exact absurd h n
    ·exact absurd h n2
    ·exact h.2⟩
  ·rw [if_neg k,decide_eq_true_eq]
   exact ⟨fun h=>.inr ⟨e,.inl h⟩,fun h=>by
    rcases h with h | ⟨_,h | h⟩
    ·exact absurd h n
    ·exact h
    ·exact absurd h.1 k⟩
 ·rw [if_neg e,decide_eq_true_eq]
  exact ⟨.inl,fun h=>by
   rcases h with h | h
   ·exact h
   ·exact absurd h.1 e⟩
theorem Ky.irr (a:Ky):a.lt a=false:=by
 cases h:a.lt a with
 | false=>rfl
 | true =>
  rcases (Ky.lt_iff a a).mp h with h | ⟨_,h | ⟨_,h⟩⟩
  ·exact absurd h Rat.lt_irrefl
  ·omega
  ·exact absurd h (slt_irr _)
theorem Ky.tr {a b c:Ky} (h:a.lt b=true) (k:b.lt c=true):a.lt c=true:=by
 rw [Ky.lt_iff] at *
 rcases h with h | ⟨e,h⟩ <;> rcases k with k | ⟨e',k⟩
 ·exact .inl (rlt_trans h k)
 ·exact .inl (e' ▸ h)
 ·exact .inl (e ▸ k)
 ·refine .inr ⟨e.trans e',?_⟩
  rcases h with h | ⟨z,h⟩ <;> rcases k with k | ⟨z',k⟩
  ·exact .inl (by omega)
  ·exact .inl (by omega)
  ·exact .inl (by omega)
  ·exact .inr ⟨z.trans z',slt_trans h k⟩
theorem Ky.tot {a b:Ky} (h:a.n≠b.n):a.lt b=true∨b.lt a=true:=by
 rw [Ky.lt_iff,Ky.lt_iff]
 by_cases e:a.p=b.p
 ·by_cases z:a.v=b.v
  ·rcases slt_tot h with q | q
   ·exact .inl (.inr ⟨e,.inr ⟨z,q⟩⟩)
   ·exact .inr (.inr ⟨e.symm,.inr ⟨z.symm,q⟩⟩)
  ·rcases (by omega:a.v < b.v∨b.v < a.v) with q | q
   ·exact .inl (.inr ⟨e,.inl q⟩)
   ·exact .inr (.inr ⟨e.symm,.inl q⟩)
 ·rcases (by grind:a.p < b.p∨b.p < a.p) with q | q
  ·exact .inl (.inl q)
  ·exact .inr (.inl q)
theorem Ky.asym {a b:Ky} (h:a.lt b=true):b.lt a=false:=by
 cases k:b.lt a with
 | false=>rfl
 | true=>have:=Ky.tr h k;rw [Ky.irr] at this;cases this
def ordK (ks:List Ky):List Ky:=ks.foldl (fun acc x=>insG Ky.lt x acc) []
theorem ordK_snoc (ks:List Ky) (x:Ky):ordK (ks ++ [x])=insG Ky.lt x (ordK ks):=by unfold ordK;rw [List.foldl_append];rfl
theorem snoc_ind {α:Type} {p:List α→Prop} (h0:p []) (h1:∀ l x,p l→p (l ++ [x])) (l:List α):p l:=by
 have:∀ l:List α,p l.reverse:=by
  intro l
  induction l with
  | nil=>exact h0
  | cons x l ih=>rw [List.reverse_cons];exact h1 _ _ ih
 have:=this l.reverse
 rwa [List.reverse_reverse] at this
theorem nodup_snoc {α:Type} {l:List α} {x:α} (h:(l ++ [x]).Nodup):l.Nodup∧x ∉ l:=by
 rw [List.nodup_append] at h
 exact ⟨h.1,fun hm=>h.2.2 x hm x (by simp) rfl⟩
theorem ordK_mem:∀ (ks:List Ky) (x:Ky),x∈ordK ks↔x∈ks:=by
 intro ks
 refine snoc_ind (p:=fun ks=>∀ x:Ky,x∈ordK ks↔x∈ks) (fun x=>by simp [ordK]) (fun ks y ih x=>?_) ks
 rw [ordK_snoc,insG_mem,ih,List.mem_append,List.mem_singleton]
 exact Or.comm
theorem ordK_srt {ks:List Ky} (h:(ks.map Ky.n).Nodup):SrtG Ky.lt (ordK ks):=by
 revert h
 refine snoc_ind (p:=fun ks=>(ks.map Ky.n).Nodup→SrtG Ky.lt (ordK ks)) (fun _=>List.Pairwise.nil) (fun ks y ih h=>?_) ks
 ·rw [List.map_append,List.map_cons,List.map_nil] at h
  obtain ⟨h1,h2⟩:=nodup_snoc h
  rw [ordK_snoc]
  refine insG_srt (lt:=Ky.lt) Ky.tr (ih h1) fun x hx=>Ky.tot fun e=>h2 ?_
  rw [← e]
  exact List.mem_map_of_mem ((ordK_mem ks x).mp hx)
theorem ordK_len (ks:List Ky):(ordK ks).length=ks.length:=by
 refine snoc_ind (p:=fun ks=>(ordK ks).length=ks.length) rfl (fun ks y ih=>?_) ks
 rw [ordK_snoc,insG_len,ih,List.length_append];rfl
theorem ordK_ext {ks js:List Ky} (h:(ks.map Ky.n).Nodup) (k:(js.map Ky.n).Nodup) (e:∀ x,x∈ks↔x∈js):ordK ks=ordK js :=
 srtG_ext (lt:=Ky.lt) Ky.irr Ky.tr (ordK_srt h) (ordK_srt k) fun x=>by rw [ordK_mem,ordK_mem];exact e x
def key (t:Rat) (x:Str × Leg):Ky:=⟨x.2.at t,x.2.v,x.1⟩
def ordQ (t:Rat) (fs:List (Str × Leg)):List Str:=(ordK (fs.map (key t))).map Ky.n
theorem key_names (t:Rat) (fs:List (Str × Leg)):(fs.map (key t)).map Ky.n=fs.map (·.1):=by rw [List.map_map];rfl
theorem ordQ_mem {t:Rat} {fs:List (Str × Leg)} {n:Str}:n∈ordQ t fs↔n∈fs.map (·.1):=by
 rw [← key_names t fs]
 unfold ordQ
 rw [List.mem_map,List.mem_map]
 exact ⟨fun ⟨x,h,e⟩=>⟨x,(ordK_mem _ _).mp h,e⟩,fun ⟨x,h,e⟩=>⟨x,(ordK_mem _ _).mpr h,e⟩⟩
theorem ordQ_len (t:Rat) (fs:List (Str × Leg)):(ordQ t fs).length=fs.length:=by unfold ordQ;rw [List.length_map,ordK_len,List.length_map]
theorem srt_names {l:List Ky} (s:SrtG Ky.lt l) (h:∀ x∈l,∀ y∈l,x.n=y.n→x=y):(l.map Ky.n).Nodup:=by
 refine List.pairwise_map.mpr (s.imp_of_mem fun {a b} ha hb hab e=>?_)
 have:=h a ha b hb e
 subst this
 rw [Ky.irr] at hab;cases hab
theorem name_inj {ks:List Ky} (h:(ks.map Ky.n).Nodup):∀ x∈ks,∀ y∈ks,x.n=y.n→x=y:=by
 intro x hx y hy e
 obtain ⟨i,hi,rfl⟩:=List.getElem_of_mem hx
 obtain ⟨j,hj,rfl⟩:=List.getElem_of_mem hy
 have:=(List.getElem_inj (xs:=ks.map Ky.n) (i:=i) (j:=j) (h₀:=by simpa using hi) (h₁:=by simpa using hj) h).mp (by rw [List.getElem_map,List.getElem_map];exact e)
 subst this;rfl
theorem ordQ_nodup {t:Rat} {fs:List (Str × Leg)} (h:(fs.map (·.1)).Nodup):(ordQ t fs).Nodup:=by
 rw [← key_names t fs] at h
 exact srt_names (ordK_srt h) fun x hx y hy e=>name_inj h x ((ordK_mem _ _).mp hx) y ((ordK_mem _ _).mp hy) e
theorem ordQ_ext {t:Rat} {fs gs:List (Str × Leg)} (h:(fs.map (·.1)).Nodup) (k:(gs.map (·.1)).Nodup) (e:∀ x,x∈fs.map (key t)↔x∈gs.map (key t)):ordQ t fs=ordQ t gs:=by
 unfold ordQ
 rw [ordK_ext (by rw [key_names];exact h) (by rw [key_names];exact k) e]
theorem va_mem {α β:Type} {fs:List (Str × α)} {f:α→β} (h:(fs.map (·.1)).Nodup) {n:Str} {l:α} (hm:(n,l)∈fs):L2.vaL (fs.map fun x=>(x.1,f x.2)) n=some (f l):=by
 induction fs with
 | nil=>cases hm
 | cons x fs ih =>
  rw [List.map_cons,List.nodup_cons] at h
  rw [List.map_cons,L2.vaL_cons]
  rcases List.mem_cons.mp hm with e | e
  ·subst e;rw [if_pos rfl]
  ·have ne:x.1≠n:=fun z=>h.1 (by rw [z];exact List.mem_map_of_mem (f:=fun x:Str × α=>x.1) e)
   rw [if_neg ne];exact ih h.2 e
theorem va_some {α β:Type} {fs:List (Str × α)} {f:α→β} (h:(fs.map (·.1)).Nodup) {n:Str} (hm:n∈fs.map (·.1)):∃ l,(n,l)∈fs∧L2.vaL (fs.map fun x=>(x.1,f x.2)) n=some (f l):=by
 obtain ⟨⟨m,l⟩,hx,rfl⟩:=List.mem_map.mp hm
 exact ⟨l,hx,va_mem h hx⟩
theorem va_none {α β:Type} {fs:List (Str × α)} {f:α→β} {n:Str} (hm:n ∉ fs.map (·.1)):L2.vaL (fs.map fun x=>(x.1,f x.2)) n=none:=by
 induction fs with
 | nil=>rfl
 | cons x fs ih =>
  rw [List.map_cons,L2.vaL_cons]
  rw [List.map_cons,List.mem_cons,not_or] at hm
  rw [if_neg (fun e=>hm.1 e.symm)];exact ih hm.2
theorem va_isSome {α β:Type} {fs:List (Str × α)} {f:α→β} {n:Str} (h:(fs.map (·.1)).Nodup):(L2.vaL (fs.map fun x=>(x.1,f x.2)) n).isSome=decide (n∈fs.map (·.1)):=by
 by_cases hm:n∈fs.map (·.1)
 ·obtain ⟨l,_,e⟩:=va_some (f:=f) h hm
  rw [e,decide_eq_true hm];rfl
 ·rw [va_none hm,decide_eq_false hm];rfl
theorem pu_new {α β:Type} {fs:List (Str × α)} {f:α→β} {n:Str} {l:α} (hm:n ∉ fs.map (·.1)):L2.puL (fs.map fun x=>(x.1,f x.2)) n (f l)=(fs ++ [(n,l)]).map fun x=>(x.1,f x.2):=by
 unfold L2.puL
 rw [if_neg,List.map_append]
 ·rfl
 ·intro h
  rw [List.any_eq_true] at h
  obtain ⟨y,hy,e⟩:=h
  obtain ⟨x,hx,rfl⟩:=List.mem_map.mp hy
  exact hm (by rw [← of_decide_eq_true e];exact List.mem_map_of_mem (f:=fun x:Str × α=>x.1) hx)
def PP:Nat:=1000000 * L60 + 1000 * MM
structure COk (l:Leg):Prop where
 m0:0≤l.m
 m:Sc L60 MM l.m
 p:∃ a:Int,l.p * (L60:Rat)=(a:Rat)
 b0:-(1000000 + 1000 * l.m)≤l.p
 b1:l.p≤1000000 + 1000 * l.m
 v:l.v.natAbs≤1000
theorem l60_q:(0:Rat) < (L60:Rat):=by
 have:((0:Nat):Rat) < ((L60:Nat):Rat):=Rat.natCast_lt_natCast.mpr l60_pos
 simpa using this
theorem COk.sc {l:Leg} (h:COk l):Sc L60 PP l.p:=by
 obtain ⟨a,ha⟩:=h.p
 obtain ⟨k,hk,hk1⟩:=h.m
 have hL:=l60_q
 have b0:=h.b0
 have b1:=h.b1
 have e1:(a:Rat)≤(((1000000 * L60 + 1000 * k:Int)):Rat):=by
  rw [← ha,Rat.intCast_add,Rat.intCast_mul,Rat.intCast_mul,← hk]
  have:l.p * (L60:Rat)≤(1000000 + 1000 * l.m) * (L60:Rat):=Rat.mul_le_mul_of_nonneg_right b1 (Rat.le_of_lt hL)
  have e:(((L60:Nat):Int):Rat)=(L60:Rat):=rfl
  rw [e]
  grind
 have e2:(((-(1000000 * L60 + 1000 * k):Int)):Rat)≤(a:Rat):=by
  rw [← ha,Rat.intCast_neg,Rat.intCast_add,Rat.intCast_mul,Rat.intCast_mul,← hk]
  have:-(1000000 + 1000 * l.m) * (L60:Rat)≤l.p * (L60:Rat):=Rat.mul_le_mul_of_nonneg_right b0 (Rat.le_of_lt hL)
  have e:(((L60:Nat):Int):Rat)=(L60:Rat):=rfl
  rw [e]
  grind
 have e1:=Rat.intCast_le_intCast.mp e1
 have e2:=Rat.intCast_le_intCast.mp e2
 refine ⟨a,ha,?_⟩
 unfold PP
 have:(k:Int)≤MM:=by omega
 have:-(MM:Int)≤k:=by omega
 omega
theorem pp_lt:PP < 2 ^ 120:=by decide
theorem COk.psz {l:Leg} (h:COk l):Sz 120 l.p:=h.sc.sz l60_pos (by decide) pp_lt
theorem COk.msz {l:Leg} (h:COk l):Sz 120 l.m:=(mm_sz h.m).mono (by decide)
theorem COk.at {l:Leg} {t:Rat} {v:Int} (h:COk l) (h0:l.m≤t) (ht:Sc L60 MM t) (hv:v.natAbs≤1000):COk ⟨t,l.at t,v⟩:=by
 have hm:=h.m0
 have t0:0≤t:=Rat.le_trans hm h0
 have d0:0≤t - l.m:=by grind
 have v1:(l.v:Rat)≤1000:=by
  have:((l.v:Int):Rat)≤((1000:Int):Rat):=Rat.intCast_le_intCast.mpr (by have:=h.v;omega)
  exact this
 have v2:-1000≤(l.v:Rat):=by
  have:((-1000:Int):Rat)≤((l.v:Int):Rat):=Rat.intCast_le_intCast.mpr (by have:=h.v;omega)
  exact this
 have m1:(t - l.m) * (l.v:Rat)≤(t - l.m) * 1000:=Rat.mul_le_mul_of_nonneg_left v1 d0
 have m2:(t - l.m) * (-1000)≤(t - l.m) * (l.v:Rat):=Rat.mul_le_mul_of_nonneg_left v2 d0
 have b0:=h.b0
 have b1:=h.b1
 refine ⟨t0,ht,?_,?_,?_,hv⟩
 ·obtain ⟨a,ha⟩:=h.p
  obtain ⟨k,hk,_⟩:=h.m
  obtain ⟨j,hj,_⟩:=ht
  refine ⟨a + (j - k) * l.v,?_⟩
  unfold Leg.at
  dsimp only
  rw [Rat.intCast_add,Rat.intCast_mul,Rat.intCast_sub,← ha,← hk,← hj]
  grind
 ·show -(1000000 + 1000 * t)≤l.p + (t - l.m) * (l.v:Rat)
  grind
 ·show l.p + (t - l.m) * (l.v:Rat)≤1000000 + 1000 * t
  grind
theorem COk.new {t:Rat} {p v:Int} (t0:0≤t) (ht:Sc L60 MM t) (hp:p.natAbs≤1000000) (hv:v.natAbs≤1000):COk ⟨t,(p:Rat),v⟩:=by
 have p1:(p:Rat)≤1000000:=by
  have:((p:Int):Rat)≤((1000000:Int):Rat):=Rat.intCast_le_intCast.mpr (by omega)
  exact this
 have p2:-1000000≤(p:Rat):=by
  have:((-1000000:Int):Rat)≤((p:Int):Rat):=Rat.intCast_le_intCast.mpr (by omega)
  exact this
 refine ⟨t0,ht,⟨p * L60,by rw [Rat.intCast_mul];rfl⟩,?_,?_,hv⟩
 ·show -(1000000 + 1000 * t)≤(p:Rat)
  grind
 ·show (p:Rat)≤1000000 + 1000 * t
  grind
def addB (b:Bell) (l:List Bell):List Bell:=if b∈l then l else insB b l
theorem insB_mem' {b x:Bell} {l:List Bell}:x∈insB b l↔x=b∨x∈l:=insG_mem (lt:=Bell.lt)
theorem addB_mem {b x:Bell} {l:List Bell}:x∈addB b l↔x=b∨x∈l:=by
 unfold addB
 split
 ·rename_i h
  exact ⟨.inr,fun z=>by rcases z with rfl | z;exact h;exact z⟩
 ·exact insB_mem'
theorem addB_srt {b:Bell} {l:List Bell} (s:Srtd l):Srtd (addB b l):=by
 unfold addB
 split
 ·exact s
 ·rename_i h
  exact insB_srt s fun x hx e=>h (e ▸ hx)
def ordB (bs:List Bell):List Bell:=bs.foldl (fun acc b=>addB b acc) []
theorem ordB_snoc (bs:List Bell) (b:Bell):ordB (bs ++ [b])=addB b (ordB bs):=by unfold ordB;rw [List.foldl_append];rfl
theorem ordB_mem (bs:List Bell) (x:Bell):x∈ordB bs↔x∈bs:=by
 refine snoc_ind (p:=fun bs=>∀ x:Bell,x∈ordB bs↔x∈bs) (fun x=>by simp [ordB]) (fun bs y ih x=>?_) bs x
 rw [ordB_snoc,addB_mem,ih,List.mem_append,List.mem_singleton]
 exact Or.comm
theorem ordB_srt (bs:List Bell):Srtd (ordB bs):=by
 refine snoc_ind (p:=fun bs=>Srtd (ordB bs)) List.Pairwise.nil (fun bs y ih=>?_) bs
 rw [ordB_snoc];exact addB_srt ih
theorem srtd_ext {l k:List Bell} (h:Srtd l) (h':Srtd k) (e:∀ x,x∈l↔x∈k):l=k:=srtG_ext (lt:=Bell.lt) Bell.lt_irr Bell.lt_trans h h' e
def meetK (t:Rat) (a b:Ky):Rat:=t + (b.p - a.p) / ((a.v - b.v:Int):Rat)
def bellK (t:Rat) (a b:Ky):Bell:=⟨meetK t a b,a.n,b.n⟩
def passK (t:Rat) (ks:List Ky) (m:Rat):List Bell:=ordB (((ks.flatMap fun a=>ks.map fun b=>(a,b)).filter fun p=>decide (p.2.v < p.1.v∧p.1.p < p.2.p∧meetK t p.1 p.2≤m)).map fun p=>bellK t p.1 p.2)
theorem passK_mem {t m:Rat} {ks:List Ky} {x:Bell}:x∈passK t ks m↔∃ a∈ks,∃ b∈ks,b.v < a.v∧a.p < b.p∧meetK t a b≤m∧x=bellK t a b:=by
 unfold passK
 rw [ordB_mem,List.mem_map]
 constructor
 ·rintro ⟨⟨a,b⟩,h,rfl⟩
  rw [List.mem_filter,List.mem_flatMap] at h
  obtain ⟨⟨c,hc,h1⟩,h2⟩:=h
  obtain ⟨d,hd,e⟩:=List.mem_map.mp h1
  cases e
  have h2:=of_decide_eq_true h2
  exact ⟨_,hc,_,hd,h2.1,h2.2.1,h2.2.2,rfl⟩
 ·rintro ⟨a,ha,b,hb,h1,h2,h3,rfl⟩
  exact ⟨(a,b),List.mem_filter.mpr ⟨List.mem_flatMap.mpr ⟨a,ha,List.mem_map.mpr ⟨b,hb,rfl⟩⟩,decide_eq_true ⟨h1,h2,h3⟩⟩,rfl⟩
theorem passK_srt (t m:Rat) (ks:List Ky):Srtd (passK t ks m):=ordB_srt _
def meetQ (l l':Leg):Rat:=(l'.at 0 - l.at 0) / ((l.v - l'.v:Int):Rat)
theorem sub_ne {a b:Int} (h:a≠b):((a - b:Int):Rat)≠0:=by
 intro e
 have:(a - b:Int)=0:=by exact_mod_cast (show ((a - b:Int):Rat)=((0:Int):Rat) from e)
 omega
theorem meet_eq {t:Rat} {n n':Str} {l l':Leg} (h:l.v≠l'.v):meetQ l l'=meetK t (key t (n,l)) (key t (n',l')):=by
 have k:=sub_ne h
 unfold meetQ meetK key Leg.at
 dsimp only
 rw [Rat.intCast_sub] at *
 grind
theorem rdiv_pos {a b:Rat} (ha:0 < a) (hb:0 < b):0 < a / b:=by
 have e:a / b * b=a:=by grind
 rcases Rat.le_total (a:=a / b) (b:=0) with h | h
 ·have:=Rat.mul_le_mul_of_nonneg_right h (Rat.le_of_lt hb)
  rw [e,Rat.zero_mul] at this
  exact absurd ha (Rat.not_lt.mpr this)
 ·rcases (by grind:a / b=0∨0 < a / b) with h | h
  ·rw [h,Rat.zero_mul] at e;rw [← e] at ha;exact absurd ha Rat.lt_irrefl
  ·exact h
def metQ (t:Rat) (l l':Leg):Option Rat:=if l.v≠l'.v∧t < meetQ l l' then some (meetQ l l') else none
theorem metQ_lt {t:Rat} {n n':Str} {l l':Leg} (h:(key t (n,l)).lt (key t (n',l'))=true):(l.v≠l'.v∧t < meetQ l l')↔(l'.v < l.v∧l.at t < l'.at t):=by
 rw [Ky.lt_iff] at h
 unfold key at h
 dsimp only at h
 constructor
 ·rintro ⟨h1,h2⟩
  rw [meet_eq (t:=t) (n:=n) (n':=n') h1] at h2
  unfold meetK key at h2
  dsimp only at h2
  have k:=sub_ne h1
  have h3:0 < (l'.at t - l.at t) / ((l.v - l'.v:Int):Rat):=by grind
  have hp:l.at t≠l'.at t:=by
   intro e
   rw [e] at h3
   have:(l'.at t - l'.at t) / ((l.v - l'.v:Int):Rat)=0:=by grind
   rw [this] at h3
   exact absurd h3 Rat.lt_irrefl
  have hlt:l.at t < l'.at t:=by
   rcases h with h | ⟨h,_⟩
   ·exact h
   ·exact absurd h hp
  refine ⟨?_,hlt⟩
  rcases (by omega:l'.v < l.v∨l.v < l'.v) with q | q
  ·exact q
  ·exfalso
   have hn:((l.v - l'.v:Int):Rat) < 0:=by
    have:((l.v - l'.v:Int):Rat) < ((0:Int):Rat):=Rat.intCast_lt_intCast.mpr (by omega)
    exact this
   have hd:0 < l'.at t - l.at t:=by grind
   have e:(l'.at t - l.at t) / ((l.v - l'.v:Int):Rat) * ((l.v - l'.v:Int):Rat)=l'.at t - l.at t:=by grind
   generalize (l'.at t - l.at t) / ((l.v - l'.v:Int):Rat)=z at h3 e
   have:z * ((l.v - l'.v:Int):Rat) < 0:=by
    have:=Rat.mul_lt_mul_of_pos_left hn h3
    rwa [Rat.mul_zero] at this
   grind
 ·rintro ⟨h1,h2⟩
  have hne:l.v≠l'.v:=by omega
  refine ⟨hne,?_⟩
  rw [meet_eq (t:=t) (n:=n) (n':=n') hne]
  unfold meetK key
  dsimp only
  have hpos:0 < ((l.v - l'.v:Int):Rat):=by
   have:((0:Int):Rat) < ((l.v - l'.v:Int):Rat):=Rat.intCast_lt_intCast.mpr (by omega)
   exact this
  have hd:0 < l'.at t - l.at t:=by grind
  have:0 < (l'.at t - l.at t) / ((l.v - l'.v:Int):Rat):=rdiv_pos hd hpos
  grind
end Ov
namespace Ov
def putB (t:Rat) (c:Ky × Ky→Bool) (rows:List Bell) (p:Ky × Ky):List Bell:=if c p=true then insB (bellK t p.1 p.2) (dropB p.1.n p.2.n rows) else rows
def foldB (t:Rat) (c:Ky × Ky→Bool) (ps:List (Ky × Ky)):List Bell:=ps.foldl (putB t c) []
theorem foldB_snoc (t:Rat) (c:Ky × Ky→Bool) (ps:List (Ky × Ky)) (p:Ky × Ky):foldB t c (ps ++ [p])=putB t c (foldB t c ps) p:=by unfold foldB;rw [List.foldl_append];rfl
theorem foldB_srt (t:Rat) (c:Ky × Ky→Bool) (ps:List (Ky × Ky)):Srtd (foldB t c ps):=by
 refine snoc_ind (p:=fun ps=>Srtd (foldB t c ps)) List.Pairwise.nil (fun l x ih=>?_) ps
 rw [foldB_snoc]
 unfold putB
 split
 ·exact insB_srt (dropB_srt ih) drop_ne
 ·exact ih
theorem foldB_sub {t:Rat} {c:Ky × Ky→Bool} {x:Bell} (ps:List (Ky × Ky)):x∈foldB t c ps→∃ p∈ps,c p=true∧x=bellK t p.1 p.2:=by
 refine snoc_ind (p:=fun ps=>x∈foldB t c ps→∃ p∈ps,c p=true∧x=bellK t p.1 p.2) (fun h=>by cases h) (fun l y ih h=>?_) ps
 rw [foldB_snoc] at h
 unfold putB at h
 split at h
 ·rename_i hc
  rcases insB_mem h with e | h
  ·exact ⟨y,by simp,hc,e⟩
  ·obtain ⟨p,hp,k⟩:=ih (List.mem_filter.mp h).1
   exact ⟨p,List.mem_append.mpr (.inl hp),k⟩
 ·obtain ⟨p,hp,k⟩:=ih h
  exact ⟨p,List.mem_append.mpr (.inl hp),k⟩
def PInj (ps:List (Ky × Ky)):Prop:=∀ p∈ps,∀ q∈ps,p.1.n=q.1.n→p.2.n=q.2.n→p=q
theorem foldB_mem {t:Rat} {c:Ky × Ky→Bool} {x:Bell} (ps:List (Ky × Ky)):PInj ps→(x∈foldB t c ps↔∃ p∈ps,c p=true∧x=bellK t p.1 p.2):=by
 refine snoc_ind (p:=fun ps=>PInj ps→(x∈foldB t c ps↔∃ p∈ps,c p=true∧x=bellK t p.1 p.2)) (fun _=>Iff.intro (fun h=>nomatch h) (fun h=>by obtain ⟨_,h,_⟩:=h;cases h)) (fun l y ih inj=>?_) ps
 have ih:=ih fun p hp q hq=>inj p (List.mem_append.mpr (.inl hp)) q (List.mem_append.mpr (.inl hq))
 refine ⟨foldB_sub _,?_⟩
 rintro ⟨p,hp,hc,rfl⟩
 rw [foldB_snoc]
 unfold putB
 have hold:p∈l→bellK t p.1 p.2∈foldB t c l:=fun h=>ih.mpr ⟨p,h,hc,rfl⟩
 split
 ·rename_i hy
  rw [insB_mem']
  by_cases e:p=y
  ·left;rw [e]
  ·right
   have hl:p∈l:=by
    rcases List.mem_append.mp hp with h | h
    ·exact h
    ·exact absurd (by simpa using h) e
   refine List.mem_filter.mpr ⟨hold hl,?_⟩
   unfold samep
   have:¬ ((bellK t p.1 p.2).h=y.1.n∧(bellK t p.1 p.2).f=y.2.n):=fun z=>e (inj p hp y (by simp) z.1 z.2)
   rw [decide_eq_false this];rfl
 ·rename_i hy
  rcases List.mem_append.mp hp with h | h
  ·exact hold h
  ·have:p=y:=by simpa using h
   subst this;exact absurd hc hy
theorem PInj.of {ks:List Ky} (h:(ks.map Ky.n).Nodup) {ps:List (Ky × Ky)} (hp:∀ p∈ps,p.1∈ks∧p.2∈ks):PInj ps:=fun p h1 q h2 e1 e2=>by
 have a:=name_inj h p.1 (hp p h1).1 q.1 (hp q h2).1 e1
 have b:=name_inj h p.2 (hp p h1).2 q.2 (hp q h2).2 e2
 cases p;cases q;simp only at a b;rw [a,b]
def upK (ks:List Ky):Nat→List (Ky × Ky)
 | 0=>[]
 | i + 1=>upK ks i ++ (match ks[i]? with | some a=>(ks.drop (i + 1)).map fun b=>(a,b) | none=>[])
theorem upK_mem {ks:List Ky} {p:Ky × Ky}:∀ {i:Nat},p∈upK ks i↔∃ i' j,i' < i∧i' < j∧ks[i']?=some p.1∧ks[j]?=some p.2
 | 0=>⟨fun h=>(by cases h),fun ⟨_,_,h,_⟩=>by omega⟩
 | i + 1=>by
  unfold upK
  rw [List.mem_append,upK_mem (i:=i)]
  constructor
  ·rintro (⟨i',j,h1,h⟩ | h)
   ·exact ⟨i',j,by omega,h⟩
   ·cases e:ks[i]? with
    | none=>rw [e] at h;cases h
    | some a =>
     rw [e] at h
     obtain ⟨b,hb,rfl⟩:=List.mem_map.mp h
     obtain ⟨j,hj⟩:=List.mem_iff_getElem?.mp hb
     rw [List.getElem?_drop] at hj
     exact ⟨i,_,by omega,by omega,e,hj⟩
  ·rintro ⟨i',j,h1,h2,h3,h4⟩
   by_cases e:i' < i
   ·exact .inl ⟨i',j,e,h2,h3,h4⟩
   ·have:i'=i:=by omega
    subst this
    right
    rw [h3]
    refine List.mem_map.mpr ⟨p.2,List.mem_iff_getElem?.mpr ⟨j - (i' + 1),?_⟩,rfl⟩
    rw [List.getElem?_drop,show i' + 1 + (j - (i' + 1))=j by omega];exact h4
def cPass (t m:Rat) (p:Ky × Ky):Bool:=decide (p.2.v < p.1.v∧p.1.p < p.2.p∧meetK t p.1 p.2≤m)
theorem up_pass {t m:Rat} {ks:List Ky} (h:(ks.map Ky.n).Nodup):foldB t (cPass t m) (upK (ordK ks) (ordK ks).length)=passK t ks m:=by
 have hs:=ordK_srt h
 have hn:((ordK ks).map Ky.n).Nodup:=srt_names hs (fun x hx y hy e=>name_inj h x ((ordK_mem _ _).mp hx) y ((ordK_mem _ _).mp hy) e)
 refine srtd_ext (foldB_srt _ _ _) (passK_srt _ _ _) fun x=>?_
 rw [foldB_mem _ (PInj.of hn fun p hp=>by
  obtain ⟨i,j,_,_,h3,h4⟩:=upK_mem.mp hp
  exact ⟨List.mem_of_getElem? h3,List.mem_of_getElem? h4⟩),passK_mem]
 constructor
 ·rintro ⟨p,hp,hc,rfl⟩
  obtain ⟨i,j,_,_,h3,h4⟩:=upK_mem.mp hp
  have hc:=of_decide_eq_true hc
  exact ⟨p.1,(ordK_mem _ _).mp (List.mem_of_getElem? h3),p.2,(ordK_mem _ _).mp (List.mem_of_getElem? h4),hc.1,hc.2.1,hc.2.2,rfl⟩
 ·rintro ⟨a,ha,b,hb,h1,h2,h3,rfl⟩
  obtain ⟨i,hi⟩:=List.mem_iff_getElem?.mp ((ordK_mem _ _).mpr ha)
  obtain ⟨j,hj⟩:=List.mem_iff_getElem?.mp ((ordK_mem _ _).mpr hb)
  have hab:a.lt b=true:=(Ky.lt_iff a b).mpr (.inl h2)
  have hij:i < j:=by
   obtain ⟨hil,ei⟩:=List.getElem?_eq_some_iff.mp hi
   obtain ⟨hjl,ej⟩:=List.getElem?_eq_some_iff.mp hj
   rcases Nat.lt_trichotomy i j with z | z | z
   ·exact z
   ·subst z;rw [ei] at ej;subst ej;rw [Ky.irr] at hab;cases hab
   ·have:=List.pairwise_iff_getElem.mp hs j i hjl hil z
    rw [ei,ej] at this
    rw [Ky.asym this] at hab;cases hab
  exact ⟨(a,b),upK_mem.mpr ⟨i,j,(List.getElem?_eq_some_iff.mp hi).1,hij,hi,hj⟩,decide_eq_true ⟨h1,h2,h3⟩,rfl⟩
end Ov
set_option maxHeartbeats 4000000
namespace Ov
open PySem PySem.Spec PyProof.Rows L2
def top (i:Nat):Stmt:=PySem.Challenge.pw_overhaul_k25_how_many_beyond.main.body.getD i (.Pass ⟨0,0,0,0⟩)
set_option compiler.extract_closed false
set_option hygiene false
local macro_rules | `(tactic| dsimp! only [$ls,*])=>`(tactic| simp only [tSeq,tNext,tAsg,gName,tRet,tRetN,tIfS,tTest,tOp,tUn,tVar,tC,rI,rI0,rU,rEq,rNe,scal_ii,scal_bb,scal_ss,Int.reduceLT,tPar,tCons,tNil,tCB,tCall,tTup,tLst,tNot,tNotV,tAndV,tOrV,tAnd,tOr,tB,tIf,tDrop,tBM,rAppend,gTup,gCons,gNil,iList,iRng1,iRng2,rIxL,rIxT,rIxLH,rIxTH,rT2,atI_0,atI_1,atI_2,atI_3,HO.lst.injEq,HO.tup.injEq,List.set_cons_zero,List.set_cons_succ,List.getElem?_cons_zero,List.getElem?_cons_succ,Option.some.injEq,exists_eq_left',exists_eq_left,exists_and_left,exists_eq,exists_eq',V.int.injEq,V.bl.injEq,V.ref.injEq,V.str.injEq,V.ty.injEq,decide_eq_true_eq,true_and,and_true,List.cons.injEq,List.append_nil,List.cons_append,List.nil_append,reduceCtorEq,Bool.not_eq_true',decide_eq_false_iff_not,and_assoc,ite_not,if_true,if_false,Bool.false_eq_true,decide_true,decide_false,L2.start,List.map_cons,List.map_nil,List.length_cons,List.length_nil,Nat.reduceAdd,Nat.reduceSub,List.replicate,cxOf,Cx.nox,Cx.wish,false_and,and_false,exists_false,false_or,or_false,id,selC,Option.getD_some,rIxS,tSl,tPart,tNoPart,rSlL,tLCs,gSub,rSetL,$ls,*])
local macro_rules | `(tactic| simp_arith! only [$ls,*])=>`(tactic| simp only [rFor_eq,rTry,gSb,qSetL,rAug,rVar,rC,rOp,rUn,rB,rTru,rAnd,rOr,rNot,rAndV,rOrV,rNotV,rIf,rNil,rCons,rTup,rLst,rFl,rNoPart,rPart,rSl,rCB,rBM,rBM0,rCall,rFld,rMth,rMak,rNext,rDrop,rRet,rRetN,rIfS,gNm,gNi,gCo,gTu,rAsg,rPar,rFldS,putR,rTrue,iLs,iTu,iR1,iR2,rBrk,rCnt,qI0,qI,qU,qLtS,qIs,qIsNot,qIx,qSlT,qSlF,qSlL,qAbs,qLen,qIsi,qCopyF,qCopyL,qMax,qAppend,qPop,qClear,qInsert,qCatF,ix_t,ix_f,ix_r,ls_f,ls_r,len_t,len_f,len_r,ty_n,ty_b',ty_i,ty_s,ty_t,ty_f,ty_r,tru_n,tru_b,tru_i,tru_t,tru_f,tru_r,it_f,it_r,is_n,is_b,is_i,is_s,is_t,is_f,is_r,tq_f,tq_s,tq_r,qEq,cm_int,cm_str,cm_bl,cm_non,cm_fr,pur_int,pur_str,pur_bl,pur_non,pur_fr,eq_int,eq_str,eq_bl,eq_fr,ix_fr0,ix_fr1,ty_fr,len_fr,isN_fr,fr_inj,strt,List.map_cons,List.map_nil,List.length_cons,List.length_nil,Nat.reduceAdd,Nat.reduceSub,Nat.reduceLeDiff,List.replicate,List.cons_append,List.nil_append,List.append_nil,List.getElem?_cons_zero,List.getElem?_cons_succ,List.set_cons_zero,List.set_cons_succ,Option.some.injEq,exists_eq_left',exists_eq_left,exists_and_left,exists_eq,exists_eq',PV.int.injEq,PV.bl.injEq,PV.ref.injEq,PV.str.injEq,PV.ty.injEq,PV.tup.injEq,PV.fl.injEq,HQ.lst.injEq,HQ.ins.injEq,HQ.dct.injEq,decide_eq_true_eq,true_and,and_true,List.cons.injEq,reduceCtorEq,Bool.not_eq_true',decide_eq_false_iff_not,and_assoc,ite_not,if_true,if_false,Bool.false_eq_true,decide_true,decide_false,false_and,and_false,exists_false,false_or,or_false,id,atI_0,atI_1,atI_2,atI_3,atI_4,atI_5,atI_6,atI_7,atI_8,atI_9,atI_10,atI_11,sl3,Bool.not_true,Bool.not_false,Option.map_some,put_same,Bool.and_true,Bool.true_and,Bool.and_false,Bool.false_and,line0,line1,line2,line3,line4,line5,line6,line7,line8,line9,line10,line11,line12,ty_bb,ty_int,ty_bool,ty_str,ty_tup,ty_list,String.reduceEq,List.isEmpty_cons,List.isEmpty_nil,selR,Option.getD_some,List.not_mem_nil,exists_const,qIxD,qInD,qLenD,qListD,qPopD,qSetD,rNewD,iDc,qIndex,qRemove,rChain,iEn,$ls,*])
local macro_rules | `(tactic| simp_all! only [$ls,*])=>`(tactic| repeat (first | refine seq_st ?_ | simp_arith! only [$ls,*]))
section
variable {P:Program} {w:World} {K:PySem.W.Frag} {mg:Str→Option Value} {base:Heap}
abbrev s_shared:Stmt:=(top 12)
theorem sc_shared:L2.FnScope ["one","two"] ["one","two"] (L2.defScope s_shared):=⟨rfl,rfl,rfl,by decide +kernel,rfl,by decide +kernel,by decide +kernel⟩
def spShared:Sp:=fun vs H Q _=>∃ a b:Int,vs=[.int a,.int b]∧Q (.int (Int.gcd a b:Nat)) H
theorem ok_shared {f:Addr} {fd:FuncData} (F:Fun K "shared" "shared" s_shared f fd) (Z:Blt mg):FnOk P w K mg base CX0 1 f fd ["one","two"] spShared:=by
 refine F.ok sc_shared (fun vs H Q E h=>?_) (fun cdv A outer s H vs Q E hr h=>?_)
 ·obtain ⟨a,b,rfl,_⟩:=h
  rfl
 obtain ⟨a,b,rfl,q⟩:=h
 refine ⟨_,(QB.run (pss_cons (ps_par (i:=0) (j:=1) rfl sc_shared.nd rfl rfl (by decide) rfl rfl (pa_cons (pe_callB call_abs rfl Z.abs boot_abs (pa_cons (pv 0) pa_nil)) (pa_cons (pe_callB call_abs rfl Z.abs boot_abs (pa_cons (pv 1) pa_nil)) pa_nil)) rfl)
   (pss_cons (ps_while PassesOwn.never (pt_cmpR op_ne (pv 1) pe_int (nomark _)) (pss_one (ps_par (i:=0) (j:=1) rfl sc_shared.nd rfl rfl (by decide) rfl rfl (pa_cons (pv 1) (pa_cons (pe_op op_mod (pv 0) (pv 1)) pa_nil)) rfl)))
   (pss_one (ps_ret (pv 0)))))),?_⟩
 refine ⟨_,rfl,a,rfl,_,rfl,b,rfl,_,_,rfl,?_⟩
 refine while_by (fun σ H'=>∃ x y:Int,σ=[some (.int x),some (.int y)]∧H=H'∧0≤x∧0≤y∧Int.gcd x y=Int.gcd a b) (fun σ _=>match σ with | [_,some (.int y)]=>y.toNat | _=>0)
  ⟨_,_,rfl,rfl,by split <;> omega,by split <;> omega,gcd_abs a b⟩ ?_ (fun σ H Q Q' m h=>?_)
 ·rintro σ H' ⟨x,y,rfl,rfl,hx,hy,hg⟩
  dsimp! only [rJoin]
  split
  ·rename_i hy0
   subst hy0
   rw [← hg,gcd_end hx] at q
   exact q
  ·rename_i hy0
   have h1:=Int.emod_lt_of_pos x (show 0 < y by omega)
   have h2:=Int.emod_nonneg x hy0
   exact ⟨by omega,hy,h2,(gcd_step hy0).trans hg,by omega⟩
 ·obtain ⟨v,e,hs,k,ek,hq⟩:=h
  exact ⟨v,e,hs,k,ek,m _ _ hq⟩
def Dig:List Int→List Int→Prop
 | [],[]=>True
 | d :: ds,s :: ss=>(0≤d∧d < s)∧Dig ds ss
 | _,_=>False
theorem Dig.snoc:∀ {ds ss:List Int} {d s:Int},Dig ds ss→0≤d→d < s→Dig (ds ++ [d]) (ss ++ [s])
 | [],[],_,_,_,h0,h1=>⟨⟨h0,h1⟩,trivial⟩
 | _ :: _,_ :: _,_,_,h,h0,h1=>⟨h.1,Dig.snoc h.2 h0 h1⟩
 | [],_ :: _,_,_,h,_,_=>h.elim
 | _ :: _,[],_,_,h,_,_=>h.elim
theorem Dig.cons:∀ {ds ss:List Int} {s:Int},Dig ds (s :: ss)→∃ d r,ds=d :: r∧0≤d∧d < s∧Dig r ss
 | [],_,_,h=>h.elim
 | d :: r,_,_,h=>⟨d,r,rfl,h.1.1,h.1.2,h.2⟩
theorem Dig.nil:∀ {ds:List Int},Dig ds []→ds=[]
 | [],_=>rfl
 | _ :: _,h=>h.elim
theorem Dig.len:∀ {ds ss:List Int},Dig ds ss→ds.length=ss.length
 | [],[],_=>rfl
 | _ :: _,_ :: _,h=>congrArg Nat.succ (Dig.len h.2)
 | [],_ :: _,h=>h.elim
 | _ :: _,[],h=>h.elim
theorem take_snoc {xs:List Int} {i:Nat} {x:Int} (h:xs[i]?=some x):xs.take (i + 1)=xs.take i ++ [x]:=by
 rw [List.take_add_one,h]
 rfl
theorem int_of_map {ns:List Int} {i:Nat} {y:V} (h:(ns.map V.int)[i]?=some y):∃ z,y=V.int z∧ns[i]?=some z:=by
 rw [List.getElem?_map] at h
 cases e:ns[i]? with
 | none=>rw [e] at h;cases h
 | some z=>rw [e] at h;exact ⟨z,(Option.some.inj h).symm,rfl⟩
abbrev s_cell:Stmt:=(top 44)
theorem sc_cell:L2.FnScope ["_law_script","_law_k"] ["_law_script","_law_k"] (L2.defScope s_cell):=⟨rfl,rfl,rfl,by decide +kernel,rfl,by decide +kernel,by decide +kernel⟩
abbrev s_digits:Stmt:=(top 45)
theorem sc_digits:L2.FnScope ["_law_cell_here","_law_sizes","_law_out","_law_rest","_law_size","_law_one","_law_k","_law_two"] ["_law_cell_here","_law_sizes"] (L2.defScope s_digits):=⟨rfl,rfl,rfl,by decide +kernel,rfl,by decide +kernel,by decide +kernel⟩
def spDigits (K:PySem.W.Frag):Sp:=fun vs H Q _=>∃ (c:Int) (a:Addr) (ss:List Int),vs=[.int c,.ref a]∧SqL K H a (ss.map V.int)∧(∀ s∈ss,0 < s∧Bd 9000 s)∧ss.length≤1000 ∧
 ∀ (r:Addr) (H':Hp) (ds:List Int),H r=none→Same H H'→H' r=some (.lst (ds.map V.int))→Dig ds ss→Q (.ref r) H'
theorem ok_digits {f:Addr} {fd:FuncData} (F:Fun K "_law_digits" "_law_digits" s_digits f fd) (Z:Blt mg):FnOk P w K mg base CX0 1 f fd ["_law_cell_here","_law_sizes"] (spDigits K):=by
 refine F.ok sc_digits (fun vs H Q E h=>?_) (fun cdv A outer s H vs Q E hr h=>?_)
 ·obtain ⟨c,a,ss,rfl,_⟩:=h
  rfl
 obtain ⟨c,a,ss,rfl,hS,hs,hl,q⟩:=h
 refine ⟨_,(QB.run (pss_cons (ps_set (i:=2) sc_digits.nd rfl (Or.inl rfl) (pe_lst pa_nil))
   (pss_cons (ps_if (pt_cmpR op_ge (pv 0) (pe_op op_pow pe_int pe_int) (nomark _)) (pss_cons (ps_set (i:=3) sc_digits.nd rfl (Or.inl rfl) (pe_op op_sub (pv 0) (pe_op op_pow pe_int pe_int)))
   (pss_cons (ps_for PassesOwn.never rfl (pi_list (pv 1)) (pg_name (i:=4) sc_digits.nd rfl (Or.inl rfl)) (pss_cons (ps_expr (pe_bm PySem.F.plainAttrs_list PySem.F.slot_list_append PySem.F.type_list_append mt_append (pv 2) (pa_cons (pe_op op_mod (pv 3) (pv 4)) pa_nil)))
   (pss_one (ps_set (i:=3) sc_digits.nd rfl (Or.inl rfl) (pe_op op_fdivB (pv 3) (pv 4))))))
   (pss_one (ps_ret (pv 2))))) pss_nil)
   (pss_cons (ps_set (i:=5) sc_digits.nd rfl (Or.inl rfl) (pe_op op_mod (pv 0) pe_int))
   (pss_cons (ps_for PassesOwn.never rfl (pi_range1 rfl Z.range (pa_cons (pe_callB call_len_seq rfl Z.len boot_len (pa_cons (pv 1) pa_nil)) pa_nil)) (pg_name (i:=6) sc_digits.nd rfl (Or.inl rfl)) (pss_cons (ps_set (i:=5) sc_digits.nd rfl (Or.inl rfl) (pe_op op_mod (pe_op op_add (pe_op op_mulB (pv 5) pe_int) (pe_op op_mulB pe_int (pe_op op_add (pv 6) pe_int))) pe_int))
   (pss_cons (ps_set (i:=7) sc_digits.nd rfl (Or.inl rfl) (pe_op op_mod (pe_op op_add (pe_op op_add (pe_op op_mulB (pv 5) (pv 5)) (pe_op op_mulB pe_int (pv 5))) (pv 6)) pe_int))
   (pss_one (ps_expr (pe_bm PySem.F.plainAttrs_list PySem.F.slot_list_append PySem.F.type_list_append mt_append (pv 2) (pa_cons (pe_op op_mod (pe_op op_fdivB (pv 7) pe_int) (pe_ix ix_list (pv 1) (pv 6) (fun _ _=>rfl))) pa_nil)))))))
   (pss_one (ps_ret (pv 2)))))))),?_⟩
 refine ⟨Nat.zero_le _,fun r hr'=>?_⟩
 have g0:=Same.new hr' (.lst [])
 refine ⟨_,rfl,_,_,rfl,rfl,⟨by decide,by decide,by decide⟩,_,_,rfl,rfl,_,rfl,?_⟩
 refine ite2 (fun _=>?_) (fun _=>?_)
 ·refine ⟨_,rfl,_,_,rfl,rfl,⟨by decide,by decide,by decide⟩,_,_,rfl,rfl,?_⟩
  refine ⟨_,rfl,a,rfl,⟨_,g0.seq hS⟩,for_list (K:=K) (a:=a) (xs:=ss.map V.int) (fun i σ H2=>∃ (ds:List Int) (rest:Int) (u:Option V),σ=[some (.int c),some (.ref a),some (.ref r),some (.int rest),u,none,none,none] ∧
   Same H H2∧H2 r=some (.lst (ds.map V.int))∧Dig ds (ss.take i)) ⟨[],_,none,rfl,g0,upd_same,trivial⟩ (fun i σ H2 _ ⟨_,_,_,_,s2,_⟩=>s2.seq hS) ?_ ?_⟩
  ·rintro i y σ H2 hi ⟨ds,rest,u,rfl,s2,hd,hD⟩
   obtain ⟨z,rfl,hz⟩:=int_of_map hi
   obtain ⟨z0,zb⟩:=hs z (List.mem_of_getElem? hz)
   have hil:i < ss.length:=(List.getElem?_eq_some_iff.mp hz).1
   have dl:=hD.len
   rw [List.length_take] at dl
   refine ⟨_,rfl,.inl ⟨rfl,_,SqL.of hd⟩,_,rfl,_,rfl,_,_,rfl,rfl,z0,r,_,_,rfl,rfl,hd,?_,?_⟩
   ·rw [List.length_map]
    exact small1000 (by omega)
   refine ⟨_,rfl,_,rfl,_,_,rfl,rfl,⟨by omega,zb⟩,?_⟩
   refine ⟨ds ++ [rest % z],_,_,rfl,s2.rew hr' _,?_,?_⟩
   ·rw [upd_same,List.map_append]
    rfl
   ·rw [take_snoc hz]
    exact hD.snoc (Int.emod_nonneg _ (by omega)) (Int.emod_lt_of_pos _ z0)
  ·rintro σ H2 ⟨ds,rest,u,rfl,s2,hd,hD⟩
   rw [List.length_map,List.take_length] at hD
   exact ⟨_,rfl,q r H2 ds hr' s2 hd hD⟩
 ·refine ⟨_,rfl,_,_,rfl,rfl,(show (0:Int) < 2147483647 by decide),?_⟩
  refine ⟨_,rfl,a,_,rfl,.inl (g0.seq hS),_,rfl,?_,?_,for_range (lo:=0) (n:=(ss.map V.int).length) (fun i σ H2=>∃ (ds:List Int) (one:Int) (u v:Option V),σ=[some (.int c),some (.ref a),some (.ref r),none,none,some (.int one),u,v] ∧
   0≤one∧one < 2147483647∧Same H H2∧H2 r=some (.lst (ds.map V.int))∧Dig ds (ss.take i)) ⟨[],_,none,none,rfl,Int.emod_nonneg _ (by decide),Int.emod_lt_of_pos _ (by decide),g0,upd_same,trivial⟩ ?_ ?_⟩
  ·omega
  ·rw [List.length_map];omega
  ·rintro i σ H2 hi ⟨ds,one,u,v,rfl,o0,o1,s2,hd,hD⟩
   rw [List.length_map] at hi
   have hz:ss[i]?=some ss[i]:=List.getElem?_eq_getElem hi
   obtain ⟨z0,zb⟩:=hs ss[i] (List.getElem_mem hi)
   have dl:=hD.len
   rw [List.length_take] at dl
   have e1:atI (ss.map V.int) (0 + (i:Int))=some (.int ss[i]):=by
    rw [Int.zero_add]
    exact atI_nat (by rw [List.getElem?_map,hz];rfl)
   dsimp! only [rJoin]
   have A0:0≤(one * 48271 + 10007 * (0 + (i:Int) + 1)) % 2147483629:=Int.emod_nonneg _ (by decide)
   have A1:(one * 48271 + 10007 * (0 + (i:Int) + 1)) % 2147483629 < 2147483629:=Int.emod_lt_of_pos _ (by decide)
   generalize (one * 48271 + 10007 * (0 + (i:Int) + 1)) % 2147483629=A at A0 A1 ⊢
   generalize ((A * A + 69621 * A + (0 + (i:Int))) % 2147483563).fdiv 11=B
   have small:∀ x:Int,0≤x→x < 2147483648→Bd 64 x:=fun x h1 h2=>Bd.small (by omega) (by omega)
   refine ⟨.of (small _ o0 (by omega)) (small _ (by decide) (by decide)),.of (small _ (by decide) (by decide)) (small _ (by omega) (by omega)),.of (small _ A0 (by omega)) (small _ A0 (by omega)),
    .of (small _ (by decide) (by decide)) (small _ A0 (by omega)),.inl ⟨rfl,_,SqL.of hd⟩,⟨by decide,(small _ (by decide) (by decide)).mono (by decide)⟩,_,s2.seq hS,_,e1,_,rfl,z0,_,hd,?_,A0,by omega,s2.rew hr' _,ds ++ [B % ss[i]],?_,?_⟩
   ·rw [List.length_map]
    exact small1000 (by omega)
   ·rw [upd_same,List.map_append]
    rfl
   ·rw [take_snoc hz]
    exact hD.snoc (Int.emod_nonneg _ (by omega)) (Int.emod_lt_of_pos _ z0)
  ·rintro σ H2 ⟨ds,one,u,v,rfl,o0,o1,s2,hd,hD⟩
   rw [List.length_map,List.take_length] at hD
   exact ⟨_,rfl,q r H2 ds hr' s2 hd hD⟩
def Ret (H:Hp) (q:Rat) (Q:VK):Prop:=∀ (r:Addr) (H':Hp),Same H H'→H' r=some (.tup [.int q.num,.int q.den])→Q (.ref r) H'
abbrev s_fraction:Stmt:=(top 13)
theorem sc_fraction:L2.FnScope ["top","bottom","divisor"] ["top","bottom"] (L2.defScope s_fraction):=⟨rfl,rfl,rfl,by decide +kernel,rfl,by decide +kernel,by decide +kernel⟩
def spFraction:Sp:=fun vs H Q _=>∃ t b:Int,vs=[.int t,.int b]∧b≠0∧Bd 9000 b∧Ret H (Rat.divInt t b) Q
theorem gcd_bd {n:Nat} {t b:Int} (h:b≠0) (hb:Bd n b):Bd n ((Int.gcd t b:Nat):Int):=hb.le (by have:=gcd_le (t:=t) h;omega)
theorem ok_fraction {f:Addr} {fd:FuncData} (F:Fun K "fraction" "fraction" s_fraction f fd) (Z:Blt mg) (C_shared:Can P w K mg base 1 "shared" ["one","two"] spShared):FnOk P w K mg base CX0 2 f fd ["top","bottom"] spFraction:=by
 refine F.ok sc_fraction (fun vs H Q E h=>?_) (fun cdv A outer s H vs Q E hr h=>?_)
 ·obtain ⟨t,b,rfl,_⟩:=h
  rfl
 obtain ⟨t,b,rfl,hb,bb,q⟩:=h
 have hg:=gcd_pos (t:=t) hb
 have gb:=gcd_bd (t:=t) hb bb
 refine ⟨_,(QB.run (pss_cons (ps_if (pt_cmpR op_eq (pv 1) pe_int (nomark _)) pss_never pss_nil)
   (pss_cons (ps_set (i:=2) sc_fraction.nd rfl (Or.inl rfl) (pe_fn C_shared hr (by decide) rfl (pa_cons (pv 0) (pa_cons (pv 1) pa_nil))))
   (pss_join (ps_if (pt_cmpR op_lt (pv 1) pe_int (nomark _)) (pss_one (ps_set (i:=2) sc_fraction.nd rfl (Or.inl rfl) (pe_un un_neg (pv 2)))) pss_nil)
   (pss_one (ps_ret (pe_tup (pa_cons (pe_op op_fdivB (pv 0) (pv 2)) (pa_cons (pe_op op_fdivB (pv 1) (pv 2)) pa_nil))))))))),?_⟩
 refine ⟨_,rfl,rfl,_,rfl,?_⟩
 refine ite2 (fun c=>absurd (V.int.inj (of_decide_eq_true c)) hb) (fun _=>?_)
 refine ⟨_,rfl,_,rfl,t,b,rfl,?_⟩
 refine ⟨fun σ' H'=>∃ d:Int,σ'=[some (.int t),some (.int b),some (.int d)]∧H=H'∧d≠0∧Bd 9000 d∧t.fdiv d=(Rat.divInt t b).num∧b.fdiv d=(Rat.divInt t b).den,?_,?_⟩
 ·refine ⟨_,rfl,_,_,rfl,rfl,_,rfl,ite2 (fun c=>?_) (fun c=>?_)⟩
  ·have c':b < 0:=of_decide_eq_true c
   exact ⟨_,rfl,_,rfl,_,rfl,rfl,by omega,gb.neg,num_neg c',den_neg c'⟩
  ·have c':0 < b:=by
    have:=of_decide_eq_false (Bool.eq_false_iff.mpr c)
    omega
   exact ⟨_,rfl,rfl,by omega,gb,num_pos c',den_pos c'⟩
 rintro _ _ ⟨d,rfl,rfl,hd,bd,e1,e2⟩
 refine ⟨_,rfl,_,rfl,_,_,rfl,rfl,⟨hd,bd⟩,_,rfl,_,rfl,_,_,rfl,rfl,⟨hd,bd⟩,(by show 2≤sizeLine;decide),fun p hp=>?_⟩
 exact q p _ (Same.new hp _) (by rw [upd_same];show some (HO.tup [V.int (t.fdiv d),V.int (b.fdiv d)])=_;rw [e1,e2])
abbrev s_low:Stmt:=(top 47)
theorem sc_low:L2.FnScope ["_law_top","_law_bottom","_law_one","_law_two"] ["_law_top","_law_bottom"] (L2.defScope s_low):=⟨rfl,rfl,rfl,by decide +kernel,rfl,by decide +kernel,by decide +kernel⟩
def spLow:Sp:=fun vs H Q _=>∃ t b:Int,vs=[.int t,.int b]∧0 < b∧Bd 9000 b∧Ret H (Rat.divInt t b) Q
theorem ok_low {f:Addr} {fd:FuncData} (F:Fun K "_law_low" "_law_low" s_low f fd) (Z:Blt mg):FnOk P w K mg base CX0 1 f fd ["_law_top","_law_bottom"] spLow:=by
 refine F.ok sc_low (fun vs H Q E h=>?_) (fun cdv A outer s H vs Q E hr h=>?_)
 ·obtain ⟨t,b,rfl,_⟩:=h
  rfl
 obtain ⟨t,b,rfl,hb,bb,q⟩:=h
 have hg:=gcd_pos (t:=t) (show b≠0 by omega)
 have gb:=gcd_bd (t:=t) (show b≠0 by omega) bb
 refine ⟨_,(QB.run (pss_cons (ps_set (i:=2) sc_low.nd rfl (Or.inl rfl) (pe_callB call_abs rfl Z.abs boot_abs (pa_cons (pv 0) pa_nil)))
   (pss_cons (ps_set (i:=3) sc_low.nd rfl (Or.inl rfl) (pv 1))
   (pss_cons (ps_while PassesOwn.never (pt_cmpR op_ne (pv 3) pe_int (nomark _)) (pss_one (ps_par (i:=2) (j:=3) rfl sc_low.nd rfl rfl (by decide) rfl rfl (pa_cons (pv 3) (pa_cons (pe_op op_mod (pv 2) (pv 3)) pa_nil)) rfl)))
   (pss_one (ps_ret (pe_tup (pa_cons (pe_op op_fdivB (pv 0) (pv 2)) (pa_cons (pe_op op_fdivB (pv 1) (pv 2)) pa_nil))))))))),?_⟩
 refine ⟨_,rfl,t,rfl,_,rfl,?_⟩
 refine while_by (fun σ H'=>∃ x y:Int,σ=[some (.int t),some (.int b),some (.int x),some (.int y)]∧H=H'∧0≤x∧0≤y∧Int.gcd x y=Int.gcd t b) (fun σ _=>match σ with | [_,_,_,some (.int y)]=>y.toNat | _=>0)
  ⟨_,_,rfl,rfl,by split <;> omega,by omega,gcd_abs1 t b⟩ ?_ (fun σ H Q Q' m h=>?_)
 ·rintro σ H' ⟨x,y,rfl,rfl,hx,hy,hg'⟩
  dsimp! only [rJoin]
  split
  ·rename_i hy0
   subst hy0
   have ex:x=((Int.gcd t b:Nat):Int):=by rw [← hg',gcd_end hx]
   subst ex
   refine ⟨⟨by omega,gb⟩,⟨by omega,gb⟩,(by show 2≤sizeLine;decide),fun p hp=>?_⟩
   exact q p _ (Same.new hp _) (by rw [upd_same,num_pos hb,den_pos hb])
  ·rename_i hy0
   have h1:=Int.emod_lt_of_pos x (show 0 < y by omega)
   have h2:=Int.emod_nonneg x hy0
   exact ⟨by omega,hy,h2,(gcd_step hy0).trans hg',by omega⟩
 ·obtain ⟨v,e,hs,k,ek,hq⟩:=h
  exact ⟨v,e,hs,k,ek,m _ _ hq⟩
theorem sz_of {m n:Nat} {t b:Int} (hb:b≠0) (h1:Bd m t) (h2:Bd n b) (k:Nat) (hm:m≤k) (hn:n≤k):Sz k (Rat.divInt t b) :=
 ⟨(h1.le (num_abs t b)).mono hm,(h2.le (den_abs hb)).mono hn⟩
theorem mul_ne (p q:Rat):(p.den:Int) * (q.den:Int)≠0:=Int.mul_ne_zero (den_ne p) (den_ne q)
theorem Sz.add {m n k:Nat} {p q:Rat} (h:Sz m p) (g:Sz n q) (hk:m + n + 1≤k:=by decide):Sz k (p + q):=by
 rw [← add_eq]
 exact sz_of (mul_ne p q) (.add (.mul h.num g.den (Nat.le_refl _)) (.mul g.num h.den (Nat.le_refl _)) (Nat.le_refl _)) (.mul h.den g.den (Nat.le_refl _)) k (by omega) (by omega)
theorem Sz.sub {m n k:Nat} {p q:Rat} (h:Sz m p) (g:Sz n q) (hk:m + n + 1≤k:=by decide):Sz k (p - q):=by
 rw [← sub_eq]
 exact sz_of (mul_ne p q) (.sub (.mul h.num g.den (Nat.le_refl _)) (.mul g.num h.den (Nat.le_refl _)) (Nat.le_refl _)) (.mul h.den g.den (Nat.le_refl _)) k (by omega) (by omega)
theorem Sz.mul {m n k:Nat} {p:Rat} {i:Int} (h:Sz m p) (g:Bd n i) (hk:m + n≤k:=by decide):Sz k (p * i):=by
 rw [← mul_eq]
 exact sz_of (den_ne p) (.mul h.num g (Nat.le_refl _)) h.den k hk (by omega)
def sp2 (K:PySem.W.Frag) (g:Rat→Rat→Rat):Sp:=fun vs H Q _=>∃ (a b:Addr) (p q:Rat),vs=[.ref a,.ref b]∧Fra K H a p∧Fra K H b q∧Sz 4000 p∧Sz 4000 q∧Ret H (g p q) Q
abbrev s_plus:Stmt:=(top 14)
theorem sc_plus:L2.FnScope ["one","two"] ["one","two"] (L2.defScope s_plus):=⟨rfl,rfl,rfl,by decide +kernel,rfl,by decide +kernel,by decide +kernel⟩
theorem ok_plus {f:Addr} {fd:FuncData} (F:Fun K "plus" "plus" s_plus f fd) (Z:Blt mg) (C_fraction:Can P w K mg base 2 "fraction" ["top","bottom"] spFraction):FnOk P w K mg base CX0 3 f fd ["one","two"] (sp2 K fun p q=>p + q):=by
 refine F.ok sc_plus (fun vs H Q E h=>?_) (fun cdv A outer s H vs Q E hr h=>?_)
 ·obtain ⟨a,b,p,q,rfl,_⟩:=h
  rfl
 obtain ⟨a,b,p,q,rfl,ha,hb,sp,sq,k⟩:=h
 refine ⟨_,(QB.run (pss_one (ps_ret (pe_fn C_fraction hr (by decide) rfl (pa_cons (pe_op op_add (pe_op op_mulB (pe_ix ix_tup (pv 0) pe_int (fun _ _=>rfl)) (pe_ix ix_tup (pv 1) pe_int (fun _ _=>rfl))) (pe_op op_mulB (pe_ix ix_tup (pv 1) pe_int (fun _ _=>rfl)) (pe_ix ix_tup (pv 0) pe_int (fun _ _=>rfl)))) (pa_cons (pe_op op_mulB (pe_ix ix_tup (pv 0) pe_int (fun _ _=>rfl)) (pe_ix ix_tup (pv 1) pe_int (fun _ _=>rfl))) pa_nil)))))),?_⟩
 refine ⟨_,rfl,_,_,_,_,rfl,rfl,ha,rfl,_,rfl,_,_,_,_,rfl,rfl,hb,rfl,_,_,rfl,rfl,.of sp.num sq.den,_,rfl,_,_,_,_,rfl,rfl,hb,rfl,_,rfl,_,_,_,_,rfl,rfl,ha,rfl,_,_,rfl,rfl,.of sq.num sp.den,_,_,rfl,rfl,_,rfl,_,_,_,_,rfl,rfl,ha,rfl,_,rfl,_,_,_,_,rfl,rfl,hb,rfl,_,_,rfl,rfl,.of sp.den sq.den,_,_,rfl,mul_ne p q,.mul sp.den sq.den,?_⟩
 rw [add_eq]
 exact k
abbrev s_minus:Stmt:=(top 15)
theorem sc_minus:L2.FnScope ["one","two"] ["one","two"] (L2.defScope s_minus):=⟨rfl,rfl,rfl,by decide +kernel,rfl,by decide +kernel,by decide +kernel⟩
theorem ok_minus {f:Addr} {fd:FuncData} (F:Fun K "minus" "minus" s_minus f fd) (Z:Blt mg) (C_fraction:Can P w K mg base 2 "fraction" ["top","bottom"] spFraction):FnOk P w K mg base CX0 3 f fd ["one","two"] (sp2 K fun p q=>p - q):=by
 refine F.ok sc_minus (fun vs H Q E h=>?_) (fun cdv A outer s H vs Q E hr h=>?_)
 ·obtain ⟨a,b,p,q,rfl,_⟩:=h
  rfl
 obtain ⟨a,b,p,q,rfl,ha,hb,sp,sq,k⟩:=h
 refine ⟨_,(QB.run (pss_one (ps_ret (pe_fn C_fraction hr (by decide) rfl (pa_cons (pe_op op_sub (pe_op op_mulB (pe_ix ix_tup (pv 0) pe_int (fun _ _=>rfl)) (pe_ix ix_tup (pv 1) pe_int (fun _ _=>rfl))) (pe_op op_mulB (pe_ix ix_tup (pv 1) pe_int (fun _ _=>rfl)) (pe_ix ix_tup (pv 0) pe_int (fun _ _=>rfl)))) (pa_cons (pe_op op_mulB (pe_ix ix_tup (pv 0) pe_int (fun _ _=>rfl)) (pe_ix ix_tup (pv 1) pe_int (fun _ _=>rfl))) pa_nil)))))),?_⟩
 refine ⟨_,rfl,_,_,_,_,rfl,rfl,ha,rfl,_,rfl,_,_,_,_,rfl,rfl,hb,rfl,_,_,rfl,rfl,.of sp.num sq.den,_,rfl,_,_,_,_,rfl,rfl,hb,rfl,_,rfl,_,_,_,_,rfl,rfl,ha,rfl,_,_,rfl,rfl,.of sq.num sp.den,_,_,rfl,rfl,_,rfl,_,_,_,_,rfl,rfl,ha,rfl,_,rfl,_,_,_,_,rfl,rfl,hb,rfl,_,_,rfl,rfl,.of sp.den sq.den,_,_,rfl,mul_ne p q,.mul sp.den sq.den,?_⟩
 rw [sub_eq]
 exact k
abbrev s_times:Stmt:=(top 16)
theorem sc_times:L2.FnScope ["one","many"] ["one","many"] (L2.defScope s_times):=⟨rfl,rfl,rfl,by decide +kernel,rfl,by decide +kernel,by decide +kernel⟩
def spTimes (K:PySem.W.Frag):Sp:=fun vs H Q _=>∃ (a:Addr) (p:Rat) (m:Int),vs=[.ref a,.int m]∧Fra K H a p∧Sz 9000 p∧Bd 9000 m∧Ret H (p * m) Q
theorem ok_times {f:Addr} {fd:FuncData} (F:Fun K "times" "times" s_times f fd) (Z:Blt mg) (C_fraction:Can P w K mg base 2 "fraction" ["top","bottom"] spFraction):FnOk P w K mg base CX0 3 f fd ["one","many"] (spTimes K):=by
 refine F.ok sc_times (fun vs H Q E h=>?_) (fun cdv A outer s H vs Q E hr h=>?_)
 ·obtain ⟨a,p,m,rfl,_⟩:=h
  rfl
 obtain ⟨a,p,m,rfl,ha,sp,bm,k⟩:=h
 refine ⟨_,(QB.run (pss_one (ps_ret (pe_fn C_fraction hr (by decide) rfl (pa_cons (pe_op op_mulB (pe_ix ix_tup (pv 0) pe_int (fun _ _=>rfl)) (pv 1)) (pa_cons (pe_ix ix_tup (pv 0) pe_int (fun _ _=>rfl)) pa_nil)))))),?_⟩
 refine ⟨_,rfl,_,_,_,_,rfl,rfl,ha,rfl,_,rfl,_,_,rfl,rfl,.of sp.num bm,_,rfl,_,_,_,_,rfl,rfl,ha,rfl,_,_,rfl,den_ne p,sp.den,?_⟩
 rw [mul_eq]
 exact k
abbrev s_less:Stmt:=(top 17)
theorem sc_less:L2.FnScope ["one","two"] ["one","two"] (L2.defScope s_less):=⟨rfl,rfl,rfl,by decide +kernel,rfl,by decide +kernel,by decide +kernel⟩
def spLess (K:PySem.W.Frag):Sp:=fun vs H Q _=>∃ (a b:Addr) (p q:Rat),vs=[.ref a,.ref b]∧Fra K H a p∧Fra K H b q∧Sz 9000 p∧Sz 9000 q∧Q (.bl (decide (p < q))) H
theorem less_eq (p q:Rat):decide (p.num * q.den < q.num * p.den)=decide (p < q):=decide_eq_decide.mpr (Rat.lt_iff p q).symm
theorem ok_less {f:Addr} {fd:FuncData} (F:Fun K "less" "less" s_less f fd) (Z:Blt mg):FnOk P w K mg base CX0 1 f fd ["one","two"] (spLess K):=by
 refine F.ok sc_less (fun vs H Q E h=>?_) (fun cdv A outer s H vs Q E hr h=>?_)
 ·obtain ⟨a,b,p,q,rfl,_⟩:=h
  rfl
 obtain ⟨a,b,p,q,rfl,ha,hb,sp,sq,k⟩:=h
 refine ⟨_,(QB.run (pss_one (ps_ret (pe_cmpR op_lt (pe_op op_mulB (pe_ix ix_tup (pv 0) pe_int (fun _ _=>rfl)) (pe_ix ix_tup (pv 1) pe_int (fun _ _=>rfl))) (pe_op op_mulB (pe_ix ix_tup (pv 1) pe_int (fun _ _=>rfl)) (pe_ix ix_tup (pv 0) pe_int (fun _ _=>rfl))) (nomark _))))),?_⟩
 refine ⟨_,rfl,_,_,_,_,rfl,rfl,ha,rfl,_,rfl,_,_,_,_,rfl,rfl,hb,rfl,_,_,rfl,rfl,.of sp.num sq.den,_,rfl,_,_,_,_,rfl,rfl,hb,rfl,_,rfl,_,_,_,_,rfl,rfl,ha,rfl,_,_,rfl,rfl,.of sq.num sp.den,_,_,rfl,rfl,?_⟩
 show Q (.bl (decide (p.num * q.den < q.num * p.den))) H
 rw [less_eq]
 exact k
theorem ints_of {K:PySem.W.Frag} {J:Hq} {H:Hp}:∀ {ns:List Int} {vs:List V},RepVs K J H (ns.map PV.int) vs→vs=ns.map V.int
 | [],_,h=>h
 | n :: ns,_,⟨v,us,e,h,k⟩=>by subst e;cases h;rw [ints_of k];rfl
theorem one_of {K:PySem.W.Frag} {J:Hq} {H:Hp} {x:PV} {vs:List V} (h:RepVs K J H [x] vs):∃ v,vs=[v]∧RepV K J H x v:=by
 obtain ⟨v,us,rfl,h1,h2⟩:=h;cases h2;exact ⟨v,rfl,h1⟩
theorem two_of {K:PySem.W.Frag} {J:Hq} {H:Hp} {x y:PV} {vs:List V} (h:RepVs K J H [x,y] vs):∃ v u,vs=[v,u]∧RepV K J H x v∧RepV K J H y u:=by
 obtain ⟨v,us,rfl,h1,u,us',rfl,h2,h3⟩:=h;cases h3;exact ⟨v,u,rfl,h1,h2⟩
theorem fra_of {K:PySem.W.Frag} {J:Hq} {H:Hp} {q:Rat} {v:V} (h:RepV K J H (fr q) v):∃ a,v=.ref a∧Fra K H a q:=by
 obtain ⟨a,vs,rfl,h1,h2⟩:=h
 obtain ⟨x,y,rfl,r1,r2⟩:=two_of h2
 cases r1;cases r2
 exact ⟨a,rfl,h1⟩
theorem ret_of {K:PySem.W.Frag} {J:Hq} {H:Hp} {q:Rat} {Q2:PV→Hq→Prop} {Q:VK} (r:Rep K J H) (k:Kn K J H Q2 Q) (h:Q2 (fr q) J):Ret H q Q:=fun a H' s e =>
 k (fr q) J (.ref a) H' ⟨a,_,rfl,SqT.of e,⟨_,_,rfl,rfl,_,_,rfl,rfl,rfl⟩⟩ (r.same s) (.same s) h
def spDigR:Spr:=fun xs J Q _=>∃ (c:Int) (ss:List Int),xs=[.int c,.fl (ss.map .int)]∧(∀ s∈ss,0 < s∧Bd 9000 s)∧ss.length≤1000∧∀ ds,Dig ds ss→Q (.fl (ds.map .int)) J
theorem lift_digits (C:Can P w K mg base 1 "_law_digits" ["_law_cell_here","_law_sizes"] (spDigits K)):CanR P w K mg base 1 "_law_digits" ["_law_cell_here","_law_sizes"] spDigR:=C.lift fun xs J vs H Q2 E2 Q E rs r ⟨c,ss,ex,h0,h1,q⟩ kn=>by
 subst ex
 obtain ⟨v,u,rfl,r1,⟨a,ws,rfl,h2,h3⟩⟩:=two_of rs
 cases r1;cases ints_of h3
 refine ⟨c,a,ss,rfl,h2.sq,h0,h1,fun p H' ds hp s e D=>kn (.fl (ds.map .int)) J (.ref p) H' ⟨p,_,rfl,.inl ⟨r.free hp,.inl e⟩,reps_ints ds⟩ (r.same s) (.same s) (q ds D)⟩
def spLowR:Spr:=fun xs J Q _=>∃ t b:Int,xs=[.int t,.int b]∧0 < b∧Bd 9000 b∧Q (fr (Rat.divInt t b)) J
theorem lift_low (C:Can P w K mg base 1 "_law_low" ["_law_top","_law_bottom"] spLow):CanR P w K mg base 1 "_law_low" ["_law_top","_law_bottom"] spLowR:=C.lift fun xs J vs H Q2 E2 Q E rs r ⟨t,b,ex,h0,h1,q⟩ kn=>by
 subst ex
 obtain ⟨v,u,rfl,r1,r2⟩:=two_of rs
 cases r1;cases r2
 exact ⟨t,b,rfl,h0,h1,ret_of r kn q⟩
def spLessR:Spr:=fun xs J Q _=>∃ p q:Rat,xs=[fr p,fr q]∧Sz 9000 p∧Sz 9000 q∧Q (.bl (decide (p < q))) J
theorem lift_less (C:Can P w K mg base 1 "less" ["one","two"] (spLess K)):CanR P w K mg base 1 "less" ["one","two"] spLessR:=C.lift fun xs J vs H Q2 E2 Q E rs r ⟨p,q,ex,h0,h1,z⟩ kn=>by
 subst ex
 obtain ⟨v,u,rfl,r1,r2⟩:=two_of rs
 obtain ⟨a,rfl,f1⟩:=fra_of r1
 obtain ⟨b,rfl,f2⟩:=fra_of r2
 exact ⟨a,b,p,q,rfl,f1,f2,h0,h1,kn (.bl _) J _ H rfl r .refl z⟩
def sp2R (g:Rat→Rat→Rat):Spr:=fun xs J Q _=>∃ p q:Rat,xs=[fr p,fr q]∧Sz 4000 p∧Sz 4000 q∧Q (fr (g p q)) J
theorem lift2 {x:Str} {ps:List Str} {k:Nat} {g:Rat→Rat→Rat} (C:Can P w K mg base k x ps (sp2 K g)):CanR P w K mg base k x ps (sp2R g):=C.lift fun xs J vs H Q2 E2 Q E rs r ⟨p,q,ex,h0,h1,z⟩ kn=>by
 subst ex
 obtain ⟨v,u,rfl,r1,r2⟩:=two_of rs
 obtain ⟨a,rfl,f1⟩:=fra_of r1
 obtain ⟨b,rfl,f2⟩:=fra_of r2
 exact ⟨a,b,p,q,rfl,f1,f2,h0,h1,ret_of r kn z⟩
theorem lift_plus (C:Can P w K mg base 3 "plus" ["one","two"] (sp2 K fun p q=>p + q)):CanR P w K mg base 3 "plus" ["one","two"] (sp2R fun p q=>p + q):=lift2 C
theorem lift_minus (C:Can P w K mg base 3 "minus" ["one","two"] (sp2 K fun p q=>p - q)):CanR P w K mg base 3 "minus" ["one","two"] (sp2R fun p q=>p - q):=lift2 C
def spTimesR:Spr:=fun xs J Q _=>∃ (p:Rat) (m:Int),xs=[fr p,.int m]∧Sz 9000 p∧Bd 9000 m∧Q (fr (p * m)) J
theorem lift_times (C:Can P w K mg base 3 "times" ["one","many"] (spTimes K)):CanR P w K mg base 3 "times" ["one","many"] spTimesR:=C.lift fun xs J vs H Q2 E2 Q E rs r ⟨p,m,ex,h0,h1,z⟩ kn=>by
 subst ex
 obtain ⟨v,u,rfl,r1,r2⟩:=two_of rs
 obtain ⟨a,rfl,f1⟩:=fra_of r1
 cases r2
 exact ⟨a,p,m,rfl,f1,h0,h1,ret_of r kn z⟩
def Leg.V (l:Leg):PV:=.tup [fr l.m,fr l.p,.int l.v]
theorem tup_l (m p:Rat) (v:Int):PV.tup [fr m,fr p,.int v]=(Leg.mk m p v).V:=rfl
theorem ix_l0 (J:Hq) (l:Leg):ixQ J l.V (.int 0)=some (fr l.m):=atI_0 _ _
theorem ix_l1 (J:Hq) (l:Leg):ixQ J l.V (.int 1)=some (fr l.p):=atI_1 _ _ _
theorem ix_l2 (J:Hq) (l:Leg):ixQ J l.V (.int 2)=some (.int l.v):=atI_2 _ _ _ _
theorem eq_l (a b:Leg):eqQ a.V b.V=decide (a=b):=by
 unfold Leg.V
 rw [eq_tup,eqs_cons,eqs_cons,eqs_cons,eqs_nil,eq_fr,eq_fr,eq_int,Bool.and_true,← Bool.decide_and,← Bool.decide_and]
 apply decide_eq_decide.mpr
 cases a;cases b
 simp [Leg.mk.injEq]
theorem V_inj (a b:Leg):(a.V=b.V)=(a=b):=by
 apply propext
 constructor
 ·intro e
  have:=eq_l a b
  rw [e,eq_self] at this
  exact of_decide_eq_true this.symm
 ·intro e;rw [e]
def spPlR:Spr:=fun xs J Q _=>∃ (l:Leg) (t:Rat),xs=[l.V,fr t]∧Sz 900 l.m∧Sz 900 l.p∧Sz 900 t∧Bd 64 l.v∧Q (fr (l.at t)) J
abbrev s_place_on:Stmt:=(top 25)
theorem sc_place_on:L2.FnScope ["leg","moment","begun","place","pace"] ["leg","moment"] (L2.defScope s_place_on):=⟨rfl,rfl,rfl,by decide +kernel,rfl,by decide +kernel,by decide +kernel⟩
theorem okr_place_on {f:Addr} {fd:FuncData} (F:Fun K "place_on" "place_on" s_place_on f fd) (Z:BltR mg) (C_plus:CanR P w K mg base 3 "plus" ["one","two"] (sp2R fun p q=>p + q)) (C_minus:CanR P w K mg base 3 "minus" ["one","two"] (sp2R fun p q=>p - q)) (C_times:CanR P w K mg base 3 "times" ["one","many"] spTimesR) :
  FnOk P w K mg base (Fly P w) 4 f fd ["leg","moment"] (LSp K spPlR):=by
 refine okR F sc_place_on (fun xs J Q E h=>?_) (fun cdv A outer s H E G xs J Q E2 hr h B=>?_)
 ·obtain ⟨l,t,rfl,_⟩:=h;rfl
 obtain ⟨l,t,rfl,sb,sp,sm,bv,q⟩:=h
 have s1:Sz 1801 (t - l.m):=sm.sub sb
 have s2:Sz 1900 ((t - l.m) * (l.v:Rat)):=s1.mul bv
 refine ⟨_,(rb_cons (rs_asg (rv 0) (rg_tup rfl (rgs_cons (rg_name (i:=2) sc_place_on.nd rfl (Or.inl rfl)) (rgs_cons (rg_name (i:=3) sc_place_on.nd rfl (Or.inl rfl)) (rgs_cons (rg_name (i:=4) sc_place_on.nd rfl (Or.inl rfl)) rgs_nil)))))
   (rb_one (rs_ret (re_fn C_plus B hr (by decide) rfl (ra_cons (rv 3) (ra_cons (re_fn C_times B hr (by decide) rfl (ra_cons (re_fn C_minus B hr (by decide) rfl (ra_cons (rv 1) (ra_cons (rv 2) ra_nil))) (ra_cons (rv 4) ra_nil))) ra_nil)))))),?_⟩
 simp_arith! only [rSeq,Leg.V,sp2R,spTimesR]
 exact ⟨rfl,sm.mono (by decide),sb.mono (by decide),s1.mono (by decide),bv.mono (by decide),sp.mono (by decide),s2.mono (by decide),q⟩
theorem fr_int (n:Int):PV.tup [.int n,.int 1]=fr (n:Rat):=rfl
def gv:Option Rat→PV
 | none=>.non
 | some q=>fr q
structure LAt (cL:Addr) (J:Hq) (p r:Addr) (rows:List Leg) (g:Option Rat):Prop where
 o:J p=some (.ins cL [("rows",.ref r),("gone",gv g)])
 l:J r=some (.lst (rows.map Leg.V))
theorem LAt.ne {cL:Addr} {J:Hq} {p r:Addr} {rows:List Leg} {g:Option Rat} (h:LAt cL J p r rows g):r≠p:=by
 intro e;subst e;have:=h.o;rw [h.l] at this;cases this
structure LSz (n:Nat) (l:Leg):Prop where
 m:Sz n l.m
 p:Sz n l.p
 v:Bd 64 l.v
theorem LSz.mono {n k:Nat} {l:Leg} (h:LSz n l) (e:n≤k):LSz k l:=⟨h.m.mono e,h.p.mono e,h.v⟩
theorem lkR (a b:PV):([("rows",a),("gone",b)]:List (Str × PV)).lookup ("rows":Str)=some a:=rfl
theorem lkG (a b:PV):([("rows",a),("gone",b)]:List (Str × PV)).lookup ("gone":Str)=some b:=rfl
theorem lkLn {m:Str} (a b:PV) (h:(m == ("rows":Str))=false) (k:(m == ("gone":Str))=false):([("rows",a),("gone",b)]:List (Str × PV)).lookup m=none:=by rw [List.lookup_cons,h];simp only;rw [List.lookup_cons,k];rfl
theorem lkL1 (a b:PV):([("rows",a),("gone",b)]:List (Str × PV)).lookup ("turn":Str)=none:=lkLn a b (by decide +kernel) (by decide +kernel)
theorem lkL2 (a b:PV):([("rows",a),("gone",b)]:List (Str × PV)).lookup ("leave":Str)=none:=lkLn a b (by decide +kernel) (by decide +kernel)
theorem lkL5 (a b:PV):([("rows",a),("gone",b)]:List (Str × PV)).lookup ("there":Str)=none:=lkLn a b (by decide +kernel) (by decide +kernel)
theorem lkL6 (a b:PV):([("rows",a),("gone",b)]:List (Str × PV)).lookup ("leg_at":Str)=none:=lkLn a b (by decide +kernel) (by decide +kernel)
theorem ne_rg:(("rows":Str)=("gone":Str))=False:=eq_false (by decide +kernel)
theorem less_put {J:Hq} {l:Addr} {o:HQ} (h:J l=none):Less J (put J l o):=fun a=>by
 by_cases e:a=l
 ·subst e;exact .inr h
 ·rw [put_ne e];exact .inl rfl
theorem pr_init (x z:PV):putR ("gone":Str) z (putR ("rows":Str) x [])=([("rows",x),("gone",z)]:List (Str × PV)):=by simp only [putR,ne_rg,if_false]
abbrev s_Log___init__:Stmt:=(L2.inClass (top 29) 0)
theorem sc_Log___init__:L2.FnScope ["self","moment","place","pace"] ["self","moment","place","pace"] (L2.defScope s_Log___init__):=⟨rfl,rfl,rfl,by decide +kernel,rfl,by decide +kernel,by decide +kernel⟩
def spLInit (cL:Addr):Spr:=fun xs J Q _=>∃ (p:Addr) (l:Leg),xs=[.ref p,fr l.m,fr l.p,.int l.v]∧J p=some (.ins cL [])∧∀ r,J r=none→Q .non (put (put J r (.lst [l.V])) p (.ins cL [("rows",.ref r),("gone",.non)]))
theorem ok_Log_init {cL f:Addr} {fd:FuncData} (F:Fun K "__init__" "Log.__init__" s_Log___init__ f fd) (KD_Log:KDef K mg "Log" cL) (NA_Log_rows:NoAttr K cL "rows") (NA_Log_gone:NoAttr K cL "gone"):FnOk P w K mg base (Fly P w) 1 f fd ["self","moment","place","pace"] (LSp K (spLInit cL)):=by
 refine okR F sc_Log___init__ (fun xs J Q E h=>?_) (fun cdv A outer s H E G xs J Q E2 hr h B=>?_)
 ·obtain ⟨p,l,rfl,_⟩:=h;rfl
 obtain ⟨p,l,rfl,hp,q⟩:=h
 refine ⟨_,(rb_cons (rs_fld KD_Log.cl NA_Log_rows (rv 0) (re_lst (ra_cons (re_tup (ra_cons (rv 1) (ra_cons (rv 2) (ra_cons (rv 3) ra_nil)))) ra_nil)))
   (rb_one (rs_fld KD_Log.cl NA_Log_gone (rv 0) re_non))),?_⟩
 simp_arith! only [rSeq,tup_l]
 intro r hr'
 have ne:p≠r:=by intro e;subst e;rw [hp] at hr';cases hr'
 refine ⟨[],by rw [put_ne ne];exact hp,by decide,by show (1:Nat) < 1000;decide,?_⟩
 rw [put_put,pr_init]
 exact q r hr'
abbrev s_Log_turn:Stmt:=(L2.inClass (top 29) 1)
theorem sc_Log_turn:L2.FnScope ["self","moment","pace","place"] ["self","moment","pace"] (L2.defScope s_Log_turn):=⟨rfl,rfl,rfl,by decide +kernel,rfl,by decide +kernel,by decide +kernel⟩
def spLTurn (cL:Addr):Spr:=fun xs J Q _=>∃ p r rows g t v,xs=[.ref p,fr t,.int v]∧LAt cL J p r rows g∧rows≠[]∧rows.length≤900∧Sz 900 t∧(∀ l∈rows,LSz 900 l)∧Q .non (put J r (.lst ((turned rows t v).map Leg.V)))
theorem ok_Log_turn {cL f:Addr} {fd:FuncData} (F:Fun K "turn" "Log.turn" s_Log_turn f fd) (Z:BltR mg) (KD_Log:KDef K mg "Log" cL) (NA_Log_rows:NoAttr K cL "rows") (C_place_on:CanR P w K mg base 4 "place_on" ["leg","moment"] spPlR):FnOk P w K mg base (Fly P w) 5 f fd ["self","moment","pace"] (LSp K (spLTurn cL)):=by
 refine okR F sc_Log_turn (fun xs J Q E h=>?_) (fun cdv A outer s H E G xs J Q E2 hr h B=>?_)
 ·obtain ⟨p,r,rows,g,t,v,rfl,_⟩:=h;rfl
 obtain ⟨p,r,rows,g,t,v,rfl,b,hne,hl,st,sl,q⟩:=h
 obtain ⟨ls,l,rfl⟩:∃ ls l,rows=ls ++ [l]:=⟨rows.dropLast,rows.getLast hne,(List.dropLast_concat_getLast hne).symm⟩
 have bo:=b.o
 have bl:=b.l
 have npr:=b.ne
 have sl':=sl l (by simp)
 have hla:atI ((ls ++ [l]).map Leg.V) (-1)=some l.V:=by rw [List.map_append];exact at_last _ _
 refine ⟨_,(rb_cons (rs_set (i:=3) sc_Log_turn.nd rfl (Or.inl rfl) (re_fn C_place_on B hr (by decide) rfl (ra_cons (re_ix iq_ix (re_fld KD_Log.cl NA_Log_rows (rv 0)) (re_un uq_neg re_int) (fun _ _=>rfl)) (ra_cons (rv 1) ra_nil))))
   (rb_join (rs_if (rt_cmp (oq_eq hr.units61) (re_ix iq_ix (re_ix iq_ix (re_fld KD_Log.cl NA_Log_rows (rv 0)) (re_un uq_neg re_int) (fun _ _=>rfl)) re_int (fun _ _=>rfl)) (rv 1) (L2.nomark _)) (rb_one (rs_expr (re_bm0 PySem.F.plainAttrs_list PySem.F.slot_list_pop PySem.F.type_list_pop mq_pop (re_fld KD_Log.cl NA_Log_rows (rv 0))))) rb_nil)
   (rb_cons (rs_if (rw_rt (rw_and (rt_tru (re_fld KD_Log.cl NA_Log_rows (rv 0))) (rw_and1 (rt_cmp (oq_eq hr.units61) (re_ix iq_ix (re_ix iq_ix (re_fld KD_Log.cl NA_Log_rows (rv 0)) (re_un uq_neg re_int) (fun _ _=>rfl)) re_int (fun _ _=>rfl)) (rv 2) (L2.nomark _))))) (rb_one rs_retN) rb_nil)
   (rb_one (rs_expr (re_bm PySem.F.plainAttrs_list PySem.F.slot_list_append PySem.F.type_list_append mq_append (re_fld KD_Log.cl NA_Log_rows (rv 0)) (ra_cons (re_tup (ra_cons (rv 1) (ra_cons (rv 3) (ra_cons (rv 2) ra_nil)))) ra_nil))))))),?_⟩
 simp_arith! only [rSeq,bo,bl,lkR]
 refine ⟨_,hla,l,t,rfl,sl'.m,sl'.p,st,sl'.v,?_⟩
 obtain ⟨M,hM⟩:∃ M:Sr→Hq→Prop,∀ τ' J',M τ' J'↔τ'=[some (.ref p),some (fr t),some (.int v),some (fr (l.at t))]∧J'=put J r (.lst ((if l.m=t then ls else ls ++ [l]).map Leg.V)):=⟨_,fun _ _=>Iff.rfl⟩
 refine ⟨M,?_,?_⟩
 ·simp_arith! only [rSeq,bo,bl,lkR,hla,ix_l0]
  split
  ·rename_i e
   refine ⟨l.V,by simp,(hM _ _).mpr ⟨rfl,?_⟩⟩
   rw [if_pos e,List.map_append,List.map_cons,List.map_nil,List.dropLast_concat]
  ·rename_i e
   exact (hM _ _).mpr ⟨rfl,by rw [if_neg e,put_id bl]⟩
 ·intro τ' J' hm
  obtain ⟨rfl,rfl⟩:=(hM _ _).mp hm
  clear hm hM M
  have et:turned (ls ++ [l]) t v=if (if l.m=t then ls else ls ++ [l]).getLast?.map Leg.v=some v then (if l.m=t then ls else ls ++ [l]) else (if l.m=t then ls else ls ++ [l]) ++ [⟨t,l.at t,v⟩]:=by
   unfold turned
   simp only [List.getLast?_concat,List.dropLast_concat]
  have hrl:(if l.m=t then ls else ls ++ [l]).length≤900:=by
   split
   ·rw [List.length_append] at hl;omega
   ·exact hl
  rw [et] at q
  generalize (if l.m=t then ls else ls ++ [l])=rest at q hrl ⊢
  simp_arith! only [rSeq,put_ne (Ne.symm npr),bo,lkR,put_put,tup_l]
  rcases List.eq_nil_or_concat rest with rfl | ⟨ks,k,rfl⟩
  ·simp only [List.getLast?_nil,Option.map_none,reduceCtorEq,if_false,List.nil_append] at q
   simpa [line0,sizeLine] using q
  ·rw [List.concat_eq_append] at *
   rw [List.getLast?_concat,Option.map_some] at q
   have hk:atI ((ks ++ [k]).map Leg.V) (-1)=some k.V:=by rw [List.map_append];exact at_last _ _
   simp_arith! only [rSeq,hk,ix_l2,List.length_map]
   rw [if_pos (by simp)]
   by_cases e:k.v=v
   ·rw [if_pos e];rw [if_pos (congrArg some e)] at q;exact q
   ·rw [if_neg e];rw [if_neg (fun z=>e (Option.some.inj z))] at q
    refine ⟨small1000 (by omega),?_⟩
    rw [List.map_append] at q
    exact q
theorem atV {rows:List Leg} {i:Nat} {b:Leg} (h:rows[i]?=some b):atI (rows.map Leg.V) (i:Int)=some b.V:=atI_nat (by rw [List.getElem?_map,h];rfl)
abbrev s_last_by:Stmt:=(top 19)
theorem sc_last_by:L2.FnScope ["rows","moment","at"] ["rows","moment"] (L2.defScope s_last_by):=⟨rfl,rfl,rfl,by decide +kernel,rfl,by decide +kernel,by decide +kernel⟩
def spLastBy:Spr:=fun xs J Q _=>∃ (x:PV) (t:Rat) (ys:List PV) (ms:List Rat),xs=[x,fr t]∧lsQ J x=some ys∧ys.length=ms.length∧ms.length≤900∧(∀ (i:Nat) y m,ys[i]?=some y→ms[i]?=some m→ixQ J y (.int 0)=some (fr m))∧Sz 9000 t∧(∀ m∈ms,Sz 9000 m)∧Q (.int ((lb ms t ms.length:Int) - 1)) J
theorem okr_last_by {f:Addr} {fd:FuncData} (F:Fun K "last_by" "last_by" s_last_by f fd) (Z:BltR mg) (C_less:CanR P w K mg base 1 "less" ["one","two"] spLessR):FnOk P w K mg base (Fly P w) 2 f fd ["rows","moment"] (LSp K spLastBy):=by
 refine okR F sc_last_by (fun xs J Q E h=>?_) (fun cdv A outer s H E G xs J Q E2 hr h B=>?_)
 ·obtain ⟨x,t,ys,ms,rfl,_⟩:=h;rfl
 obtain ⟨x,t,ys,ms,rfl,hx,hlen,hl,h0,st,sm,q⟩:=h
 refine ⟨_,(rb_cons (rs_set (i:=2) sc_last_by.nd rfl (Or.inl rfl) (re_op oq_sub (re_callB cq_len rfl Z.len boot_len (ra_cons (rv 0) ra_nil)) re_int))
   (rb_cons (rs_while cxF_own (rw_rt (rw_and (rt_cmp oq_ge (rv 2) re_int (L2.nomark _)) (rw_and1 (rt_val (re_fn C_less B hr (by decide) rfl (ra_cons (rv 1) (ra_cons (re_ix iq_ix (re_ix iq_ix (rv 0) (rv 2) (fun _ _=>rfl)) re_int (fun _ _=>rfl)) ra_nil))))))) (rb_one (rs_aug (i:=2) sc_last_by.nd rfl (Or.inl rfl) re_int iq_sub)))
   (rb_one (rs_ret (rv 2))))),?_⟩
 simp_arith! only [rSeq,ls_len hx,hlen]
 refine ⟨fun k τ J'=>∃ j:Nat,τ=[some x,some (fr t),some (.int ((j:Int) - 1))]∧J'=J∧j≤ms.length∧k=j∧lb ms t ms.length=lb ms t j,⟨_,ms.length,rfl,rfl,Nat.le_refl _,rfl,rfl⟩,?_⟩
 rintro k τ J' ⟨j,rfl,rfl,hj,rfl,hb⟩
 simp_arith! only [rSeq,ls_ix hx,spLessR]
 cases k with
 | zero =>
  rw [if_neg (by omega)]
  rw [hb] at q
  exact q
 | succ k =>
  rw [if_pos (by omega)]
  obtain ⟨y,hy⟩:∃ y,ys[k]?=some y:=⟨_,List.getElem?_eq_getElem (by omega)⟩
  obtain ⟨m,hm⟩:∃ m,ms[k]?=some m:=⟨_,List.getElem?_eq_getElem (by omega)⟩
  have ha:atI ys (((k + 1:Nat):Int) - 1)=some y:=by
   have:((k + 1:Nat):Int) - 1=(k:Int):=by omega
   rw [this];exact atI_nat hy
  have em:ms.getD k 0=m:=by simp [List.getD,hm]
  have hu:lb ms t (k + 1)=if m≤t then k + 1 else lb ms t k:=by
   show (if ms.getD k 0≤t then k + 1 else lb ms t k)=_
   rw [em]
  refine ⟨_,ha,_,h0 k y m hy hm,m,rfl,st,sm m (List.mem_of_getElem? hm),?_⟩
  by_cases c:t < m
  ·rw [if_pos c]
   have hn:¬ m≤t:=Rat.not_le.mpr c
   rw [if_neg hn] at hu
   refine ⟨fun τ J''=>τ=[some x,some (fr t),some (.int ((k:Int) - 1))]∧J''=J',fun τ' J'' ⟨e1,e2⟩=>⟨k,Nat.lt_succ_self _,k,e1,e2,by omega,rfl,by rw [hb,hu]⟩,?_⟩
   simp_arith! only [rSeq]
   have:((k + 1:Nat):Int) - 1 - 1=(k:Int) - 1:=by omega
   exact this
  ·rw [if_neg c]
   rw [if_pos (Rat.not_lt.mp c)] at hu
   rw [hb,hu] at q
   exact q
abbrev s_Log_there:Stmt:=(L2.inClass (top 29) 5)
theorem sc_Log_there:L2.FnScope ["self","moment","joined"] ["self","moment"] (L2.defScope s_Log_there):=⟨rfl,rfl,rfl,by decide +kernel,rfl,by decide +kernel,by decide +kernel⟩
def spLThere (cL:Addr):Spr:=fun xs J Q _=>∃ p r rows g t,xs=[.ref p,fr t]∧LAt cL J p r rows g∧rows≠[]∧Sz 900 t∧(∀ l∈rows,LSz 900 l)∧(∀ q,g=some q→Sz 900 q)∧Q (.bl (there rows g t)) J
theorem ok_Log_there {cL f:Addr} {fd:FuncData} (F:Fun K "there" "Log.there" s_Log_there f fd) (Z:BltR mg) (KD_Log:KDef K mg "Log" cL) (NA_Log_rows:NoAttr K cL "rows") (NA_Log_gone:NoAttr K cL "gone") (C_less:CanR P w K mg base 1 "less" ["one","two"] spLessR):FnOk P w K mg base (Fly P w) 2 f fd ["self","moment"] (LSp K (spLThere cL)):=by
 refine okR F sc_Log_there (fun xs J Q E h=>?_) (fun cdv A outer s H E G xs J Q E2 hr h B=>?_)
 ·obtain ⟨p,r,rows,g,t,rfl,_⟩:=h;rfl
 obtain ⟨p,r,rows,g,t,rfl,b,hne,st,sl,sg,q⟩:=h
 have bo:=b.o
 have bl:=b.l
 obtain ⟨l,ls,rfl⟩:∃ l ls,rows=l :: ls:=List.exists_cons_of_ne_nil hne
 have sl':=(sl l (by simp)).m
 refine ⟨_,(rb_cons (rs_set (i:=2) sc_Log_there.nd rfl (Or.inl rfl) (re_ix iq_ix (re_ix iq_ix (re_fld KD_Log.cl NA_Log_rows (rv 0)) re_int (fun _ _=>rfl)) re_int (fun _ _=>rfl)))
   (rb_cons (rs_if (rt_val (re_fn C_less B hr (by decide) rfl (ra_cons (rv 1) (ra_cons (rv 2) ra_nil)))) (rb_one (rs_ret re_bl)) rb_nil)
   (rb_one (rs_ret (re_or (re_cmp oq_is (re_fld KD_Log.cl NA_Log_gone (rv 0)) re_non (L2.nomark _)) (re_one (re_fn C_less B hr (by decide) rfl (ra_cons (rv 1) (ra_cons (re_fld KD_Log.cl NA_Log_gone (rv 0)) ra_nil))))))))),?_⟩
 simp_arith! only [rSeq,bo,bl,lkR,lkG,ix_l0,spLessR]
 refine ⟨st.mono (by decide),sl'.mono (by decide),?_⟩
 unfold there at q
 simp only [List.head?_cons] at q
 by_cases c:t < l.m
 ·rw [if_pos c]
  rw [decide_eq_true c] at q
  exact q
 ·rw [if_neg c]
  rw [decide_eq_false c] at q
  cases g with
  | none=>simpa [gv,is_n,tru_b,bef] using q
  | some u =>
   simp only [gv,isN_fr,Bool.false_eq_true,if_false]
   simp only [bef] at q
   refine ⟨u,rfl,st.mono (by decide),(sg u rfl).mono (by decide),?_⟩
   simpa using q
abbrev s_Log_leg_at:Stmt:=(L2.inClass (top 29) 6)
theorem sc_Log_leg_at:L2.FnScope ["self","moment"] ["self","moment"] (L2.defScope s_Log_leg_at):=⟨rfl,rfl,rfl,by decide +kernel,rfl,by decide +kernel,by decide +kernel⟩
def spLLegAt (cL eN:Addr):Spr:=fun xs J Q E=>∃ p r rows g t,xs=[.ref p,fr t]∧LAt cL J p r rows g∧rows≠[]∧rows.length≤900∧Sz 900 t∧(∀ l∈rows,LSz 900 l)∧(∀ q,g=some q→Sz 900 q)∧(there rows g t=true→∀ l,legAt rows t=some l→Q l.V J)∧(there rows g t=false→E eN J)
theorem ok_Log_leg_at {cL eN f:Addr} {fd:FuncData} (F:Fun K "leg_at" "Log.leg_at" s_Log_leg_at f fd) (Z:BltR mg) (KD_Log:KDef K mg "Log" cL) (NA_Log_rows:NoAttr K cL "rows") (O_NotThere:Own K mg "NotThere" eN) (m_Log_there:MthR P w K mg base cL 2 "there" ["self","moment"] (spLThere cL))
  (C_last_by:CanR P w K mg base 2 "last_by" ["rows","moment"] spLastBy):FnOk P w K mg base (Fly P w) 3 f fd ["self","moment"] (LSp K (spLLegAt cL eN)):=by
 refine okR F sc_Log_leg_at (fun xs J Q E h=>?_) (fun cdv A outer s H E G xs J Q E2 hr h B=>?_)
 ·obtain ⟨p,r,rows,g,t,rfl,_⟩:=h;rfl
 obtain ⟨p,r,rows,g,t,rfl,b,hne,hl,st,sl,sg,q,qe⟩:=h
 have bo:=b.o
 have bl:=b.l
 refine ⟨_,(rb_cons (rs_if (rt_not (rt_val (re_meth (pl:=_) m_Log_there B hr (by decide) (rv 0) (ra_cons (rv 1) ra_nil)))) (rb_one (rs_raise O_NotThere rfl cxF_throws B.kn rfl (ra_cons re_str ra_nil))) rb_nil)
   (rb_one (rs_ret (re_ix iq_ix (re_fld KD_Log.cl NA_Log_rows (rv 0)) (re_fn C_last_by B hr (by decide) rfl (ra_cons (re_fld KD_Log.cl NA_Log_rows (rv 0)) (ra_cons (rv 1) ra_nil))) (fun _ _=>rfl))))),?_⟩
 simp_arith! only [rSeq,bo,bl,lkR]
 refine ⟨lkL5 _ _,p,r,rows,g,t,rfl,b,hne,st,sl,sg,?_⟩
 simp_arith! only [rSeq,rRaise,bo,bl,lkR]
 cases hc:there rows g t with
 | false=>rw [if_pos rfl];exact qe hc
 | true =>
  rw [if_neg (by decide)]
  obtain ⟨l,h1,h2,h3,h4,h5⟩:=there_at hc
  refine ⟨_,t,rows.map Leg.V,rows.map Leg.m,rfl,by simp_arith! only [rSeq,bl],by simp,by simpa using hl,?_,st.mono (by decide),?_,?_⟩
  ·intro i y m hy hm
   rw [List.getElem?_map] at hy hm
   cases e:rows[i]? with
   | none=>rw [e] at hy;cases hy
   | some z=>rw [e] at hy hm;cases hy;cases hm;exact ix_l0 _ _
  ·intro m hm
   obtain ⟨z,hz,rfl⟩:=List.mem_map.mp hm
   exact (sl z hz).m.mono (by decide)
  ·rw [List.length_map]
   simp_arith! only [rSeq,bl]
   refine ⟨l.V,?_,q hc l h1⟩
   have:((lb (rows.map Leg.m) t rows.length:Nat):Int) - 1=((lb (rows.map Leg.m) t rows.length - 1:Nat):Int):=by omega
   rw [this]
   exact atV h5
abbrev s_Log_leave:Stmt:=(L2.inClass (top 29) 2)
theorem sc_Log_leave:L2.FnScope ["self","moment"] ["self","moment"] (L2.defScope s_Log_leave):=⟨rfl,rfl,rfl,by decide +kernel,rfl,by decide +kernel,by decide +kernel⟩
def spLLeave (cL:Addr):Spr:=fun xs J Q _=>∃ p r rows g t,xs=[.ref p,fr t]∧LAt cL J p r rows g∧Q .non (put J p (.ins cL [("rows",.ref r),("gone",fr t)]))
theorem ok_Log_leave {cL f:Addr} {fd:FuncData} (F:Fun K "leave" "Log.leave" s_Log_leave f fd) (Z:BltR mg) (KD_Log:KDef K mg "Log" cL) (NA_Log_gone:NoAttr K cL "gone"):FnOk P w K mg base (Fly P w) 1 f fd ["self","moment"] (LSp K (spLLeave cL)):=by
 refine okR F sc_Log_leave (fun xs J Q E h=>?_) (fun cdv A outer s H E G xs J Q E2 hr h B=>?_)
 ·obtain ⟨p,r,rows,g,t,rfl,_⟩:=h;rfl
 obtain ⟨p,r,rows,g,t,rfl,b,q⟩:=h
 have bo:=b.o
 refine ⟨_,(rb_one (rs_fld KD_Log.cl NA_Log_gone (rv 0) (rv 1))),?_⟩
 simp_arith! only [rSeq,bo,ne_rg]
 exact ⟨by decide,q⟩
theorem at_szL {l:Leg} {t:Rat} (h:LSz 900 l) (sm:Sz 900 t):Sz 3000 (l.at t):=by
 have s1:Sz 1801 (t - l.m):=sm.sub h.m
 have s2:Sz 1900 ((t - l.m) * (l.v:Rat)):=s1.mul h.v
 exact h.p.add s2
abbrev s_lies_behind:Stmt:=(top 27)
theorem sc_lies_behind:L2.FnScope ["name","leg","other_name","other_leg","moment","place","other_place"] ["name","leg","other_name","other_leg","moment"] (L2.defScope s_lies_behind):=⟨rfl,rfl,rfl,by decide +kernel,rfl,by decide +kernel,by decide +kernel⟩
def spLies:Spr:=fun xs J Q _=>∃ (n n':Str) (l l':Leg) (t:Rat),xs=[.str n,l.V,.str n',l'.V,fr t]∧LSz 900 l∧LSz 900 l'∧Sz 900 t∧Q (.bl ((key t (n,l)).lt (key t (n',l')))) J
theorem okr_lies_behind {f:Addr} {fd:FuncData} (F:Fun K "lies_behind" "lies_behind" s_lies_behind f fd) (Z:BltR mg) (C_place_on:CanR P w K mg base 4 "place_on" ["leg","moment"] spPlR) (C_less:CanR P w K mg base 1 "less" ["one","two"] spLessR):FnOk P w K mg base (Fly P w) 5 f fd ["name","leg","other_name","other_leg","moment"] (LSp K spLies):=by
 refine okR F sc_lies_behind (fun xs J Q E h=>?_) (fun cdv A outer s H E G xs J Q E2 hr h B=>?_)
 ·obtain ⟨n,n',l,l',t,rfl,_⟩:=h;rfl
 obtain ⟨n,n',l,l',t,rfl,sl,sl',st,q⟩:=h
 refine ⟨_,(rb_cons (rs_set (i:=5) sc_lies_behind.nd rfl (Or.inl rfl) (re_fn C_place_on B hr (by decide) rfl (ra_cons (rv 1) (ra_cons (rv 4) ra_nil))))
   (rb_cons (rs_set (i:=6) sc_lies_behind.nd rfl (Or.inl rfl) (re_fn C_place_on B hr (by decide) rfl (ra_cons (rv 3) (ra_cons (rv 4) ra_nil))))
   (rb_cons (rs_if (rt_cmp (oq_ne hr.units61) (rv 5) (rv 6) (L2.nomark _)) (rb_one (rs_ret (re_fn C_less B hr (by decide) rfl (ra_cons (rv 5) (ra_cons (rv 6) ra_nil))))) rb_nil)
   (rb_cons (rs_if (rt_cmp (oq_ne hr.units61) (re_ix iq_ix (rv 1) re_int (fun _ _=>rfl)) (re_ix iq_ix (rv 3) re_int (fun _ _=>rfl)) (L2.nomark _)) (rb_one (rs_ret (re_cmp oq_lt (re_ix iq_ix (rv 1) re_int (fun _ _=>rfl)) (re_ix iq_ix (rv 3) re_int (fun _ _=>rfl)) (L2.nomark _)))) rb_nil)
   (rb_one (rs_ret (re_cmp oq_ltS (rv 0) (rv 2) (L2.nomark _)))))))),?_⟩
 simp_all! only []
 refine ⟨l,t,rfl,sl.m,sl.p,st,sl.v,?_⟩
 simp_all! only []
 refine ⟨l',t,rfl,sl'.m,sl'.p,st,sl'.v,?_⟩
 have a1:=at_szL sl st
 have a2:=at_szL sl' st
 simp_all! only []
 unfold Ky.lt key at q
 dsimp only at q
 by_cases e:l.at t=l'.at t
 ·rw [if_pos e] at q
  rw [if_pos e]
  simp_all! only [ix_l2]
  by_cases e2:l.v=l'.v
  ·rw [if_pos e2] at q
   rw [if_pos e2]
   simp_all! only []
   exact q
  ·rw [if_neg e2] at q
   rw [if_neg e2]
   simp_all! only [ix_l2]
   exact q
 ·rw [if_neg e] at q
  rw [if_neg e]
  simp_all! only [spLessR]
  exact ⟨a1.mono (by decide),a2.mono (by decide),q⟩
abbrev s_in_order:Stmt:=(top 41)
theorem sc_in_order:L2.FnScope ["legs","moment","names","name","at"] ["legs","moment"] (L2.defScope s_in_order):=⟨rfl,rfl,rfl,by decide +kernel,rfl,by decide +kernel,by decide +kernel⟩
def legD (fs:List (Str × Leg)):List (Str × PV):=fs.map fun x=>(x.1,x.2.V)
def spInOrder:Spr:=fun xs J Q _=>∃ (D:Addr) (fs:List (Str × Leg)) (ep:Nat) (t:Rat),xs=[.ref D,fr t]∧J D=some (.dct (legD fs) ep)∧(fs.map (·.1)).Nodup∧fs.length≤100∧Sz 900 t∧(∀ x∈fs,LSz 900 x.2)∧∀ p,J p=none→Q (.ref p) (put J p (.lst ((ordQ t fs).map .str)))
theorem okr_in_order {f:Addr} {fd:FuncData} (F:Fun K "in_order" "in_order" s_in_order f fd) (Z:BltR mg) (C_lies_behind:CanR P w K mg base 5 "lies_behind" ["name","leg","other_name","other_leg","moment"] spLies):FnOk P w K mg base (Fly P w) 6 f fd ["legs","moment"] (LSp K spInOrder):=by
 refine okR F sc_in_order (fun xs J Q E h=>?_) (fun cdv A outer s H E G xs J Q E2 hr h B=>?_)
 ·obtain ⟨D,fs,ep,t,rfl,_⟩:=h;rfl
 obtain ⟨D,fs,ep,t,rfl,hD,hnd,hlen,st,sl,q⟩:=h
 refine ⟨_,(rb_cons (rs_set (i:=2) sc_in_order.nd rfl (Or.inl rfl) (re_lst ra_nil))
   (rb_cons (rs_for cxF_own rfl (ri_dict (rv 0)) (rg_name (i:=3) sc_in_order.nd rfl (Or.inl rfl)) (rb_cons (rs_set (i:=4) sc_in_order.nd rfl (Or.inl rfl) (re_callB cq_len rfl Z.len boot_len (ra_cons (rv 2) ra_nil)))
   (rb_cons (rs_while cxF_own (rw_rt (rw_and (rt_cmp oq_gt (rv 4) re_int (L2.nomark _)) (rw_and1 (rt_val (re_fn C_lies_behind B hr (by decide) rfl (ra_cons (rv 3) (ra_cons (re_ix iq_ixD (rv 0) (rv 3) (fun _ _=>rfl)) (ra_cons (re_ix iq_ix (rv 2) (re_op oq_sub (rv 4) re_int) (fun _ _=>rfl)) (ra_cons (re_ix iq_ixD (rv 0) (re_ix iq_ix (rv 2) (re_op oq_sub (rv 4) re_int) (fun _ _=>rfl)) (fun _ _=>rfl)) (ra_cons (rv 1) ra_nil)))))))))) (rb_one (rs_aug (i:=4) sc_in_order.nd rfl (Or.inl rfl) re_int iq_sub)))
   (rb_one (rs_expr (re_bm PySem.F.plainAttrs_list PySem.F.slot_list_insert PySem.F.type_list_insert mq_insert (rv 2) (ra_cons (rv 4) (ra_cons (rv 3) ra_nil))))))))
   (rb_one (rs_ret (rv 2))))),?_⟩
 simp_all! only []
 intro r hr'
 have nDr:D≠r:=by intro e;subst e;rw [hD] at hr';cases hr'
 simp_all! only [put_ne nDr,hD]
 have hkv:(legD fs).map (fun kv=>PV.str kv.1)=fs.map fun x=>PV.str x.1:=by unfold legD;rw [List.map_map];rfl
 rw [hkv]
 obtain ⟨Inv,hInv⟩:∃ Inv:Nat→Sr→Hq→Prop,∀ i τ J',Inv i τ J'↔∃ (u3 u4:Option PV),τ=[some (.ref D),some (fr t),some (.ref r),u3,u4]∧J'=put J r (.lst ((ordQ t (fs.take i)).map .str)):=⟨_,fun _ _ _=>Iff.rfl⟩
 refine for_ls Inv ((hInv _ _ _).mpr ⟨_,_,rfl,rfl⟩) (fun i τ J' h=>?_) ?_ ?_
 ·obtain ⟨_,_,_,rfl⟩:=(hInv _ _ _).mp h
  rw [put_ne nDr];exact hD
 ·intro i x τ J' hx hv
  obtain ⟨u3,u4,rfl,rfl⟩:=(hInv _ _ _).mp hv
  clear hv
  have hi:i < fs.length:=by have:=(List.getElem?_eq_some_iff.mp hx).1;simpa using this
  rw [List.getElem?_map,List.getElem?_eq_getElem hi] at hx
  cases hx
  rcases hfi:fs[i] with ⟨n,l⟩
  have hmem:(n,l)∈fs:=by rw [← hfi];exact List.getElem_mem hi
  have et:fs.take (i + 1)=fs.take i ++ [(n,l)]:=by rw [List.take_add_one,List.getElem?_eq_getElem hi,hfi];rfl
  have hndt:((fs.take (i + 1)).map (·.1)).Nodup:=by rw [List.map_take];exact hnd.sublist (List.take_sublist _ _)
  rw [et,List.map_append,List.map_cons,List.map_nil] at hndt
  obtain ⟨hnd1,hnew⟩:=nodup_snoc hndt
  obtain ⟨ys,hys⟩:∃ ys,ordK ((fs.take i).map (key t))=ys:=⟨_,rfl⟩
  have srt:SrtG Ky.lt ys:=by rw [← hys];exact ordK_srt (by rw [key_names];exact hnd1)
  have hyl:ys.length=i:=by rw [← hys,ordK_len,List.length_map,List.length_take];omega
  have hym:∀ y∈ys,∃ l',(y.n,l')∈fs∧y=key t (y.n,l')∧y.n≠n:=fun y hy=>by
   rw [← hys,ordK_mem,List.mem_map] at hy
   obtain ⟨x',hx',rfl⟩:=hy
   exact ⟨x'.2,List.mem_of_mem_take hx',rfl,fun e=>hnew (List.mem_map.mpr ⟨x',hx',e⟩)⟩
  have eo:(ordQ t (fs.take i)).map PV.str=ys.map fun y=>PV.str y.n:=by unfold ordQ;rw [hys,List.map_map];rfl
  have en:(ordQ t (fs.take (i + 1))).map PV.str=(insG Ky.lt (key t (n,l)) ys).map fun y=>PV.str y.n:=by
   unfold ordQ;rw [et,List.map_append,List.map_cons,List.map_nil,ordK_snoc,hys,List.map_map];rfl
  rw [eo]
  have hvn:vaL (legD fs) n=some l.V:=va_mem (f:=Leg.V) hnd hmem
  have sll:=sl _ hmem
  simp_all! only [put_same,List.length_map]
  refine ⟨fun m τ' J'=>m≤ys.length∧τ'=[some (.ref D),some (fr t),some (.ref r),some (.str n),some (.int (m:Nat))]∧J'=put J r (.lst (ys.map fun y=>PV.str y.n))∧∀ (j:Nat) y,m≤j→ys[j]?=some y→(key t (n,l)).lt y=true,⟨ys.length,Nat.le_refl _,rfl,rfl,fun j y hj e=>by rw [List.getElem?_eq_none hj] at e;cases e⟩,?_⟩
  rintro m τ' J' ⟨hm,rfl,rfl,hall⟩
  have fin:(∀ (j:Nat) y,j < m→ys[j]?=some y→y.lt (key t (n,l))=true)→Inv (i + 1) [some (.ref D),some (fr t),some (.ref r),some (.str n),some (.int (m:Nat))] (put J r (.lst ((ys.map fun y=>PV.str y.n).take m ++ .str n :: (ys.map fun y=>PV.str y.n).drop m))):=fun hlow=>by
   refine (hInv _ _ _).mpr ⟨_,_,rfl,?_⟩
   rw [en,← insG_at hm hlow fun j y hj e=>Ky.asym (hall j y hj e),List.map_append,List.map_cons,List.map_take,List.map_drop]
   rfl
  simp_all! only [put_same,put_ne nDr,hD,hvn]
  by_cases c0:0 < m
  ·rw [if_pos (by omega)]
   obtain ⟨m',rfl⟩:∃ m',m=m' + 1:=⟨m - 1,by omega⟩
   obtain ⟨y,hy⟩:∃ y,ys[m']?=some y:=⟨_,List.getElem?_eq_getElem (by omega)⟩
   obtain ⟨l',hl',ey,ny⟩:=hym y (List.mem_of_getElem? hy)
   have ha:atI (ys.map fun y=>PV.str y.n) (((m' + 1:Nat):Int) - 1)=some (.str y.n):=by
    rw [show ((m' + 1:Nat):Int) - 1=((m':Nat):Int) by omega]
    exact atI_nat (by rw [List.getElem?_map,hy];rfl)
   have hvy:vaL (legD fs) y.n=some l'.V:=va_mem (f:=Leg.V) hnd hl'
   simp_all! only [ha,hvy]
   refine ⟨n,y.n,l,l',t,rfl,sll,sl _ hl',st,?_⟩
   rw [← ey]
   cases hc:(key t (n,l)).lt y with
   | true =>
    simp_all! only []
    refine ⟨_,fun τ'' J'' h=>⟨m',Nat.lt_succ_self _,h⟩,⟨by omega,?_,rfl,fun j z hj e=>?_⟩⟩
    ·rw [show ((m' + 1:Nat):Int) - 1=((m':Nat):Int) by omega]
    ·rcases Nat.lt_or_eq_of_le hj with h | h
     ·exact hall j z (by omega) e
     ·subst h;rw [hy] at e;cases e;exact hc
   | false =>
    simp_all! only [put_same]
    refine ⟨_,m' + 1,rfl,rfl,by rw [List.length_map];omega,small1000 (by rw [List.length_map];omega),by omega,?_⟩
    rw [put_put]
    refine fin fun j z hj e=>?_
    have hyx:y.lt (key t (n,l))=true:=by
     rcases Ky.tot (a:=y) (b:=key t (n,l)) ny with h | h
     ·exact h
     ·rw [hc] at h;cases h
    exact srtG_low (lt:=Ky.lt) Ky.tr srt hy e (by omega) hyx
  ·rw [if_neg (by omega)]
   simp_all! only [put_same]
   refine ⟨_,m,rfl,rfl,by rw [List.length_map];omega,small1000 (by rw [List.length_map];omega),by omega,?_⟩
   rw [put_put]
   exact fin fun j z hj e=>by omega
 ·intro τ J' hv
  obtain ⟨u3,u4,rfl,rfl⟩:=(hInv _ _ _).mp hv
  rw [List.length_map,List.take_length]
  simp_all! only []
  exact q r hr'
def Nought (K:PySem.W.Frag) (mg:Str→Option Value):Prop:=∃ a:Addr,mg "NOUGHT"=some (.ref a)∧∀ H:Hp,SqT K H a [.int 0,.int 1]
theorem nought_mk {K:PySem.W.Frag} {h:Heap} {mg:Str→Option Value} (X:K.In h) (G:h.Ns mainGlobals mg) {a:Addr} {od:Option Addr} {n:Nat} {sl:Array (Option Value)} {t u:Tok}
  (e:PySem.W.nsIn K mainGlobals "NOUGHT"=some (some (.ref a))) (l:K.lookup a=some ⟨.type "tuple",od,.seq #[.int 0 t,.int 1 u] n,sl⟩):Nought K mg :=
 ⟨a,PySem.W.mg_of X G e,fun _=>.inr ⟨_,_,_,l,rfl,rfl,(by show 2≤sizeLine;decide),.cons ⟨t,rfl⟩ (.cons ⟨u,rfl⟩ .nil)⟩⟩
structure Cf where
 n:Str
 a:Addr
 r:Addr
 w:List Leg
 g:Option Rat
structure Ln where
 t:Rat
 d:Addr
 e:Nat
 o:Addr
 cs:List Cf
 row:List Str
def Cf.cur (c:Cf):Leg:=c.w.getLast?.getD ⟨0,0,0⟩
def Ln.prs (L:Ln):List Cf:=L.cs.filter fun c=>c.g.isNone
def Ln.fs (L:Ln):List (Str × Leg):=L.prs.map fun c=>(c.n,c.cur)
structure LnAt (cN cL:Addr) (J:Hq) (p:Addr) (L:Ln):Prop where
 ob:J p=some (.ins cN [("now",fr L.t),("logs",.ref L.d),("row",.ref L.o)])
 dc:J L.d=some (.dct (L.cs.map fun c=>(c.n,PV.ref c.a)) L.e)
 rw:J L.o=some (.lst (L.row.map .str))
 lg:∀ c∈L.cs,LAt cL J c.a c.r c.w c.g
 ap:(L.cs.map Cf.r).Nodup
 ao:∀ c∈L.cs,c.r≠L.o
structure LnOk0 (L:Ln):Prop where
 nd:(L.cs.map Cf.n).Nodup
 ne:∀ c∈L.cs,c.w≠[]
 le:∀ c∈L.cs,∀ l∈c.w,l.m≤L.t
 ck:∀ c∈L.cs,∀ l∈c.w,COk l
 len:∀ c∈L.cs,c.w.length≤200
 gz:∀ c∈L.cs,∀ q,c.g=some q→Sc L60 MM q∧q≤L.t
 t0:0≤L.t
 ts:Sc L60 MM L.t
 many:L.cs.length≤100
 rm:∀ n,n∈L.row↔n∈L.fs.map (·.1)
 rn:L.row.Nodup
 rl:L.row.length≤12
structure LnOk (L:Ln):Prop extends LnOk0 L where
 row:L.row=ordQ L.t L.fs
def Ln.own (L:Ln) (p a:Addr):Prop:=a=p∨a=L.d∨a=L.o∨∃ c∈L.cs,a=c.a∨a=c.r
structure Mv (J J':Hq) (S S':Addr→Prop):Prop where
 keep:∀ a o,J a=some o→¬ S a→J' a=some o
 own:∀ a,S' a→S a∨J a=none
 mono:∀ a,J' a=none→J a=none
theorem Mv.refl (J:Hq) (S:Addr→Prop):Mv J J S S:=⟨fun _ _ h _=>h,fun _ h=>.inl h,fun _ h=>h⟩
theorem Mv.trans {J J' J'':Hq} {S S' S'':Addr→Prop} (h:Mv J J' S S') (k:Mv J' J'' S' S''):Mv J J'' S S'':=by
 refine ⟨fun a o e n=>k.keep a o (h.keep a o e n) fun z=>?_,fun a z=>?_,fun a z=>h.mono a (k.mono a z)⟩
 ·rcases h.own a z with q | q
  ·exact n q
  ·rw [q] at e;cases e
 ·rcases k.own a z with q | q
  ·exact h.own a q
  ·exact .inr (h.mono a q)
theorem Mv.new {J:Hq} {S:Addr→Prop} {x:Addr} {o:HQ} (h:J x=none):Mv J (put J x o) S S:=by
 refine ⟨fun a u e _=>?_,fun _ z=>.inl z,fun a z=>?_⟩
 ·rw [put_ne (fun q=>by subst q;rw [h] at e;cases e)];exact e
 ·by_cases q:a=x
  ·subst q;rw [put_same] at z;cases z
  ·rw [put_ne q] at z;exact z
theorem Mv.new1 {J:Hq} {S:Addr→Prop} {x:Addr} {o:HQ} (h:J x=none):Mv J (put J x o) S (fun a=>S a∨a=x) :=
 ⟨(Mv.new (S:=S) h).keep,fun a z=>z.elim .inl fun e=>.inr (by rw [e];exact h),(Mv.new (S:=S) h).mono⟩
theorem LnAt.keep {cN cL:Addr} {J J':Hq} {p:Addr} {L:Ln} (h:LnAt cN cL J p L) (k:∀ a o,L.own p a→J a=some o→J' a=some o):LnAt cN cL J' p L :=
 ⟨k _ _ (.inl rfl) h.ob,k _ _ (.inr (.inl rfl)) h.dc,k _ _ (.inr (.inr (.inl rfl))) h.rw,fun c hc=>⟨k _ _ (.inr (.inr (.inr ⟨c,hc,.inl rfl⟩))) (h.lg c hc).o,k _ _ (.inr (.inr (.inr ⟨c,hc,.inr rfl⟩))) (h.lg c hc).l⟩,h.ap,h.ao⟩
theorem LnAt.some {cN cL:Addr} {J:Hq} {p:Addr} {L:Ln} (h:LnAt cN cL J p L) {a:Addr} (o:L.own p a):J a≠none:=by
 rcases o with rfl | rfl | rfl | ⟨c,hc,rfl | rfl⟩
 ·rw [h.ob];exact fun z=>nomatch z
 ·rw [h.dc];exact fun z=>nomatch z
 ·rw [h.rw];exact fun z=>nomatch z
 ·rw [(h.lg c hc).o];exact fun z=>nomatch z
 ·rw [(h.lg c hc).l];exact fun z=>nomatch z
theorem LnAt.fresh {cN cL:Addr} {J:Hq} {p x:Addr} {L:Ln} {o:HQ} (h:LnAt cN cL J p L) (hx:J x=none):LnAt cN cL (put J x o) p L :=
 h.keep fun a u ow e=>by rw [put_ne (fun q=>by subst q;rw [hx] at e;cases e)];exact e
theorem ins_ne {J:Hq} {a b C C':Addr} {fs gs:List (Str × PV)} (h:J a=Option.some (.ins C fs)) (k:J b=Option.some (.ins C' gs)) (n:fs.map (·.1)≠gs.map (·.1)):a≠b:=by
 intro e;subst e;rw [h] at k
 have:=HQ.ins.inj (Option.some.inj k)
 exact n (by rw [this.2])
theorem LnAt.ndp {cN cL:Addr} {J:Hq} {p:Addr} {L:Ln} (h:LnAt cN cL J p L):L.d≠p:=by intro e;have:=h.ob;rw [← e,h.dc] at this;cases this
theorem LnAt.nop {cN cL:Addr} {J:Hq} {p:Addr} {L:Ln} (h:LnAt cN cL J p L):L.o≠p:=by intro e;have:=h.ob;rw [← e,h.rw] at this;cases this
theorem LnAt.ndo {cN cL:Addr} {J:Hq} {p:Addr} {L:Ln} (h:LnAt cN cL J p L):L.d≠L.o:=by intro e;have:=h.rw;rw [← e,h.dc] at this;cases this
theorem names_ne:([("rows":Str),("gone":Str)]:List Str)≠[("now":Str),("logs":Str),("row":Str)]:=by decide +kernel
theorem LnAt.nap {cN cL:Addr} {J:Hq} {p:Addr} {L:Ln} (h:LnAt cN cL J p L) {c:Cf} (hc:c∈L.cs):c.a≠p:=ins_ne (h.lg c hc).o h.ob names_ne
theorem LnAt.nrp {cN cL:Addr} {J:Hq} {p:Addr} {L:Ln} (h:LnAt cN cL J p L) {c:Cf} (hc:c∈L.cs):c.r≠p:=by intro e;have:=h.ob;rw [← e,(h.lg c hc).l] at this;cases this
theorem LnAt.nad {cN cL:Addr} {J:Hq} {p:Addr} {L:Ln} (h:LnAt cN cL J p L) {c:Cf} (hc:c∈L.cs):c.a≠L.d:=by intro e;have:=h.dc;rw [← e,(h.lg c hc).o] at this;cases this
theorem LnAt.nrd {cN cL:Addr} {J:Hq} {p:Addr} {L:Ln} (h:LnAt cN cL J p L) {c:Cf} (hc:c∈L.cs):c.r≠L.d:=by intro e;have:=h.dc;rw [← e,(h.lg c hc).l] at this;cases this
theorem LnAt.nao {cN cL:Addr} {J:Hq} {p:Addr} {L:Ln} (h:LnAt cN cL J p L) {c:Cf} (hc:c∈L.cs):c.a≠L.o:=by intro e;have:=h.rw;rw [← e,(h.lg c hc).o] at this;cases this
theorem LnAt.nar {cN cL:Addr} {J:Hq} {p:Addr} {L:Ln} (h:LnAt cN cL J p L) {c c':Cf} (hc:c∈L.cs) (hc':c'∈L.cs):c.a≠c'.r:=by intro e;have:=(h.lg c' hc').l;rw [← e,(h.lg c hc).o] at this;cases this
theorem LnAt.setRow {cN cL:Addr} {J:Hq} {p o':Addr} {L:Ln} {row:List Str} (h:LnAt cN cL J p L) (ho:J o'=Option.some (.lst (row.map .str))) (nc:∀ c∈L.cs,c.r≠o'):LnAt cN cL (put J p (.ins cN [("now",fr L.t),("logs",.ref L.d),("row",.ref o')])) p { L with o:=o',row:=row } :=
 ⟨put_same,by show put J p _ L.d=_;rw [put_ne h.ndp];exact h.dc,by show put J p _ o'=_;rw [put_ne (fun e=>by rw [e,h.ob] at ho;cases ho)];exact ho,
  fun c hc=>⟨by rw [put_ne (h.nap hc)];exact (h.lg c hc).o,by rw [put_ne (h.nrp hc)];exact (h.lg c hc).l⟩,h.ap,nc⟩
theorem mv_put {J:Hq} {S S':Addr→Prop} {x:Addr} {o:HQ} (hx:S x) (hS:∀ a,S' a→S a∨J a=none):Mv J (put J x o) S S':=by
 refine ⟨fun a u e n=>?_,hS,fun a z=>?_⟩
 ·rw [put_ne (fun q=>by subst q;exact n hx)];exact e
 ·by_cases q:a=x
  ·subst q;rw [put_same] at z;cases z
  ·rw [put_ne q] at z;exact z
theorem LnOk0.tsz {L:Ln} (h:LnOk0 L):Sz 900 L.t:=(mm_sz h.ts).mono (by decide)
theorem COk.lsz {l:Leg} (h:COk l):LSz 900 l:=⟨h.msz.mono (by decide),h.psz.mono (by decide),.small (by have:=h.v;omega) (by have:=h.v;omega)⟩
theorem Cf.cur_mem {c:Cf} (h:c.w≠[]):c.w.getLast?=Option.some c.cur∧c.cur∈c.w:=by
 unfold Cf.cur
 rw [List.getLast?_eq_some_getLast h]
 exact ⟨rfl,List.getLast_mem h⟩
theorem LnOk0.leg {L:Ln} (h:LnOk0 L) {c:Cf} (hc:c∈L.cs):legAt c.w L.t=Option.some c.cur:=by
 unfold legAt
 rw [List.filter_eq_self.mpr fun l hl=>decide_eq_true (h.le c hc l hl)]
 exact (Cf.cur_mem (h.ne c hc)).1
theorem LnOk0.there {L:Ln} (h:LnOk0 L) {c:Cf} (hc:c∈L.cs) (hg:c.g=none):there c.w c.g L.t=true:=by
 obtain ⟨l,ls,e⟩:=List.exists_cons_of_ne_nil (h.ne c hc)
 have:=h.le c hc l (by rw [e];simp)
 rw [hg,e]
 unfold Ov.there
 simp only [List.head?_cons,bef,Bool.and_true]
 rw [decide_eq_false (Rat.not_lt.mpr this)];rfl
theorem Ln.prs_mem {L:Ln} {c:Cf}:c∈L.prs↔c∈L.cs∧c.g=none:=by
 unfold Ln.prs
 rw [List.mem_filter]
 cases c.g <;> simp
theorem fs_names (L:Ln):L.fs.map (·.1)=L.prs.map Cf.n:=by unfold Ln.fs;rw [List.map_map];rfl
theorem LnOk0.fnd {L:Ln} (h:LnOk0 L):(L.fs.map (·.1)).Nodup:=by
 rw [fs_names]
 unfold Ln.prs
 exact h.nd.sublist (List.Sublist.map _ List.filter_sublist)
theorem LnOk0.found {L:Ln} (h:LnOk0 L) {n:Str} (hn:n∈L.row):∃ c∈L.cs,c.n=n∧c.g=none:=by
 have:=(h.rm n).mp hn
 rw [fs_names,List.mem_map] at this
 obtain ⟨c,hc,e⟩:=this
 exact ⟨c,(Ln.prs_mem.mp hc).1,e,(Ln.prs_mem.mp hc).2⟩
theorem LnOk0.va {L:Ln} (h:LnOk0 L) {c:Cf} (hc:c∈L.cs):vaL (L.cs.map fun c=>(c.n,PV.ref c.a)) c.n=Option.some (.ref c.a):=by
 have e:(L.cs.map fun c=>(c.n,PV.ref c.a))=((L.cs.map fun c=>(c.n,c.a)).map fun x=>(x.1,PV.ref x.2)):=by rw [List.map_map];rfl
 rw [e]
 exact va_mem (f:=PV.ref) (by rw [List.map_map];exact h.nd) (List.mem_map.mpr ⟨c,hc,rfl⟩)
theorem LnOk0.vaS {L:Ln} (h:LnOk0 L) {n:Str}:(vaL (L.cs.map fun c=>(c.n,PV.ref c.a)) n).isSome=decide (n∈L.cs.map Cf.n):=by
 have e:(L.cs.map fun c=>(c.n,PV.ref c.a))=((L.cs.map fun c=>(c.n,c.a)).map fun x=>(x.1,PV.ref x.2)):=by rw [List.map_map];rfl
 rw [e,va_isSome (f:=PV.ref) (by rw [List.map_map];exact h.nd)]
 rw [List.map_map];rfl
theorem LnOk0.uniq {L:Ln} (h:LnOk0 L) {c c':Cf} (hc:c∈L.cs) (hc':c'∈L.cs) (e:c.n=c'.n):c=c':=by
 obtain ⟨i,hi,rfl⟩:=List.getElem_of_mem hc
 obtain ⟨j,hj,rfl⟩:=List.getElem_of_mem hc'
 have:=(List.getElem_inj (xs:=L.cs.map Cf.n) (i:=i) (j:=j) (h₀:=by simpa using hi) (h₁:=by simpa using hj) h.nd).mp (by rw [List.getElem_map,List.getElem_map];exact e)
 subst this;rfl
theorem lkN1 (a b c:PV):([("now",a),("logs",b),("row",c)]:List (Str × PV)).lookup ("now":Str)=Option.some a:=rfl
theorem lkN2 (a b c:PV):([("now",a),("logs",b),("row",c)]:List (Str × PV)).lookup ("logs":Str)=Option.some b:=rfl
theorem lkN3 (a b c:PV):([("now",a),("logs",b),("row",c)]:List (Str × PV)).lookup ("row":Str)=Option.some c:=rfl
theorem lkNn (m:Str) (a b c:PV) (h:(m == ("now":Str))=false:=by decide +kernel) (k:(m == ("logs":Str))=false:=by decide +kernel) (l:(m == ("row":Str))=false:=by decide +kernel):([("now",a),("logs",b),("row",c)]:List (Str × PV)).lookup m=none:=by
 rw [List.lookup_cons,h];simp only;rw [List.lookup_cons,k];simp only;rw [List.lookup_cons,l];rfl
theorem ne_nl:(("now":Str)=("logs":Str))=False:=eq_false (by decide +kernel)
theorem ne_nr:(("now":Str)=("row":Str))=False:=eq_false (by decide +kernel)
theorem ne_lr:(("logs":Str)=("row":Str))=False:=eq_false (by decide +kernel)
theorem prN_row (a b c z:PV):putR ("row":Str) z ([("now",a),("logs",b),("row",c)]:List (Str × PV))=([("now",a),("logs",b),("row",z)]:List (Str × PV)):=by simp only [putR,ne_nr,ne_lr,if_false,if_true]
theorem sq_row {J:Hq} {a:Addr} {xs:List PV} (h:J a=Option.some (.lst xs)):sqQ J (.ref a)=Option.some xs:=by unfold sqQ;simp only [h]
abbrev s_Lane___init__:Stmt:=(L2.inClass (top 42) 0)
theorem sc_Lane___init__:L2.FnScope ["self"] ["self"] (L2.defScope s_Lane___init__):=⟨rfl,rfl,rfl,by decide +kernel,rfl,by decide +kernel,by decide +kernel⟩
def spNInit (cN cL:Addr):Spr:=fun xs J Q _=>∃ p,xs=[.ref p]∧J p=some (.ins cN [])∧∀ J' d e o,LnAt cN cL J' p ⟨0,d,e,o,[],[]⟩→Mv J J' (fun a=>a=p) (Ln.own ⟨0,d,e,o,[],[]⟩ p)→Q .non J'
theorem ok_Lane_init {cN cL f:Addr} {fd:FuncData} (F:Fun K "__init__" "Lane.__init__" s_Lane___init__ f fd) (N:Nought K mg) (KD_Lane:KDef K mg "Lane" cN) (NA_Lane_now:NoAttr K cN "now") (NA_Lane_logs:NoAttr K cN "logs") (NA_Lane_row:NoAttr K cN "row"):FnOk P w K mg base (Fly P w) 1 f fd ["self"] (LSp K (spNInit cN cL)):=by
 refine okR F sc_Lane___init__ (fun xs J Q E h=>?_) (fun cdv A outer s H E G xs J Q E2 hr h B=>?_)
 ·obtain ⟨p,rfl,_⟩:=h;rfl
 obtain ⟨p,rfl,hp,q⟩:=h
 obtain ⟨aN,gN,sN⟩:=N
 have rN:∀ (J:Hq) (H:Hp),RepV K J H (fr 0) (.ref aN):=fun J H=>⟨aN,_,rfl,sN H,⟨_,_,rfl,rfl,_,_,rfl,rfl,rfl⟩⟩
 refine ⟨_,(rb_cons (rs_fld KD_Lane.cl NA_Lane_now (rv 0) (re_glob (v:=.ref aN) (fr 0) rfl gN rfl rN))
   (rb_cons (rs_fld KD_Lane.cl NA_Lane_logs (rv 0) re_newD)
   (rb_one (rs_fld KD_Lane.cl NA_Lane_row (rv 0) (re_lst ra_nil))))),?_⟩
 simp_all! only [hp]
 refine ⟨by decide,?_⟩
 simp_all! only []
 intro d hd ep
 have ndp:d≠p:=by intro e;subst e;rw [put_same] at hd;cases hd
 simp_all! only [put_ne (Ne.symm ndp),put_same]
 simp only [ne_nl,if_false]
 refine ⟨by decide,fun o ho=>?_⟩
 have jd:J d=none:=by rw [put_ne ndp] at hd;exact hd
 have nop:o≠p:=by intro e;subst e;rw [put_same] at ho;cases ho
 have nod:o≠d:=by intro e;subst e;rw [put_ne nop,put_same] at ho;cases ho
 have jo:J o=none:=by rw [put_ne nop,put_ne nod,put_ne nop] at ho;exact ho
 refine ⟨_,by rw [put_ne (Ne.symm nop)];exact put_same,by show (2:Nat) < 1000;decide,?_⟩
 have pr:putR ("row":Str) (PV.ref o) ([("now",fr 0),("logs",.ref d)]:List (Str × PV))=([("now",fr 0),("logs",.ref d),("row",.ref o)]:List (Str × PV)):=by simp only [putR,ne_nr,ne_lr,if_false]
 rw [pr]
 refine q _ d ep o ⟨put_same,by rw [put_ne ndp,put_ne (Ne.symm nod),put_ne ndp];exact put_same,by rw [put_ne nop];exact put_same,(by simp),(by simp),(by simp)⟩ ⟨fun a u e na=>?_,fun a ow=>?_,fun a z=>?_⟩
 ·have na1:a≠d:=fun z=>by subst z;rw [jd] at e;cases e
  have na2:a≠o:=fun z=>by subst z;rw [jo] at e;cases e
  rw [put_ne na,put_ne na2,put_ne na,put_ne na1,put_ne na];exact e
 ·rcases ow with rfl | rfl | rfl | ⟨c,hc,_⟩
  ·exact .inl rfl
  ·exact .inr jd
  ·exact .inr jo
  ·cases hc
 ·by_cases z1:a=p
  ·subst z1;rw [put_same] at z;cases z
  by_cases z2:a=o
  ·subst z2;exact jo
  by_cases z3:a=d
  ·subst z3;exact jd
  rw [put_ne z1,put_ne z2,put_ne z1,put_ne z3,put_ne z1] at z;exact z
abbrev s_Lane_must_be_there:Stmt:=(L2.inClass (top 42) 22)
theorem sc_Lane_must_be_there:L2.FnScope ["self","name"] ["self","name"] (L2.defScope s_Lane_must_be_there):=⟨rfl,rfl,rfl,by decide +kernel,rfl,by decide +kernel,by decide +kernel⟩
def spNMust (cN cL eC:Addr):Spr:=fun xs J Q E=>∃ p L n,xs=[.ref p,.str n]∧LnAt cN cL J p L∧(n∈L.row→Q .non J)∧(n ∉ L.row→E eC J)
theorem ok_Lane_must_be_there {cN cL eC f:Addr} {fd:FuncData} (F:Fun K "must_be_there" "Lane.must_be_there" s_Lane_must_be_there f fd) (Z:BltR mg) (KD_Lane:KDef K mg "Lane" cN) (NA_Lane_row:NoAttr K cN "row") (O_NoCraft:Own K mg "NoCraft" eC):FnOk P w K mg base (Fly P w) 1 f fd ["self","name"] (LSp K (spNMust cN cL eC)):=by
 refine okR F sc_Lane_must_be_there (fun xs J Q E h=>?_) (fun cdv A outer s H E G xs J Q E2 hr h B=>?_)
 ·obtain ⟨p,L,n,rfl,_⟩:=h;rfl
 obtain ⟨p,L,n,rfl,b,q,qe⟩:=h
 have bo:=b.ob
 refine ⟨_,(rb_one (rs_if (rt_cmp oq_ninS (rv 1) (re_fld KD_Lane.cl NA_Lane_row (rv 0)) (by with_unfolding_all rfl)) (rb_one (rs_raise O_NoCraft rfl cxF_throws B.kn rfl (ra_cons re_str ra_nil))) rb_nil)),?_⟩
 simp_all! only [bo,lkN3,qInS,sq_row b.rw]
 refine ⟨L.row,rfl,?_⟩
 by_cases c:n∈L.row
 ·rw [if_pos (by simp [c])]
  exact q c
 ·rw [if_neg (by simp [c])]
  simp_all! only [rRaise]
  exact qe c
abbrev s_Lane_leg_of:Stmt:=(L2.inClass (top 42) 23)
theorem sc_Lane_leg_of:L2.FnScope ["self","name"] ["self","name"] (L2.defScope s_Lane_leg_of):=⟨rfl,rfl,rfl,by decide +kernel,rfl,by decide +kernel,by decide +kernel⟩
def spNLegOf (cN cL eC:Addr):Spr:=fun xs J Q E=>∃ p L n,xs=[.ref p,.str n]∧LnAt cN cL J p L∧LnOk0 L∧(∀ c∈L.cs,c.n=n→c.g=none→Q c.cur.V J)∧(n ∉ L.row→E eC J)
theorem ok_Lane_leg_of {cN cL eC eN f:Addr} {fd:FuncData} (F:Fun K "leg_of" "Lane.leg_of" s_Lane_leg_of f fd) (Z:BltR mg) (KD_Lane:KDef K mg "Lane" cN) (NA_Lane_logs:NoAttr K cN "logs") (NA_Lane_now:NoAttr K cN "now") (m_Lane_must_be_there:MthR P w K mg base cN 1 "must_be_there" ["self","name"] (spNMust cN cL eC)) (m_Log_leg_at:MthR P w K mg base cL 3 "leg_at" ["self","moment"] (spLLegAt cL eN)) :
  FnOk P w K mg base (Fly P w) 4 f fd ["self","name"] (LSp K (spNLegOf cN cL eC)):=by
 refine okR F sc_Lane_leg_of (fun xs J Q E h=>?_) (fun cdv A outer s H E G xs J Q E2 hr h B=>?_)
 ·obtain ⟨p,L,n,rfl,_⟩:=h;rfl
 obtain ⟨p,L,n,rfl,b,ok,q,qe⟩:=h
 have bo:=b.ob
 have bd:=b.dc
 refine ⟨_,(rb_cons (rs_expr (re_meth (pl:=_) m_Lane_must_be_there B hr (by decide) (rv 0) (ra_cons (rv 1) ra_nil)))
   (rb_one (rs_ret (re_meth (pl:=_) m_Log_leg_at B hr (by decide) (re_ix iq_ixD (re_fld KD_Lane.cl NA_Lane_logs (rv 0)) (rv 1) (fun _ _=>rfl)) (ra_cons (re_fld KD_Lane.cl NA_Lane_now (rv 0)) ra_nil))))),?_⟩
 simp_all! only [bo]
 refine ⟨lkNn _ _ _ _,p,L,n,rfl,b,fun hn=>?_,qe⟩
 obtain ⟨c,hc,rfl,hg⟩:=ok.found hn
 have lo:=(b.lg c hc).o
 simp_all! only [bo,lkN2,bd,ok.va hc,lo]
 refine ⟨lkL6 _ _,?_⟩
 simp_all! only [bo,lkN1]
 refine ⟨c.a,c.r,c.w,c.g,L.t,rfl,b.lg c hc,ok.ne c hc,Nat.le_trans (ok.len c hc) (by decide),ok.tsz,fun l hl=>(ok.ck c hc l hl).lsz,fun q' hq=>(mm_sz (ok.gz c hc q' hq).1).mono (by decide),fun _ l hl=>?_,fun z=>?_⟩
 ·rw [ok.leg hc] at hl;cases hl
  exact q c hc rfl hg
 ·rw [ok.there hc hg] at z;cases z
abbrev s_Lane_settle:Stmt:=(L2.inClass (top 42) 24)
theorem sc_Lane_settle:L2.FnScope ["self"] ["self"] (L2.defScope s_Lane_settle):=⟨rfl,rfl,rfl,by decide +kernel,rfl,by decide +kernel,by decide +kernel⟩
theorem ordQ_row {L:Ln} (ok:LnOk0 L) {f:Str→Leg} (hf:∀ c∈L.cs,c.g=none→f c.n=c.cur):ordQ L.t (L.row.map fun n=>(n,f n))=ordQ L.t L.fs:=by
 refine ordQ_ext (by rw [List.map_map];show (L.row.map fun n=>n).Nodup;rw [List.map_id'];exact ok.rn) ok.fnd fun x=>?_
 rw [List.mem_map,List.mem_map]
 constructor
 ·rintro ⟨y,hy,rfl⟩
  obtain ⟨n,hn,rfl⟩:=List.mem_map.mp hy
  obtain ⟨c,hc,rfl,hg⟩:=ok.found hn
  exact ⟨(c.n,c.cur),List.mem_map.mpr ⟨c,Ln.prs_mem.mpr ⟨hc,hg⟩,rfl⟩,by rw [hf c hc hg]⟩
 ·rintro ⟨y,hy,rfl⟩
  obtain ⟨c,hc,rfl⟩:=List.mem_map.mp hy
  obtain ⟨hc,hg⟩:=Ln.prs_mem.mp hc
  refine ⟨(c.n,f c.n),List.mem_map.mpr ⟨c.n,(ok.rm c.n).mpr ?_,rfl⟩,by rw [hf c hc hg]⟩
  rw [fs_names];exact List.mem_map.mpr ⟨c,Ln.prs_mem.mpr ⟨hc,hg⟩,rfl⟩
def Ln.legN (L:Ln) (n:Str):Leg:=((L.cs.find? fun c=>decide (c.n=n)).map Cf.cur).getD ⟨0,0,0⟩
theorem LnOk0.legN {L:Ln} (ok:LnOk0 L) {c:Cf} (hc:c∈L.cs):L.legN c.n=c.cur:=by
 unfold Ln.legN
 cases h:L.cs.find? fun d=>decide (d.n=c.n) with
 | none=>have:=List.find?_eq_none.mp h c hc;simp at this
 | some d =>
  have h1:=List.mem_of_find?_eq_some h
  have h2:d.n=c.n:=by simpa using List.find?_some h
  rw [ok.uniq h1 hc h2];rfl
def spNSettle (cN cL:Addr):Spr:=fun xs J Q E=>∃ p L,xs=[.ref p]∧LnAt cN cL J p L∧LnOk0 L∧∀ J' o',LnAt cN cL J' p { L with o:=o',row:=ordQ L.t L.fs }→Mv J J' (L.own p) (Ln.own { L with o:=o',row:=ordQ L.t L.fs } p)→Q .non J'
theorem ok_Lane_settle {cN cL eC f:Addr} {fd:FuncData} (F:Fun K "settle" "Lane.settle" s_Lane_settle f fd) (Z:BltR mg) (KD_Lane:KDef K mg "Lane" cN) (NA_Lane_row:NoAttr K cN "row") (NA_Lane_now:NoAttr K cN "now") (m_Lane_leg_of:MthR P w K mg base cN 4 "leg_of" ["self","name"] (spNLegOf cN cL eC)) (C_in_order:CanR P w K mg base 6 "in_order" ["legs","moment"] spInOrder) :
  FnOk P w K mg base (Fly P w) 7 f fd ["self"] (LSp K (spNSettle cN cL)):=by
 refine okR F sc_Lane_settle (fun xs J Q E h=>?_) (fun cdv A outer s H E G xs J Q E2 hr h B=>?_)
 ·obtain ⟨p,L,rfl,_⟩:=h;rfl
 obtain ⟨p,L,rfl,b,ok,q⟩:=h
 have bo:=b.ob
 have br:=b.rw
 refine ⟨_,(rb_one (rs_fld KD_Lane.cl NA_Lane_row (rv 0) (re_fn C_in_order B hr (by decide) rfl (ra_cons (re_dc (L2.defScope s_Lane_settle) ["self"] [("self",0)] rfl rfl rfl (ri_list (re_fld KD_Lane.cl NA_Lane_row (rv 0))) (fun _ _ _ _ _ _=>(rv 0)) (fun _ _ _ _ _ _=>(re_meth (pl:=_) m_Lane_leg_of ebd0 hr (by decide) (rv 1) (ra_cons (rv 0) ra_nil)))) (ra_cons (re_fld KD_Lane.cl NA_Lane_now (rv 0)) ra_nil))))),?_⟩
 simp_all! only [rDC,bo,lkN3,br]
 intro D hD ep
 have bf:∀ e2 kvs,LnAt cN cL (put J D (.dct kvs e2)) p L:=fun e2 kvs=>b.fresh hD
 have hrl:=ok.rl
 refine ⟨fun i J2=>∃ e2,J2=put J D (.dct (legD ((L.row.take i).map fun n=>(n,L.legN n))) e2),⟨ep,rfl⟩,?_,?_,?_⟩
 ·rintro i J2 ⟨e2,rfl⟩;exact (bf e2 _).rw
 ·rintro i x J2 hx ⟨e2,rfl⟩
  have hi:i < L.row.length:=by have:=(List.getElem?_eq_some_iff.mp hx).1;simpa using this
  rw [List.getElem?_map,List.getElem?_eq_getElem hi] at hx
  cases hx
  have hn:L.row[i]∈L.row:=List.getElem_mem hi
  refine ⟨_,(bf e2 _).ob,lkNn _ _ _ _,p,L,L.row[i],rfl,bf e2 _,ok,fun c hc e hg=>?_,fun z=>absurd hn z⟩
  refine ⟨_,e2,L.row[i],rfl,put_same,small1000 (by simp only [legD,List.length_map,List.length_take];omega),fun ep'=>⟨ep',?_⟩⟩
  rw [put_put]
  congr 2
  have et:L.row.take (i + 1)=L.row.take i ++ [L.row[i]]:=by rw [List.take_add_one,List.getElem?_eq_getElem hi];rfl
  rw [et,List.map_append,List.map_cons,List.map_nil,← e,ok.legN hc]
  refine pu_new (f:=Leg.V) (l:=c.cur) fun z=>?_
  rw [List.map_map] at z
  obtain ⟨m,hm,e3⟩:=List.mem_map.mp z
  have hnd:(L.row.take (i + 1)).Nodup:=ok.rn.sublist (List.take_sublist _ _)
  rw [et] at hnd
  exact (nodup_snoc hnd).2 (by rw [← e,← e3];exact hm)
 ·rintro J2 ⟨e2,rfl⟩
  rw [List.length_map,List.take_length]
  refine ⟨_,(bf e2 _).ob,_,lkN1 _ _ _,D,_,e2,L.t,rfl,put_same,?_,by rw [List.length_map];omega,ok.tsz,?_,fun o' ho'=>?_⟩
  ·rw [List.map_map];show (L.row.map fun n=>n).Nodup;rw [List.map_id'];exact ok.rn
  ·intro x hx
   obtain ⟨n,hn,rfl⟩:=List.mem_map.mp hx
   obtain ⟨c,hc,rfl,hg⟩:=ok.found hn
   show LSz 900 (L.legN c.n)
   rw [ok.legN hc]
   exact (ok.ck c hc _ (Cf.cur_mem (ok.ne c hc)).2).lsz
  ·rw [ordQ_row ok fun c hc _=>ok.legN hc]
   have b2:LnAt cN cL (put (put J D (.dct (legD (L.row.map fun n=>(n,L.legN n))) e2)) o' (.lst ((ordQ L.t L.fs).map .str))) p L:=(bf e2 _).fresh ho'
   have jo:J o'=none:=by
    by_cases z:o'=D
    ·subst z;exact hD
    ·rw [put_ne z] at ho';exact ho'
   refine ⟨_,b2.ob,by show (3:Nat) < 1000;decide,?_⟩
   rw [prN_row]
   refine q _ o' (b2.setRow put_same fun c hc e=>?_) ?_
   ·have:=(b.lg c hc).l;rw [e,jo] at this;cases this
   ·refine ((Mv.new hD).trans (Mv.new1 ho')).trans (mv_put (.inl (.inl rfl)) fun a ow=>.inl ?_)
    rcases ow with h | h | h | h
    ·exact .inl (.inl h)
    ·exact .inl (.inr (.inl h))
    ·exact .inr h
    ·exact .inl (.inr (.inr (.inr h)))
abbrev s_good_name:Stmt:=(top 33)
theorem sc_good_name:L2.FnScope ["text"] ["text"] (L2.defScope s_good_name):=⟨rfl,rfl,rfl,by decide +kernel,rfl,by decide +kernel,by decide +kernel⟩
def alphabet36:Str:="abcdefghijklmnopqrstuvwxyz0123456789"
def good (y:Str):Bool:=decide (1≤y.cps.size) && decide (y.cps.size≤8) && y.cps.toList.all (signIn alphabet36)
def spGood (T:Addr):Sp:=fun vs H Q _=>∃ y:Str,vs=[.str y]∧y.length≤sizeLine∧H T=some (.ext (TabOk T))∧Q (.bl (good y)) H
theorem ok_good_name {T f c:Addr} {fd:FuncData} (F:FunG K mg "good_name" s_good_name T f fd c) (Z:Blt mg) (Bm:BMain mg base) {t_LONGEST t_SIGNS:Tok} (g_LONGEST:mg "LONGEST"=some (.int 8 t_LONGEST)) (g_SIGNS:mg "SIGNS"=some (.str "abcdefghijklmnopqrstuvwxyz0123456789" t_SIGNS)) :
  FnOk P w K mg base CX0 1 f fd ["text"] (spGood T):=by
 refine okG F sc_good_name (fun vs H Q E h=>?_) (fun A outer s H vs Q E hr h=>?_)
 ·obtain ⟨y,rfl,_⟩:=h
  rfl
 obtain ⟨y,rfl,hz,hT,q⟩:=h
 refine ⟨_,(pss_cons (ps_if (pw_pt (pw_or (pt_cmpR op_lt (pe_callB call_len_str rfl Z.len boot_len (pa_cons (pv 0) pa_nil)) pe_int (nomark _)) (pw_or1 (pt_cmpR op_gt (pe_callB call_len_str rfl Z.len boot_len (pa_cons (pv 0) pa_nil)) (pe_glob (v:=.int 8) rfl g_LONGEST ⟨_,rfl⟩) (nomark _))))) (pss_one (ps_ret pe_bl)) pss_nil)
   (pss_one (ps_ret (pe_allIn rfl Bm rfl F.tab hr rfl Z.all g_SIGNS (pv 0))))),?_⟩
 have el:y.cps.size=y.length:=rfl
 refine ⟨_,rfl,y,rfl,hz,_,_,rfl,rfl,_,rfl,ite2 (fun e=>?_) (fun e=>⟨_,rfl,y,rfl,hz,_,_,rfl,rfl,_,rfl,ite2 (fun e2=>?_) (fun e2=>?_)⟩)⟩
 ·have e:(y.length:Int) < 1:=of_decide_eq_true e
  have z:good y=false:=by
   unfold good
   rw [decide_eq_false (show ¬ 1≤y.cps.size by omega)]
   rfl
  show Q (.bl false) H
  rw [← z]
  exact q
 ·have e2:(8:Int) < (y.length:Int):=of_decide_eq_true e2
  have z:good y=false:=by
   unfold good
   rw [decide_eq_false (show ¬ y.cps.size≤8 by omega),Bool.and_false]
   rfl
  show Q (.bl false) H
  rw [← z]
  exact q
 ·have e:¬ (y.length:Int) < 1:=of_decide_eq_false (Bool.eq_false_iff.mpr e)
  have e2:¬ (8:Int) < (y.length:Int):=of_decide_eq_false (Bool.eq_false_iff.mpr e2)
  have z:good y=y.cps.toList.all (signIn alphabet36):=by
   unfold good
   rw [decide_eq_true (show 1≤y.cps.size by omega),decide_eq_true (show y.cps.size≤8 by omega)]
   rfl
  refine ⟨_,rfl,y,rfl,hT,?_⟩
  show Q (.bl (y.cps.toList.all (signIn alphabet36))) H
  rw [← z]
  exact q
def spGoodR (T:Addr):Spr:=fun xs J Q _=>∃ y:Str,xs=[.str y]∧y.length≤sizeLine∧J T=some .tab∧Q (.bl (good y)) J
theorem lift_good_name {T:Addr} (C:Can P w K mg base 1 "good_name" ["text"] (spGood T)):CanR P w K mg base 1 "good_name" ["text"] (spGoodR T):=C.lift fun xs J vs H Q2 E2 Q E rs r ⟨y,ex,hl,hT,q⟩ kn=>by
 subst ex
 obtain ⟨v,rfl,r1⟩:=one_of rs
 cases r1
 exact ⟨y,rfl,hl,r _ _ hT,kn (.bl _) J _ H rfl r .refl q⟩
theorem fs_snoc (L:Ln) {L':Ln} {c:Cf} (h:L'.cs=L.cs ++ [c]) (hg:c.g=none):L'.fs=L.fs ++ [(c.n,c.cur)]:=by
 unfold Ln.fs Ln.prs
 rw [h,List.filter_append,List.map_append]
 simp [hg]
def Ln.joined (L:Ln) (n:Str) (x v:Int) (L':Ln):Prop:=∃ a r,L'.cs=L.cs ++ [⟨n,a,r,[⟨L.t,(x:Rat),v⟩],none⟩]∧L'.t=L.t
def inB (x v:Int):Prop:=x.natAbs≤1000000∧v.natAbs≤1000
def spNJoin (cN cL T eB eF eT eU:Addr):Spr:=fun xs J Q E=>∃ p L n x v,xs=[.ref p,.str n,.int x,.int v]∧LnAt cN cL J p L∧LnOk L∧J T=some .tab∧n.length≤sizeLine∧L.cs.length < 100∧(good n=false→E eB J)∧(good n=true→¬ inB x v→E eF J) ∧
 (good n=true→inB x v→n∈L.cs.map Cf.n→E eT J)∧(good n=true→inB x v→n ∉ L.cs.map Cf.n→12≤L.row.length→E eU J) ∧
 (good n=true→inB x v→n ∉ L.cs.map Cf.n→L.row.length < 12→∀ J' L',LnAt cN cL J' p L'→LnOk L'→L.joined n x v L'→Mv J J' (L.own p) (L'.own p)→Q .non J')
abbrev s_Lane_join:Stmt:=(L2.inClass (top 42) 1)
theorem sc_Lane_join:L2.FnScope ["self","name","place","pace"] ["self","name","place","pace"] (L2.defScope s_Lane_join):=⟨rfl,rfl,rfl,by decide +kernel,rfl,by decide +kernel,by decide +kernel⟩
theorem LnAt.add {cN cL:Addr} {J:Hq} {p:Addr} {L:Ln} {c:Cf} {ep:Nat} (h:LnAt cN cL J p L) (hc:LAt cL J c.a c.r c.w c.g) (h1:c.r ∉ L.cs.map Cf.r) (h2:c.r≠L.o) :
  LnAt cN cL (put (put J L.d (.dct ((L.cs ++ [c]).map fun c=>(c.n,PV.ref c.a)) ep)) L.o (.lst ((L.row ++ [c.n]).map .str))) p ⟨L.t,L.d,ep,L.o,L.cs ++ [c],L.row ++ [c.n]⟩:=by
 have n1:c.a≠L.d:=by intro e;have:=h.dc;rw [← e,hc.o] at this;cases this
 have n2:c.a≠L.o:=by intro e;have:=h.rw;rw [← e,hc.o] at this;cases this
 have n3:c.r≠L.d:=by intro e;have:=h.dc;rw [← e,hc.l] at this;cases this
 refine ⟨?_,?_,put_same,fun x hx=>?_,?_,fun x hx=>?_⟩
 ·rw [put_ne (Ne.symm h.nop),put_ne (Ne.symm h.ndp)];exact h.ob
 ·show put (put J L.d _) L.o _ L.d=_
  rw [put_ne h.ndo];exact put_same
 ·rcases List.mem_append.mp hx with hx | hx
  ·exact ⟨by rw [put_ne (h.nao hx),put_ne (h.nad hx)];exact (h.lg x hx).o,by rw [put_ne (h.ao x hx),put_ne (h.nrd hx)];exact (h.lg x hx).l⟩
  ·rw [List.mem_singleton] at hx;subst hx
   exact ⟨by rw [put_ne n2,put_ne n1];exact hc.o,by rw [put_ne h2,put_ne n3];exact hc.l⟩
 ·show ((L.cs ++ [c]).map Cf.r).Nodup
  rw [List.map_append,List.map_cons,List.map_nil,List.nodup_append]
  exact ⟨h.ap,by simp,fun x hx y hy e=>by rw [List.mem_singleton] at hy;subst hy;subst e;exact h1 hx⟩
 ·show x.r≠L.o
  rcases List.mem_append.mp hx with hx | hx
  ·exact h.ao x hx
  ·rw [List.mem_singleton] at hx;subst hx;exact h2
theorem LnOk0.add {L:Ln} (h:LnOk0 L) {c:Cf} {l:Leg} {ep:Nat} (hw:c.w=[l]) (hg:c.g=none) (hl:COk l) (hm:l.m=L.t) (hn:c.n ∉ L.cs.map Cf.n) (hr:L.row.length < 12) (hs:L.cs.length < 100):LnOk0 ⟨L.t,L.d,ep,L.o,L.cs ++ [c],L.row ++ [c.n]⟩:=by
 have hf:Ln.fs ⟨L.t,L.d,ep,L.o,L.cs ++ [c],L.row ++ [c.n]⟩=L.fs ++ [(c.n,c.cur)]:=fs_snoc L rfl hg
 have all:∀ {P:Cf→Prop},(∀ x∈L.cs,P x)→P c→∀ x∈L.cs ++ [c],P x:=fun h1 h2 x hx=>by
  rcases List.mem_append.mp hx with hx | hx
  ·exact h1 x hx
  ·rw [List.mem_singleton] at hx;subst hx;exact h2
 refine ⟨?_,all h.ne (by rw [hw];simp),all h.le (by rw [hw];simp [hm]),all h.ck (by rw [hw];simpa using hl),all h.len (by rw [hw];show (1:Nat)≤200;decide),all h.gz (by rw [hg];intro q e;cases e),h.t0,h.ts,by show (L.cs ++ [c]).length≤100;rw [List.length_append];simp;omega,fun n=>?_,?_,by show (L.row ++ [c.n]).length≤12;rw [List.length_append];simp;omega⟩
 ·show ((L.cs ++ [c]).map Cf.n).Nodup
  rw [List.map_append,List.map_cons,List.map_nil,List.nodup_append]
  exact ⟨h.nd,by simp,fun x hx y hy e=>by rw [List.mem_singleton] at hy;subst hy;subst e;exact hn hx⟩
 ·rw [hf,List.map_append,List.mem_append,List.mem_append,h.rm n];simp
 ·show (L.row ++ [c.n]).Nodup
  rw [List.nodup_append]
  refine ⟨h.rn,by simp,fun x hx y hy e=>?_⟩
  rw [List.mem_singleton] at hy
  rw [e,hy] at hx
  have:=(h.rm _).mp hx
  rw [fs_names,List.mem_map] at this
  obtain ⟨d,hd,e⟩:=this
  exact hn (List.mem_map.mpr ⟨d,(Ln.prs_mem.mp hd).1,e⟩)
theorem LnOk.settled {L:Ln} (h:LnOk0 L) (o':Addr):LnOk { L with o:=o',row:=ordQ L.t L.fs }:=by
 have hl:(ordQ L.t L.fs).length≤12:=by
  have h1:(ordQ L.t L.fs).Perm L.row:=(List.perm_ext_iff_of_nodup (ordQ_nodup h.fnd) h.rn).mpr fun n=>by rw [ordQ_mem];exact (h.rm n).symm
  rw [h1.length_eq];exact h.rl
 exact ⟨⟨h.nd,h.ne,h.le,h.ck,h.len,h.gz,h.t0,h.ts,h.many,fun n=>ordQ_mem,ordQ_nodup h.fnd,hl⟩,rfl⟩
theorem ok_Lane_join {cN cL T eB eF eT eU f:Addr} {fd:FuncData} (F:Fun K "join" "Lane.join" s_Lane_join f fd) (Z:BltR mg) (KD_Lane:KDef K mg "Lane" cN) (NA_Lane_row:NoAttr K cN "row") (NA_Lane_now:NoAttr K cN "now") (NA_Lane_logs:NoAttr K cN "logs") {t_FARTHEST t_FASTEST t_MOST:Tok} (g_FARTHEST:mg "FARTHEST"=some (.int 1000000 t_FARTHEST)) (g_FASTEST:mg "FASTEST"=some (.int 1000 t_FASTEST)) (g_MOST:mg "MOST"=some (.int 12 t_MOST))
  (O_BadName:Own K mg "BadName" eB) (O_TooFar:Own K mg "TooFar" eF) (O_Taken:Own K mg "Taken" eT) (O_Full:Own K mg "Full" eU) (C_good_name:CanR P w K mg base 1 "good_name" ["text"] (spGoodR T)) (M_Log:MakR P w K mg base cL 1 "Log" ["self","moment","place","pace"] (spLInit cL)) (m_Lane_settle:MthR P w K mg base cN 7 "settle" ["self"] (spNSettle cN cL)) :
  FnOk P w K mg base (Fly P w) 8 f fd ["self","name","place","pace"] (LSp K (spNJoin cN cL T eB eF eT eU)):=by
 refine okR F sc_Lane_join (fun xs J Q E h=>?_) (fun cdv A outer s H E G xs J Q E2 hr h B=>?_)
 ·obtain ⟨p,L,n,x,v,rfl,_⟩:=h;rfl
 obtain ⟨p,L,n,x,v,rfl,b,ok,hT,hnl,hcs,qb,qf,qt,qu,q⟩:=h
 have bo:=b.ob
 have bd:=b.dc
 have br:=b.rw
 refine ⟨_,(rb_cons (rs_if (rt_not (rt_val (re_fn C_good_name B hr (by decide) rfl (ra_cons (rv 1) ra_nil)))) (rb_one (rs_raise O_BadName rfl cxF_throws B.kn rfl (ra_cons re_str ra_nil))) rb_nil)
   (rb_cons (rs_if (rw_rt (rw_or (rt_cmp oq_gt (re_callB cq_abs rfl Z.abs boot_abs (ra_cons (rv 2) ra_nil)) (re_glob (v:=.int 1000000) (.int 1000000) rfl g_FARTHEST ⟨_,rfl⟩ (fun _ _=>rfl)) (L2.nomark _)) (rw_or1 (rt_cmp oq_gt (re_callB cq_abs rfl Z.abs boot_abs (ra_cons (rv 3) ra_nil)) (re_glob (v:=.int 1000) (.int 1000) rfl g_FASTEST ⟨_,rfl⟩ (fun _ _=>rfl)) (L2.nomark _))))) (rb_one (rs_raise O_TooFar rfl cxF_throws B.kn rfl (ra_cons re_str ra_nil))) rb_nil)
   (rb_cons (rs_if (rt_cmp oq_inD (rv 1) (re_fld KD_Lane.cl NA_Lane_logs (rv 0)) (by with_unfolding_all rfl)) (rb_one (rs_raise O_Taken rfl cxF_throws B.kn rfl (ra_cons re_str ra_nil))) rb_nil)
   (rb_cons (rs_if (rt_cmp oq_ge (re_callB cq_len rfl Z.len boot_len (ra_cons (re_fld KD_Lane.cl NA_Lane_row (rv 0)) ra_nil)) (re_glob (v:=.int 12) (.int 12) rfl g_MOST ⟨_,rfl⟩ (fun _ _=>rfl)) (L2.nomark _)) (rb_one (rs_raise O_Full rfl cxF_throws B.kn rfl (ra_cons re_str ra_nil))) rb_nil)
   (rb_cons (rs_sub st_dict (re_fld KD_Lane.cl NA_Lane_logs (rv 0)) (rv 1) (re_make M_Log B hr (by decide) rfl (ra_cons (re_fld KD_Lane.cl NA_Lane_now (rv 0)) (ra_cons (re_tup (ra_cons (rv 2) (ra_cons re_int ra_nil))) (ra_cons (rv 3) ra_nil)))))
   (rb_cons (rs_expr (re_bm PySem.F.plainAttrs_list PySem.F.slot_list_append PySem.F.type_list_append mq_append (re_fld KD_Lane.cl NA_Lane_row (rv 0)) (ra_cons (rv 1) ra_nil)))
   (rb_one (rs_expr (re_meth0 (pl:=_) m_Lane_settle B hr (by decide) (rv 0)))))))))),?_⟩
 simp_all! only []
 refine ⟨n,rfl,hnl,hT,?_⟩
 cases hg:good n with
 | false =>
  simp_all! only [rRaise]
  exact qb hg
 | true =>
 simp_all! only []
 by_cases hB:inB x v
 ·obtain ⟨hx,hv⟩:=id hB
  rw [if_neg (by split <;> omega),if_neg (by split <;> omega)]
  simp_all! only [bo,lkN2,bd,ok.vaS]
  by_cases hm:n∈L.cs.map Cf.n
  ·rw [if_pos hm]
   simp_all! only [rRaise]
   exact qt hg hB hm
  rw [if_neg hm]
  simp_all! only [bo,lkN3,br,List.length_map]
  by_cases hr12:12≤L.row.length
  ·rw [if_pos (by omega)]
   simp_all! only [rRaise]
   exact qu hg hB hm hr12
  rw [if_neg (by omega)]
  simp_all! only [bo,lkN1]
  intro a ha
  refine ⟨a,⟨L.t,(x:Rat),v⟩,rfl,put_same,fun r hr'=>?_⟩
  have nra:r≠a:=by intro e;subst e;rw [put_same] at hr';cases hr'
  have jr:J r=none:=by rw [put_ne nra] at hr';exact hr'
  have b1:LnAt cN cL (put (put (put J a (.ins cL [])) r (.lst [(Leg.mk L.t (x:Rat) v).V])) a (.ins cL [("rows",.ref r),("gone",.non)])) p L:=b.keep fun c u ow e=>by
   have n1:c≠a:=fun z=>by subst z;rw [ha] at e;cases e
   have n2:c≠r:=fun z=>by subst z;rw [jr] at e;cases e
   rw [put_ne n1,put_ne n2,put_ne n1];exact e
  have l1:LAt cL (put (put (put J a (.ins cL [])) r (.lst [(Leg.mk L.t (x:Rat) v).V])) a (.ins cL [("rows",.ref r),("gone",.non)])) a r [⟨L.t,(x:Rat),v⟩] none:=⟨put_same,by rw [put_ne nra];exact put_same⟩
  have mv1:Mv J (put (put (put J a (.ins cL [])) r (.lst [(Leg.mk L.t (x:Rat) v).V])) a (.ins cL [("rows",.ref r),("gone",.non)])) (L.own p) (fun c=>(L.own p c∨c=a)∨c=r) :=
   ((Mv.new1 ha).trans (Mv.new1 hr')).trans (mv_put (.inl (.inr rfl)) fun c h=>.inl h)
  generalize (put (put (put J a (.ins cL [])) r (.lst [(Leg.mk L.t (x:Rat) v).V])) a (.ins cL [("rows",.ref r),("gone",.non)]))=J1 at b1 l1 mv1 ⊢
  have bo1:=b1.ob
  have bd1:=b1.dc
  simp_all! only [bo1,lkN2,bd1]
  refine ⟨small1000 (by rw [List.length_map];omega),fun ep'=>?_⟩
  have epu:puL (L.cs.map fun c=>(c.n,PV.ref c.a)) n (PV.ref a)=(L.cs ++ [Cf.mk n a r [⟨L.t,(x:Rat),v⟩] none]).map fun c=>(c.n,PV.ref c.a):=by
   have e:(L.cs.map fun c=>(c.n,PV.ref c.a))=((L.cs.map fun c=>(c.n,c.a)).map fun x=>(x.1,PV.ref x.2)):=by rw [List.map_map];rfl
   rw [e,pu_new (f:=PV.ref) (l:=a) (by rw [List.map_map];exact hm),List.map_append,List.map_append,List.map_map];rfl
  rw [epu]
  have hrs:r ∉ L.cs.map Cf.r:=fun h=>by
   obtain ⟨c,hc,e⟩:=List.mem_map.mp h
   have:=(b.lg c hc).l;rw [e,jr] at this;cases this
  have hro:r≠L.o:=fun e=>by have:=b.rw;rw [← e,jr] at this;cases this
  have b2:=b1.add (c:=Cf.mk n a r [⟨L.t,(x:Rat),v⟩] none) (ep:=ep') l1 hrs hro
  have ok2:LnOk0 ⟨L.t,L.d,ep',L.o,L.cs ++ [Cf.mk n a r [⟨L.t,(x:Rat),v⟩] none],L.row ++ [n]⟩:=ok.toLnOk0.add (c:=Cf.mk n a r [⟨L.t,(x:Rat),v⟩] none) rfl rfl (COk.new ok.t0 ok.ts hx hv) rfl hm (by omega) hcs
  have bo2:(put J1 L.d (HQ.dct ((L.cs ++ [Cf.mk n a r [⟨L.t,(x:Rat),v⟩] none]).map fun c=>(c.n,PV.ref c.a)) ep')) p=some (.ins cN [("now",fr L.t),("logs",.ref L.d),("row",.ref L.o)]):=by rw [put_ne (Ne.symm b1.ndp)];exact b1.ob
  have br2:(put J1 L.d (HQ.dct ((L.cs ++ [Cf.mk n a r [⟨L.t,(x:Rat),v⟩] none]).map fun c=>(c.n,PV.ref c.a)) ep')) L.o=some (.lst (L.row.map .str)):=by rw [put_ne (Ne.symm b1.ndo)];exact b1.rw
  have mv2:Mv J1 (put (put J1 L.d (HQ.dct ((L.cs ++ [Cf.mk n a r [⟨L.t,(x:Rat),v⟩] none]).map fun c=>(c.n,PV.ref c.a)) ep')) L.o (.lst ((L.row ++ [n]).map .str))) (fun c=>(L.own p c∨c=a)∨c=r) (Ln.own ⟨L.t,L.d,ep',L.o,L.cs ++ [Cf.mk n a r [⟨L.t,(x:Rat),v⟩] none],L.row ++ [n]⟩ p):=by
   refine (mv_put (S':=fun c=>(L.own p c∨c=a)∨c=r) (.inl (.inl (.inr (.inl rfl)))) fun c h=>.inl h).trans (mv_put (.inl (.inl (.inr (.inr (.inl rfl))))) fun c h=>.inl ?_)
   rcases h with h | h | h | ⟨d,hd,h⟩
   ·exact .inl (.inl (.inl h))
   ·exact .inl (.inl (.inr (.inl h)))
   ·exact .inl (.inl (.inr (.inr (.inl h))))
   ·rcases List.mem_append.mp hd with hd | hd
    ·exact .inl (.inl (.inr (.inr (.inr ⟨d,hd,h⟩))))
    ·rw [List.mem_singleton] at hd;subst hd
     rcases h with h | h
     ·exact .inl (.inr h)
     ·exact .inr h
  have mv3:=mv1.trans mv2
  simp_all! only [bo2,lkN3,br2]
  refine ⟨small1000 (by rw [List.length_map];omega),?_⟩
  rw [show L.row.map PV.str ++ [PV.str n]=(L.row ++ [n]).map .str by rw [List.map_append];rfl]
  have bo3:=b2.ob
  generalize (put (put J1 L.d (HQ.dct ((L.cs ++ [Cf.mk n a r [⟨L.t,(x:Rat),v⟩] none]).map fun c=>(c.n,PV.ref c.a)) ep')) L.o (.lst ((L.row ++ [n]).map .str)))=J2 at b2 mv3 bo3 ⊢
  simp_all! only [bo3]
  refine ⟨lkNn _ _ _ _,p,_,rfl,b2,ok2,fun J' o' b' mv'=>?_⟩
  exact q hg hB hm (by omega) J' _ b' (LnOk.settled ok2 o') ⟨a,r,rfl,rfl⟩ (mv3.trans mv')
 ·have hf:=qf hg hB
  by_cases h1:x.natAbs≤1000000
  ·have h2:¬ v.natAbs≤1000:=fun h=>hB ⟨h1,h⟩
   rw [if_neg (by split <;> omega),if_pos (by split <;> omega)]
   simp_all! only [rRaise]
   exact hf
  ·rw [if_pos (by split <;> omega)]
   simp_all! only [rRaise]
   exact hf
abbrev s_Lane_place:Stmt:=(L2.inClass (top 42) 12)
theorem sc_Lane_place:L2.FnScope ["self","name"] ["self","name"] (L2.defScope s_Lane_place):=⟨rfl,rfl,rfl,by decide +kernel,rfl,by decide +kernel,by decide +kernel⟩
def spNPlace (cN cL eC:Addr):Spr:=fun xs J Q E=>∃ p L n,xs=[.ref p,.str n]∧LnAt cN cL J p L∧LnOk0 L∧(∀ c∈L.cs,c.n=n→c.g=none→Q (fr (c.cur.at L.t)) J)∧(n ∉ L.row→E eC J)
theorem ok_Lane_place {cN cL eC f:Addr} {fd:FuncData} (F:Fun K "place" "Lane.place" s_Lane_place f fd) (Z:BltR mg) (KD_Lane:KDef K mg "Lane" cN) (NA_Lane_now:NoAttr K cN "now") (m_Lane_leg_of:MthR P w K mg base cN 4 "leg_of" ["self","name"] (spNLegOf cN cL eC)) (C_place_on:CanR P w K mg base 4 "place_on" ["leg","moment"] spPlR):FnOk P w K mg base (Fly P w) 5 f fd ["self","name"] (LSp K (spNPlace cN cL eC)):=by
 refine okR F sc_Lane_place (fun xs J Q E h=>?_) (fun cdv A outer s H E G xs J Q E2 hr h B=>?_)
 ·obtain ⟨p,L,n,rfl,_⟩:=h;rfl
 obtain ⟨p,L,n,rfl,b,ok,q,qe⟩:=h
 have bo:=b.ob
 refine ⟨_,(rb_one (rs_ret (re_fn C_place_on B hr (by decide) rfl (ra_cons (re_meth (pl:=_) m_Lane_leg_of B hr (by decide) (rv 0) (ra_cons (rv 1) ra_nil)) (ra_cons (re_fld KD_Lane.cl NA_Lane_now (rv 0)) ra_nil))))),?_⟩
 simp_all! only [bo]
 refine ⟨lkNn _ _ _ _,p,L,n,rfl,b,ok,fun c hc e hg=>?_,qe⟩
 have sl:=(ok.ck c hc _ (Cf.cur_mem (ok.ne c hc)).2).lsz
 simp_all! only [bo,lkN1]
 exact ⟨c.cur,L.t,rfl,sl.m,sl.p,ok.tsz,sl.v,q c hc e hg⟩
def Bell.v (b:Bell):PV:=.tup [fr b.m,.str b.h,.str b.f]
theorem ix_b0 (J:Hq) (b:Bell):ixQ J b.v (.int 0)=some (fr b.m):=atI_0 _ _
theorem ix_b1 (J:Hq) (b:Bell):ixQ J b.v (.int 1)=some (.str b.h):=atI_1 _ _ _
theorem ix_b2 (J:Hq) (b:Bell):ixQ J b.v (.int 2)=some (.str b.f):=atI_2 _ _ _ _
theorem tup_b (a:Rat) (h f:Str):PV.tup [fr a,.str h,.str f]=(Bell.mk a h f).v:=rfl
theorem cut_b (J:Hq) (b:Bell):∃ xs,b.v=.tup xs∧¬ (HT.sIx xs.length 0 (some 1)=0∧HT.sIx xs.length xs.length none=xs.length)∧cutQ xs (some 1) none=[b.h,b.f].map .str:=⟨_,rfl,fun h=>absurd h.1 (show HT.sIx 3 0 (some 1)≠0 by decide),rfl⟩
abbrev s_rings_ahead:Stmt:=(top 21)
theorem sc_rings_ahead:L2.FnScope ["one","other"] ["one","other"] (L2.defScope s_rings_ahead):=⟨rfl,rfl,rfl,by decide +kernel,rfl,by decide +kernel,by decide +kernel⟩
def spAhead:Spr:=fun xs J Q _=>∃ a b:Bell,xs=[a.v,b.v]∧Sz 9000 a.m∧Sz 9000 b.m∧Q (.bl (a.lt b)) J
theorem lex2 (a b c d:Str):lexS [a,b] [c,d]=if a=c then decide (slt b d) else decide (slt a c):=by
 rw [lexS_cons]
 by_cases h:a=c
 ·rw [if_pos h,if_pos h,lexS_cons]
  by_cases k:b=d
  ·rw [if_pos k,lexS_nil_nil];subst k;exact (decide_eq_false (by unfold slt;exact List.lt_irrefl _)).symm
  ·rw [if_neg k];rfl
 ·rw [if_neg h,if_neg h];rfl
theorem okr_rings_ahead {f:Addr} {fd:FuncData} (F:Fun K "rings_ahead" "rings_ahead" s_rings_ahead f fd) (Z:BltR mg) (C_less:CanR P w K mg base 1 "less" ["one","two"] spLessR):FnOk P w K mg base (Fly P w) 2 f fd ["one","other"] (LSp K spAhead):=by
 refine okR F sc_rings_ahead (fun xs J Q E h=>?_) (fun cdv A outer s H E G xs J Q E2 hr h B=>?_)
 ·obtain ⟨a,b,rfl,_⟩:=h;rfl
 obtain ⟨a,b,rfl,sa,sb,q⟩:=h
 refine ⟨_,(rb_cons (rs_if (rt_cmp (oq_ne hr.units61) (re_ix iq_ix (rv 0) re_int (fun _ _=>rfl)) (re_ix iq_ix (rv 1) re_int (fun _ _=>rfl)) (L2.nomark _)) (rb_one (rs_ret (re_fn C_less B hr (by decide) rfl (ra_cons (re_ix iq_ix (rv 0) re_int (fun _ _=>rfl)) (ra_cons (re_ix iq_ix (rv 1) re_int (fun _ _=>rfl)) ra_nil))))) rb_nil)
   (rb_one (rs_ret (re_cmp (oq_ltTS hr.units0) (re_slice sq_tup (rv 0) (ro_some re_int) ro_none) (re_slice sq_tup (rv 1) (ro_some re_int) ro_none) (L2.nomark _))))),?_⟩
 simp_arith! only [rSeq,ix_b0,ix_b1,ix_b2,spLessR,qLtTS]
 unfold Bell.lt at q
 by_cases e:a.m=b.m
 ·rw [if_pos e] at q ⊢
  obtain ⟨xs,h1,h2,h3⟩:=cut_b J a
  obtain ⟨ys,h4,h5,h6⟩:=cut_b J b
  exact ⟨xs,h1,h2,ys,h4,h5,[a.h,a.f],h3,[b.h,b.f],h6,by rw [lex2];exact q⟩
 ·rw [if_neg e] at q ⊢
  exact ⟨sa,sb,q⟩
theorem lkB (v:PV):([("rows",v)]:List (Str × PV)).lookup ("rows":Str)=some v:=rfl
theorem lkBn {m:Str} (v:PV) (h:(m == ("rows":Str))=false):([("rows",v)]:List (Str × PV)).lookup m=none:=by rw [List.lookup_cons,h];rfl
theorem lkB1 (v:PV):([("rows",v)]:List (Str × PV)).lookup ("drop":Str)=none:=lkBn v (by decide +kernel)
theorem lkB2 (v:PV):([("rows",v)]:List (Str × PV)).lookup ("put":Str)=none:=lkBn v (by decide +kernel)
theorem lkB4 (v:PV):([("rows",v)]:List (Str × PV)).lookup ("told":Str)=none:=lkBn v (by decide +kernel)
theorem put_mid {J:Hq} {r p:Addr} {a b c:HQ} (h:r≠p):put (put (put J r a) p b) r c=put (put J r c) p b:=by
 rw [put_swap (Ne.symm h),put_put]
structure BAt (cB:Addr) (J:Hq) (p r:Addr) (rows:List Bell):Prop where
 o:J p=some (.ins cB [("rows",.ref r)])
 l:J r=some (.lst (rows.map Bell.v))
theorem BAt.ne {cB:Addr} {J:Hq} {p r:Addr} {rows:List Bell} (h:BAt cB J p r rows):r≠p:=by
 intro e;subst e;have:=h.o;rw [h.l] at this;cases this
abbrev s_Bells___init__:Stmt:=(L2.inClass (top 22) 0)
theorem sc_Bells___init__:L2.FnScope ["self"] ["self"] (L2.defScope s_Bells___init__):=⟨rfl,rfl,rfl,by decide +kernel,rfl,by decide +kernel,by decide +kernel⟩
def spBInit (cB:Addr):Spr:=fun xs J Q _=>∃ p,xs=[.ref p]∧J p=some (.ins cB [])∧∀ r,J r=none→Q .non (put (put J r (.lst [])) p (.ins cB [("rows",.ref r)]))
theorem ok_Bells_init {cB f:Addr} {fd:FuncData} (F:Fun K "__init__" "Bells.__init__" s_Bells___init__ f fd) (KD_Bells:KDef K mg "Bells" cB) (NA_Bells_rows:NoAttr K cB "rows"):FnOk P w K mg base (Fly P w) 1 f fd ["self"] (LSp K (spBInit cB)):=by
 refine okR F sc_Bells___init__ (fun xs J Q E h=>?_) (fun cdv A outer s H E G xs J Q E2 hr h B=>?_)
 ·obtain ⟨p,rfl,_⟩:=h;rfl
 obtain ⟨p,rfl,hp,q⟩:=h
 refine ⟨_,(rb_one (rs_fld KD_Bells.cl NA_Bells_rows (rv 0) (re_lst ra_nil))),?_⟩
 simp_arith! only [rSeq]
 intro r hr'
 have ne:p≠r:=by intro e;subst e;rw [hp] at hr';cases hr'
 exact ⟨[],by rw [put_ne ne];exact hp,by decide,q r hr'⟩
abbrev s_Bells_drop:Stmt:=(L2.inClass (top 22) 2)
theorem sc_Bells_drop:L2.FnScope ["self","hind","fore","kept","found"] ["self","hind","fore"] (L2.defScope s_Bells_drop):=⟨rfl,rfl,rfl,by decide +kernel,rfl,by decide +kernel,by decide +kernel⟩
def spBDrop (cB:Addr):Spr:=fun xs J Q _=>∃ p r rows h f,xs=[.ref p,.str h,.str f]∧BAt cB J p r rows∧rows.length≤900∧∀ r',J r'=none→Q (.bl (decide ((dropB h f rows).length < rows.length))) (put (put J r' (.lst ((dropB h f rows).map Bell.v))) p (.ins cB [("rows",.ref r')]))
def tail3:PV→PV
 | .tup xs=>.tup (cutQ xs (some 1) none)
 | _=>.non
def keepQ (h f:Str) (x:PV):Bool:=!eqQ (tail3 x) (.tup [.str h,.str f])
theorem keep_b (h f:Str) (b:Bell):keepQ h f b.v=!samep h f b:=by
 show (!eqQ (.tup [.str b.h,.str b.f]) (.tup [.str h,.str f]))=_
 rw [eq_tup,eqs_cons,eqs_cons,eqs_nil,eq_str,eq_str,Bool.and_true,← Bool.decide_and]
 rfl
theorem filt_b (h f:Str):∀ rows:List Bell,((rows.map Bell.v).filter (keepQ h f)).map (fun x=>x)=(dropB h f rows).map Bell.v
 | []=>rfl
 | b :: rows=>by
  have ih:=filt_b h f rows
  unfold dropB at ih ⊢
  rw [List.map_cons,List.filter_cons,List.filter_cons,keep_b]
  cases samep h f b <;> simp at ih ⊢ <;> exact ih
theorem ok_Bells_drop {cB f:Addr} {fd:FuncData} (F:Fun K "drop" "Bells.drop" s_Bells_drop f fd) (Z:BltR mg) (KD_Bells:KDef K mg "Bells" cB) (NA_Bells_rows:NoAttr K cB "rows"):FnOk P w K mg base (Fly P w) 1 f fd ["self","hind","fore"] (LSp K (spBDrop cB)):=by
 refine okR F sc_Bells_drop (fun xs J Q E h=>?_) (fun cdv A outer s H E G xs J Q E2 hr h B=>?_)
 ·obtain ⟨p,r,rows,h,f,rfl,_⟩:=h;rfl
 obtain ⟨p,r,rows,h,f,rfl,b,hl,q⟩:=h
 have bo:=b.o
 have bl:=b.l
 refine ⟨_,(rb_cons (rs_lcFm (i:=3) (L2.defScope s_Bells_drop) ["self","hind","fore","kept","found"] [("hind",1),("fore",2)] rfl rfl rfl sc_Bells_drop.nd rfl (Or.inl rfl) (ri_list (re_fld KD_Bells.cl NA_Bells_rows (rv 0))) (fun _ _ _ _ _ _=>(rv 0)) (fun _ _ _ _ _ _=>(rt_cmp (oq_ne hr.units61) (re_slice sq_tup (rv 0) (ro_some re_int) ro_none) (re_tup (ra_cons (rv 1) (ra_cons (rv 2) ra_nil))) (L2.nomark _))))
   (rb_cons (rs_set (i:=4) sc_Bells_drop.nd rfl (Or.inl rfl) (re_cmp oq_lt (re_callB cq_len rfl Z.len boot_len (ra_cons (rv 3) ra_nil)) (re_callB cq_len rfl Z.len boot_len (ra_cons (re_fld KD_Bells.cl NA_Bells_rows (rv 0)) ra_nil)) (L2.nomark _)))
   (rb_cons (rs_fld KD_Bells.cl NA_Bells_rows (rv 0) (rv 3))
   (rb_one (rs_ret (rv 4)))))),?_⟩
 simp_arith! only [rSeq,rLCm,bo,bl,lkB]
 refine ⟨keepQ h f,fun x=>x,⟨by rw [List.length_map];exact small1000 (by omega),fun J' sub=>⟨sub _ _ bl,fun x hx=>?_⟩⟩,fun r' hr'=>?_⟩
 ·obtain ⟨b,_,rfl⟩:=List.mem_map.mp hx
  obtain ⟨xs,h1,h2,h3⟩:=cut_b J' b
  have hk:keepQ h f b.v=!eqQ (.tup (cutQ xs (some 1) none)) (.tup [.str h,.str f]):=by rw [h1];rfl
  simp_arith! only [rSeq]
  refine ⟨⟨xs,h1,h2,?_⟩,fun _=>trivial⟩
  rw [hk,h3]
  refine ⟨⟨by simp [pur,purs],by simp [pyOf,pyOfs,dep,deps]⟩,by simp [pur,purs],rfl⟩
 ·have ne:p≠r':=by intro e;subst e;rw [bo] at hr';cases hr'
  have nr:r≠r':=by intro e;subst e;rw [bl] at hr';cases hr'
  simp_arith! only [rSeq,put_ne ne,put_ne nr,bo,bl,lkB,filt_b,List.length_map,Int.ofNat_lt]
  exact ⟨by decide,q r' hr'⟩
abbrev s_Bells_put:Stmt:=(L2.inClass (top 22) 1)
theorem sc_Bells_put:L2.FnScope ["self","moment","hind","fore","bell","low","high","middle"] ["self","moment","hind","fore"] (L2.defScope s_Bells_put):=⟨rfl,rfl,rfl,by decide +kernel,rfl,by decide +kernel,by decide +kernel⟩
def spBPut (cB:Addr):Spr:=fun xs J Q _=>∃ p r rows m h f,xs=[.ref p,fr m,.str h,.str f]∧BAt cB J p r rows∧Srtd rows∧rows.length≤800∧Sz 9000 m∧(∀ x∈rows,Sz 9000 x.m) ∧
 ∀ r',J r'=none→Q .non (put (put J r' (.lst ((insB ⟨m,h,f⟩ (dropB h f rows)).map Bell.v))) p (.ins cB [("rows",.ref r')]))
theorem fdiv2 (a b:Nat):((a:Int) + (b:Int)).fdiv 2=(((a + b) / 2:Nat):Int):=by rw [Int.fdiv_eq_ediv_of_nonneg _ (by decide)];omega
theorem cq2 (a:Int):CQ a 2=True:=eq_true ⟨by decide,Bd.mono (Bd.small (by decide) (by decide)) (by decide)⟩
theorem at_map {rows:List Bell} {i:Nat} {b:Bell} (h:rows[i]?=some b):atI (rows.map Bell.v) (i:Int)=some b.v:=atI_nat (by rw [List.getElem?_map,h];rfl)
theorem ok_Bells_put {cB f:Addr} {fd:FuncData} (F:Fun K "put" "Bells.put" s_Bells_put f fd) (Z:BltR mg) (KD_Bells:KDef K mg "Bells" cB) (NA_Bells_rows:NoAttr K cB "rows") (m_Bells_drop:MthR P w K mg base cB 1 "drop" ["self","hind","fore"] (spBDrop cB))
  (C_rings_ahead:CanR P w K mg base 2 "rings_ahead" ["one","other"] spAhead):FnOk P w K mg base (Fly P w) 3 f fd ["self","moment","hind","fore"] (LSp K (spBPut cB)):=by
 refine okR F sc_Bells_put (fun xs J Q E h=>?_) (fun cdv A outer s H E G xs J Q E2 hr h B=>?_)
 ·obtain ⟨p,r,rows,m,h,f,rfl,_⟩:=h;rfl
 obtain ⟨p,r,rows,m,h,f,rfl,b,srt,hl,sm,sr,q⟩:=h
 have bo:=b.o
 refine ⟨_,(rb_cons (rs_expr (re_meth (pl:=_) m_Bells_drop B hr (by decide) (rv 0) (ra_cons (rv 2) (ra_cons (rv 3) ra_nil))))
   (rb_cons (rs_set (i:=4) sc_Bells_put.nd rfl (Or.inl rfl) (re_tup (ra_cons (rv 1) (ra_cons (rv 2) (ra_cons (rv 3) ra_nil)))))
   (rb_cons (rs_par (i:=5) (j:=6) rfl sc_Bells_put.nd rfl rfl (by decide) rfl rfl (ra_cons re_int (ra_cons (re_callB cq_len rfl Z.len boot_len (ra_cons (re_fld KD_Bells.cl NA_Bells_rows (rv 0)) ra_nil)) ra_nil)) rfl)
   (rb_cons (rs_while cxF_own (rt_cmp oq_lt (rv 5) (rv 6) (L2.nomark _)) (rb_cons (rs_set (i:=7) sc_Bells_put.nd rfl (Or.inl rfl) (re_op oq_fdiv (re_op oq_add (rv 5) (rv 6)) re_int))
   (rb_one (rs_if (rt_val (re_fn C_rings_ahead B hr (by decide) rfl (ra_cons (re_ix iq_ix (re_fld KD_Bells.cl NA_Bells_rows (rv 0)) (rv 7) (fun _ _=>rfl)) (ra_cons (rv 4) ra_nil)))) (rb_one (rs_set (i:=5) sc_Bells_put.nd rfl (Or.inl rfl) (re_op oq_add (rv 7) re_int))) (rb_one (rs_set (i:=6) sc_Bells_put.nd rfl (Or.inl rfl) (rv 7)))))))
   (rb_one (rs_expr (re_bm PySem.F.plainAttrs_list PySem.F.slot_list_insert PySem.F.type_list_insert mq_insert (re_fld KD_Bells.cl NA_Bells_rows (rv 0)) (ra_cons (rv 5) (ra_cons (rv 4) ra_nil))))))))),?_⟩
 simp_arith! only [rSeq,bo,lkB1]
 refine ⟨p,r,rows,h,f,rfl,b,by omega,fun r' hr'=>?_⟩
 have nrp:r'≠p:=by intro e;subst e;rw [bo] at hr';cases hr'
 have b1:BAt cB (put (put J r' (.lst ((dropB h f rows).map Bell.v))) p (.ins cB [("rows",.ref r')])) p r' (dropB h f rows):=⟨put_same,by rw [put_ne nrp];exact put_same⟩
 have kl:(dropB h f rows).length≤800:=Nat.le_trans (dropB_len _ _ _) hl
 have ks:Srtd (dropB h f rows):=dropB_srt srt
 have kz:∀ x∈dropB h f rows,Sz 9000 x.m:=fun x hx=>sr x (List.mem_filter.mp hx).1
 have q:=q r' hr'
 generalize hJ:put (put J r' (.lst ((dropB h f rows).map Bell.v))) p (.ins cB [("rows",.ref r')])=J1 at b1 ⊢
 have hq:put J1 r' (.lst ((insB ⟨m,h,f⟩ (dropB h f rows)).map Bell.v))=put (put J r' (.lst ((insB ⟨m,h,f⟩ (dropB h f rows)).map Bell.v))) p (.ins cB [("rows",.ref r')]):=by rw [← hJ,put_mid nrp]
 rw [← hq] at q
 clear hq hJ hr'
 have bo:=b1.o
 have bl:=b1.l
 generalize dropB h f rows=ks' at *
 simp_arith! only [rSeq,bo,bl,lkB,tup_b,List.length_map]
 refine ⟨fun k τ J'=>∃ (lo hi:Nat) (u:Option PV),τ=[some (.ref p),some (fr m),some (.str h),some (.str f),some (Bell.mk m h f).v,some (.int lo),some (.int hi),u]∧J'=J1∧k=hi - lo∧lo≤hi∧hi≤ks'.length ∧
  (∀ (j:Nat) x,j < lo→ks'[j]?=some x→x.lt ⟨m,h,f⟩=true)∧(∀ (j:Nat) x,hi≤j→ks'[j]?=some x→x.lt ⟨m,h,f⟩=false),⟨_,0,ks'.length,none,rfl,rfl,rfl,Nat.zero_le _,Nat.le_refl _,fun j x hj=>absurd hj (Nat.not_lt_zero _),fun j x hj e=>by rw [List.getElem?_eq_none hj] at e;cases e⟩,?_⟩
 rintro k τ J' ⟨lo,hi,u,rfl,rfl,rfl,h1,h2,hlo,hhi⟩
 simp_arith! only [rSeq,bo,bl,lkB,cq2,fdiv2,Int.ofNat_lt,spAhead]
 by_cases hlt:lo < hi
 ·rw [if_pos hlt]
  have hm:(lo + hi) / 2 < ks'.length:=by omega
  obtain ⟨x,hx⟩:∃ x,ks'[(lo + hi) / 2]?=some x:=⟨_,List.getElem?_eq_getElem hm⟩
  refine ⟨fun τ' J''=>∃ (lo' hi':Nat) (u:Option PV),τ'=[some (.ref p),some (fr m),some (.str h),some (.str f),some (Bell.mk m h f).v,some (.int lo'),some (.int hi'),u]∧J''=J'∧lo'≤hi'∧hi'≤ks'.length∧hi' - lo' < hi - lo ∧
   (∀ (j:Nat) x,j < lo'→ks'[j]?=some x→x.lt ⟨m,h,f⟩=true)∧(∀ (j:Nat) x,hi'≤j→ks'[j]?=some x→x.lt ⟨m,h,f⟩=false),fun τ' J'' ⟨lo',hi',u,e1,e2,e3,e4,e5,e6,e7⟩=>⟨_,e5,lo',hi',u,e1,e2,rfl,e3,e4,e6,e7⟩,x.v,at_map hx,x,rfl,⟨m,h,f⟩,rfl,kz x (List.mem_of_getElem? hx),sm,?_⟩
  cases hc:x.lt ⟨m,h,f⟩ with
  | true =>
   rw [if_pos rfl]
   exact ⟨(lo + hi) / 2 + 1,hi,_,rfl,rfl,by omega,h2,by omega,fun j y hj e=>srt_low ks hx e (by omega) hc,hhi⟩
  | false =>
   rw [if_neg Bool.false_ne_true]
   exact ⟨lo,(lo + hi) / 2,_,rfl,rfl,by omega,by omega,by omega,hlo,fun j y hj e=>srt_high ks hx e hj hc⟩
 ·rw [if_neg hlt]
  have e:lo=hi:=by omega
  subst e
  refine ⟨_,lo,rfl,rfl,by rw [List.length_map];exact h2,by rw [List.length_map];exact small1000 (by omega),Nat.lt_of_le_of_lt h2 (Nat.lt_of_le_of_lt kl (by decide)),?_⟩
  rw [← insB_at h2 hlo hhi,List.map_append,List.map_cons,List.map_take,List.map_drop] at q
  exact q
abbrev s_Bells_told:Stmt:=(L2.inClass (top 22) 5)
theorem sc_Bells_told:L2.FnScope ["self"] ["self"] (L2.defScope s_Bells_told):=⟨rfl,rfl,rfl,by decide +kernel,rfl,by decide +kernel,by decide +kernel⟩
def spBTold (cB:Addr):Spr:=fun xs J Q _=>∃ p r rows,xs=[.ref p]∧BAt cB J p r rows∧(Q (.fl (rows.map Bell.v)) J∨∀ l,J l=none→Q (.ref l) (put J l (.lst (rows.map Bell.v))))
theorem ok_Bells_told {cB f:Addr} {fd:FuncData} (F:Fun K "told" "Bells.told" s_Bells_told f fd) (Z:BltR mg) (KD_Bells:KDef K mg "Bells" cB) (NA_Bells_rows:NoAttr K cB "rows"):FnOk P w K mg base (Fly P w) 1 f fd ["self"] (LSp K (spBTold cB)):=by
 refine okF F sc_Bells_told (fun xs J Q E h=>?_) (fun cdv A outer s H E G xs J Q E2 hr h B=>?_)
 ·obtain ⟨p,r,rows,rfl,_⟩:=h;rfl
 obtain ⟨p,r,rows,rfl,b,q⟩:=h
 have bo:=b.o
 have bl:=b.l
 refine ⟨_,(rb_one (rs_ret (re_callTy cq_copyL rfl Z.list boot_list (ra_cons (re_fld KD_Bells.cl NA_Bells_rows (rv 0)) ra_nil)))),?_⟩
 simp_arith! only [rSeq,bo,bl,lkB]
 intro l hl
 rcases q with q | q
 ·exact Fg.frz (less_put hl) put_same hl q
 ·exact Fg.same (q l hl)
def spFracR:Spr:=fun xs J Q _=>∃ t b:Int,xs=[.int t,.int b]∧b≠0∧Bd 9000 b∧Q (fr (Rat.divInt t b)) J
theorem lift_fraction (C:Can P w K mg base 2 "fraction" ["top","bottom"] spFraction):CanR P w K mg base 2 "fraction" ["top","bottom"] spFracR:=C.lift fun xs J vs H Q2 E2 Q E rs r ⟨t,b,ex,h0,h1,q⟩ kn=>by
 subst ex
 obtain ⟨v,u,rfl,r1,r2⟩:=two_of rs
 cases r1;cases r2
 exact ⟨t,b,rfl,h0,h1,ret_of r kn q⟩
theorem meet_div (l l':Leg) (h:l.v≠l'.v):Rat.divInt ((l'.at 0 - l.at 0).num) (((l'.at 0 - l.at 0).den:Int) * (l.v - l'.v))=meetQ l l':=by
 rw [quo_eq _ _ (by omega)];rfl
abbrev s_meeting:Stmt:=(top 26)
theorem sc_meeting:L2.FnScope ["one","other","gain","gap"] ["one","other"] (L2.defScope s_meeting):=⟨rfl,rfl,rfl,by decide +kernel,rfl,by decide +kernel,by decide +kernel⟩
def spMeetG:Spr:=fun xs J Q _=>∃ l l':Leg,xs=[l.V,l'.V]∧LSz 900 l∧LSz 900 l'∧(l.v=l'.v→Q .non J)∧(l.v≠l'.v→Q (fr (meetQ l l')) J)
theorem okr_meeting {f:Addr} {fd:FuncData} (F:Fun K "meeting" "meeting" s_meeting f fd) (Z:BltR mg) (N:Nought K mg) (C_place_on:CanR P w K mg base 4 "place_on" ["leg","moment"] spPlR) (C_minus:CanR P w K mg base 3 "minus" ["one","two"] (sp2R fun p q=>p - q)) (C_fraction:CanR P w K mg base 2 "fraction" ["top","bottom"] spFracR) :
  FnOk P w K mg base (Fly P w) 5 f fd ["one","other"] (LSp K spMeetG):=by
 refine okR F sc_meeting (fun xs J Q E h=>?_) (fun cdv A outer s H E G xs J Q E2 hr h B=>?_)
 ·obtain ⟨l,l',rfl,_⟩:=h;rfl
 obtain ⟨l,l',rfl,sl,sl',q0,q1⟩:=h
 obtain ⟨aN,gN,sN⟩:=N
 have rN:∀ (J:Hq) (H:Hp),RepV K J H (fr 0) (.ref aN):=fun J H=>⟨aN,_,rfl,sN H,⟨_,_,rfl,rfl,_,_,rfl,rfl,rfl⟩⟩
 refine ⟨_,(rb_cons (rs_set (i:=2) sc_meeting.nd rfl (Or.inl rfl) (re_op oq_sub (re_ix iq_ix (rv 0) re_int (fun _ _=>rfl)) (re_ix iq_ix (rv 1) re_int (fun _ _=>rfl))))
   (rb_cons (rs_if (rt_cmp (oq_eq hr.units61) (rv 2) re_int (L2.nomark _)) (rb_one (rs_ret re_non)) rb_nil)
   (rb_cons (rs_set (i:=3) sc_meeting.nd rfl (Or.inl rfl) (re_fn C_minus B hr (by decide) rfl (ra_cons (re_fn C_place_on B hr (by decide) rfl (ra_cons (rv 1) (ra_cons (re_glob (v:=.ref aN) (fr 0) rfl gN rfl rN) ra_nil))) (ra_cons (re_fn C_place_on B hr (by decide) rfl (ra_cons (rv 0) (ra_cons (re_glob (v:=.ref aN) (fr 0) rfl gN rfl rN) ra_nil))) ra_nil))))
   (rb_one (rs_ret (re_fn C_fraction B hr (by decide) rfl (ra_cons (re_ix iq_ix (rv 3) re_int (fun _ _=>rfl)) (ra_cons (re_op oq_mul (re_ix iq_ix (rv 3) re_int (fun _ _=>rfl)) (rv 2)) ra_nil)))))))),?_⟩
 have z1:Sz 900 (0:Rat):=⟨⟨by decide⟩,⟨by decide⟩⟩
 have s3:=at_szL sl z1
 have s3':=at_szL sl' z1
 have s4:Sz 6001 (l'.at 0 - l.at 0):=s3'.sub s3
 have bg:Bd 65 (l.v - l'.v):=sl.v.sub sl'.v
 simp_all! only [ix_l2]
 split
 ·rename_i e;simp_all! only [];exact q0 (by omega)
 rename_i e
 have hv:l.v≠l'.v:=by omega
 simp_all! only []
 refine ⟨l',0,rfl,sl'.m,sl'.p,z1,sl'.v,l,0,rfl,sl.m,sl.p,z1,sl.v,l'.at 0,l.at 0,rfl,s3'.mono (by decide),s3.mono (by decide),?_⟩
 simp_all! only []
 refine ⟨.of s4.den bg,_,_,rfl,Int.mul_ne_zero (den_ne _) e,(Bd.mul s4.den bg (k:=6100)).mono (by decide),?_⟩
 rw [meet_div l l' hv]
 exact q1 hv
theorem meet_szK {l l':Leg} (sl:LSz 900 l) (sl':LSz 900 l') (h:l.v≠l'.v):Sz 8000 (meetQ l l'):=by
 rw [← meet_div l l' h]
 have z1:Sz 900 (0:Rat):=⟨⟨by decide⟩,⟨by decide⟩⟩
 have s4:Sz 6001 (l'.at 0 - l.at 0):=(at_szL sl' z1).sub (at_szL sl z1)
 have bg:Bd 65 (l.v - l'.v):=sl.v.sub sl'.v
 exact Sz.div (s4.num.mono (by decide)) ((Bd.mul s4.den bg (k:=6100)).mono (by decide)) (Int.mul_ne_zero (den_ne _) (by omega))
theorem LnOk0.csz {L:Ln} (h:LnOk0 L) {c:Cf} (hc:c∈L.cs):LSz 900 c.cur:=(h.ck c hc _ (Cf.cur_mem (h.ne c hc)).2).lsz
abbrev s_Lane_meets:Stmt:=(L2.inClass (top 42) 13)
theorem sc_Lane_meets:L2.FnScope ["self","name","other","met"] ["self","name","other"] (L2.defScope s_Lane_meets):=⟨rfl,rfl,rfl,by decide +kernel,rfl,by decide +kernel,by decide +kernel⟩
def spNMeets (cN cL eC:Addr):Spr:=fun xs J Q E=>∃ p L n n',xs=[.ref p,.str n,.str n']∧LnAt cN cL J p L∧LnOk0 L∧(∀ c∈L.cs,∀ c'∈L.cs,c.n=n→c'.n=n'→c.g=none→c'.g=none→Q (gv (metQ L.t c.cur c'.cur)) J)∧(n ∉ L.row∨n' ∉ L.row→E eC J)
theorem ok_Lane_meets {cN cL eC f:Addr} {fd:FuncData} (F:Fun K "meets" "Lane.meets" s_Lane_meets f fd) (Z:BltR mg) (KD_Lane:KDef K mg "Lane" cN) (NA_Lane_now:NoAttr K cN "now") (m_Lane_leg_of:MthR P w K mg base cN 4 "leg_of" ["self","name"] (spNLegOf cN cL eC)) (C_meeting:CanR P w K mg base 5 "meeting" ["one","other"] spMeetG) (C_less:CanR P w K mg base 1 "less" ["one","two"] spLessR):FnOk P w K mg base (Fly P w) 6 f fd ["self","name","other"] (LSp K (spNMeets cN cL eC)):=by
 refine okR F sc_Lane_meets (fun xs J Q E h=>?_) (fun cdv A outer s H E G xs J Q E2 hr h B=>?_)
 ·obtain ⟨p,L,n,n',rfl,_⟩:=h;rfl
 obtain ⟨p,L,n,n',rfl,b,ok,q,qe⟩:=h
 have bo:=b.ob
 refine ⟨_,(rb_cons (rs_set (i:=3) sc_Lane_meets.nd rfl (Or.inl rfl) (re_fn C_meeting B hr (by decide) rfl (ra_cons (re_meth (pl:=_) m_Lane_leg_of B hr (by decide) (rv 0) (ra_cons (rv 1) ra_nil)) (ra_cons (re_meth (pl:=_) m_Lane_leg_of B hr (by decide) (rv 0) (ra_cons (rv 2) ra_nil)) ra_nil))))
   (rb_one (rs_ret (re_if (rw_rt (rw_and (rt_cmp oq_isNot (rv 3) re_non (L2.nomark _)) (rw_and1 (rt_val (re_fn C_less B hr (by decide) rfl (ra_cons (re_fld KD_Lane.cl NA_Lane_now (rv 0)) (ra_cons (rv 3) ra_nil))))))) (rv 3) re_non)))),?_⟩
 simp_all! only [bo]
 refine ⟨lkNn _ _ _ _,p,L,n,rfl,b,ok,fun c hc e hg=>?_,fun z=>qe (.inl z)⟩
 simp_all! only [bo]
 refine ⟨lkNn _ _ _ _,p,L,n',rfl,b,ok,fun c' hc' e' hg'=>?_,fun z=>qe (.inr z)⟩
 have q:=q c hc c' hc' e e' hg hg'
 have sl:=ok.csz hc
 have sl':=ok.csz hc'
 unfold metQ at q
 refine ⟨c.cur,c'.cur,rfl,sl,sl',fun hv=>?_,fun hv=>?_⟩
 ·rw [if_neg (fun z=>z.1 hv)] at q
  simp_all! only []
  exact q
 ·simp_all! only [isN_fr,bo,lkN1,spLessR]
  refine ⟨ok.tsz.mono (by decide),(meet_szK sl sl' hv).mono (by decide),?_⟩
  split
  ·rename_i c1
   rw [if_pos ⟨hv,c1⟩] at q
   simp_all! only []
   exact q
  ·rename_i c1
   rw [if_neg (fun z=>c1 z.2)] at q
   exact q
theorem sc0 (A:Nat):Sc L60 A 0:=⟨0,by rw [Rat.zero_mul];rfl,Nat.zero_le _⟩
theorem LnAt.ntab {cN cL:Addr} {J:Hq} {p T:Addr} {L:Ln} (h:LnAt cN cL J p L) (hT:J T=Option.some .tab):¬ L.own p T:=by
 rintro (rfl | rfl | rfl | ⟨c,hc,rfl | rfl⟩)
 ·rw [h.ob] at hT;cases hT
 ·rw [h.dc] at hT;cases hT
 ·rw [h.rw] at hT;cases hT
 ·rw [(h.lg c hc).o] at hT;cases hT
 ·rw [(h.lg c hc).l] at hT;cases hT
theorem LnOk0.flen {L:Ln} (h:LnOk0 L):L.fs.length≤100:=by
 unfold Ln.fs Ln.prs
 rw [List.length_map]
 exact Nat.le_trans (List.length_filter_le _ _) h.many
theorem fs_of {L:Ln} {n:Str} {l:Leg} (h:(n,l)∈L.fs):∃ c∈L.cs,c.n=n∧c.g=none∧c.cur=l:=by
 obtain ⟨c,hc,e⟩:=List.mem_map.mp h
 have:=Ln.prs_mem.mp hc
 cases e
 exact ⟨c,this.1,rfl,this.2,rfl⟩
def spSharedR:Spr:=fun xs J Q _=>∃ a b:Int,xs=[.int a,.int b]∧Q (.int (Int.gcd a b:Nat)) J
theorem lift_shared (C:Can P w K mg base 1 "shared" ["one","two"] spShared):CanR P w K mg base 1 "shared" ["one","two"] spSharedR:=C.lift fun xs J vs H Q2 E2 Q E rs r ⟨a,b,ex,q⟩ kn=>by
 subst ex
 obtain ⟨v,u,rfl,r1,r2⟩:=two_of rs
 cases r1;cases r2
 exact ⟨a,b,rfl,kn (.int _) J _ H rfl r .refl q⟩
abbrev s_in_lowest_terms:Stmt:=(top 18)
theorem sc_in_lowest_terms:L2.FnScope ["pair"] ["pair"] (L2.defScope s_in_lowest_terms):=⟨rfl,rfl,rfl,by decide +kernel,rfl,by decide +kernel,by decide +kernel⟩
def spLowest:Spr:=fun xs J Q _=>∃ a b:Int,xs=[.tup [.int a,.int b]]∧Q (.bl (decide (1≤b∧Int.gcd a b=1))) J
theorem okr_in_lowest_terms {f:Addr} {fd:FuncData} (F:Fun K "in_lowest_terms" "in_lowest_terms" s_in_lowest_terms f fd) (Z:BltR mg) (C_shared:CanR P w K mg base 1 "shared" ["one","two"] spSharedR):FnOk P w K mg base (Fly P w) 2 f fd ["pair"] (LSp K spLowest):=by
 refine okR F sc_in_lowest_terms (fun xs J Q E h=>?_) (fun cdv A outer s H E G xs J Q E2 hr h B=>?_)
 ·obtain ⟨a,b,rfl,_⟩:=h;rfl
 obtain ⟨a,b,rfl,q⟩:=h
 refine ⟨_,(rb_one (rs_ret (re_and (re_cmp oq_ge (re_ix iq_ix (rv 0) re_int (fun _ _=>rfl)) re_int (L2.nomark _)) (re_one (re_cmp (oq_eq hr.units61) (re_fn C_shared B hr (by decide) rfl (ra_cons (re_ix iq_ix (rv 0) re_int (fun _ _=>rfl)) (ra_cons (re_ix iq_ix (rv 0) re_int (fun _ _=>rfl)) ra_nil))) re_int (L2.nomark _)))))),?_⟩
 simp_all! only []
 by_cases c:1≤b
 ·simp only [c,decide_true,true_and,if_true] at q ⊢
  simp_all! only [spSharedR]
  have:decide (((Int.gcd a b:Nat):Int)=1)=decide (Int.gcd a b=1):=decide_eq_decide.mpr (by omega)
  rw [this];exact q
 ·simp only [c,decide_false,false_and] at q ⊢
  rw [if_neg (fun z=>z)]
  exact q
abbrev s_good_moment:Stmt:=(top 40)
theorem sc_good_moment:L2.FnScope ["moment","top","bottom"] ["moment"] (L2.defScope s_good_moment):=⟨rfl,rfl,rfl,by decide +kernel,rfl,by decide +kernel,by decide +kernel⟩
def goodM (a b:Int):Bool:=decide (b≤60∧1≤b∧Int.gcd a b=1∧0≤a∧a≤1000000 * b)
def spGoodM:Spr:=fun xs J Q _=>∃ a b:Int,xs=[.tup [.int a,.int b]]∧Q (.bl (goodM a b)) J
theorem okr_good_moment {f:Addr} {fd:FuncData} (F:Fun K "good_moment" "good_moment" s_good_moment f fd) (Z:BltR mg) {t_FINEST t_LATEST:Tok} (g_FINEST:mg "FINEST"=some (.int 60 t_FINEST)) (g_LATEST:mg "LATEST"=some (.int 1000000 t_LATEST)) (C_in_lowest_terms:CanR P w K mg base 2 "in_lowest_terms" ["pair"] spLowest):FnOk P w K mg base (Fly P w) 3 f fd ["moment"] (LSp K spGoodM):=by
 refine okR F sc_good_moment (fun xs J Q E h=>?_) (fun cdv A outer s H E G xs J Q E2 hr h B=>?_)
 ·obtain ⟨a,b,rfl,_⟩:=h;rfl
 obtain ⟨a,b,rfl,q⟩:=h
 refine ⟨_,(rb_cons (rs_asg (rv 0) (rg_tup rfl (rgs_cons (rg_name (i:=1) sc_good_moment.nd rfl (Or.inl rfl)) (rgs_cons (rg_name (i:=2) sc_good_moment.nd rfl (Or.inl rfl)) rgs_nil))))
   (rb_cons (rs_if (rw_rt (rw_or (rt_cmp oq_gt (rv 2) (re_glob (v:=.int 60) (.int 60) rfl g_FINEST ⟨_,rfl⟩ (fun _ _=>rfl)) (L2.nomark _)) (rw_or1 (rt_not (rt_val (re_fn C_in_lowest_terms B hr (by decide) rfl (ra_cons (rv 0) ra_nil))))))) (rb_one (rs_ret re_bl)) rb_nil)
   (rb_one (rs_ret (re_chain oq_le oq_le re_int (rv 1) (re_op oq_mul (re_glob (v:=.int 1000000) (.int 1000000) rfl g_LATEST ⟨_,rfl⟩ (fun _ _=>rfl)) (rv 2))))))),?_⟩
 unfold goodM at q
 simp_all! only []
 refine ⟨rfl,?_⟩
 simp_all! only []
 by_cases c1:60 < b
 ·rw [if_pos c1]
  rw [decide_eq_false (fun z=>by omega)] at q
  exact q
 rw [if_neg c1]
 simp_all! only []
 refine ⟨a,b,rfl,?_⟩
 by_cases c2:1≤b∧Int.gcd a b=1
 ·rw [decide_eq_true c2]
  simp_all! only [rChain]
  by_cases c3:0≤a
  ·simp only [c3,decide_true,if_true]
   refine ⟨.of (.small (x:=1000000) (by decide) (by decide)) (.small (x:=b) (by omega) (by omega)),?_⟩
   have:decide (a≤1000000 * b)=decide (b≤60∧1≤b∧Int.gcd a b=1∧0≤a∧a≤1000000 * b):=decide_eq_decide.mpr ⟨fun z=>⟨by omega,c2.1,c2.2,c3,z⟩,fun z=>z.2.2.2.2⟩
   rw [this];exact q
  ·rw [decide_eq_false (fun z=>c3 z.2.2.2.1)] at q
   simp only [c3,decide_false]
   rw [if_neg (fun z=>z)]
   exact q
 ·rw [decide_eq_false c2]
  rw [decide_eq_false (fun z=>c2 ⟨z.2.1,z.2.2.1⟩)] at q
  simp_all! only []
  exact q
theorem LnAt.less {cN cL:Addr} {J J':Hq} {p:Addr} {L:Ln} (h:LnAt cN cL J p L) (l:Less J J'):LnAt cN cL J' p L:=h.keep fun a o _ e=>by
 rcases l a with z | z
 ·rw [← z];exact e
 ·rw [z] at e;cases e
theorem less_bell {J J':Hq} {p r:Addr} {x y:HQ} (l:Less J J') (hp:J p=none) (hr:J' r=none):Less J (put (put J' r x) p y):=fun a=>by
 by_cases e:a=p
 ·exact .inr (by rw [e];exact hp)
 by_cases e2:a=r
 ·rcases l a with z | z
  ·right;rw [z,e2];exact hr
  ·exact .inr z
 ·rw [put_ne e,put_ne e2];exact l a
theorem less_newB {J:Hq} {p r:Addr} {x y z:HQ} (hp:J p=none) (hr:put J p x r=none):Less J (put (put (put J p x) r y) p z):=less_bell (less_put hp) hp hr
theorem cut_from (xs:List PV) (k:Nat) (h:k≤xs.length):cutQ xs (some (k:Int)) none=xs.drop k:=by
 unfold cutQ HT.sIx
 simp only [Int.toNat_natCast]
 rw [if_neg (by omega),Nat.min_eq_left h]
 rw [List.take_of_length_le (by rw [List.length_drop];exact Nat.le_refl _)]
theorem LnOk.keys {L:Ln} (ok:LnOk L):L.row.map PV.str=(ordK (L.fs.map (key L.t))).map fun k=>PV.str k.n:=by rw [ok.row];unfold ordQ;rw [List.map_map];rfl
theorem key_cf {L:Ln} (ok:LnOk0 L) {a:Ky} (ha:a∈ordK (L.fs.map (key L.t))) {c:Cf} (hc:c∈L.cs) (hg:c.g=none) (e:c.n=a.n):a=key L.t (c.n,c.cur):=by
 obtain ⟨x,hx,rfl⟩:=List.mem_map.mp ((ordK_mem _ _).mp ha)
 obtain ⟨c0,hc0,h1,h2,h3⟩:=fs_of (n:=x.1) (l:=x.2) hx
 have:c0=c:=ok.uniq hc0 hc (h1.trans e.symm)
 subst this
 show key L.t (x.1,x.2)=_
 rw [← h3,← h1]
theorem row_key {L:Ln} (ok:LnOk L) {a:Ky} (ha:a∈ordK (L.fs.map (key L.t))):a.n∈L.row:=by
 rw [ok.row];unfold ordQ;exact List.mem_map.mpr ⟨a,ha,rfl⟩
theorem meetK_sz {L:Ln} (ok:LnOk L) {a b:Ky} (ha:a∈ordK (L.fs.map (key L.t))) (hb:b∈ordK (L.fs.map (key L.t))) (h:b.v < a.v):Sz 9000 (meetK L.t a b):=by
 obtain ⟨c,hc,hcn,hcg⟩:=ok.found (row_key ok ha)
 obtain ⟨c',hc',hcn',hcg'⟩:=ok.found (row_key ok hb)
 have ea:=key_cf ok.toLnOk0 ha hc hcg hcn
 have eb:=key_cf ok.toLnOk0 hb hc' hcg' hcn'
 have hv:c.cur.v≠c'.cur.v:=by rw [ea,eb] at h;exact fun z=>by have:c'.cur.v < c.cur.v:=h;omega
 rw [ea,eb,← meet_eq hv]
 exact (meet_szK (ok.csz hc) (ok.csz hc') hv).mono (by decide)
theorem LnOk.knd {L:Ln} (ok:LnOk L):((L.fs.map (key L.t)).map Ky.n).Nodup:=by rw [key_names];exact ok.fnd
theorem LnOk.klen {L:Ln} (ok:LnOk L):(ordK (L.fs.map (key L.t))).length≤12:=by
 have h1:=ok.rl
 have h2:=congrArg List.length ok.keys
 rw [List.length_map,List.length_map] at h2
 omega
theorem met_keys {L:Ln} (ok:LnOk L) {i j:Nat} {a b:Ky} (ha:(ordK (L.fs.map (key L.t)))[i]?=some a) (hb:(ordK (L.fs.map (key L.t)))[j]?=some b) (hij:i < j) {c c':Cf} (hc:c∈L.cs) (hc':c'∈L.cs) (hg:c.g=none) (hg':c'.g=none) (e:c.n=a.n) (e':c'.n=b.n) :
  metQ L.t c.cur c'.cur=if b.v < a.v∧a.p < b.p then some (meetK L.t a b) else none:=by
 have ea:=key_cf ok.toLnOk0 (List.mem_of_getElem? ha) hc hg e
 have eb:=key_cf ok.toLnOk0 (List.mem_of_getElem? hb) hc' hg' e'
 have hlt:a.lt b=true:=by
  obtain ⟨hil,ei⟩:=List.getElem?_eq_some_iff.mp ha
  obtain ⟨hjl,ej⟩:=List.getElem?_eq_some_iff.mp hb
  have:=List.pairwise_iff_getElem.mp (ordK_srt ok.knd) i j hil hjl hij
  rw [ei,ej] at this;exact this
 rw [ea,eb] at hlt ⊢
 have key:=metQ_lt hlt
 unfold metQ
 by_cases z:c.cur.v≠c'.cur.v∧L.t < meetQ c.cur c'.cur
 ·rw [if_pos z,if_pos (show (Ov.key L.t (c'.n,c'.cur)).v < (Ov.key L.t (c.n,c.cur)).v∧(Ov.key L.t (c.n,c.cur)).p < (Ov.key L.t (c'.n,c'.cur)).p from key.mp z),meet_eq z.1]
 ·rw [if_neg z,if_neg (show ¬ ((Ov.key L.t (c'.n,c'.cur)).v < (Ov.key L.t (c.n,c.cur)).v∧(Ov.key L.t (c.n,c.cur)).p < (Ov.key L.t (c'.n,c'.cur)).p) from fun y=>z (key.mpr y))]
abbrev s_Lane_foretold:Stmt:=(L2.inClass (top 42) 6)
theorem sc_Lane_foretold:L2.FnScope ["self","moment","passings","at","hind","fore","met"] ["self","moment"] (L2.defScope s_Lane_foretold):=⟨rfl,rfl,rfl,by decide +kernel,rfl,by decide +kernel,by decide +kernel⟩
def spNFore (cN cL eM eP:Addr):Spr:=fun xs J Q E=>∃ p L a b,xs=[.ref p,.tup [.int a,.int b]]∧LnAt cN cL J p L∧LnOk L∧(goodM a b=false→E eM J)∧(∀ m:Rat,m.num=a→(m.den:Int)=b→goodM a b=true→(m < L.t→E eP J)∧(L.t≤m→Q (.fl ((passK L.t (L.fs.map (key L.t)) m).map Bell.v)) J))
theorem ok_Lane_foretold {cN cL cB eM eP eC f:Addr} {fd:FuncData} (F:Fun K "foretold" "Lane.foretold" s_Lane_foretold f fd) (Z:BltR mg) (KD_Lane:KDef K mg "Lane" cN) (NA_Lane_now:NoAttr K cN "now") (NA_Lane_row:NoAttr K cN "row") (O_BadMoment:Own K mg "BadMoment" eM) (O_Past:Own K mg "Past" eP) (C_good_moment:CanR P w K mg base 3 "good_moment" ["moment"] spGoodM) (C_less:CanR P w K mg base 1 "less" ["one","two"] spLessR) (M_Bells:MakR P w K mg base cB 1 "Bells" ["self"] (spBInit cB)) (m_Lane_meets:MthR P w K mg base cN 6 "meets" ["self","name","other"] (spNMeets cN cL eC)) (m_Bells_put:MthR P w K mg base cB 3 "put" ["self","moment","hind","fore"] (spBPut cB)) (m_Bells_told:MthR P w K mg base cB 1 "told" ["self"] (spBTold cB)):FnOk P w K mg base (Fly P w) 7 f fd ["self","moment"] (LSp K (spNFore cN cL eM eP)):=by
 refine okF F sc_Lane_foretold (fun xs J Q E h=>?_) (fun cdv A outer s H E G xs J Q E2 hr h B=>?_)
 ·obtain ⟨p,L,a,b,rfl,_⟩:=h;rfl
 obtain ⟨p,L,a,bb,rfl,b,ok,qe,q⟩:=h
 have bo:=b.ob
 refine ⟨_,(rb_cons (rs_if (rt_not (rt_val (re_fn C_good_moment B hr (by decide) rfl (ra_cons (rv 1) ra_nil)))) (rb_one (rs_raise O_BadMoment rfl cxF_throws B.kn rfl (ra_cons re_str ra_nil))) rb_nil)
   (rb_cons (rs_if (rt_val (re_fn C_less B hr (by decide) rfl (ra_cons (rv 1) (ra_cons (re_fld KD_Lane.cl NA_Lane_now (rv 0)) ra_nil)))) (rb_one (rs_raise O_Past rfl cxF_throws B.kn rfl (ra_cons re_str ra_nil))) rb_nil)
   (rb_cons (rs_set (i:=2) sc_Lane_foretold.nd rfl (Or.inl rfl) (re_make0 M_Bells B hr (by decide) rfl))
   (rb_cons (rs_for cxF_own rfl (ri_enum rfl Z.enumerate (ra_cons (re_fld KD_Lane.cl NA_Lane_row (rv 0)) ra_nil)) (rg_tup (n:=2) rfl (rgs_cons (rg_name (i:=3) sc_Lane_foretold.nd rfl (Or.inl rfl)) (rgs_cons (rg_name (i:=4) sc_Lane_foretold.nd rfl (Or.inl rfl)) rgs_nil))) (rb_one (rs_for cxF_own rfl (ri_list (re_slice sq_fl (re_fld KD_Lane.cl NA_Lane_row (rv 0)) (ro_some (re_op oq_add (rv 3) re_int)) ro_none)) (rg_name (i:=5) sc_Lane_foretold.nd rfl (Or.inl rfl)) (rb_cons (rs_set (i:=6) sc_Lane_foretold.nd rfl (Or.inl rfl) (re_meth (pl:=_) m_Lane_meets B hr (by decide) (rv 0) (ra_cons (rv 4) (ra_cons (rv 5) ra_nil))))
   (rb_one (rs_if (rw_rt (rw_and (rt_cmp oq_isNot (rv 6) re_non (L2.nomark _)) (rw_and1 (rt_not (rt_val (re_fn C_less B hr (by decide) rfl (ra_cons (rv 1) (ra_cons (rv 6) ra_nil)))))))) (rb_one (rs_expr (re_meth (pl:=_) m_Bells_put B hr (by decide) (rv 2) (ra_cons (rv 6) (ra_cons (rv 4) (ra_cons (rv 5) ra_nil)))))) rb_nil))))))
   (rb_one (rs_ret (re_meth0 (pl:=_) m_Bells_told B hr (by decide) (rv 2)))))))),?_⟩
 simp_all! only []
 refine ⟨a,bb,rfl,?_⟩
 cases hg:goodM a bb with
 | false =>
  simp_all! only [rRaise]
  exact qe hg
 | true =>
  have hgm:=of_decide_eq_true hg
  obtain ⟨m,hm1,hm2⟩:∃ m:Rat,m.num=a∧(m.den:Int)=bb:=⟨⟨a,bb.toNat,by omega,by
   have:=hgm.2.2.1
   unfold Int.gcd at this
   show Nat.gcd a.natAbs bb.toNat=1
   rw [show bb.toNat=bb.natAbs by omega];exact this⟩,rfl,by show ((bb.toNat:Nat):Int)=bb;omega⟩
  obtain ⟨q1,q2⟩:=q m hm1 hm2 hg
  have ef:PV.tup [.int a,.int bb]=fr m:=by rw [← hm1,← hm2];rfl
  have sm:Sz 900 m:=⟨(Bd.small (x:=m.num) (by omega) (by omega)).mono (by decide),(Bd.small (x:=(m.den:Int)) (by omega) (by omega)).mono (by decide)⟩
  simp_all! only [bo,lkN1,ef]
  refine ⟨_,_,rfl,sm.mono (by decide),ok.tsz.mono (by decide),?_⟩
  by_cases c1:m < L.t
  ·rw [decide_eq_true c1]
   simp_all! only [rRaise]
   exact q1 c1
  rw [decide_eq_false c1]
  have q:=q2 (by grind)
  simp_all! only []
  intro pb hpb
  refine ⟨pb,rfl,put_same,fun r0 hr0=>⟨rfl,?_⟩⟩
  have l0:=less_newB (y:=.lst []) (z:=.ins cB [("rows",.ref r0)]) hpb hr0
  have nr0:r0≠pb:=by intro e;subst e;rw [put_same] at hr0;cases hr0
  have b0:BAt cB (put (put (put J pb (.ins cB [])) r0 (.lst [])) pb (.ins cB [("rows",.ref r0)])) pb r0 []:=⟨put_same,by rw [put_ne nr0];exact put_same⟩
  generalize put (put (put J pb (.ins cB [])) r0 (.lst [])) pb (.ins cB [("rows",.ref r0)])=J0 at l0 b0 ⊢
  simp_all! only [(b.less l0).ob,(b.less l0).rw,lkN3]
  obtain ⟨ks,hks⟩:∃ ks,ordK (L.fs.map (key L.t))=ks:=⟨_,rfl⟩
  have hrow:L.row.map PV.str=ks.map fun k=>PV.str k.n:=by rw [← hks];exact ok.keys
  have hkl:ks.length≤12:=by rw [← hks];exact ok.klen
  have hup:∀ {ps:List (Ky × Ky)},(∀ p∈ps,p.1∈ks∧p.2∈ks)→∀ x∈foldB L.t (cPass L.t m) ps,Sz 9000 x.m:=fun hp x hx=>by
   obtain ⟨p,hp',hc,rfl⟩:=foldB_sub _ hx
   have:=of_decide_eq_true hc
   exact meetK_sz ok (by rw [hks];exact (hp p hp').1) (by rw [hks];exact (hp p hp').2) this.1
  rw [hrow]
  obtain ⟨Inv,hInv⟩:∃ Inv:Nat→Sr→Hq→Prop,∀ i τ J',Inv i τ J'↔∃ (r:Addr) (u3 u4 u5 u6:Option PV),τ=[some (.ref p),some (fr m),some (.ref pb),u3,u4,u5,u6]∧Less J J'∧BAt cB J' pb r (foldB L.t (cPass L.t m) (upK ks i))∧(foldB L.t (cPass L.t m) (upK ks i)).length≤12 * i:=⟨_,fun _ _ _=>Iff.rfl⟩
  refine for_ls Inv ((hInv _ _ _).mpr ⟨r0,_,_,_,_,rfl,l0,b0,Nat.le_refl _⟩) (fun i τ J' h=>?_) ?_ ?_
  ·obtain ⟨r,_,_,_,_,_,l',_⟩:=(hInv _ _ _).mp h
   rw [(b.less l').rw,hrow]
  ·intro i x τ J' hx hv
   obtain ⟨r,u3,u4,u5,u6,rfl,l',bb,hle⟩:=(hInv _ _ _).mp hv
   clear hv
   have hi:i < ks.length:=by have:=(List.getElem?_eq_some_iff.mp hx).1;rw [enumV_len,List.length_map] at this;exact this
   have ha:ks[i]?=some ks[i]:=List.getElem?_eq_getElem hi
   rw [enumV_get _ i (.str (ks[i]).n) (by rw [List.getElem?_map,ha];rfl)] at hx
   cases hx
   generalize ks[i]=a at ha ⊢
   simp_all! only [(b.less l').ob,(b.less l').rw,lkN3]
   rw [hrow,show (i:Int) + 1=((i + 1:Nat):Int) by omega,cut_from _ _ (by rw [List.length_map];omega),← List.map_drop]
   have eup:upK ks (i + 1)=upK ks i ++ (ks.drop (i + 1)).map fun b=>(a,b):=by show upK ks i ++ _=_;rw [ha]
   have mup:∀ j,∀ p∈upK ks i ++ ((ks.drop (i + 1)).take j).map (fun b=>(a,b)),p.1∈ks∧p.2∈ks:=fun j p hp=>by
    rcases List.mem_append.mp hp with hp | hp
    ·obtain ⟨_,_,_,_,h3,h4⟩:=upK_mem.mp hp
     exact ⟨List.mem_of_getElem? h3,List.mem_of_getElem? h4⟩
    ·obtain ⟨y,hy,rfl⟩:=List.mem_map.mp hp
     exact ⟨List.mem_of_getElem? ha,List.mem_of_mem_drop (List.mem_of_mem_take hy)⟩
   obtain ⟨In2,hIn2⟩:∃ In2:Nat→Sr→Hq→Prop,∀ j τ J',In2 j τ J'↔∃ (r:Addr) (u5 u6:Option PV),τ=[some (.ref p),some (fr m),some (.ref pb),some (.int (i:Int)),some (.str a.n),u5,u6]∧Less J J'∧BAt cB J' pb r (foldB L.t (cPass L.t m) (upK ks i ++ ((ks.drop (i + 1)).take j).map fun b=>(a,b)))∧(foldB L.t (cPass L.t m) (upK ks i ++ ((ks.drop (i + 1)).take j).map fun b=>(a,b))).length≤12 * i + j:=⟨_,fun _ _ _=>Iff.rfl⟩
   refine for_ls In2 ((hIn2 _ _ _).mpr ⟨r,_,_,rfl,l',by simpa using bb,by simpa using hle⟩) (fun _ _ _ _=>trivial) ?_ ?_
   ·intro j x τ J2 hx hv
    obtain ⟨r2,u5,u6,rfl,l2,bb2,hle2⟩:=(hIn2 _ _ _).mp hv
    clear hv
    have hj:j < (ks.drop (i + 1)).length:=by have:=(List.getElem?_eq_some_iff.mp hx).1;rw [List.length_map] at this;exact this
    have hb:(ks.drop (i + 1))[j]?=some (ks.drop (i + 1))[j]:=List.getElem?_eq_getElem hj
    rw [List.getElem?_map,hb] at hx
    cases hx
    generalize (ks.drop (i + 1))[j]=y at hb ⊢
    have hb':ks[i + 1 + j]?=some y:=by rw [List.getElem?_drop] at hb;exact hb
    have hjl:j < 12:=by rw [List.length_drop] at hj;omega
    have ej:(ks.drop (i + 1)).take (j + 1)=(ks.drop (i + 1)).take j ++ [y]:=by rw [List.take_add_one,hb];rfl
    have ef2:foldB L.t (cPass L.t m) (upK ks i ++ ((ks.drop (i + 1)).take (j + 1)).map fun b=>(a,b))=putB L.t (cPass L.t m) (foldB L.t (cPass L.t m) (upK ks i ++ ((ks.drop (i + 1)).take j).map fun b=>(a,b))) (a,y):=by
     rw [ej,List.map_append,← List.append_assoc];exact foldB_snoc _ _ _ _
    have srt:=foldB_srt L.t (cPass L.t m) (upK ks i ++ ((ks.drop (i + 1)).take j).map fun b=>(a,b))
    have szs:=hup (mup j)
    generalize foldB L.t (cPass L.t m) (upK ks i ++ ((ks.drop (i + 1)).take j).map fun b=>(a,b))=rows at bb2 hle2 ef2 srt szs
    have stay:cPass L.t m (a,y)=false→∀ {v5 v6},In2 (j + 1) [some (.ref p),some (fr m),some (.ref pb),some (.int (i:Int)),some (.str a.n),v5,v6] J2:=fun hc v5 v6=>by
     have e:putB L.t (cPass L.t m) rows (a,y)=rows:=by unfold putB;rw [if_neg (by rw [hc];decide)]
     exact (hIn2 _ _ _).mpr ⟨r2,_,_,rfl,l2,by rw [ef2,e];exact bb2,by rw [ef2,e];omega⟩
    have b2:=b.less l2
    simp_all! only [b2.ob]
    refine ⟨lkNn _ _ _ _,p,L,a.n,y.n,rfl,b2,ok.toLnOk0,fun c hc c' hc' e e' hg hg'=>?_,fun z=>?_⟩
    ·have hmet:=met_keys ok (by rw [hks];exact ha) (by rw [hks];exact hb') (by omega) hc hc' hg hg' e e'
     rw [hmet]
     by_cases c2:y.v < a.v∧a.p < y.p
     ·rw [if_pos c2]
      have smk:=meetK_sz ok (by rw [hks];exact List.mem_of_getElem? ha) (by rw [hks];exact List.mem_of_getElem? hb') c2.1
      simp_all! only [gv,isN_fr,spLessR]
      refine ⟨sm.mono (by decide),smk,?_⟩
      by_cases c3:m < meetK L.t a y
      ·rw [if_pos c3]
       exact stay (decide_eq_false (fun z=>by have:=z.2.2;grind))
      ·rw [if_neg c3]
       have hcp:cPass L.t m (a,y)=true:=decide_eq_true ⟨c2.1,c2.2,by grind⟩
       have e:putB L.t (cPass L.t m) rows (a,y)=insB ⟨meetK L.t a y,a.n,y.n⟩ (dropB a.n y.n rows):=by unfold putB;rw [if_pos hcp];rfl
       simp_all! only [bb2.o]
       refine ⟨lkB2 _,pb,r2,rows,meetK L.t a y,a.n,y.n,rfl,bb2,srt,by omega,smk,szs,fun r' hr'=>?_⟩
       have nr:r'≠pb:=by intro z;subst z;rw [bb2.o] at hr';cases hr'
       refine (hIn2 _ _ _).mpr ⟨r',_,_,rfl,less_bell l2 hpb hr',⟨put_same,by rw [put_ne nr,put_same,ef2,e]⟩,?_⟩
       rw [ef2,e,insB_len]
       have:=dropB_len a.n y.n rows
       omega
     ·rw [if_neg c2]
      simp_all! only [gv]
      exact stay (decide_eq_false (fun z=>c2 ⟨z.1,z.2.1⟩))
    ·rcases z with z | z
     ·exact absurd (row_key ok (by rw [hks];exact List.mem_of_getElem? ha)) z
     ·exact absurd (row_key ok (by rw [hks];exact List.mem_of_getElem? hb')) z
   ·intro τ J2 hv
    obtain ⟨r2,u5,u6,rfl,l2,bb2,hle2⟩:=(hIn2 _ _ _).mp hv
    rw [List.length_map,List.take_length,← eup] at bb2 hle2
    rw [List.length_drop] at hle2
    exact (hInv _ _ _).mpr ⟨r2,_,_,_,_,rfl,l2,bb2,by omega⟩
  ·intro τ J' hv
   obtain ⟨r,u3,u4,u5,u6,rfl,l',bb,hle⟩:=(hInv _ _ _).mp hv
   rw [enumV_len,List.length_map,← hks,up_pass ok.knd] at bb
   simp_all! only [bb.o]
   exact ⟨lkB4 _,pb,r,_,rfl,bb,.inl (Fg.less l' q)⟩
theorem goodM_sc {m:Rat} (h:goodM m.num m.den=true):Sc L60 MM m∧0≤m:=by
 have h:=of_decide_eq_true h
 have hd:m.den≤60:=by omega
 constructor
 ·have h1:Sc m.den m.num.natAbs m:=⟨m.num,by have:=cast_eq m;rw [this];rfl,Nat.le_refl _⟩
  obtain ⟨k,hk⟩:=l60 m.den m.den_pos hd
  have h2:=h1.scale (E:=k)
  rw [show k * m.den=L60 by rw [hk,Nat.mul_comm]] at h2
  refine h2.mono ?_
  have h3:m.num.natAbs≤1000000 * m.den:=by omega
  have h4:k * m.num.natAbs≤k * (1000000 * m.den):=Nat.mul_le_mul_left _ h3
  have h5:k * (1000000 * m.den)=1000000 * L60:=by rw [hk];rw [Nat.mul_left_comm,Nat.mul_comm k]
  unfold MM
  omega
 ·exact Rat.num_nonneg.mp h.2.2.2.1
theorem LnOk0.going {L:Ln} (h:LnOk0 L) {m:Rat} (hm:L.t≤m) (hg:goodM m.num m.den=true):LnOk0 { L with t:=m } :=
 ⟨h.nd,h.ne,fun c hc l hl=>Rat.le_trans (h.le c hc l hl) hm,h.ck,h.len,fun c hc q e=>⟨(h.gz c hc q e).1,Rat.le_trans (h.gz c hc q e).2 hm⟩,(goodM_sc hg).2,(goodM_sc hg).1,h.many,h.rm,h.rn,h.rl⟩
abbrev s_Lane_go_to:Stmt:=(L2.inClass (top 42) 5)
theorem sc_Lane_go_to:L2.FnScope ["self","moment","passings"] ["self","moment"] (L2.defScope s_Lane_go_to):=⟨rfl,rfl,rfl,by decide +kernel,rfl,by decide +kernel,by decide +kernel⟩
def spNGo (cN cL eM eP:Addr):Spr:=fun xs J Q E=>∃ p L a b,xs=[.ref p,.tup [.int a,.int b]]∧LnAt cN cL J p L∧LnOk L∧(goodM a b=false→E eM J)∧(∀ m:Rat,m.num=a→(m.den:Int)=b→goodM a b=true→(m < L.t→E eP J)∧(L.t≤m→∀ J' o',LnAt cN cL J' p { L with t:=m,o:=o',row:=ordQ m L.fs }→LnOk { L with t:=m,o:=o',row:=ordQ m L.fs }→Mv J J' (L.own p) (Ln.own { L with t:=m,o:=o',row:=ordQ m L.fs } p)→Q (.fl ((passK L.t (L.fs.map (key L.t)) m).map Bell.v)) J'))
theorem ok_Lane_go_to {cN cL eM eP f:Addr} {fd:FuncData} (F:Fun K "go_to" "Lane.go_to" s_Lane_go_to f fd) (Z:BltR mg) (KD_Lane:KDef K mg "Lane" cN) (NA_Lane_now:NoAttr K cN "now") (m_Lane_foretold:MthR P w K mg base cN 7 "foretold" ["self","moment"] (spNFore cN cL eM eP)) (m_Lane_settle:MthR P w K mg base cN 7 "settle" ["self"] (spNSettle cN cL)):FnOk P w K mg base (Fly P w) 8 f fd ["self","moment"] (LSp K (spNGo cN cL eM eP)):=by
 refine okR F sc_Lane_go_to (fun xs J Q E h=>?_) (fun cdv A outer s H E G xs J Q E2 hr h B=>?_)
 ·obtain ⟨p,L,a,b,rfl,_⟩:=h;rfl
 obtain ⟨p,L,a,bb,rfl,b,ok,qe,q⟩:=h
 have bo:=b.ob
 refine ⟨_,(rb_cons (rs_set (i:=2) sc_Lane_go_to.nd rfl (Or.inl rfl) (re_meth (pl:=_) m_Lane_foretold B hr (by decide) (rv 0) (ra_cons (rv 1) ra_nil)))
   (rb_cons (rs_fld KD_Lane.cl NA_Lane_now (rv 0) (rv 1))
   (rb_cons (rs_expr (re_meth0 (pl:=_) m_Lane_settle B hr (by decide) (rv 0)))
   (rb_one (rs_ret (rv 2)))))),?_⟩
 simp_all! only [bo]
 refine ⟨lkNn _ _ _ _,p,L,a,bb,rfl,b,ok,qe,fun m h1 h2 hg=>⟨(q m h1 h2 hg).1,fun hm=>?_⟩⟩
 have q:=(q m h1 h2 hg).2 hm
 have ef:PV.tup [.int a,.int bb]=fr m:=by rw [← h1,← h2];rfl
 have hgm:goodM m.num m.den=true:=by rw [h1,h2];exact hg
 have ok1:=ok.toLnOk0.going hm hgm
 simp_all! only [bo,ef]
 refine ⟨by show (3:Nat) < 1000;decide,?_⟩
 have b1:LnAt cN cL (put J p (.ins cN [("now",fr m),("logs",.ref L.d),("row",.ref L.o)])) p { L with t:=m } :=
  ⟨put_same,by show put J p _ L.d=_;rw [put_ne b.ndp];exact b.dc,by show put J p _ L.o=_;rw [put_ne b.nop];exact b.rw,fun c hc=>⟨by rw [put_ne (b.nap hc)];exact (b.lg c hc).o,by rw [put_ne (b.nrp hc)];exact (b.lg c hc).l⟩,b.ap,b.ao⟩
 have mv1:Mv J (put J p (.ins cN [("now",fr m),("logs",.ref L.d),("row",.ref L.o)])) (L.own p) (L.own p):=mv_put (.inl rfl) fun a h=>.inl h
 generalize put J p (.ins cN [("now",fr m),("logs",.ref L.d),("row",.ref L.o)])=J1 at b1 mv1 ⊢
 simp_all! only [b1.ob]
 refine ⟨lkNn _ _ _ _,p,{ L with t:=m },rfl,b1,ok1,fun J2 o' b2 mv2=>?_⟩
 simp_all! only []
 exact q J2 o' b2 (LnOk.settled ok1 o') (mv1.trans mv2)
def Cf.turn (c:Cf) (t:Rat) (v:Int):Cf:={ c with w:=turned c.w t v }
def turnC (n:Str) (t:Rat) (v:Int) (c:Cf):Cf:=if c.n=n then c.turn t v else c
theorem turnC_n (n:Str) (t:Rat) (v:Int) (c:Cf):(turnC n t v c).n=c.n∧(turnC n t v c).a=c.a∧(turnC n t v c).r=c.r∧(turnC n t v c).g=c.g:=by unfold turnC;split <;> exact ⟨rfl,rfl,rfl,rfl⟩
theorem map_keep {α β:Type} {f:α→β} {g:α→α} (h:∀ x,f (g x)=f x) (l:List α):(l.map g).map f=l.map f:=by rw [List.map_map];exact List.map_congr_left fun x _=>h x
theorem LnOk0.map {L:Ln} (h:LnOk0 L) {f:Cf→Cf} (hn:∀ c,(f c).n=c.n∧(f c).a=c.a∧(f c).r=c.r∧(f c).g=c.g) (hw:∀ c∈L.cs,(f c).w≠[]∧(∀ l∈(f c).w,l.m≤L.t∧COk l)∧(f c).w.length≤200):LnOk0 { L with cs:=L.cs.map f }:=by
 have mem:∀ c∈L.cs.map f,∃ c0∈L.cs,f c0=c:=fun c hc=>by obtain ⟨c0,h0,e⟩:=List.mem_map.mp hc;exact ⟨c0,h0,e⟩
 have hfs:(Ln.fs { L with cs:=L.cs.map f }).map (·.1)=L.fs.map (·.1):=by
  rw [fs_names,fs_names]
  unfold Ln.prs
  show ((L.cs.map f).filter _).map Cf.n=_
  rw [List.filter_map,List.map_map]
  have e1:(fun c:Cf=>c.g.isNone) ∘ f=fun c=>c.g.isNone:=by funext c;show (f c).g.isNone=_;rw [(hn c).2.2.2]
  rw [e1]
  exact List.map_congr_left fun c _=>(hn c).1
 refine ⟨?_,?_,?_,?_,?_,?_,h.t0,h.ts,by show (L.cs.map f).length≤100;rw [List.length_map];exact h.many,fun n=>by rw [hfs];exact h.rm n,h.rn,h.rl⟩
 ·show ((L.cs.map f).map Cf.n).Nodup
  rw [map_keep (fun c=>(hn c).1)];exact h.nd
 ·intro c hc;obtain ⟨c0,h0,rfl⟩:=mem c hc;exact (hw c0 h0).1
 ·intro c hc l hl;obtain ⟨c0,h0,rfl⟩:=mem c hc;exact ((hw c0 h0).2.1 l hl).1
 ·intro c hc l hl;obtain ⟨c0,h0,rfl⟩:=mem c hc;exact ((hw c0 h0).2.1 l hl).2
 ·intro c hc;obtain ⟨c0,h0,rfl⟩:=mem c hc;exact (hw c0 h0).2.2
 ·intro c hc q e;obtain ⟨c0,h0,rfl⟩:=mem c hc;exact h.gz c0 h0 q (by rw [← (hn c0).2.2.2];exact e)
theorem LnOk0.keepW {L:Ln} (h:LnOk0 L) {c:Cf} (hc:c∈L.cs):c.w≠[]∧(∀ l∈c.w,l.m≤L.t∧COk l)∧c.w.length≤200:=⟨h.ne c hc,fun l hl=>⟨h.le c hc l hl,h.ck c hc l hl⟩,h.len c hc⟩
theorem LnOk0.turnW {L:Ln} (h:LnOk0 L) {c:Cf} (hc:c∈L.cs) (hl:c.w.length < 200) {v:Int} (hv:v.natAbs≤1000):(c.turn L.t v).w≠[]∧(∀ l∈(c.turn L.t v).w,l.m≤L.t∧COk l)∧(c.turn L.t v).w.length≤200:=by
 refine ⟨turned_ne (h.ne c hc),fun l hl'=>?_,?_⟩
 ·rcases turned_mem hl' with k | ⟨l0,k,rfl⟩
  ·exact ⟨h.le c hc l k,h.ck c hc l k⟩
  ·exact ⟨Rat.le_refl,(h.ck c hc l0 k).at (h.le c hc l0 k) h.ts hv⟩
 ·have:=turned_len c.w L.t v
  show (turned c.w L.t v).length≤200
  omega
theorem LnAt.turn {cN cL:Addr} {J:Hq} {p:Addr} {L:Ln} (h:LnAt cN cL J p L) (ok:LnOk0 L) {c:Cf} (hc:c∈L.cs) {t:Rat} {v:Int}:LnAt cN cL (put J c.r (.lst ((turned c.w t v).map Leg.V))) p { L with cs:=L.cs.map (turnC c.n t v) }:=by
 have hcs:=turnC_n c.n t v
 refine ⟨by rw [put_ne (Ne.symm (h.nrp hc))];exact h.ob,?_,?_,fun x hx=>?_,?_,fun x hx=>?_⟩
 ·show put J c.r _ L.d=_
  rw [put_ne (Ne.symm (h.nrd hc)),h.dc]
  show _=Option.some (HQ.dct ((L.cs.map (turnC c.n t v)).map fun c=>(c.n,PV.ref c.a)) L.e)
  rw [map_keep (f:=fun c:Cf=>(c.n,PV.ref c.a)) (fun x=>by rw [(hcs x).1,(hcs x).2.1])]
 ·show put J c.r _ L.o=_
  rw [put_ne (Ne.symm (h.ao c hc))];exact h.rw
 ·obtain ⟨x0,h0,rfl⟩:=List.mem_map.mp hx
  have hl:=h.lg x0 h0
  refine ⟨?_,?_⟩
  ·rw [(hcs x0).2.1,(hcs x0).2.2.1,(hcs x0).2.2.2,put_ne (h.nar h0 hc)];exact hl.o
  ·rw [(hcs x0).2.2.1]
   by_cases e:x0.n=c.n
   ·have:x0=c:=ok.uniq h0 hc e
    subst this
    rw [put_same]
    unfold turnC;rw [if_pos rfl];rfl
   ·have hr:x0.r≠c.r:=fun z=>e (by
     obtain ⟨i,hi,rfl⟩:=List.getElem_of_mem h0
     obtain ⟨j,hj,rfl⟩:=List.getElem_of_mem hc
     have:=(List.getElem_inj (xs:=L.cs.map Cf.r) (i:=i) (j:=j) (h₀:=by simpa using hi) (h₁:=by simpa using hj) h.ap).mp (by rw [List.getElem_map,List.getElem_map];exact z)
     subst this;rfl)
    rw [put_ne hr]
    unfold turnC;rw [if_neg e];exact hl.l
 ·show ((L.cs.map (turnC c.n t v)).map Cf.r).Nodup
  rw [map_keep (fun x=>(hcs x).2.2.1)];exact h.ap
 ·obtain ⟨x0,h0,rfl⟩:=List.mem_map.mp hx
  rw [(hcs x0).2.2.1];exact h.ao x0 h0
theorem own_map {L:Ln} {p:Addr} {f:Cf→Cf} (hn:∀ c,(f c).n=c.n∧(f c).a=c.a∧(f c).r=c.r∧(f c).g=c.g) (a:Addr):Ln.own { L with cs:=L.cs.map f } p a↔L.own p a:=by
 unfold Ln.own
 constructor
 ·rintro (h | h | h | ⟨c,hc,h⟩)
  ·exact .inl h
  ·exact .inr (.inl h)
  ·exact .inr (.inr (.inl h))
  ·obtain ⟨c0,h0,rfl⟩:=List.mem_map.mp hc
   rw [(hn c0).2.1,(hn c0).2.2.1] at h
   exact .inr (.inr (.inr ⟨c0,h0,h⟩))
 ·rintro (h | h | h | ⟨c,hc,h⟩)
  ·exact .inl h
  ·exact .inr (.inl h)
  ·exact .inr (.inr (.inl h))
  ·exact .inr (.inr (.inr ⟨f c,List.mem_map.mpr ⟨c,hc,rfl⟩,by rw [(hn c).2.1,(hn c).2.2.1];exact h⟩))
abbrev s_Lane_turn:Stmt:=(L2.inClass (top 42) 3)
theorem sc_Lane_turn:L2.FnScope ["self","name","pace"] ["self","name","pace"] (L2.defScope s_Lane_turn):=⟨rfl,rfl,rfl,by decide +kernel,rfl,by decide +kernel,by decide +kernel⟩
def spNTurn (cN cL eC eF:Addr):Spr:=fun xs J Q E=>∃ p L n v,xs=[.ref p,.str n,.int v]∧LnAt cN cL J p L∧LnOk L∧(∀ c∈L.cs,c.w.length < 200)∧(n ∉ L.row→E eC J)∧(n∈L.row→¬ v.natAbs≤1000→E eF J)∧(n∈L.row→v.natAbs≤1000→∀ J' L',LnAt cN cL J' p L'→LnOk L'→L'.cs=L.cs.map (turnC n L.t v)→L'.t=L.t→Mv J J' (L.own p) (L'.own p)→Q .non J')
theorem ok_Lane_turn {cN cL eC eF f:Addr} {fd:FuncData} (F:Fun K "turn" "Lane.turn" s_Lane_turn f fd) (Z:BltR mg) (KD_Lane:KDef K mg "Lane" cN) (NA_Lane_logs:NoAttr K cN "logs") (NA_Lane_now:NoAttr K cN "now") {t_FASTEST:Tok} (g_FASTEST:mg "FASTEST"=some (.int 1000 t_FASTEST)) (O_TooFar:Own K mg "TooFar" eF) (m_Lane_must_be_there:MthR P w K mg base cN 1 "must_be_there" ["self","name"] (spNMust cN cL eC)) (m_Log_turn:MthR P w K mg base cL 5 "turn" ["self","moment","pace"] (spLTurn cL)) (m_Lane_settle:MthR P w K mg base cN 7 "settle" ["self"] (spNSettle cN cL)):FnOk P w K mg base (Fly P w) 8 f fd ["self","name","pace"] (LSp K (spNTurn cN cL eC eF)):=by
 refine okR F sc_Lane_turn (fun xs J Q E h=>?_) (fun cdv A outer s H E G xs J Q E2 hr h B=>?_)
 ·obtain ⟨p,L,n,v,rfl,_⟩:=h;rfl
 obtain ⟨p,L,n,v,rfl,b,ok,hlen,qc,qf,q⟩:=h
 have bo:=b.ob
 have bd:=b.dc
 refine ⟨_,(rb_cons (rs_expr (re_meth (pl:=_) m_Lane_must_be_there B hr (by decide) (rv 0) (ra_cons (rv 1) ra_nil)))
   (rb_cons (rs_if (rt_cmp oq_gt (re_callB cq_abs rfl Z.abs boot_abs (ra_cons (rv 2) ra_nil)) (re_glob (v:=.int 1000) (.int 1000) rfl g_FASTEST ⟨_,rfl⟩ (fun _ _=>rfl)) (L2.nomark _)) (rb_one (rs_raise O_TooFar rfl cxF_throws B.kn rfl (ra_cons re_str ra_nil))) rb_nil)
   (rb_cons (rs_expr (re_meth (pl:=_) m_Log_turn B hr (by decide) (re_ix iq_ixD (re_fld KD_Lane.cl NA_Lane_logs (rv 0)) (rv 1) (fun _ _=>rfl)) (ra_cons (re_fld KD_Lane.cl NA_Lane_now (rv 0)) (ra_cons (rv 2) ra_nil))))
   (rb_one (rs_expr (re_meth0 (pl:=_) m_Lane_settle B hr (by decide) (rv 0))))))),?_⟩
 simp_all! only [bo]
 refine ⟨lkNn _ _ _ _,p,L,n,rfl,b,fun hn=>?_,qc⟩
 simp_all! only []
 have habs:(1000 < if v < 0 then -v else v)↔¬ v.natAbs≤1000:=by split <;> omega
 by_cases hv:v.natAbs≤1000
 ·rw [if_neg (fun z=>habs.mp z hv)]
  obtain ⟨c,hc,rfl,hg⟩:=ok.found hn
  have lo:=(b.lg c hc).o
  have ok1:LnOk0 { L with cs:=L.cs.map (turnC c.n L.t v) }:=ok.toLnOk0.map (turnC_n c.n L.t v) fun x hx=>by
   unfold turnC
   split
   ·exact ok.toLnOk0.turnW hx (hlen x hx) hv
   ·exact ok.toLnOk0.keepW hx
  have b1:=b.turn ok.toLnOk0 hc (t:=L.t) (v:=v)
  have mv1:Mv J (put J c.r (.lst ((turned c.w L.t v).map Leg.V))) (L.own p) (Ln.own { L with cs:=L.cs.map (turnC c.n L.t v) } p):=mv_put (.inr (.inr (.inr ⟨c,hc,.inr rfl⟩))) fun a h=>.inl ((own_map (turnC_n c.n L.t v) a).mp h)
  simp_all! only [bo,lkN1,lkN2,bd,ok.va hc,lo]
  refine ⟨lkL1 _ _,c.a,c.r,c.w,c.g,L.t,v,rfl,b.lg c hc,ok.ne c hc,Nat.le_trans (ok.len c hc) (by decide),ok.tsz,fun l hl=>(ok.ck c hc l hl).lsz,?_⟩
  generalize put J c.r (.lst ((turned c.w L.t v).map Leg.V))=J1 at b1 mv1 ⊢
  simp_all! only [b1.ob]
  refine ⟨lkNn _ _ _ _,p,_,rfl,b1,ok1,fun J2 o' b2 mv2=>?_⟩
  exact q hn hv J2 _ b2 (LnOk.settled ok1 o') rfl rfl (mv1.trans mv2)
 ·rw [if_pos (habs.mpr hv)]
  simp_all! only [rRaise]
  exact qf hn hv
def aboutC (t:Rat) (c:Cf):Cf:=if c.g.isNone=true then c.turn t (-c.cur.v) else c
def aboutR (t:Rat) (row:List Str) (c:Cf):Cf:=if c.n∈row then c.turn t (-c.cur.v) else c
theorem aboutR_n (t:Rat) (row:List Str) (c:Cf):(aboutR t row c).n=c.n∧(aboutR t row c).a=c.a∧(aboutR t row c).r=c.r∧(aboutR t row c).g=c.g:=by unfold aboutR;split <;> exact ⟨rfl,rfl,rfl,rfl⟩
theorem about_row {L:Ln} (ok:LnOk0 L):L.cs.map (aboutR L.t L.row)=L.cs.map (aboutC L.t):=by
 refine List.map_congr_left fun c hc=>?_
 have h:c.n∈L.row↔c.g.isNone=true:=by
  rw [ok.rm,fs_names,List.mem_map]
  constructor
  ·rintro ⟨c',hc',e⟩
   have h':=Ln.prs_mem.mp hc'
   rw [ok.uniq h'.1 hc e] at h'
   rw [h'.2];rfl
  ·intro e
   exact ⟨c,Ln.prs_mem.mpr ⟨hc,by cases hg:c.g with | none=>rfl | some q=>rw [hg] at e;cases e⟩,rfl⟩
 unfold aboutR aboutC
 by_cases e:c.n∈L.row
 ·rw [if_pos e,if_pos (h.mp e)]
 ·rw [if_neg e,if_neg (fun z=>e (h.mpr z))]
theorem LnOk0.aboutR {L:Ln} (ok:LnOk0 L) (hlen:∀ c∈L.cs,c.w.length < 200) (row:List Str):LnOk0 { L with cs:=L.cs.map (aboutR L.t row) }:=ok.map (aboutR_n L.t row) fun x hx=>by
 unfold Ov.aboutR
 split
 ·exact ok.turnW hx (hlen x hx) (by have:=(ok.ck x hx _ (Cf.cur_mem (ok.ne x hx)).2).v;omega)
 ·exact ok.keepW hx
abbrev s_Lane_about:Stmt:=(L2.inClass (top 42) 4)
theorem sc_Lane_about:L2.FnScope ["self","name","pace"] ["self"] (L2.defScope s_Lane_about):=⟨rfl,rfl,rfl,by decide +kernel,rfl,by decide +kernel,by decide +kernel⟩
def spNAbout (cN cL:Addr):Spr:=fun xs J Q E=>∃ p L,xs=[.ref p]∧LnAt cN cL J p L∧LnOk L∧(∀ c∈L.cs,c.w.length < 200)∧(∀ J' L',LnAt cN cL J' p L'→LnOk L'→L'.cs=L.cs.map (aboutC L.t)→L'.t=L.t→Mv J J' (L.own p) (L'.own p)→Q .non J')
theorem ok_Lane_about {cN cL eC f:Addr} {fd:FuncData} (F:Fun K "about" "Lane.about" s_Lane_about f fd) (Z:BltR mg) (KD_Lane:KDef K mg "Lane" cN) (NA_Lane_row:NoAttr K cN "row") (NA_Lane_logs:NoAttr K cN "logs") (NA_Lane_now:NoAttr K cN "now") (m_Lane_leg_of:MthR P w K mg base cN 4 "leg_of" ["self","name"] (spNLegOf cN cL eC)) (m_Log_turn:MthR P w K mg base cL 5 "turn" ["self","moment","pace"] (spLTurn cL)) (m_Lane_settle:MthR P w K mg base cN 7 "settle" ["self"] (spNSettle cN cL)):FnOk P w K mg base (Fly P w) 8 f fd ["self"] (LSp K (spNAbout cN cL)):=by
 refine okR F sc_Lane_about (fun xs J Q E h=>?_) (fun cdv A outer s H E G xs J Q E2 hr h B=>?_)
 ·obtain ⟨p,L,rfl,_⟩:=h;rfl
 obtain ⟨p,L,rfl,b,ok,hlen,q⟩:=h
 refine ⟨_,(rb_cons (rs_for cxF_own rfl (ri_list (re_fld KD_Lane.cl NA_Lane_row (rv 0))) (rg_name (i:=1) sc_Lane_about.nd rfl (Or.inl rfl)) (rb_cons (rs_set (i:=2) sc_Lane_about.nd rfl (Or.inl rfl) (re_ix iq_ix (re_meth (pl:=_) m_Lane_leg_of B hr (by decide) (rv 0) (ra_cons (rv 1) ra_nil)) re_int (fun _ _=>rfl)))
   (rb_one (rs_expr (re_meth (pl:=_) m_Log_turn B hr (by decide) (re_ix iq_ixD (re_fld KD_Lane.cl NA_Lane_logs (rv 0)) (rv 1) (fun _ _=>rfl)) (ra_cons (re_fld KD_Lane.cl NA_Lane_now (rv 0)) (ra_cons (re_un uq_neg (rv 2)) ra_nil)))))))
   (rb_one (rs_expr (re_meth0 (pl:=_) m_Lane_settle B hr (by decide) (rv 0))))),?_⟩
 simp_all! only [b.ob,b.rw,lkN3]
 have hid:L.cs.map (aboutR L.t (L.row.take 0))=L.cs:=by
  have:∀ c∈L.cs,aboutR L.t (L.row.take 0) c=c:=fun c _=>by unfold aboutR;rw [if_neg (by simp)]
  rw [List.map_congr_left this,List.map_id']
 obtain ⟨Inv,hInv⟩:∃ Inv:Nat→Sr→Hq→Prop,∀ i τ J',Inv i τ J'↔∃ (u1 u2:Option PV),τ=[some (.ref p),u1,u2]∧LnAt cN cL J' p { L with cs:=L.cs.map (aboutR L.t (L.row.take i)) }∧Mv J J' (L.own p) (L.own p):=⟨_,fun _ _ _=>Iff.rfl⟩
 refine for_ls Inv ((hInv _ _ _).mpr ⟨_,_,rfl,by rw [hid];exact b,Mv.refl _ _⟩) (fun i τ J' h=>?_) ?_ ?_
 ·obtain ⟨_,_,_,b',_⟩:=(hInv _ _ _).mp h
  have:=b'.rw
  simp only at this
  rw [this]
 ·intro i x τ J' hx hv
  obtain ⟨u1,u2,rfl,b',mv'⟩:=(hInv _ _ _).mp hv
  clear hv
  have hi:i < L.row.length:=by have:=(List.getElem?_eq_some_iff.mp hx).1;simpa using this
  have hget:L.row[i]?=some L.row[i]:=List.getElem?_eq_getElem hi
  rw [List.getElem?_map,hget] at hx
  cases hx
  have hn:L.row[i]∈L.row:=List.getElem_mem hi
  have et:L.row.take (i + 1)=L.row.take i ++ [L.row[i]]:=by rw [List.take_add_one,hget];rfl
  have hnd:(L.row.take (i + 1)).Nodup:=ok.rn.sublist (List.take_sublist _ _)
  rw [et] at hnd
  have hnew:=(nodup_snoc hnd).2
  generalize L.row[i]=n at hn et hnew ⊢
  obtain ⟨c,hc,rfl,hg⟩:=ok.found hn
  have oki:=ok.toLnOk0.aboutR hlen (L.row.take i)
  have ecc:aboutR L.t (L.row.take i) c=c:=by unfold aboutR;rw [if_neg hnew]
  have hci:c∈L.cs.map (aboutR L.t (L.row.take i)):=List.mem_map.mpr ⟨c,hc,ecc⟩
  simp_all! only [b'.ob]
  refine ⟨lkNn _ _ _ _,p,_,c.n,rfl,b',oki,fun c' hc' e' hg'=>?_,fun z=>absurd hn z⟩
  have ec':c'=c:=oki.uniq hc' hci e'
  subst ec'
  have hcv:=(ok.ck c' hc _ (Cf.cur_mem (ok.ne c' hc)).2).v
  have lo:=(b'.lg c' hci).o
  have bo':=b'.ob
  have bd':=b'.dc
  simp only at bo' bd'
  simp_all! only [ix_l2,bo',lkN1,lkN2,bd',lo]
  have hva:=oki.va hci
  simp only at hva
  simp_all! only [hva,lo,bo',lkN1]
  refine ⟨lkL1 _ _,c'.a,c'.r,c'.w,c'.g,L.t,-c'.cur.v,rfl,b'.lg c' hci,ok.ne c' hc,Nat.le_trans (ok.len c' hc) (by decide),ok.tsz,fun l hl=>(ok.ck c' hc l hl).lsz,?_⟩
  have b1:=b'.turn oki hci (t:=L.t) (v:=-c'.cur.v)
  have em:(L.cs.map (aboutR L.t (L.row.take i))).map (turnC c'.n L.t (-c'.cur.v))=L.cs.map (aboutR L.t (L.row.take (i + 1))):=by
   rw [List.map_map]
   refine List.map_congr_left fun x hx=>?_
   show turnC c'.n L.t (-c'.cur.v) (aboutR L.t (L.row.take i) x)=_
   by_cases e:x.n=c'.n
   ·have:x=c':=ok.uniq hx hc e
    subst this
    rw [ecc]
    unfold turnC Ov.aboutR
    rw [if_pos rfl,if_pos (by rw [et];simp)]
   ·unfold turnC
    rw [if_neg (by rw [(aboutR_n L.t (L.row.take i) x).1];exact e)]
    unfold Ov.aboutR
    rw [et]
    by_cases e2:x.n∈L.row.take i
    ·rw [if_pos e2,if_pos (List.mem_append.mpr (.inl e2))]
    ·rw [if_neg e2,if_neg (fun z=>by
      rcases List.mem_append.mp z with z | z
      ·exact e2 z
      ·exact e (by simpa using z))]
  simp only [em] at b1
  refine (hInv _ _ _).mpr ⟨_,_,rfl,b1,mv'.trans (mv_put (.inr (.inr (.inr ⟨c',hc,.inr rfl⟩))) fun a h=>.inl h)⟩
 ·intro τ J' hv
  obtain ⟨u1,u2,rfl,b',mv'⟩:=(hInv _ _ _).mp hv
  rw [List.length_map,List.take_length,about_row ok.toLnOk0] at b'
  have oki:LnOk0 { L with cs:=L.cs.map (aboutC L.t) }:=by rw [← about_row ok.toLnOk0];exact ok.toLnOk0.aboutR hlen L.row
  simp_all! only [b'.ob]
  refine ⟨lkNn _ _ _ _,p,_,rfl,b',oki,fun J2 o' b2 mv2=>?_⟩
  refine q J2 _ b2 (LnOk.settled oki o') rfl rfl (mv'.trans ⟨fun a o e n=>mv2.keep a o e fun z=>n ?_,fun a h=>?_,mv2.mono⟩)
  ·rw [← about_row ok.toLnOk0] at z;exact (own_map (aboutR_n L.t L.row) a).mp z
  ·rcases mv2.own a h with h' | h'
   ·rw [← about_row ok.toLnOk0] at h';exact .inl ((own_map (aboutR_n L.t L.row) a).mp h')
   ·exact .inr h'
def leaveC (n:Str) (t:Rat) (c:Cf):Cf:=if c.n=n then { c with g:=some t } else c
theorem leaveC_n (n:Str) (t:Rat) (c:Cf):(leaveC n t c).n=c.n∧(leaveC n t c).a=c.a∧(leaveC n t c).r=c.r∧(leaveC n t c).w=c.w:=by unfold leaveC;split <;> exact ⟨rfl,rfl,rfl,rfl⟩
theorem leave_fs {L L':Ln} {n:Str} {t:Rat} (e:L'.cs=L.cs.map (leaveC n t)):L'.fs=L.fs.filter fun x=>decide (x.1≠n):=by
 unfold Ln.fs Ln.prs
 rw [e,List.filter_map,List.map_map,List.filter_map,List.filter_filter]
 have e1:(fun c:Cf=>c.g.isNone) ∘ leaveC n t=fun c=>((fun x:Str × Leg=>decide (x.1≠n)) ∘ fun c:Cf=>(c.n,c.cur)) c && c.g.isNone:=by
  funext c
  show (leaveC n t c).g.isNone=(decide (c.n≠n) && c.g.isNone)
  unfold leaveC
  by_cases z:c.n=n
  ·rw [if_pos z];simp [z]
  ·rw [if_neg z];simp [z]
 rw [e1]
 refine List.map_congr_left fun c hc=>?_
 show ((leaveC n t c).n,(leaveC n t c).cur)=_
 unfold Cf.cur
 rw [(leaveC_n n t c).1,(leaveC_n n t c).2.2.2]
theorem ordK_filter {ks:List Ky} (h:(ks.map Ky.n).Nodup) (f:Ky→Bool):ordK (ks.filter f)=(ordK ks).filter f:=by
 have hs:((ks.filter f).map Ky.n).Nodup:=h.sublist (List.Sublist.map _ List.filter_sublist)
 refine srtG_ext (lt:=Ky.lt) Ky.irr Ky.tr (ordK_srt hs) ((ordK_srt h).filter _) fun x=>?_
 rw [ordK_mem,List.mem_filter,List.mem_filter,ordK_mem]
theorem ordQ_filter {t:Rat} {fs:List (Str × Leg)} (h:(fs.map (·.1)).Nodup) (n:Str):ordQ t (fs.filter fun x=>decide (x.1≠n))=(ordQ t fs).filter fun x=>decide (x≠n):=by
 unfold ordQ
 have e:(fs.filter fun x=>decide (x.1≠n)).map (key t)=(fs.map (key t)).filter fun k=>decide (k.n≠n):=by rw [List.filter_map];rfl
 rw [e,ordK_filter (by rw [key_names];exact h),List.filter_map]
 rfl
theorem erase_filter {l:List Str} (h:l.Nodup) {j:Nat} {n:Str} (hj:l[j]?=some n):l.eraseIdx j=l.filter fun x=>decide (x≠n):=by
 obtain ⟨hl,e⟩:=List.getElem?_eq_some_iff.mp hj
 rw [List.eraseIdx_eq_take_drop_succ]
 have hd:l=l.take j ++ n :: l.drop (j + 1):=by rw [← e,← List.drop_eq_getElem_cons hl,List.take_append_drop]
 have hn:=h
 rw [hd,List.nodup_append] at hn
 have k1:∀ x∈l.take j,x≠n:=fun x hx=>hn.2.2 x hx n (by simp)
 have k2:∀ x∈l.drop (j + 1),x≠n:=fun x hx z=>(List.nodup_cons.mp hn.2.1).1 (by rw [← z];exact hx)
 conv=>rhs;rw [hd]
 rw [List.filter_append,List.filter_cons,if_neg (by simp),List.filter_eq_self.mpr fun x hx=>decide_eq_true (k1 x hx),List.filter_eq_self.mpr fun x hx=>decide_eq_true (k2 x hx)]
theorem LnOk.leave {L:Ln} (ok:LnOk L) (n:Str):LnOk { L with cs:=L.cs.map (leaveC n L.t),row:=L.row.filter fun x=>decide (x≠n) }:=by
 have hfs:Ln.fs { L with cs:=L.cs.map (leaveC n L.t),row:=L.row.filter fun x=>decide (x≠n) }=L.fs.filter fun x=>decide (x.1≠n):=leave_fs (L:=L) (t:=L.t) rfl
 have mem:∀ c∈L.cs.map (leaveC n L.t),∃ c0∈L.cs,leaveC n L.t c0=c:=fun c hc=>by obtain ⟨c0,h0,e⟩:=List.mem_map.mp hc;exact ⟨c0,h0,e⟩
 have hw:∀ c,(leaveC n L.t c).w=c.w:=fun c=>(leaveC_n n L.t c).2.2.2
 refine ⟨⟨?_,?_,?_,?_,?_,?_,ok.t0,ok.ts,?_,?_,?_,?_⟩,?_⟩
 ·show ((L.cs.map (leaveC n L.t)).map Cf.n).Nodup
  rw [map_keep (fun c=>(leaveC_n n L.t c).1)];exact ok.nd
 ·intro c hc;obtain ⟨c0,h0,rfl⟩:=mem c hc;rw [hw];exact ok.ne c0 h0
 ·intro c hc l hl;obtain ⟨c0,h0,rfl⟩:=mem c hc;rw [hw] at hl;exact ok.le c0 h0 l hl
 ·intro c hc l hl;obtain ⟨c0,h0,rfl⟩:=mem c hc;rw [hw] at hl;exact ok.ck c0 h0 l hl
 ·intro c hc;obtain ⟨c0,h0,rfl⟩:=mem c hc;rw [hw];exact ok.len c0 h0
 ·intro c hc q e
  obtain ⟨c0,h0,rfl⟩:=mem c hc
  unfold leaveC at e
  split at e
  ·cases e;exact ⟨ok.ts,Rat.le_refl⟩
  ·exact ok.gz c0 h0 q e
 ·show (L.cs.map (leaveC n L.t)).length≤100
  rw [List.length_map];exact ok.many
 ·intro m
  rw [hfs]
  show m∈L.row.filter _↔_
  rw [List.mem_filter,ok.rm,List.mem_map,List.mem_map]
  constructor
  ·rintro ⟨⟨x,hx,rfl⟩,k⟩;exact ⟨x,List.mem_filter.mpr ⟨hx,k⟩,rfl⟩
  ·rintro ⟨x,hx,rfl⟩;exact ⟨⟨x,(List.mem_filter.mp hx).1,rfl⟩,(List.mem_filter.mp hx).2⟩
 ·exact ok.rn.sublist List.filter_sublist
 ·exact Nat.le_trans (List.length_filter_le _ _) ok.rl
 ·rw [hfs]
  show L.row.filter _=_
  rw [ordQ_filter ok.fnd,← ok.row]
theorem firstAt {α:Type} [DecidableEq α]:∀ {l:List α} {x:α},x∈l→∃ j:Nat,l[j]?=some x∧∀ m:Nat,m < j→l[m]?≠some x
 | y :: l,x,h=>by
  by_cases e:y=x
  ·exact ⟨0,by rw [e];rfl,fun m hm=>by omega⟩
  ·rcases List.mem_cons.mp h with h | h
   ·exact absurd h.symm e
   ·obtain ⟨j,h1,h2⟩:=firstAt h
    refine ⟨j + 1,h1,fun m hm=>?_⟩
    cases m with
    | zero=>intro z;exact e (Option.some.inj z)
    | succ m=>exact h2 m (by omega)
abbrev s_Lane_leave:Stmt:=(L2.inClass (top 42) 2)
theorem sc_Lane_leave:L2.FnScope ["self","name"] ["self","name"] (L2.defScope s_Lane_leave):=⟨rfl,rfl,rfl,by decide +kernel,rfl,by decide +kernel,by decide +kernel⟩
def spNLeave (cN cL eC:Addr):Spr:=fun xs J Q E=>∃ p L n,xs=[.ref p,.str n]∧LnAt cN cL J p L∧LnOk L∧(n ∉ L.row→E eC J)∧(n∈L.row→∀ J' L',LnAt cN cL J' p L'→LnOk L'→L'.cs=L.cs.map (leaveC n L.t)→L'.t=L.t→Mv J J' (L.own p) (L'.own p)→Q .non J')
theorem ok_Lane_leave {cN cL eC f:Addr} {fd:FuncData} (F:Fun K "leave" "Lane.leave" s_Lane_leave f fd) (Z:BltR mg) (KD_Lane:KDef K mg "Lane" cN) (NA_Lane_logs:NoAttr K cN "logs") (NA_Lane_now:NoAttr K cN "now") (NA_Lane_row:NoAttr K cN "row") (m_Lane_must_be_there:MthR P w K mg base cN 1 "must_be_there" ["self","name"] (spNMust cN cL eC)) (m_Log_leave:MthR P w K mg base cL 1 "leave" ["self","moment"] (spLLeave cL)):FnOk P w K mg base (Fly P w) 2 f fd ["self","name"] (LSp K (spNLeave cN cL eC)):=by
 refine okR F sc_Lane_leave (fun xs J Q E h=>?_) (fun cdv A outer s H E G xs J Q E2 hr h B=>?_)
 ·obtain ⟨p,L,n,rfl,_⟩:=h;rfl
 obtain ⟨p,L,n,rfl,b,ok,qc,q⟩:=h
 have bo:=b.ob
 have bd:=b.dc
 refine ⟨_,(rb_cons (rs_expr (re_meth (pl:=_) m_Lane_must_be_there B hr (by decide) (rv 0) (ra_cons (rv 1) ra_nil)))
   (rb_cons (rs_expr (re_meth (pl:=_) m_Log_leave B hr (by decide) (re_ix iq_ixD (re_fld KD_Lane.cl NA_Lane_logs (rv 0)) (rv 1) (fun _ _=>rfl)) (ra_cons (re_fld KD_Lane.cl NA_Lane_now (rv 0)) ra_nil)))
   (rb_one (rs_expr (re_bm PySem.F.plainAttrs_list PySem.F.slot_list_remove PySem.F.type_list_remove mq_remove (re_fld KD_Lane.cl NA_Lane_row (rv 0)) (ra_cons (rv 1) ra_nil)))))),?_⟩
 simp_all! only [bo]
 refine ⟨lkNn _ _ _ _,p,L,n,rfl,b,fun hn=>?_,qc⟩
 obtain ⟨c,hc,rfl,hg⟩:=ok.found hn
 have lo:=(b.lg c hc).o
 simp_all! only [bo,lkN1,lkN2,bd,ok.va hc,lo]
 refine ⟨lkL2 _ _,c.a,c.r,c.w,c.g,L.t,rfl,b.lg c hc,?_⟩
 simp_all! only [put_ne (Ne.symm (b.nap hc)),bo,lkN3,put_ne (Ne.symm (b.nao hc)),b.rw]
 obtain ⟨j,h1,h2⟩:=firstAt hn
 refine ⟨L.row,rfl,j,h1,h2,?_⟩
 rw [erase_filter ok.rn h1]
 have hn':=leaveC_n c.n L.t
 have ok1:=ok.leave c.n
 refine q hn _ { L with cs:=L.cs.map (leaveC c.n L.t),row:=L.row.filter fun x=>decide (x≠c.n) } ⟨?_,?_,put_same,fun x hx=>?_,?_,fun x hx=>?_⟩ ok1 rfl rfl ?_
 ·rw [put_ne (Ne.symm b.nop),put_ne (Ne.symm (b.nap hc))];exact bo
 ·show put (put J c.a _) L.o _ L.d=_
  rw [put_ne b.ndo,put_ne (Ne.symm (b.nad hc)),bd]
  show _=some (HQ.dct ((L.cs.map (leaveC c.n L.t)).map fun c=>(c.n,PV.ref c.a)) L.e)
  rw [map_keep (f:=fun c:Cf=>(c.n,PV.ref c.a)) (fun x=>by rw [(hn' x).1,(hn' x).2.1])]
 ·obtain ⟨x0,h0,rfl⟩:=List.mem_map.mp hx
  have hl:=b.lg x0 h0
  refine ⟨?_,?_⟩
  ·rw [(hn' x0).2.1,(hn' x0).2.2.1,put_ne (b.nao h0)]
   by_cases e:x0.n=c.n
   ·have:x0=c:=ok.uniq h0 hc e
    subst this
    rw [put_same]
    unfold leaveC;rw [if_pos rfl];rfl
   ·have ha:x0.a≠c.a:=fun z=>by
     have hh:=hl.o
     have hh2:=(b.lg c hc).o
     rw [z,hh2] at hh
     have hrr:c.r=x0.r:=by
      have h3:=(HQ.ins.inj (Option.some.inj hh)).2
      have h4:=(List.cons.inj h3).1
      have h5:=(Prod.mk.inj h4).2
      exact PV.ref.inj h5
     obtain ⟨i,hi,rfl⟩:=List.getElem_of_mem h0
     obtain ⟨j',hj',rfl⟩:=List.getElem_of_mem hc
     have:=(List.getElem_inj (xs:=L.cs.map Cf.r) (i:=i) (j:=j') (h₀:=by simpa using hi) (h₁:=by simpa using hj') b.ap).mp (by rw [List.getElem_map,List.getElem_map];exact hrr.symm)
     subst this;exact e rfl
    rw [put_ne ha]
    unfold leaveC;rw [if_neg e];exact hl.o
  ·rw [(hn' x0).2.2.1,(hn' x0).2.2.2,put_ne (b.ao x0 h0),put_ne (fun z=>by have h3:=hl.l;rw [z,lo] at h3;cases h3)];exact hl.l
 ·show ((L.cs.map (leaveC c.n L.t)).map Cf.r).Nodup
  rw [map_keep (fun x=>(hn' x).2.2.1)];exact b.ap
 ·obtain ⟨x0,h0,rfl⟩:=List.mem_map.mp hx
  rw [(hn' x0).2.2.1];exact b.ao x0 h0
 ·have own':∀ a,Ln.own { L with cs:=L.cs.map (leaveC c.n L.t),row:=L.row.filter fun x=>decide (x≠c.n) } p a→L.own p a:=fun a h=>by
   rcases h with h | h | h | ⟨x,hx,h⟩
   ·exact .inl h
   ·exact .inr (.inl h)
   ·exact .inr (.inr (.inl h))
   ·obtain ⟨c0,h0,rfl⟩:=List.mem_map.mp hx
    rw [(hn' c0).2.1,(hn' c0).2.2.1] at h
    exact .inr (.inr (.inr ⟨c0,h0,h⟩))
  refine (mv_put (S':=L.own p) (.inr (.inr (.inr ⟨c,hc,.inl rfl⟩))) fun a h=>.inl h).trans (mv_put (.inr (.inr (.inl rfl))) fun a h=>.inl (own' a h))
abbrev s_names:Stmt:=(top 48)
theorem sc_names:L2.FnScope ["_law_cell_here","_law_many","_law_signs","_law_row","_law_some","_law_body","_law_at_here","_law_out","_law_k"] ["_law_cell_here","_law_many"] (L2.defScope s_names):=⟨rfl,rfl,rfl,by decide +kernel,rfl,by decide +kernel,by decide +kernel⟩
def spNames:Sp:=fun vs H Q _=>∃ c m:Int,vs=[.int c,.int m]∧0≤m∧m≤36∧∀ (r:Addr) (H':Hp) (xs:List Str),H r=none→Same H H'→H' r=some (.lst (xs.map V.str))→(xs.length:Int)=m→xs.Nodup→(∀ x∈xs,good x=true)→Q (.ref r) H'
def menu:List Str:=["m","ab","a","zebra9","b0","0","abc","9zz","q7q7q7q7","aa","z","a1b2c3d4"]
def alphabet:Str:="abcdefghijklmnopqrstuvwxyz0123456789"
theorem menu_nd:menu.Nodup:=by decide +kernel
theorem alpha_nd:alphabet.cps.toList.Nodup:=by decide +kernel
theorem alpha_len:alphabet.cps.toList.length=36:=by decide +kernel
theorem atI_in {α:Type} {xs:List α} {j:Int} (h0:0≤j) (h1:j < xs.length):atI xs j=some (xs[j.toNat]'(by omega)):=by
 have h:=atI_nat (xs:=xs) (j:=j.toNat) (List.getElem?_eq_getElem (by omega))
 rw [show ((j.toNat:Nat):Int)=j by omega] at h
 exact h
def pick (d:Int) (k:Nat):Str:=menu.getD ((d + 5 * (k:Int)) % 12).toNat ""
theorem pick_at (d:Int) (k:Nat):atI (menu.map V.str) ((d + 5 * (k:Int)) % 12)=some (.str (pick d k)):=by
 have h0:=Int.emod_nonneg (d + 5 * (k:Int)) (show (12:Int)≠0 by decide)
 have h1:=Int.emod_lt_of_pos (d + 5 * (k:Int)) (show (0:Int) < 12 by decide)
 have hl:(menu.map V.str).length=12:=by decide +kernel
 have hm:menu.length=12:=by decide +kernel
 rw [atI_in h0 (by rw [hl];exact h1),List.getElem_map]
 unfold pick
 rw [List.getD_eq_getElem?_getD,List.getElem?_eq_getElem (by omega)]
 rfl
theorem nodup_get {α:Type} {xs:List α} (h:xs.Nodup) {i j:Nat} (hi:i < xs.length) (hj:j < xs.length) (e:xs[i]=xs[j]):i=j:=(List.getElem_inj h).mp e
theorem picks_nd (d:Int) {m:Nat} (hm:m≤12):((List.range m).map (pick d)).Nodup:=by
 have hl:menu.length=12:=by decide +kernel
 refine List.Pairwise.map (R:=fun i j=>i < 12∧j < 12∧i≠j) _ (fun i j ⟨a,b,c⟩ e=>?_) ?_
 ·unfold pick at e
  have h0:=Int.emod_nonneg (d + 5 * (i:Int)) (show (12:Int)≠0 by decide)
  have h1:=Int.emod_lt_of_pos (d + 5 * (i:Int)) (show (0:Int) < 12 by decide)
  have h2:=Int.emod_nonneg (d + 5 * (j:Int)) (show (12:Int)≠0 by decide)
  have h3:=Int.emod_lt_of_pos (d + 5 * (j:Int)) (show (0:Int) < 12 by decide)
  rw [List.getD_eq_getElem?_getD,List.getElem?_eq_getElem (by omega),List.getD_eq_getElem?_getD,List.getElem?_eq_getElem (by omega)] at e
  have:=nodup_get menu_nd (by omega) (by omega) e
  omega
 ·refine List.Pairwise.imp_of_mem (R:=fun i j=>i≠j) (fun {i j} hi hj ne=>?_) (List.nodup_range)
  rw [List.mem_range] at hi hj
  exact ⟨by omega,by omega,ne⟩
theorem menu_good:∀ x∈menu,good x=true:=by decide +kernel
theorem alpha_good:∀ c∈alphabet.cps.toList,signIn alphabet36 c=true:=by decide +kernel
theorem pick_good (d:Int) (k:Nat):good (pick d k)=true:=by
 have h0:=Int.emod_nonneg (d + 5 * (k:Int)) (show (12:Int)≠0 by decide)
 have h1:=Int.emod_lt_of_pos (d + 5 * (k:Int)) (show (0:Int) < 12 by decide)
 have hm:menu.length=12:=by decide +kernel
 unfold pick
 rw [List.getD_eq_getElem?_getD,List.getElem?_eq_getElem (by omega)]
 exact menu_good _ (List.getElem_mem _)
theorem good_of {cs:List Nat} (h0:0 < cs.length) (h1:cs.length≤8) (h:∀ c∈cs,signIn alphabet36 c=true):good ⟨cs.toArray⟩=true:=by
 unfold good
 rw [Bool.and_eq_true,Bool.and_eq_true]
 refine ⟨⟨decide_eq_true ?_,decide_eq_true ?_⟩,List.all_eq_true.mpr fun c hc=>h c (by simpa using hc)⟩
 ·show 1≤cs.toArray.size;rw [List.size_toArray];omega
 ·show cs.toArray.size≤8;rw [List.size_toArray];omega
def sign (d:Int) (k:Nat):Nat:=alphabet.cps.toList.getD ((d + 5 * (k:Int)) % 36).toNat 0
theorem sign_at (d:Int) (k:Nat):atI alphabet.cps.toList ((d + 5 * (k:Int)) % 36)=some (sign d k):=by
 have h0:=Int.emod_nonneg (d + 5 * (k:Int)) (show (36:Int)≠0 by decide)
 have h1:=Int.emod_lt_of_pos (d + 5 * (k:Int)) (show (0:Int) < 36 by decide)
 have hl:=alpha_len
 rw [atI_in h0 (by rw [hl];exact h1)]
 unfold sign
 rw [List.getD_eq_getElem?_getD,List.getElem?_eq_getElem (by omega)]
 rfl
theorem sign_good (d:Int) (k:Nat):signIn alphabet36 (sign d k)=true:=by
 have h0:=Int.emod_nonneg (d + 5 * (k:Int)) (show (36:Int)≠0 by decide)
 have h1:=Int.emod_lt_of_pos (d + 5 * (k:Int)) (show (0:Int) < 36 by decide)
 have hl:=alpha_len
 unfold sign
 rw [List.getD_eq_getElem?_getD,List.getElem?_eq_getElem (by omega)]
 exact alpha_good _ (List.getElem_mem _)
theorem sign_inj (d:Int) {i j:Nat} (hi:i < 36) (hj:j < 36) (e:sign d i=sign d j):i=j:=by
 have h0:=Int.emod_nonneg (d + 5 * (i:Int)) (show (36:Int)≠0 by decide)
 have h1:=Int.emod_lt_of_pos (d + 5 * (i:Int)) (show (0:Int) < 36 by decide)
 have h2:=Int.emod_nonneg (d + 5 * (j:Int)) (show (36:Int)≠0 by decide)
 have h3:=Int.emod_lt_of_pos (d + 5 * (j:Int)) (show (0:Int) < 36 by decide)
 have hl:=alpha_len
 unfold sign at e
 rw [List.getD_eq_getElem?_getD,List.getElem?_eq_getElem (by omega),List.getD_eq_getElem?_getD,List.getElem?_eq_getElem (by omega)] at e
 have:=nodup_get alpha_nd (by omega) (by omega) e
 omega
theorem texts_nd {d:Int} {n:Nat} {xs:List Str} (hl:xs.length≤36) (h:∀ k x,xs[k]?=some x→x.cps.toList[n]?=some (sign d k)):xs.Nodup:=by
 refine List.pairwise_iff_getElem.mpr fun i j hi hj hij e=>?_
 have a:=h i _ (List.getElem?_eq_getElem hi)
 have b:=h j _ (List.getElem?_eq_getElem hj)
 rw [e] at a
 rw [a] at b
 have:=sign_inj d (by omega) (by omega) (Option.some.inj b)
 omega
theorem cut_take {xs:List V} {k:Int} (h:0≤k):cutV xs none (some k)=xs.take k.toNat:=by
 obtain ⟨j,rfl⟩:∃ j:Nat,k=(j:Int):=⟨k.toNat,by omega⟩
 unfold cutV
 rw [HT.sIx_none,HT.sIx_nat,List.drop_zero,Int.toNat_natCast]
 rcases Nat.le_total j xs.length with e | e
 ·rw [Nat.min_eq_left e]
  rfl
 ·rw [Nat.min_eq_right e,Nat.sub_zero,List.take_of_length_le (Nat.le_refl _),List.take_of_length_le e]
theorem ones_sum (cs:List Nat):((cs.map one).map (·.length)).sum=cs.length:=by
 induction cs with
 | nil=>rfl
 | cons c cs ih =>
  rw [List.map_cons,List.map_cons,List.sum_cons,ih,List.length_cons]
  show 1 + cs.length=cs.length + 1
  omega
theorem ite_two {p q a b:Prop} [Decidable p] [Decidable q]:(if p then if q then a else b else b)=if p∧q then a else b:=by by_cases hp:p <;> by_cases hq:q <;> simp [hp,hq]
theorem ok_names {f:Addr} {fd:FuncData} (F:Fun K "_law_names" "_law_names" s_names f fd) (Z:Blt mg) (C_digits:Can P w K mg base 1 "_law_digits" ["_law_cell_here","_law_sizes"] (spDigits K)):FnOk P w K mg base CX0 2 f fd ["_law_cell_here","_law_many"] spNames:=by
 refine F.ok sc_names (fun vs H Q E h=>?_) (fun cdv A outer s H vs Q E hr h=>?_)
 ·obtain ⟨c,m,rfl,_⟩:=h
  rfl
 obtain ⟨c,m,rfl,m0,m1,q⟩:=h
 refine ⟨_,(QB.run (pss_cons (ps_set (i:=2) sc_names.nd rfl (Or.inr rfl) pe_str)
   (pss_cons (ps_set (i:=3) sc_names.nd rfl (Or.inr rfl) (pe_fn C_digits hr (by decide) rfl (pa_cons (pv 0) (pa_cons (pe_lst (pa_cst [.int 3,.int 36,.int 8,.int 36,.int 36,.int 36,.int 36,.int 36,.int 36,.int 36,.int 36,.int 840] rfl)) pa_nil))))
   (pss_cons (ps_if (pw_pt (pw_and (pt_cmpR op_eq (pe_ix ix_listH (pv 3) pe_int (fun _ _=>rfl)) pe_int (nomark _)) (pw_and1 (pt_cmpR op_le (pv 1) pe_int (nomark _))))) (pss_cons (ps_set (i:=4) sc_names.nd rfl (Or.inr rfl) (pe_lst (pa_cst [.str "m",.str "ab",.str "a",.str "zebra9",.str "b0",.str "0",.str "abc",.str "9zz",.str "q7q7q7q7",.str "aa",.str "z",.str "a1b2c3d4"] rfl)))
   (pss_one (ps_ret (pe_comp (defScope s_names) ["_law_cell_here","_law_many","_law_signs","_law_row","_law_some","_law_body","_law_at_here","_law_out","_law_k"] [("_law_row",3),("_law_some",4)] rfl rfl rfl (pi_range1 rfl Z.range (pa_cons (pv 1) pa_nil)) (fun _ _ _ _ _ _=>(pe_ix ix_listH (pv 2) (pe_op op_mod (pe_op op_add (pe_ix ix_listH (pv 1) pe_int (fun _ _=>rfl)) (pe_op op_mulB pe_int (pv 0))) pe_int) (fun _ _=>rfl))))))) pss_nil)
   (pss_cons (ps_comp (i:=5) (defScope s_names) ["_law_cell_here","_law_many","_law_signs","_law_row","_law_some","_law_body","_law_at_here","_law_out","_law_k"] [("_law_signs",2)] rfl rfl rfl sc_names.nd rfl (Or.inl rfl) (pi_list (pe_slice sl_list (pv 3) (po_some pe_int) (po_some pe_int))) (fun _ _ _ _ _ _=>(pe_ix ix_str (pv 1) (pv 0) (fun _ _=>rfl))))
   (pss_join (ps_if (pt_cmpR op_eq (pe_ix ix_listH (pv 3) pe_int (fun _ _=>rfl)) pe_int (nomark _)) (pss_one (ps_set (i:=5) sc_names.nd rfl (Or.inl rfl) (pe_slice sl_list (pv 5) po_none (po_some (pe_op op_add (pe_ix ix_listH (pv 3) pe_int (fun _ _=>rfl)) pe_int))))) pss_nil)
   (pss_cons (ps_set (i:=6) sc_names.nd rfl (Or.inl rfl) (pe_op op_mod (pe_ix ix_listH (pv 3) pe_int (fun _ _=>rfl)) (pe_callB call_len_seq rfl Z.len boot_len (pa_cons (pv 5) pa_nil))))
   (pss_cons (ps_set (i:=7) sc_names.nd rfl (Or.inl rfl) (pe_lst pa_nil))
   (pss_cons (ps_for PassesOwn.never rfl (pi_range1 rfl Z.range (pa_cons (pv 1) pa_nil)) (pg_name (i:=8) sc_names.nd rfl (Or.inl rfl)) (pss_cons (ps_asg (pe_ix ix_str (pv 2) (pe_op op_mod (pe_op op_add (pe_ix ix_listH (pv 3) pe_int (fun _ _=>rfl)) (pe_op op_mulB pe_int (pv 8))) pe_int) (fun _ _=>rfl)) (pg_sub (pv 5) (pv 6) set_list))
   (pss_one (ps_expr (pe_bm PySem.F.plainAttrs_list PySem.F.slot_list_append PySem.F.type_list_append mt_append (pv 7) (pa_cons (pe_bm PySem.F.plainAttrs_str PySem.F.slot_str_join PySem.F.type_str_join mt_join pe_str (pa_cons (pv 5) pa_nil)) pa_nil))))))
   (pss_one (ps_ret (pv 7)))))))))))),?_⟩
 refine ⟨_,rfl,(by show 12≤sizeLine;decide),fun p hp=>?_⟩
 have ss:∀ s∈([3,36,8,36,36,36,36,36,36,36,36,840]:List Int),0 < s∧Bd 9000 s:=fun s hs=>by
  simp only [List.mem_cons,List.not_mem_nil,or_false] at hs
  have:0 < s∧s < 1000:=by omega
  exact ⟨this.1,(Bd.small (by omega) (by omega)).mono (by decide)⟩
 refine ⟨c,p,[3,36,8,36,36,36,36,36,36,36,36,840],rfl,SqL.of upd_same,ss,by decide,fun r H1 ds _ g1 hr1 hD=>?_⟩
 obtain ⟨d0,ds,rfl,d00,d01,hD⟩:=hD.cons
 obtain ⟨d1,ds,rfl,d10,d11,hD⟩:=hD.cons
 obtain ⟨d2,ds,rfl,d20,d21,hD⟩:=hD.cons
 obtain ⟨e0,ds,rfl,e00,e01,hD⟩:=hD.cons
 obtain ⟨e1,ds,rfl,e10,e11,hD⟩:=hD.cons
 obtain ⟨e2,ds,rfl,e20,e21,hD⟩:=hD.cons
 obtain ⟨e3,ds,rfl,e30,e31,hD⟩:=hD.cons
 obtain ⟨e4,ds,rfl,e40,e41,hD⟩:=hD.cons
 obtain ⟨e5,ds,rfl,e50,e51,hD⟩:=hD.cons
 obtain ⟨e6,ds,rfl,e60,e61,hD⟩:=hD.cons
 obtain ⟨e7,ds,rfl,e70,e71,hD⟩:=hD.cons
 obtain ⟨d11,ds,rfl,d110,d111,hD⟩:=hD.cons
 cases hD.nil
 have g1:=(Same.new hp _).trans g1
 dsimp! only [rJoin,hr1]
 rw [ite_two]
 split
 ·refine ⟨(by show 12≤sizeLine;decide),fun p2 hp2=>?_⟩
  have g2:=Same.new hp2 (.lst (menu.map V.str))
  have h2:(upd H1 p2 (.lst (menu.map V.str))) p2=some (.lst (menu.map V.str)):=upd_same
  have hr2:=g2 _ _ hr1
  refine ⟨_,rfl,m,rfl,by omega,by omega,fun D hD=>?_⟩
  refine lc_range (lo:=0) (n:=m.toNat) (fun i H'=>Same (upd H1 p2 (.lst (menu.map V.str))) H'∧H' D=some (.lst (((List.range i).map (pick d1)).map V.str))) ⟨Same.new hD _,upd_same⟩ ?_ ?_
  ·rintro i H' R hi ⟨g,hd⟩ k
   have hr3:=g _ _ hr2
   have h3:=g _ _ h2
   dsimp! only [rJoin,hr3,h3,Int.zero_add]
   refine ⟨.of (Bd.small (by decide) (by decide)) (Bd.small (x:=(i:Int)) (by omega) (by omega)),_,pick_at d1 i,?_⟩
   refine k _ _ _ hd (by rw [List.length_map,List.length_map,List.length_range];exact small1000 (by omega)) ⟨g.rew hD _,?_⟩
   rw [upd_same]
   simp [List.range_succ]
  ·rintro H' ⟨g,hd⟩
   exact q D H' _ (g1.free (g2.free hD)) (g1.trans (g2.trans g)) hd (by rw [List.length_map,List.length_range];omega) (picks_nd d1 (by omega)) (fun x hx=>by obtain ⟨k,_,rfl⟩:=List.mem_map.mp hx;exact pick_good d1 k)
 refine ⟨_,rfl,3,rfl,11,rfl,r,_,rfl,SqL.of hr1,fun p2 hp2=>⟨p2,rfl,⟨_,SqL.of upd_same⟩,fun D hD=>?_⟩⟩
 have g2:=Same.new hp2 (.lst [.int e0,.int e1,.int e2,.int e3,.int e4,.int e5,.int e6,.int e7])
 have hr2:=g2 _ _ hr1
 have h2:(upd H1 p2 (.lst [.int e0,.int e1,.int e2,.int e3,.int e4,.int e5,.int e6,.int e7])) p2=some (.lst ([e0,e1,e2,e3,e4,e5,e6,e7].map V.int)):=upd_same
 have be:∀ e∈[e0,e1,e2,e3,e4,e5,e6,e7],0≤e∧e < 36:=fun e he=>by
  simp only [List.mem_cons,List.not_mem_nil,or_false] at he
  omega
 have al:=alpha_len
 have al2:alphabet.length≤sizeLine:=by decide +kernel
 refine lc_list (K:=K) (a:=p2) (xs:=[e0,e1,e2,e3,e4,e5,e6,e7].map V.int) (fun i H'=>Same (upd H1 p2 (.lst [.int e0,.int e1,.int e2,.int e3,.int e4,.int e5,.int e6,.int e7])) H'∧∃ cs:List Nat,cs.length=i∧(∀ c∈cs,signIn alphabet36 c=true)∧H' D=some (.lst ((cs.map one).map V.str)))
  ⟨Same.new hD _,[],rfl,(fun c hc=>by cases hc),upd_same⟩ (fun i H' _ ⟨g,_⟩=>SqL.of (g _ _ h2)) ?_ ?_
 ·rintro i y H' R hi ⟨g,cs,hcs,hca,hd⟩ k
  have hil:=(List.getElem?_eq_some_iff.mp hi).1
  obtain ⟨z,rfl,hz⟩:=int_of_map hi
  obtain ⟨z0,z1⟩:=be z (List.mem_of_getElem? hz)
  have at1:=atI_in (xs:=alphabet.cps.toList) z0 (by rw [al];exact z1)
  dsimp! only [rJoin]
  refine ⟨al2,_,at1,?_⟩
  refine k _ _ _ hd (by rw [List.length_map,List.length_map,hcs];simp only [List.length_map,List.length_cons,List.length_nil] at hil;exact small1000 (by omega)) ⟨g.rew hD _,cs ++ [alphabet.cps.toList[z.toNat]'(by rw [al];omega)],by rw [List.length_append,hcs];rfl,?_,?_⟩
  ·intro c hc
   rcases List.mem_append.mp hc with hc | hc
   ·exact hca c hc
   ·rw [List.mem_singleton] at hc;subst hc;exact alpha_good _ (List.getElem_mem _)
  rw [upd_same,List.map_append,List.map_append]
  rfl
 rintro H2 ⟨g,cs,hcs,hca,hd⟩
 have hr3:=g _ _ hr2
 have g:=g1.trans (g2.trans g)
 have hcs:cs.length=8:=hcs
 obtain ⟨M,hM⟩:∃ M:L2.St→Hp→Prop,∀ σ' H',M σ' H'↔∃ (D:Addr) (cs:List Nat),σ'=[some (.int c),some (.int m),some (.str alphabet),some (.ref r),none,some (.ref D),none,none,none]∧Same H H'∧H D=none∧H' r=some (.lst ([d0,d1,d2,e0,e1,e2,e3,e4,e5,e6,e7,d11].map V.int))∧D≠r∧0 < cs.length∧cs.length≤8∧(∀ c∈cs,signIn alphabet36 c=true)∧H' D=some (.lst ((cs.map one).map V.str)):=⟨_,fun _ _=>Iff.rfl⟩
 have fD:H D=none:=g1.free (g2.free hD)
 have nDr:D≠r:=(ne_of_none hr2 hD).symm
 refine ⟨M,?_,?_⟩
 ·dsimp! only [rJoin,hr3]
  split
  ·refine ⟨_,SqL.of hd,fun p4 hp4=>(hM _ _).mpr ⟨p4,cs.take (d2 + 1).toNat,rfl,g.trans (Same.new hp4 _),g.free hp4,?_,?_,?_,?_,(fun c hc=>hca c (List.mem_of_mem_take hc)),?_⟩⟩
   ·exact (Same.new hp4 _) _ _ hr3
   ·exact (ne_of_none hr3 hp4).symm
   ·rw [List.length_take];omega
   ·rw [List.length_take];omega
   ·rw [upd_same,cut_take (by omega),List.map_take,List.map_take]
  ·exact (hM _ _).mpr ⟨D,cs,rfl,g,fD,hr3,nDr,by omega,by omega,hca,hd⟩
 clear hca hd hr3 g fD nDr hcs
 intro σ5 H5 hm
 obtain ⟨D,cs,rfl,g,fD,hr3,nDr,l0,l1,hca,hd⟩:=(hM _ _).mp hm
 clear hm hM M
 have e0s:(Str.ofString "").length=0:=by decide +kernel
 have hl:((cs.map one).map V.str).length=cs.length:=by rw [List.length_map,List.length_map]
 have hlp:(0:Int) < (((cs.map one).map V.str).length:Nat):=by rw [hl];omega
 have a0:=Int.emod_nonneg d11 (show (((cs.map one).map V.str).length:Int)≠0 by omega)
 have a1:=Int.emod_lt_of_pos d11 hlp
 have at11:atI ([d0,d1,d2,e0,e1,e2,e3,e4,e5,e6,e7,d11].map V.int) 11=some (.int d11):=atI_nat (j:=11) rfl
 refine ⟨_,rfl,r,_,11,_,rfl,rfl,hr3,at11,_,rfl,D,rfl,_,.inl (SqL.of hd),_,_,rfl,rfl,hlp,?_⟩
 generalize hat:d11 % (((cs.map one).map V.str).length:Int)=at' at a0 a1
 rw [hl] at a1
 refine ⟨Nat.zero_le _,fun O hO=>?_⟩
 have gO:=Same.new hO (.lst [])
 have nOD:O≠D:=(ne_of_none hd hO).symm
 have nOr:O≠r:=(ne_of_none hr3 hO).symm
 have fO:H O=none:=g.free hO
 refine ⟨_,rfl,m,rfl,by omega,by omega,for_range (lo:=0) (n:=m.toNat) (fun i σ H'=>∃ (v:Option V) (cs':List Nat) (xs:List Str),σ=[some (.int c),some (.int m),some (.str alphabet),some (.ref r),none,some (.ref D),some (.int at'),some (.ref O),v] ∧
  Same H H'∧H' r=some (.lst ([d0,d1,d2,e0,e1,e2,e3,e4,e5,e6,e7,d11].map V.int))∧cs'.length=cs.length∧(∀ c∈cs',signIn alphabet36 c=true)∧H' D=some (.lst ((cs'.map one).map V.str))∧H' O=some (.lst (xs.map V.str))∧xs.length=i∧(∀ x∈xs,good x=true)∧∀ k x,xs[k]?=some x→x.cps.toList[at'.toNat]?=some (sign d1 k)) ?_ ?_ ?_⟩
 ·exact ⟨none,cs,[],by rw [← hat];rfl,g.trans gO,gO _ _ hr3,rfl,hca,gO _ _ hd,upd_same,rfl,(fun x hx=>by cases hx),fun k x e=>by cases e⟩
 ·rintro i σ H' hi ⟨v,cs',xs,rfl,g',hr',hl',hca',hd',ho',hx,hxl,hs⟩
  have at1:atI ([d0,d1,d2,e0,e1,e2,e3,e4,e5,e6,e7,d11].map V.int) 1=some (.int d1):=atI_nat (j:=1) rfl
  have al2:alphabet.length≤sizeLine:=by decide +kernel
  have sg:=sign_at d1 i
  refine ⟨_,rfl,_,rfl,r,_,1,_,rfl,rfl,hr',at1,_,rfl,_,_,rfl,rfl,.of (Bd.small (by decide) (by decide)) (Bd.small (x:=0 + (i:Int)) (by omega) (by omega)),_,_,rfl,rfl,_,_,rfl,rfl,(show (0:Int) < 36 by decide),_,_,_,rfl,rfl,al2,(by rw [Int.zero_add];exact sg),?_⟩
  have ix:ixN ((cs'.map one).map V.str).length at'=some at'.toNat:=by
   unfold ixN
   rw [if_pos a0,if_pos (by rw [List.length_map,List.length_map,hl'];exact a1)]
  refine ⟨_,rfl,_,rfl,D,_,at',_,rfl,rfl,hd',ix,?_⟩
  have es:((cs'.map one).map V.str).set at'.toNat (.str ⟨#[sign d1 i]⟩)=((cs'.set at'.toNat (sign d1 i)).map one).map V.str:=by
   rw [List.map_set,List.map_set]
   rfl
  have gD:=Same.rew fD g' (.lst (((cs'.map one).map V.str).set at'.toNat (.str ⟨#[sign d1 i]⟩)))
  have hD2:(upd H' D (.lst (((cs'.map one).map V.str).set at'.toNat (.str ⟨#[sign d1 i]⟩)))) D=some (.lst (((cs'.set at'.toNat (sign d1 i)).map one).map V.str)):=by rw [upd_same,es]
  have hr2:(upd H' D (.lst (((cs'.map one).map V.str).set at'.toNat (.str ⟨#[sign d1 i]⟩)))) r=_:=(upd_ne nDr.symm).trans hr'
  have ho2:(upd H' D (.lst (((cs'.map one).map V.str).set at'.toNat (.str ⟨#[sign d1 i]⟩)))) O=_:=(upd_ne nOD).trans ho'
  have lc:(cs'.set at'.toNat (sign d1 i)).length=cs.length:=by rw [List.length_set,hl']
  have hcn:∀ c∈cs'.set at'.toNat (sign d1 i),signIn alphabet36 c=true:=fun c hc=>by
   rcases List.mem_or_eq_of_mem_set hc with h | h
   ·exact hca' c h
   ·rw [h];exact sign_good d1 i
  refine ⟨_,rfl,.inl ⟨rfl,_,SqL.of ho2⟩,rfl,_,rfl,_,D,(cs'.set at'.toNat (sign d1 i)).map one,rfl,rfl,SqL.of hD2,?_,O,_,_,rfl,rfl,ho2,?_,?_⟩
  ·rw [ones_sum,List.length_map,lc,e0s]
   omega
  ·rw [List.length_map,hx]
   exact small1000 (by omega)
  ·rw [join_ones]
   refine ⟨_,cs'.set at'.toNat (sign d1 i),xs ++ [⟨(cs'.set at'.toNat (sign d1 i)).toArray⟩],rfl,gD.rew fO _,(upd_ne nOr.symm).trans hr2,lc,hcn,(upd_ne nOD.symm).trans hD2,?_,by rw [List.length_append,hx];rfl,?_,?_⟩
   ·rw [upd_same,List.map_append]
    rfl
   ·intro x hx2
    rcases List.mem_append.mp hx2 with h | h
    ·exact hxl x h
    ·simp only [List.mem_cons,List.not_mem_nil,or_false] at h
     subst h
     exact good_of (by rw [lc];exact l0) (by rw [lc];exact l1) hcn
   ·intro k x e
    rcases Nat.lt_or_ge k xs.length with hk | hk
    ·rw [List.getElem?_append_left hk] at e
     exact hs k x e
    ·rw [List.getElem?_append_right hk] at e
     have ek:k=i:=by
      cases hz:k - xs.length with
      | zero=>omega
      | succ z=>rw [hz] at e;cases e
     rw [show k - xs.length=0 by omega] at e
     have ex:=Option.some.inj e
     subst ex
     rw [ek]
     show (cs'.set at'.toNat (sign d1 i))[at'.toNat]?=some (sign d1 i)
     rw [List.getElem?_set_self (by omega)]
 ·rintro σ H' ⟨v,cs',xs,rfl,g',hr',hl',hca',hd',ho',hx,hxl,hs⟩
  exact ⟨_,rfl,q O H' xs fO g' ho' (by omega) (texts_nd (by omega) hs) hxl⟩
def spNamesR:Spr:=fun xs J Q _=>∃ c m:Int,xs=[.int c,.int m]∧0≤m∧m≤36∧∀ ns:List Str,(ns.length:Int)=m→ns.Nodup→(∀ x∈ns,good x=true)→Q (.fl (ns.map .str)) J
theorem reps_strs {K:PySem.W.Frag} {J:Hq} {H:Hp}:∀ ns:List Str,RepVs K J H (ns.map PV.str) (ns.map V.str)
 | []=>rfl
 | n :: ns=>⟨_,_,rfl,rfl,reps_strs ns⟩
theorem lift_names (C:Can P w K mg base 2 "_law_names" ["_law_cell_here","_law_many"] spNames):CanR P w K mg base 2 "_law_names" ["_law_cell_here","_law_many"] spNamesR:=C.lift fun xs J vs H Q2 E2 Q E rs r ⟨c,m,ex,h0,h1,q⟩ kn=>by
 subst ex
 obtain ⟨v,u,rfl,r1,r2⟩:=two_of rs
 cases r1;cases r2
 exact ⟨c,m,rfl,h0,h1,fun p H' ns hp s e hl nd lx=>kn (.fl (ns.map .str)) J (.ref p) H' ⟨p,_,rfl,.inl ⟨r.free hp,.inl e⟩,reps_strs ns⟩ (r.same s) (.same s) (q ns hl nd lx)⟩
abbrev s_whole:Stmt:=(top 46)
theorem sc_whole:L2.FnScope ["_law_found"] ["_law_found"] (L2.defScope s_whole):=⟨rfl,rfl,rfl,by decide +kernel,rfl,by decide +kernel,by decide +kernel⟩
def spWholeR:Spr:=fun xs J Q _=>∃ i:Int,xs=[.int i]∧Q (.bl true) J
theorem okr_whole {f:Addr} {fd:FuncData} (F:Fun K "_law_whole" "_law_whole" s_whole f fd) (Z:BltR mg):FnOk P w K mg base (Fly P w) 1 f fd ["_law_found"] (LSp K spWholeR):=by
 refine okR F sc_whole (fun xs J Q E h=>?_) (fun cdv A outer s H E G xs J Q E2 hr h B=>?_)
 ·obtain ⟨i,rfl,_⟩:=h;rfl
 obtain ⟨i,rfl,q⟩:=h
 refine ⟨_,(rb_one (rs_ret (re_and (re_callB cq_isi rfl Z.isinstance boot_isinstance (ra_cons (rv 0) (ra_cons (re_ty rfl Z.int boot_int) ra_nil))) (re_one (re_not (re_callB cq_isi rfl Z.isinstance boot_isinstance (ra_cons (rv 0) (ra_cons (re_ty rfl Z.bool boot_bool) ra_nil)))))))),?_⟩
 simp_arith! only [rSeq]
 exact q
abbrev s_placed:Stmt:=(top 49)
theorem sc_placed:L2.FnScope ["_law_number","_law_mode"] ["_law_number","_law_mode"] (L2.defScope s_placed):=⟨rfl,rfl,rfl,by decide +kernel,rfl,by decide +kernel,by decide +kernel⟩
def spPlacedR:Spr:=fun xs J Q _=>∃ n m:Int,xs=[.int n,.int m]∧0≤n∧∀ v:Int,v.natAbs≤1000000→Q (.int v) J
theorem okr_placed {f:Addr} {fd:FuncData} (F:Fun K "_law_placed" "_law_placed" s_placed f fd) (Z:BltR mg):FnOk P w K mg base (Fly P w) 1 f fd ["_law_number","_law_mode"] (LSp K spPlacedR):=by
 refine okR F sc_placed (fun xs J Q E h=>?_) (fun cdv A outer s H E G xs J Q E2 hr h B=>?_)
 ·obtain ⟨n,m,rfl,_⟩:=h;rfl
 obtain ⟨n,m,rfl,n0,q⟩:=h
 refine ⟨_,(rb_cons (rs_if (rt_cmp oq_lt (rv 1) re_int (L2.nomark _)) (rb_one (rs_ret (re_op oq_sub (re_op oq_mod (rv 0) re_int) re_int))) rb_nil)
   (rb_cons (rs_if (rt_cmp (oq_eq hr.units61) (rv 1) re_int (L2.nomark _)) (rb_one (rs_ret (re_op oq_sub (re_op oq_mod (rv 0) re_int) re_int))) rb_nil)
   (rb_one (rs_ret (re_op oq_sub (re_op oq_mod (rv 0) re_int) re_int))))),?_⟩
 simp_all! only []
 split
 ·simp_all! only [];exact ⟨by decide,q _ (by omega)⟩
 simp_all! only []
 split
 ·simp_all! only [];exact ⟨by decide,q _ (by omega)⟩
 ·simp_all! only [];exact ⟨by decide,q _ (by omega)⟩
abbrev s_paced:Stmt:=(top 50)
theorem sc_paced:L2.FnScope ["_law_number","_law_mode"] ["_law_number","_law_mode"] (L2.defScope s_paced):=⟨rfl,rfl,rfl,by decide +kernel,rfl,by decide +kernel,by decide +kernel⟩
def spPacedR:Spr:=fun xs J Q _=>∃ n m:Int,xs=[.int n,.int m]∧0≤n∧n < 2001∧∀ v:Int,v.natAbs≤1000→Q (.int v) J
theorem okr_paced {f:Addr} {fd:FuncData} (F:Fun K "_law_paced" "_law_paced" s_paced f fd) (Z:BltR mg):FnOk P w K mg base (Fly P w) 1 f fd ["_law_number","_law_mode"] (LSp K spPacedR):=by
 refine okR F sc_paced (fun xs J Q E h=>?_) (fun cdv A outer s H E G xs J Q E2 hr h B=>?_)
 ·obtain ⟨n,m,rfl,_⟩:=h;rfl
 obtain ⟨n,m,rfl,n0,n1,q⟩:=h
 refine ⟨_,(rb_cons (rs_if (rt_cmp oq_lt (rv 1) re_int (L2.nomark _)) (rb_one (rs_ret (re_op oq_sub (re_op oq_mod (rv 0) re_int) re_int))) rb_nil)
   (rb_cons (rs_if (rt_cmp (oq_eq hr.units61) (rv 1) re_int (L2.nomark _)) (rb_one (rs_ret (re_op oq_sub (re_op oq_mod (rv 0) re_int) re_int))) rb_nil)
   (rb_one (rs_ret (re_op oq_sub (re_op oq_mod (rv 0) re_int) re_int))))),?_⟩
 simp_all! only []
 split
 ·simp_all! only [];exact ⟨by decide,q _ (by omega)⟩
 simp_all! only []
 split
 ·simp_all! only [];exact ⟨by decide,q _ (by omega)⟩
 ·simp_all! only [];exact ⟨by decide,q _ (by omega)⟩
abbrev s_at:Stmt:=(top 53)
theorem sc_at:L2.FnScope ["_law_leg","_law_moment","_law_begun","_law_place","_law_way","_law_under"] ["_law_leg","_law_moment"] (L2.defScope s_at):=⟨rfl,rfl,rfl,by decide +kernel,rfl,by decide +kernel,by decide +kernel⟩
theorem okr_at {f:Addr} {fd:FuncData} (F:Fun K "_law_at" "_law_at" s_at f fd) (Z:BltR mg) (C_low:CanR P w K mg base 1 "_law_low" ["_law_top","_law_bottom"] spLowR):FnOk P w K mg base (Fly P w) 2 f fd ["_law_leg","_law_moment"] (LSp K spPlR):=by
 refine okR F sc_at (fun xs J Q E h=>?_) (fun cdv A outer s H E G xs J Q E2 hr h B=>?_)
 ·obtain ⟨l,t,rfl,_⟩:=h;rfl
 obtain ⟨l,m,rfl,sb,sp,sm,bv,q⟩:=h
 refine ⟨_,(rb_cons (rs_set (i:=2) sc_at.nd rfl (Or.inl rfl) (re_ix iq_ix (rv 0) re_int (fun _ _=>rfl)))
   (rb_cons (rs_set (i:=3) sc_at.nd rfl (Or.inl rfl) (re_ix iq_ix (rv 0) re_int (fun _ _=>rfl)))
   (rb_cons (rs_set (i:=4) sc_at.nd rfl (Or.inl rfl) (re_op oq_mul (re_ix iq_ix (rv 0) re_int (fun _ _=>rfl)) (re_op oq_sub (re_op oq_mul (re_ix iq_ix (rv 1) re_int (fun _ _=>rfl)) (re_ix iq_ix (rv 2) re_int (fun _ _=>rfl))) (re_op oq_mul (re_ix iq_ix (rv 2) re_int (fun _ _=>rfl)) (re_ix iq_ix (rv 1) re_int (fun _ _=>rfl))))))
   (rb_cons (rs_set (i:=5) sc_at.nd rfl (Or.inl rfl) (re_op oq_mul (re_ix iq_ix (rv 1) re_int (fun _ _=>rfl)) (re_ix iq_ix (rv 2) re_int (fun _ _=>rfl))))
   (rb_one (rs_ret (re_fn C_low B hr (by decide) rfl (ra_cons (re_op oq_add (re_op oq_mul (re_ix iq_ix (rv 3) re_int (fun _ _=>rfl)) (rv 5)) (re_op oq_mul (rv 4) (re_ix iq_ix (rv 3) re_int (fun _ _=>rfl)))) (ra_cons (re_op oq_mul (re_ix iq_ix (rv 3) re_int (fun _ _=>rfl)) (rv 5)) ra_nil))))))))),?_⟩
 simp_arith! only [rSeq,ix_l0,ix_l1,ix_l2,spLowR]
 have bn:Bd 1801 (m.num * l.m.den - l.m.num * m.den):=.sub (.mul sm.num sb.den (Nat.le_refl _)) (.mul sb.num sm.den (Nat.le_refl _))
 have bu:Bd 1800 ((m.den:Int) * l.m.den):=.mul sm.den sb.den
 have bw:Bd 1900 (l.v * (m.num * l.m.den - l.m.num * m.den)):=.mul bv bn
 refine ⟨.of sm.num sb.den,.of sb.num sm.den,.of bv bn,.of sm.den sb.den,.of sp.num bu,.of bw sp.den,.of sp.den bu,Int.mul_pos (den_gt _) (Int.mul_pos (den_gt _) (den_gt _)),.mul sp.den bu,?_⟩
 rw [at_eq]
 exact q
abbrev s_later:Stmt:=(top 51)
theorem sc_later:L2.FnScope ["_law_clock","_law_number","_law_bottom","_law_mode","_law_under","_law_steps"] ["_law_clock","_law_number","_law_bottom","_law_mode"] (L2.defScope s_later):=⟨rfl,rfl,rfl,by decide +kernel,rfl,by decide +kernel,by decide +kernel⟩
def spLater:Spr:=fun xs J Q _=>∃ (c:Rat) (n b m:Int),xs=[fr c,.int n,.int b,.int m]∧0≤n∧0≤b∧0≤m∧m < 4∧n < 2 ^ 60∧Sz 900 c∧∀ q,Later c q→Q (fr q) J
theorem okr_later {f:Addr} {fd:FuncData} (F:Fun K "_law_later" "_law_later" s_later f fd) (Z:BltR mg) (C_low:CanR P w K mg base 1 "_law_low" ["_law_top","_law_bottom"] spLowR):FnOk P w K mg base (Fly P w) 2 f fd ["_law_clock","_law_number","_law_bottom","_law_mode"] (LSp K spLater):=by
 refine okR F sc_later (fun xs J Q E h=>?_) (fun cdv A outer s H E G xs J Q E2 hr h B=>?_)
 ·obtain ⟨c,n,b,m,rfl,_⟩:=h;rfl
 obtain ⟨c,n,b,m,rfl,n0,b0,m0,m1,n2,sc,q⟩:=h
 refine ⟨_,(rb_cons (rs_if (rt_cmp (oq_eq hr.units61) (re_op oq_mod (rv 1) re_int) re_int (L2.nomark _)) (rb_one (rs_ret (rv 0))) rb_nil)
   (rb_cons (rs_set (i:=4) sc_later.nd rfl (Or.inl rfl) (re_op oq_add re_int (re_op oq_mod (rv 2) (re_ix iq_ix (re_fl (ra_cst [.int 4,.int 6,.int 60,.int 60] rfl [.int 4,.int 6,.int 60,.int 60] rfl)) (rv 3) (fun _ _=>rfl)))))
   (rb_cons (rs_set (i:=5) sc_later.nd rfl (Or.inl rfl) (re_op oq_add re_int (re_op oq_mod (re_op oq_fdiv (rv 1) re_int) (re_op oq_mul re_int (rv 4)))))
   (rb_join (rs_if (rt_cmp (oq_eq hr.units61) (rv 3) re_int (L2.nomark _)) (rb_one (rs_set (i:=5) sc_later.nd rfl (Or.inl rfl) (re_op oq_add re_int (re_op oq_mod (re_op oq_fdiv (rv 1) re_int) (re_op oq_mul re_int (rv 4)))))) rb_nil)
   (rb_one (rs_ret (re_fn C_low B hr (by decide) rfl (ra_cons (re_op oq_add (re_op oq_fdiv (re_op oq_mul (re_ix iq_ix (rv 0) re_int (fun _ _=>rfl)) (rv 4)) (re_ix iq_ix (rv 0) re_int (fun _ _=>rfl))) (rv 5)) (ra_cons (rv 4) ra_nil))))))))),?_⟩
 simp_arith! only [rSeq]
 refine ⟨by decide,?_⟩
 split
 ·exact q c (.inl rfl)
 obtain ⟨x,hx,x0,x1⟩:∃ x:Int,atI [PV.int 4,PV.int 6,PV.int 60,PV.int 60] m=some (.int x)∧1≤x∧x≤60:=by
  rcases (by omega:m=0∨m=1∨m=2∨m=3) with e | e | e | e <;> subst e
  ·exact ⟨4,atI_0 _ _,by decide,by decide⟩
  ·exact ⟨6,atI_1 _ _ _,by decide,by decide⟩
  ·exact ⟨60,atI_2 _ _ _ _,by decide,by decide⟩
  ·exact ⟨60,atI_3 _ _ _ _ _,by decide,by decide⟩
 have u0:0≤b % x:=Int.emod_nonneg _ (by omega)
 have u1:b % x < x:=Int.emod_lt_of_pos _ (by omega)
 have bu:Bd 64 (1 + b % x):=.small (by omega) (by omega)
 have b8:Bd 9000 8:=(Bd.small (x:=8) (by decide) (by decide)).mono (by decide)
 refine ⟨_,hx,x,rfl,by omega,⟨by decide,b8⟩,.of (.small (x:=2) (by decide) (by decide)) bu,by omega,?_⟩
 generalize hu:1 + b % x=u at *
 have k0:0≤n.fdiv 8:=by rw [Int.fdiv_eq_ediv_of_nonneg _ (by decide)];exact Int.ediv_nonneg n0 (by decide)
 obtain ⟨M,hM⟩:∃ M:Sr→Hq→Prop,∀ τ' J',M τ' J'↔∃ s:Int,τ'=[some (fr c),some (.int n),some (.int b),some (.int m),some (.int u),some (.int s)]∧J'=J∧1≤s∧s≤500 * u:=⟨_,fun _ _=>Iff.rfl⟩
 refine ⟨M,?_,?_⟩
 ·simp_arith! only [rSeq]
  have h2:0≤n.fdiv 8 % (2 * u):=Int.emod_nonneg _ (by omega)
  have h3:n.fdiv 8 % (2 * u) < 2 * u:=Int.emod_lt_of_pos _ (by omega)
  have h4:0≤n.fdiv 8 % (500 * u):=Int.emod_nonneg _ (by omega)
  have h5:n.fdiv 8 % (500 * u) < 500 * u:=Int.emod_lt_of_pos _ (by omega)
  split
  ·refine ⟨⟨by decide,b8⟩,.of (.small (x:=500) (by decide) (by decide)) bu,by omega,(hM _ _).mpr ⟨_,rfl,rfl,by omega,by omega⟩⟩
  ·exact (hM _ _).mpr ⟨_,rfl,rfl,by omega,by omega⟩
 ·intro τ' J' hm
  obtain ⟨s,rfl,rfl,s0,s1⟩:=(hM _ _).mp hm
  clear hm hM M
  simp_arith! only [rSeq,spLowR]
  refine ⟨.of sc.num bu,⟨den_ne c,sc.den.mono (by decide)⟩,by omega,bu.mono (by decide),?_⟩
  obtain ⟨u',rfl⟩:=Int.eq_ofNat_of_zero_le (show 0≤u by omega)
  obtain ⟨s',rfl⟩:=Int.eq_ofNat_of_zero_le (show 0≤s by omega)
  exact q _ (.inr ⟨u',s',by omega,by omega,by omega,by omega,rfl⟩)
section
variable {X:Cx}
theorem OpL.or {f:Value→Value→Sem Value} {q q':R2r} (h:OpL X f q) (h':OpL X f q'):OpL X f (fun x y J Q=>q x y J Q∨q' x y J Q):=by
 obtain ⟨r,a,lr⟩:=h
 obtain ⟨r',a',lr'⟩:=h'
 refine ⟨fun x y H Q=>r x y H Q∨r' x y H Q,fun pins s σ H x y v u Q I rx ry h=>?_,fun J H x y v w Q2 Q rx ry rr h k=>?_⟩
 ·rcases h with h | h
  ·exact a pins s σ H x y v u Q I rx ry h
  ·exact a' pins s σ H x y v u Q I rx ry h
 ·rcases h with h | h
  ·exact .inl (lr J H x y v w Q2 Q rx ry rr h k)
  ·exact .inr (lr' J H x y v w Q2 Q rx ry rr h k)
end
def Ky.V (k:Ky):PV:=.tup [fr k.p,.int k.v,.str k.n]
theorem LSz.at240 {l:Leg} (h:LSz 240 l) {t:Rat} (st:Sz 240 t):Sz 790 (l.at t):=by
 have s1:Sz 481 (t - l.m):=st.sub h.m
 have s2:Sz 545 ((t - l.m) * (l.v:Rat)):=s1.mul h.v
 exact h.p.add s2
theorem LnOk.flen {L:Ln} (ok:LnOk L):L.fs.length≤12:=by
 have:=ok.rl
 rw [ok.row,ordQ_len] at this;exact this
def SameK (t:Rat) (fs gs:List (Str × Leg)):Prop:=∀ x,x∈fs.map (key t)↔x∈gs.map (key t)
def Cont:List Leg→Prop
 | a :: b :: r=>b.p=a.at b.m∧Cont (b :: r)
 | _=>True
theorem cont_snoc:∀ (ls:List Leg) (l:Leg),Cont (ls ++ [l])↔Cont ls∧∀ k,ls.getLast?=some k→l.p=k.at l.m
 | [],l=>⟨fun _=>⟨trivial,fun k h=>nomatch h⟩,fun _=>trivial⟩
 | [a],l=>⟨fun h=>⟨trivial,fun k e=>by cases e;exact h.1⟩,fun h=>⟨h.2 a rfl,trivial⟩⟩
 | a :: b :: r,l=>by
  have ih:=cont_snoc (b :: r) l
  show (b.p=a.at b.m∧Cont ((b :: r) ++ [l]))↔_
  rw [ih,List.getLast?_cons_cons]
  constructor
  ·rintro ⟨h1,h2,h3⟩;exact ⟨⟨h1,h2⟩,h3⟩
  ·rintro ⟨⟨h1,h2⟩,h3⟩;exact ⟨h1,h2,h3⟩
def SameL (l l':Leg):Prop:=l.v=l'.v∧∀ t,l.at t=l'.at t
theorem SameL.key {l l':Leg} (h:SameL l l') (n:Str) (t:Rat):key t (n,l)=key t (n,l'):=by unfold Ov.key;simp only;rw [h.1,h.2 t]
theorem at_self (l:Leg):l.at l.m=l.p:=by unfold Leg.at;grind
theorem same_of {l l':Leg} {t:Rat} (hv:l.v=l'.v) (h:l.at t=l'.at t):SameL l l':=⟨hv,fun s=>by
 unfold Leg.at at h ⊢
 rw [hv] at h ⊢
 generalize (l'.v:Rat)=x at h ⊢
 grind⟩
theorem turned_cont {rows:List Leg} {t:Rat} {v:Int} (h:Cont rows) (ne:rows≠[]):Cont (turned rows t v)∧∀ l,rows.getLast?=some l→∀ l',(turned rows t v).getLast?=some l'→SameL ⟨t,l.at t,v⟩ l':=by
 obtain ⟨ls,l,rfl⟩:∃ ls l,rows=ls ++ [l]:=⟨rows.dropLast,rows.getLast ne,(List.dropLast_concat_getLast ne).symm⟩
 obtain ⟨h1,h2⟩:=(cont_snoc ls l).mp h
 have new:∀ {q:List Leg},(q ++ [Leg.mk t (l.at t) v]).getLast?=some (Leg.mk t (l.at t) v):=fun {q}=>List.getLast?_concat ..
 rw [turned_snoc]
 simp only [List.getLast?_concat,Option.some.injEq]
 split
 ·rename_i e
  have el:l.at t=l.p:=by rw [← e];exact at_self l
  split
  ·rename_i ev
   refine ⟨h1,fun l0 h0 l' h'=>?_⟩
   subst h0
   rw [h'] at ev
   have hv:l'.v=v:=Option.some.inj ev
   have hp:=h2 l' h'
   rw [e] at hp
   refine same_of (t:=t) hv.symm ?_
   show l.at t + (t - t) * (v:Rat)=_
   rw [← hp,el];grind
  ·refine ⟨(cont_snoc _ _).mpr ⟨h1,fun k hk=>?_⟩,fun l0 h0 l' h'=>?_⟩
   ·show l.at t=k.at t
    rw [el,h2 k hk,e]
   ·subst h0
    rw [new] at h';cases h';exact ⟨rfl,fun _=>rfl⟩
 ·split
  ·rename_i ev
   refine ⟨h,fun l0 h0 l' h'=>?_⟩
   subst h0
   rw [List.getLast?_concat] at h';cases h'
   refine same_of (t:=t) ev.symm ?_
   show l.at t + (t - t) * (v:Rat)=_
   grind
  ·refine ⟨(cont_snoc _ _).mpr ⟨h,fun k hk=>?_⟩,fun l0 h0 l' h'=>?_⟩
   ·rw [List.getLast?_concat] at hk;cases hk;rfl
   ·subst h0
    rw [new] at h';cases h';exact ⟨rfl,fun _=>rfl⟩
structure Rl (L:Ln) (gs:List (Str × Leg)):Prop where
 nm:gs.map (·.1)=L.fs.map (·.1)
 ln:∀ n l l',(n,l)∈gs→(n,l')∈L.fs→SameL l l'
 ck:∀ x∈gs,COk x.2
 le:∀ x∈gs,x.2.m≤L.t
 ct:∀ c∈L.cs,Cont c.w
theorem Rl.same {L:Ln} {gs:List (Str × Leg)} (h:Rl L gs) (t:Rat):SameK t L.fs gs:=fun x=>by
 have other:∀ {as bs:List (Str × Leg)},as.map (·.1)=bs.map (·.1)→∀ {n l},(n,l)∈as→∃ l',(n,l')∈bs:=fun {as bs} e {n l} hm=>by
  have:n∈bs.map (·.1):=by rw [← e];exact List.mem_map.mpr ⟨_,hm,rfl⟩
  obtain ⟨y,hy,e'⟩:=List.mem_map.mp this
  exact ⟨y.2,by rw [← e'];exact hy⟩
 rw [List.mem_map,List.mem_map]
 constructor
 ·rintro ⟨⟨n,l⟩,hm,rfl⟩
  obtain ⟨l',hl'⟩:=other h.nm.symm hm
  exact ⟨(n,l'),hl',(h.ln n l' l hl' hm).key n t⟩
 ·rintro ⟨⟨n,l⟩,hm,rfl⟩
  obtain ⟨l',hl'⟩:=other h.nm hm
  exact ⟨(n,l'),hl',((h.ln n l l' hm hl').key n t).symm⟩
theorem Rl.sz {L:Ln} {gs:List (Str × Leg)} (h:Rl L gs):∀ x∈gs,LSz 240 x.2:=fun x hx=>by
 have hk:=h.ck x hx
 exact ⟨hk.msz.mono (by decide),hk.psz.mono (by decide),.small (by have:=hk.v;omega) (by have:=hk.v;omega)⟩
theorem Rl.nd {L:Ln} {gs:List (Str × Leg)} (h:Rl L gs) (ok:LnOk0 L):(gs.map (·.1)).Nodup:=by rw [h.nm];exact ok.fnd
theorem Rl.len {L:Ln} {gs:List (Str × Leg)} (h:Rl L gs):gs.length=L.fs.length:=by have:=congrArg List.length h.nm;rw [List.length_map,List.length_map] at this;exact this
theorem pu_old {fs:List (Str × Leg)} {n:Str} {l:Leg} (hm:n∈fs.map (·.1)):puL (legD fs) n l.V=legD (fs.map fun x=>if x.1=n then (x.1,l) else x):=by
 unfold puL legD
 rw [if_pos,List.map_map,List.map_map]
 ·refine List.map_congr_left fun x _=>?_
  show (if x.1=n then (x.1,l.V) else (x.1,x.2.V))=_
  show _=((if x.1=n then (x.1,l) else x).1,(if x.1=n then (x.1,l) else x).2.V)
  split <;> rfl
 ·obtain ⟨x,hx,e⟩:=List.mem_map.mp hm
  rw [List.any_eq_true]
  exact ⟨(x.1,x.2.V),List.mem_map.mpr ⟨x,hx,rfl⟩,decide_eq_true e⟩
def turnG (n:Str) (t:Rat) (v:Int) (gs:List (Str × Leg)):List (Str × Leg):=gs.map fun x=>if x.1=n then (x.1,⟨t,x.2.at t,v⟩) else x
def aboutG (t:Rat) (gs:List (Str × Leg)):List (Str × Leg):=gs.map fun x=>(x.1,⟨t,x.2.at t,-x.2.v⟩)
theorem fs_map {L:Ln} {f:Cf→Cf} (hn:∀ c,(f c).n=c.n∧(f c).a=c.a∧(f c).r=c.r∧(f c).g=c.g) {L':Ln} (e:L'.cs=L.cs.map f):L'.fs=L.prs.map fun c=>(c.n,(f c).cur):=by
 unfold Ln.fs Ln.prs
 rw [e,List.filter_map,List.map_map]
 have e1:(fun c:Cf=>c.g.isNone) ∘ f=fun c=>c.g.isNone:=by funext c;show (f c).g.isNone=_;rw [(hn c).2.2.2]
 rw [e1]
 exact List.map_congr_left fun c _=>by show ((f c).n,(f c).cur)=_;rw [(hn c).1]
theorem cur_turn {c:Cf} {t:Rat} {v:Int} (h:Cont c.w) (ne:c.w≠[]):SameL ⟨t,c.cur.at t,v⟩ (c.turn t v).cur:=by
 have h1:=(Cf.cur_mem ne).1
 have h2:=(Cf.cur_mem (c:=c.turn t v) (turned_ne ne)).1
 exact (turned_cont h ne).2 _ h1 _ h2
theorem SameL.turn {l l':Leg} (h:SameL l l') (t:Rat) (v:Int):SameL ⟨t,l.at t,v⟩ ⟨t,l'.at t,v⟩:=by rw [h.2 t];exact ⟨rfl,fun _=>rfl⟩
theorem SameL.trans {l l' l'':Leg} (h:SameL l l') (k:SameL l' l''):SameL l l'':=⟨h.1.trans k.1,fun t=>(h.2 t).trans (k.2 t)⟩
theorem Rl.turn {L L':Ln} {gs:List (Str × Leg)} (h:Rl L gs) (ok:LnOk0 L) {n:Str} {v:Int} (hv:v.natAbs≤1000) (e:L'.cs=L.cs.map (turnC n L.t v)) (et:L'.t=L.t):Rl L' (turnG n L.t v gs):=by
 have hn:=turnC_n n L.t v
 have hfs:=fs_map hn e
 have nm:(turnG n L.t v gs).map (·.1)=gs.map (·.1):=by
  unfold turnG;rw [List.map_map];exact List.map_congr_left fun x _=>by show (if x.1=n then (x.1,_) else x).1=x.1;split <;> rfl
 refine ⟨?_,?_,?_,?_,?_⟩
 ·rw [nm,h.nm,hfs];unfold Ln.fs;rw [List.map_map,List.map_map];rfl
 ·intro m l l' hl hl'
  obtain ⟨x,hx,ex⟩:=List.mem_map.mp hl
  rw [hfs] at hl'
  obtain ⟨c,hc,ec⟩:=List.mem_map.mp hl'
  have hcs:=(Ln.prs_mem.mp hc).1
  have hold:(c.n,c.cur)∈L.fs:=List.mem_map.mpr ⟨c,hc,rfl⟩
  cases ec
  by_cases z:x.1=n
  ·rw [if_pos z] at ex
   have ex1:x.1=c.n:=(Prod.mk.inj ex).1
   have ex2:Leg.mk L.t (x.2.at L.t) v=l:=(Prod.mk.inj ex).2
   subst ex2
   have hs:=h.ln x.1 x.2 c.cur hx (by rw [ex1];exact hold)
   have zc:c.n=n:=by rw [← z];exact ex1.symm
   unfold turnC
   rw [if_pos zc]
   exact (hs.turn L.t v).trans (cur_turn (h.ct c hcs) (ok.ne c hcs))
  ·rw [if_neg z] at ex
   subst ex
   have zc:¬ c.n=n:=z
   unfold turnC
   rw [if_neg zc]
   exact h.ln c.n l c.cur hx hold
 ·intro x hx
  obtain ⟨y,hy,rfl⟩:=List.mem_map.mp hx
  split
  ·exact (h.ck y hy).at (h.le y hy) ok.ts hv
  ·exact h.ck y hy
 ·intro x hx
  rw [et]
  obtain ⟨y,hy,rfl⟩:=List.mem_map.mp hx
  split
  ·exact Rat.le_refl
  ·exact h.le y hy
 ·intro c hc
  rw [e] at hc
  obtain ⟨c0,h0,rfl⟩:=List.mem_map.mp hc
  unfold turnC
  split
  ·exact (turned_cont (h.ct c0 h0) (ok.ne c0 h0)).1
  ·exact h.ct c0 h0
theorem aboutC_n (t:Rat) (c:Cf):(aboutC t c).n=c.n∧(aboutC t c).a=c.a∧(aboutC t c).r=c.r∧(aboutC t c).g=c.g:=by unfold aboutC;split <;> exact ⟨rfl,rfl,rfl,rfl⟩
theorem Rl.about {L L':Ln} {gs:List (Str × Leg)} (h:Rl L gs) (ok:LnOk0 L) (e:L'.cs=L.cs.map (aboutC L.t)) (et:L'.t=L.t):Rl L' (aboutG L.t gs):=by
 have hn:=aboutC_n L.t
 have hfs:=fs_map hn e
 have nm:(aboutG L.t gs).map (·.1)=gs.map (·.1):=by
  unfold aboutG;rw [List.map_map];rfl
 refine ⟨?_,?_,?_,?_,?_⟩
 ·rw [nm,h.nm,hfs];unfold Ln.fs;rw [List.map_map,List.map_map];rfl
 ·intro m l l' hl hl'
  obtain ⟨x,hx,ex⟩:=List.mem_map.mp hl
  rw [hfs] at hl'
  obtain ⟨c,hc,ec⟩:=List.mem_map.mp hl'
  have hcs:=Ln.prs_mem.mp hc
  have hold:(c.n,c.cur)∈L.fs:=List.mem_map.mpr ⟨c,hc,rfl⟩
  cases ec
  obtain ⟨xn,xl⟩:=x
  cases ex
  have hs:=h.ln c.n xl c.cur hx hold
  have ea:aboutC L.t c=c.turn L.t (-c.cur.v):=by unfold aboutC;rw [if_pos (by rw [hcs.2];rfl)]
  rw [ea,hs.1]
  exact (hs.turn L.t _).trans (cur_turn (h.ct c hcs.1) (ok.ne c hcs.1))
 ·intro x hx
  obtain ⟨y,hy,rfl⟩:=List.mem_map.mp hx
  exact (h.ck y hy).at (h.le y hy) ok.ts (by have:=(h.ck y hy).v;omega)
 ·intro x hx
  rw [et]
  obtain ⟨y,hy,rfl⟩:=List.mem_map.mp hx
  exact Rat.le_refl
 ·intro c hc
  rw [e] at hc
  obtain ⟨c0,h0,rfl⟩:=List.mem_map.mp hc
  unfold aboutC
  split
  ·exact (turned_cont (h.ct c0 h0) (ok.ne c0 h0)).1
  ·exact h.ct c0 h0
theorem Rl.join {L L':Ln} {gs:List (Str × Leg)} (h:Rl L gs) (ok':LnOk0 L') {n:Str} {x v:Int} (hv:v.natAbs≤1000) (hx:x.natAbs≤1000000) (j:L.joined n x v L') (t0:0≤L.t) (ts:Sc L60 MM L.t) (hnew:n ∉ L.fs.map (·.1)):Rl L' (gs ++ [(n,⟨L.t,(x:Rat),v⟩)]):=by
 obtain ⟨a,r,ecs,et⟩:=j
 have efs:L'.fs=L.fs ++ [(n,⟨L.t,(x:Rat),v⟩)]:=fs_snoc L ecs rfl
 refine ⟨?_,?_,?_,?_,?_⟩
 ·rw [efs,List.map_append,List.map_append,h.nm]
 ·intro m l l' hl hl'
  rw [efs] at hl'
  have h1:∀ {k},(n,k)∈gs→False:=fun hk=>hnew (by rw [← h.nm];exact List.mem_map.mpr ⟨_,hk,rfl⟩)
  have h2:∀ {k},(n,k)∈L.fs→False:=fun hk=>hnew (List.mem_map.mpr ⟨_,hk,rfl⟩)
  rcases List.mem_append.mp hl with hl | hl <;> rcases List.mem_append.mp hl' with hl' | hl'
  ·exact h.ln m l l' hl hl'
  ·rw [List.mem_singleton] at hl';cases hl';exact (h1 hl).elim
  ·rw [List.mem_singleton] at hl;cases hl;exact (h2 hl').elim
  ·rw [List.mem_singleton] at hl hl';cases hl;cases hl';exact ⟨rfl,fun _=>rfl⟩
 ·intro y hy
  rcases List.mem_append.mp hy with hy | hy
  ·exact h.ck y hy
  ·rw [List.mem_singleton] at hy;subst hy;exact COk.new t0 ts hx hv
 ·intro y hy
  rw [et]
  rcases List.mem_append.mp hy with hy | hy
  ·exact h.le y hy
  ·rw [List.mem_singleton] at hy;subst hy;exact Rat.le_refl
 ·intro c hc
  rw [ecs] at hc
  rcases List.mem_append.mp hc with hc | hc
  ·exact h.ct c hc
  ·rw [List.mem_singleton] at hc;subst hc;exact trivial
def leaveG (n:Str) (gs:List (Str × Leg)):List (Str × Leg):=gs.filter fun x=>decide (x.1≠n)
theorem Rl.leave {L L':Ln} {gs:List (Str × Leg)} (h:Rl L gs) {n:Str} (e:L'.cs=L.cs.map (leaveC n L.t)) (et:L'.t=L.t):Rl L' (leaveG n gs):=by
 have hfs:L'.fs=L.fs.filter fun x=>decide (x.1≠n):=leave_fs e
 have hf:∀ l:List (Str × Leg),(l.filter fun x=>decide (x.1≠n)).map (·.1)=(l.map (·.1)).filter fun y=>decide (y≠n):=fun l=>by rw [List.filter_map];rfl
 refine ⟨?_,?_,?_,?_,?_⟩
 ·unfold leaveG;rw [hf,hfs,hf,h.nm]
 ·intro m l l' hl hl'
  rw [hfs] at hl'
  exact h.ln m l l' (List.mem_filter.mp hl).1 (List.mem_filter.mp hl').1
 ·intro x hx;exact h.ck x (List.mem_filter.mp hx).1
 ·intro x hx;rw [et];exact h.le x (List.mem_filter.mp hx).1
 ·intro c hc
  rw [e] at hc
  obtain ⟨c0,h0,rfl⟩:=List.mem_map.mp hc
  rw [(leaveC_n n L.t c0).2.2.2];exact h.ct c0 h0
abbrev s_acted:Stmt:=(top 54)
theorem sc_acted:L2.FnScope ["_law_legs","_law_clock","_law_deed_here","_law_name"] ["_law_legs","_law_clock","_law_deed_here"] (L2.defScope s_acted):=⟨rfl,rfl,rfl,by decide +kernel,rfl,by decide +kernel,by decide +kernel⟩
def joinV (n:Str) (x v:Int):PV:=.tup [.str "join",.str n,.int x,.int v]
def turnV (n:Str) (v:Int):PV:=.tup [.str "turn",.str n,.int v]
def aboutV:PV:=.tup [.str "about"]
def leaveV (n:Str):PV:=.tup [.str "leave",.str n]
def goV (m:Rat):PV:=.tup [.str "go",fr m]
def spActed:Spr:=fun xs J Q _=>∃ (D:Addr) (gs:List (Str × Leg)) (ep:Nat) (t:Rat) (dv:PV),xs=[.ref D,fr t,dv]∧J D=some (.dct (legD gs) ep)∧(gs.map (·.1)).Nodup∧gs.length≤100∧Sz 900 t∧(∀ x∈gs,LSz 900 x.2) ∧
 ((∃ n x v,dv=joinV n x v∧n ∉ gs.map (·.1)∧∀ ep',Q (fr t) (put J D (.dct (legD (gs ++ [(n,⟨t,(x:Rat),v⟩)])) ep'))) ∨
  (∃ n v,dv=turnV n v∧n∈gs.map (·.1)∧∀ ep',Q (fr t) (put J D (.dct (legD (turnG n t v gs)) ep'))) ∨
  (dv=aboutV∧∀ ep',Q (fr t) (put J D (.dct (legD (aboutG t gs)) ep'))) ∨
  (∃ n,dv=leaveV n∧n∈gs.map (·.1)∧∀ ep',Q (fr t) (put J D (.dct (legD (leaveG n gs)) ep'))) ∨
  (∃ m,dv=goV m∧Q (fr m) J))
theorem sx_jg:(("join":Str)="go")=False:=eq_false (by decide +kernel)
theorem sx_tg:(("turn":Str)="go")=False:=eq_false (by decide +kernel)
theorem sx_ag:(("about":Str)="go")=False:=eq_false (by decide +kernel)
theorem cut_no {c:TTr} {a u:TSr} {D:En} {τ:Sr} {J:Hq} (hc:∀ R:Bool→Hq→Prop,R false J→c τ J R) (hu:u D τ J):rCut (rIfS c a rNext) u D τ J :=
 ⟨fun τ' J'=>τ'=τ∧J'=J,hc _ (by rw [if_neg (by decide)];exact ⟨rfl,rfl⟩),fun τ' J' h=>by obtain ⟨rfl,rfl⟩:=h;exact hu⟩
theorem cut_yes {c:TTr} {a u:TSr} {D:En} {τ:Sr} {J:Hq} (M:Sr→Hq→Prop) (hc:∀ R:Bool→Hq→Prop,R true J→c τ J R) (ha:a { D with nx:=M } τ J) (hu:∀ τ' J',M τ' J'→u D τ' J'):rCut (rIfS c a rNext) u D τ J :=
 ⟨M,hc _ (by rw [if_pos rfl];exact ha),hu⟩
theorem word_is {x y:Str} {i:Nat} {dv:PV} {τ:Sr} {J:Hq} (h:τ[i]?=some (some dv)) (h0:ixQ J dv (.int 0)=some (.str x)) (R:Bool→Hq→Prop) (hr:R (decide (x=y)) J):rB (rOp (qEq id) (rOp qIx (rVar i) (rC (.int 0))) (rC (.str y))) τ J R :=
 ⟨dv,h,.str x,h0,⟨rfl,by simp [pyOf,dep]⟩,rfl,_,rfl,by rw [eq_str];exact hr⟩
def aboutI (t:Rat) (gs:List (Str × Leg)) (i:Nat):List (Str × Leg):=aboutG t (gs.take i) ++ gs.drop i
theorem aboutI_nm (t:Rat) (gs:List (Str × Leg)) (i:Nat):(aboutI t gs i).map (·.1)=gs.map (·.1):=by
 unfold aboutI aboutG
 rw [List.map_append,List.map_map]
 have:((gs.take i).map ((fun x:Str × Leg=>x.1) ∘ fun x=>(x.1,(⟨t,x.2.at t,-x.2.v⟩:Leg))))=(gs.take i).map (·.1):=List.map_congr_left fun _ _=>rfl
 rw [this,← List.map_append,List.take_append_drop]
theorem aboutI_step (t:Rat) (gs:List (Str × Leg)) (hnd:(gs.map (·.1)).Nodup) (i:Nat) (h:i < gs.length):(aboutI t gs i).map (fun x=>if x.1=gs[i].1 then (x.1,(⟨t,gs[i].2.at t,-gs[i].2.v⟩:Leg)) else x)=aboutI t gs (i + 1):=by
 have hd:gs.drop i=gs[i] :: gs.drop (i + 1):=List.drop_eq_getElem_cons h
 have ht:gs.take (i + 1)=gs.take i ++ [gs[i]]:=by rw [List.take_add_one,List.getElem?_eq_getElem h];rfl
 have hn2:(gs.map (·.1))=(gs.take i).map (·.1) ++ (gs[i].1 :: (gs.drop (i + 1)).map (·.1)):=by
  rw [← List.map_cons (f:=fun x:Str × Leg=>x.1),← hd,← List.map_append,List.take_append_drop]
 rw [hn2,List.nodup_append] at hnd
 unfold aboutI aboutG
 rw [hd,ht,List.map_append,List.map_append,List.map_cons,if_pos rfl,List.append_assoc]
 congr 1
 ·rw [List.map_map]
  refine List.map_congr_left fun x hx=>?_
  show (if x.1=gs[i].1 then _ else _)=_
  rw [if_neg (hnd.2.2 x.1 (List.mem_map.mpr ⟨x,hx,rfl⟩) gs[i].1 (by simp))]
 ·show _ :: _=_ :: _
  congr 1
  have hno:=(List.nodup_cons.mp hnd.2.1).1
  have:∀ x∈gs.drop (i + 1),(if x.1=gs[i].1 then (x.1,(⟨t,gs[i].2.at t,-gs[i].2.v⟩:Leg)) else x)=x:=fun x hx=>if_neg fun z=>hno (by rw [← z];exact List.mem_map.mpr ⟨x,hx,rfl⟩)
  rw [List.map_congr_left this,List.map_id']
  rfl
theorem sx_lg:(("leave":Str)="go")=False:=eq_false (by decide +kernel)
theorem okr_acted {f:Addr} {fd:FuncData} (F:Fun K "_law_acted" "_law_acted" s_acted f fd) (Z:BltR mg) (C_at:CanR P w K mg base 2 "_law_at" ["_law_leg","_law_moment"] spPlR):FnOk P w K mg base (Fly P w) 3 f fd ["_law_legs","_law_clock","_law_deed_here"] (LSp K spActed):=by
 refine okR F sc_acted (fun xs J Q E h=>?_) (fun cdv A outer s H E G xs J Q E2 hr h B=>?_)
 ·obtain ⟨D,gs,ep,t,dv,rfl,_⟩:=h;rfl
 obtain ⟨D,gs,ep,t,dv,rfl,hD,hnd,hlen,st,sl,h⟩:=h
 refine ⟨_,(rb_join (rs_if (rt_cmp (oq_eq hr.units61) (re_ix iq_ix (rv 2) re_int (fun _ _=>rfl)) re_str (L2.nomark _)) (rb_one (rs_sub st_dict (rv 0) (re_ix iq_ix (rv 2) re_int (fun _ _=>rfl)) (re_tup (ra_cons (rv 1) (ra_cons (re_tup (ra_cons (re_ix iq_ix (rv 2) re_int (fun _ _=>rfl)) (ra_cons re_int ra_nil))) (ra_cons (re_ix iq_ix (rv 2) re_int (fun _ _=>rfl)) ra_nil)))))) rb_nil)
   (rb_join (rs_if (rt_cmp (oq_eq hr.units61) (re_ix iq_ix (rv 2) re_int (fun _ _=>rfl)) re_str (L2.nomark _)) (rb_one (rs_expr (re_bm PySem.F.plainAttrs_dict PySem.F.slot_dict_pop PySem.F.type_dict_pop mq_popD (rv 0) (ra_cons (re_ix iq_ix (rv 2) re_int (fun _ _=>rfl)) ra_nil)))) rb_nil)
   (rb_join (rs_if (rt_cmp (oq_eq hr.units61) (re_ix iq_ix (rv 2) re_int (fun _ _=>rfl)) re_str (L2.nomark _)) (rb_one (rs_sub st_dict (rv 0) (re_ix iq_ix (rv 2) re_int (fun _ _=>rfl)) (re_tup (ra_cons (rv 1) (ra_cons (re_fn C_at B hr (by decide) rfl (ra_cons (re_ix iq_ixD (rv 0) (re_ix iq_ix (rv 2) re_int (fun _ _=>rfl)) (fun _ _=>rfl)) (ra_cons (rv 1) ra_nil))) (ra_cons (re_ix iq_ix (rv 2) re_int (fun _ _=>rfl)) ra_nil)))))) rb_nil)
   (rb_join (rs_if (rt_cmp (oq_eq hr.units61) (re_ix iq_ix (rv 2) re_int (fun _ _=>rfl)) re_str (L2.nomark _)) (rb_one (rs_for cxF_own rfl (ri_list (re_callTy (cq_listD rfl) rfl Z.list boot_list (ra_cons (rv 0) ra_nil))) (rg_name (i:=3) sc_acted.nd rfl (Or.inl rfl)) (rb_one (rs_sub st_dict (rv 0) (rv 3) (re_tup (ra_cons (rv 1) (ra_cons (re_fn C_at B hr (by decide) rfl (ra_cons (re_ix iq_ixD (rv 0) (rv 3) (fun _ _=>rfl)) (ra_cons (rv 1) ra_nil))) (ra_cons (re_un uq_neg (re_ix iq_ix (re_ix iq_ixD (rv 0) (rv 3) (fun _ _=>rfl)) re_int (fun _ _=>rfl))) ra_nil)))))))) rb_nil)
   (rb_cons (rs_if (rt_cmp (oq_eq hr.units61) (re_ix iq_ix (rv 2) re_int (fun _ _=>rfl)) re_str (L2.nomark _)) (rb_one (rs_ret (re_ix iq_ix (rv 2) re_int (fun _ _=>rfl)))) rb_nil)
   (rb_one (rs_ret (rv 1)))))))),?_⟩
 rcases h with ⟨n,x,v,rfl,hn,q⟩ | ⟨n,v,rfl,hn,q⟩ | ⟨rfl,q⟩ | ⟨n,rfl,hn,q⟩ | ⟨m,rfl,q⟩
 ·have i0:∀ J,ixQ J (joinV n x v) (.int 0)=some (.str "join"):=fun J=>atI_0 _ _
  have i1:∀ J,ixQ J (joinV n x v) (.int 1)=some (.str n):=fun J=>atI_1 _ _ _
  have i2:∀ J,ixQ J (joinV n x v) (.int 2)=some (.int x):=fun J=>atI_2 _ _ _ _
  have i3:∀ J,ixQ J (joinV n x v) (.int 3)=some (.int v):=fun J=>rfl
  refine cut_yes (fun τ' J'=>∃ ep',τ'=[some (.ref D),some (fr t),some (joinV n x v),none]∧J'=put J D (.dct (legD (gs ++ [(n,⟨t,(x:Rat),v⟩)])) ep')) (fun R hr'=>word_is rfl (i0 _) R (by rw [decide_eq_true rfl];exact hr')) ?_ ?_
  ·simp_all! only [i1,i2,i3,hD,fr_int,tup_l]
   refine ⟨small1000 (by unfold legD;rw [List.length_map];omega),fun ep'=>⟨ep',?_⟩⟩
   have epu:puL (legD gs) n (Leg.mk t (x:Rat) v).V=legD (gs ++ [(n,⟨t,(x:Rat),v⟩)]):=pu_new (f:=Leg.V) (l:=⟨t,(x:Rat),v⟩) hn
   rw [epu]
  rintro τ' J' ⟨ep',rfl,rfl⟩
  refine cut_no (fun R hr'=>word_is rfl (i0 _) R (by rw [decide_eq_false (by decide +kernel)];exact hr')) ?_
  refine cut_no (fun R hr'=>word_is rfl (i0 _) R (by rw [decide_eq_false (by decide +kernel)];exact hr')) ?_
  refine cut_no (fun R hr'=>word_is rfl (i0 _) R (by rw [decide_eq_false (by decide +kernel)];exact hr')) ?_
  simp_all! only [i0,sx_jg,if_false]
  exact q ep'
 ·have i0:∀ J,ixQ J (turnV n v) (.int 0)=some (.str "turn"):=fun J=>atI_0 _ _
  have i1:∀ J,ixQ J (turnV n v) (.int 1)=some (.str n):=fun J=>atI_1 _ _ _
  have i2:∀ J,ixQ J (turnV n v) (.int 2)=some (.int v):=fun J=>atI_2 _ _ _ _
  refine cut_no (fun R hr'=>word_is rfl (i0 _) R (by rw [decide_eq_false (by decide +kernel)];exact hr')) ?_
  refine cut_no (fun R hr'=>word_is rfl (i0 _) R (by rw [decide_eq_false (by decide +kernel)];exact hr')) ?_
  refine cut_yes (fun τ' J'=>∃ ep',τ'=[some (.ref D),some (fr t),some (turnV n v),none]∧J'=put J D (.dct (legD (turnG n t v gs)) ep')) (fun R hr'=>word_is rfl (i0 _) R (by rw [decide_eq_true rfl];exact hr')) ?_ ?_
  ·obtain ⟨l,hl,hvl⟩:=va_some (f:=Leg.V) hnd hn
   have hvl:vaL (legD gs) n=some l.V:=hvl
   have sll:=sl _ hl
   simp_all! only [i1,i2,hD,hvl]
   refine ⟨l,t,rfl,sll.m,sll.p,st,sll.v,?_⟩
   simp_all! only [i1,i2,hD,tup_l]
   refine ⟨small1000 (by unfold legD;rw [List.length_map];omega),fun ep'=>⟨ep',?_⟩⟩
   rw [pu_old hn]
   have:(gs.map fun x=>if x.1=n then (x.1,(⟨t,l.at t,v⟩:Leg)) else x)=turnG n t v gs:=List.map_congr_left fun x hx=>by
    by_cases z:x.1=n
    ·have hx':vaL (legD gs) n=some x.2.V:=va_mem (f:=Leg.V) hnd (by rw [← z];exact hx)
     rw [hvl] at hx'
     have ex:l=x.2:=by have:=Option.some.inj hx';rw [V_inj] at this;exact this
     rw [if_pos z,if_pos z,ex]
    ·rw [if_neg z,if_neg z]
   rw [this]
  rintro τ' J' ⟨ep',rfl,rfl⟩
  refine cut_no (fun R hr'=>word_is rfl (i0 _) R (by rw [decide_eq_false (by decide +kernel)];exact hr')) ?_
  simp_all! only [i0,sx_tg,if_false]
  exact q ep'
 ·have i0:∀ J,ixQ J aboutV (.int 0)=some (.str "about"):=fun J=>atI_0 _ _
  refine cut_no (fun R hr'=>word_is rfl (i0 _) R (by rw [decide_eq_false (by decide +kernel)];exact hr')) ?_
  refine cut_no (fun R hr'=>word_is rfl (i0 _) R (by rw [decide_eq_false (by decide +kernel)];exact hr')) ?_
  refine cut_no (fun R hr'=>word_is rfl (i0 _) R (by rw [decide_eq_false (by decide +kernel)];exact hr')) ?_
  refine cut_yes (fun τ' J'=>∃ u ep',τ'=[some (.ref D),some (fr t),some aboutV,u]∧J'=put J D (.dct (legD (aboutG t gs)) ep')) (fun R hr'=>word_is rfl (i0 _) R (by rw [decide_eq_true rfl];exact hr')) ?_ ?_
  ·simp_all! only [hD]
   have hkv:(legD gs).map (fun kv=>PV.str kv.1)=gs.map fun x=>PV.str x.1:=by unfold legD;rw [List.map_map];rfl
   rw [hkv]
   obtain ⟨Inv,hInv⟩:∃ Inv:Nat→Sr→Hq→Prop,∀ i τ J',Inv i τ J'↔∃ (u:Option PV) (ep':Nat),τ=[some (.ref D),some (fr t),some aboutV,u]∧J'=put J D (.dct (legD (aboutI t gs i)) ep'):=⟨_,fun _ _ _=>Iff.rfl⟩
   refine for_ls Inv ((hInv _ _ _).mpr ⟨_,ep,rfl,by show J=put J D (.dct (legD gs) ep);rw [put_id hD]⟩) (fun _ _ _ _=>trivial) ?_ ?_
   ·intro i x τ J' hx hv
    obtain ⟨u,ep',rfl,rfl⟩:=(hInv _ _ _).mp hv
    clear hv
    have hi:i < gs.length:=by have:=(List.getElem?_eq_some_iff.mp hx).1;simpa using this
    rw [List.getElem?_map,List.getElem?_eq_getElem hi] at hx
    cases hx
    have hnd':((aboutI t gs i).map (·.1)).Nodup:=by rw [aboutI_nm];exact hnd
    have hmem:gs[i]∈aboutI t gs i:=by unfold aboutI;rw [List.drop_eq_getElem_cons hi];exact List.mem_append.mpr (.inr List.mem_cons_self)
    have hva:vaL (legD (aboutI t gs i)) gs[i].1=some gs[i].2.V:=va_mem (f:=Leg.V) hnd' hmem
    have hstep:=aboutI_step t gs hnd i hi
    have hin:gs[i].1∈(aboutI t gs i).map (·.1):=List.mem_map.mpr ⟨_,hmem,rfl⟩
    have hlen':(aboutI t gs i).length=gs.length:=by have:=congrArg List.length (aboutI_nm t gs i);rw [List.length_map,List.length_map] at this;exact this
    have sll:=sl _ (List.getElem_mem hi)
    generalize gs[i]=y at hva hstep hin sll ⊢
    simp_all! only [put_same,hva]
    refine ⟨y.2,t,rfl,sll.m,sll.p,st,sll.v,?_⟩
    simp_all! only [put_same,hva,ix_l2,tup_l]
    refine ⟨small1000 (by unfold legD;rw [List.length_map];omega),fun ep2=>(hInv _ _ _).mpr ⟨_,ep2,rfl,?_⟩⟩
    rw [put_put,pu_old hin,hstep]
   ·intro τ J' hv
    obtain ⟨u,ep',rfl,rfl⟩:=(hInv _ _ _).mp hv
    refine ⟨u,rfl,ep',?_⟩
    rw [List.length_map]
    unfold aboutI
    rw [List.take_length,List.drop_length,List.append_nil]
  rintro τ' J' ⟨u,ep',rfl,rfl⟩
  simp_all! only [i0,sx_ag,if_false]
  exact q ep'
 ·have i0:∀ J,ixQ J (leaveV n) (.int 0)=some (.str "leave"):=fun J=>atI_0 _ _
  have i1:∀ J,ixQ J (leaveV n) (.int 1)=some (.str n):=fun J=>atI_1 _ _ _
  refine cut_no (fun R hr'=>word_is rfl (i0 _) R (by rw [decide_eq_false (by decide +kernel)];exact hr')) ?_
  refine cut_yes (fun τ' J'=>∃ ep',τ'=[some (.ref D),some (fr t),some (leaveV n),none]∧J'=put J D (.dct (legD (leaveG n gs)) ep')) (fun R hr'=>word_is rfl (i0 _) R (by rw [decide_eq_true rfl];exact hr')) ?_ ?_
  ·obtain ⟨l,hl,hvl⟩:=va_some (f:=Leg.V) hnd hn
   have hvl:vaL (legD gs) n=some l.V:=hvl
   simp_all! only [i1,hD,hvl]
   have edr:drL (legD gs) n=legD (leaveG n gs):=by unfold drL legD leaveG;rw [List.filter_map];rfl
   intro ep'
   exact ⟨ep',by rw [edr]⟩
  rintro τ' J' ⟨ep',rfl,rfl⟩
  refine cut_no (fun R hr'=>word_is rfl (i0 _) R (by rw [decide_eq_false (by decide +kernel)];exact hr')) ?_
  refine cut_no (fun R hr'=>word_is rfl (i0 _) R (by rw [decide_eq_false (by decide +kernel)];exact hr')) ?_
  simp_all! only [i0,sx_lg,if_false]
  exact q ep'
 ·have i0:∀ J,ixQ J (goV m) (.int 0)=some (.str "go"):=fun J=>atI_0 _ _
  have i1:∀ J,ixQ J (goV m) (.int 1)=some (fr m):=fun J=>atI_1 _ _ _
  refine cut_no (fun R hr'=>word_is rfl (i0 _) R (by rw [decide_eq_false (by decide +kernel)];exact hr')) ?_
  refine cut_no (fun R hr'=>word_is rfl (i0 _) R (by rw [decide_eq_false (by decide +kernel)];exact hr')) ?_
  refine cut_no (fun R hr'=>word_is rfl (i0 _) R (by rw [decide_eq_false (by decide +kernel)];exact hr')) ?_
  refine cut_no (fun R hr'=>word_is rfl (i0 _) R (by rw [decide_eq_false (by decide +kernel)];exact hr')) ?_
  simp_all! only [i0,i1,if_true]
  exact q
abbrev s_done:Stmt:=(top 55)
theorem sc_done:L2.FnScope ["_law_lane","_law_deed_here"] ["_law_lane","_law_deed_here"] (L2.defScope s_done):=⟨rfl,rfl,rfl,by decide +kernel,rfl,by decide +kernel,by decide +kernel⟩
def spDone (cN cL T:Addr):Spr:=fun xs J Q _=>∃ p L dv,xs=[.ref p,dv]∧LnAt cN cL J p L∧LnOk L ∧
 ((∃ n x v,dv=joinV n x v∧J T=some .tab∧good n=true∧inB x v∧n ∉ L.cs.map Cf.n∧L.row.length < 12∧L.cs.length < 100∧n.length≤sizeLine∧∀ J' L',LnAt cN cL J' p L'→LnOk L'→L.joined n x v L'→Mv J J' (L.own p) (L'.own p)→Q (.fl []) J') ∨
  (∃ n v,dv=turnV n v∧n∈L.row∧v.natAbs≤1000∧(∀ c∈L.cs,c.w.length < 200)∧∀ J' L',LnAt cN cL J' p L'→LnOk L'→L'.cs=L.cs.map (turnC n L.t v)→L'.t=L.t→Mv J J' (L.own p) (L'.own p)→Q (.fl []) J') ∨
  (dv=aboutV∧(∀ c∈L.cs,c.w.length < 200)∧∀ J' L',LnAt cN cL J' p L'→LnOk L'→L'.cs=L.cs.map (aboutC L.t)→L'.t=L.t→Mv J J' (L.own p) (L'.own p)→Q (.fl []) J') ∨
  (∃ n,dv=leaveV n∧n∈L.row∧∀ J' L',LnAt cN cL J' p L'→LnOk L'→L'.cs=L.cs.map (leaveC n L.t)→L'.t=L.t→Mv J J' (L.own p) (L'.own p)→Q (.fl []) J') ∨
  (∃ m:Rat,dv=goV m∧goodM m.num m.den=true∧L.t≤m∧∀ J' o',LnAt cN cL J' p { L with t:=m,o:=o',row:=ordQ m L.fs }→LnOk { L with t:=m,o:=o',row:=ordQ m L.fs }→Mv J J' (L.own p) (Ln.own { L with t:=m,o:=o',row:=ordQ m L.fs } p)→Q (.fl ((passK L.t (L.fs.map (key L.t)) m).map Bell.v)) J'))
theorem okr_done {cN cL T eB eF eT eU eC eM eP f:Addr} {fd:FuncData} (F:Fun K "_law_done" "_law_done" s_done f fd) (Z:BltR mg) (m_Lane_join:MthR P w K mg base cN 8 "join" ["self","name","place","pace"] (spNJoin cN cL T eB eF eT eU)) (m_Lane_leave:MthR P w K mg base cN 2 "leave" ["self","name"] (spNLeave cN cL eC)) (m_Lane_turn:MthR P w K mg base cN 8 "turn" ["self","name","pace"] (spNTurn cN cL eC eF)) (m_Lane_about:MthR P w K mg base cN 8 "about" ["self"] (spNAbout cN cL)) (m_Lane_go_to:MthR P w K mg base cN 8 "go_to" ["self","moment"] (spNGo cN cL eM eP)):FnOk P w K mg base (Fly P w) 9 f fd ["_law_lane","_law_deed_here"] (LSp K (spDone cN cL T)):=by
 refine okR F sc_done (fun xs J Q E h=>?_) (fun cdv A outer s H E G xs J Q E2 hr h B=>?_)
 ·obtain ⟨p,L,dv,rfl,_⟩:=h;rfl
 obtain ⟨p,L,dv,rfl,b,ok,h⟩:=h
 have bo:=b.ob
 refine ⟨_,(rb_join (rs_if (rt_cmp (oq_eq hr.units61) (re_ix iq_ix (rv 1) re_int (fun _ _=>rfl)) re_str (L2.nomark _)) (rb_one (rs_expr (re_meth (pl:=_) m_Lane_join B hr (by decide) (rv 0) (ra_cons (re_ix iq_ix (rv 1) re_int (fun _ _=>rfl)) (ra_cons (re_ix iq_ix (rv 1) re_int (fun _ _=>rfl)) (ra_cons (re_ix iq_ix (rv 1) re_int (fun _ _=>rfl)) ra_nil)))))) rb_nil)
   (rb_join (rs_if (rt_cmp (oq_eq hr.units61) (re_ix iq_ix (rv 1) re_int (fun _ _=>rfl)) re_str (L2.nomark _)) (rb_one (rs_expr (re_meth (pl:=_) m_Lane_leave B hr (by decide) (rv 0) (ra_cons (re_ix iq_ix (rv 1) re_int (fun _ _=>rfl)) ra_nil)))) rb_nil)
   (rb_join (rs_if (rt_cmp (oq_eq hr.units61) (re_ix iq_ix (rv 1) re_int (fun _ _=>rfl)) re_str (L2.nomark _)) (rb_one (rs_expr (re_meth (pl:=_) m_Lane_turn B hr (by decide) (rv 0) (ra_cons (re_ix iq_ix (rv 1) re_int (fun _ _=>rfl)) (ra_cons (re_ix iq_ix (rv 1) re_int (fun _ _=>rfl)) ra_nil))))) rb_nil)
   (rb_join (rs_if (rt_cmp (oq_eq hr.units61) (re_ix iq_ix (rv 1) re_int (fun _ _=>rfl)) re_str (L2.nomark _)) (rb_one (rs_expr (re_meth0 (pl:=_) m_Lane_about B hr (by decide) (rv 0)))) rb_nil)
   (rb_cons (rs_if (rt_cmp (oq_eq hr.units61) (re_ix iq_ix (rv 1) re_int (fun _ _=>rfl)) re_str (L2.nomark _)) (rb_one (rs_ret (re_meth (pl:=_) m_Lane_go_to B hr (by decide) (rv 0) (ra_cons (re_ix iq_ix (rv 1) re_int (fun _ _=>rfl)) ra_nil)))) rb_nil)
   (rb_one (rs_ret (re_fl ra_nil)))))))),?_⟩
 rcases h with ⟨n,x,v,rfl,hT,hg,hb,hn,hr12,hc,hl,q⟩ | ⟨n,v,rfl,hn,hv,hw,q⟩ | ⟨rfl,hw,q⟩ | ⟨n,rfl,hn,q⟩ | ⟨m,rfl,hg,hm,q⟩
 ·have i0:∀ J,ixQ J (joinV n x v) (.int 0)=some (.str "join"):=fun J=>atI_0 _ _
  have i1:∀ J,ixQ J (joinV n x v) (.int 1)=some (.str n):=fun J=>atI_1 _ _ _
  have i2:∀ J,ixQ J (joinV n x v) (.int 2)=some (.int x):=fun J=>atI_2 _ _ _ _
  have i3:∀ J,ixQ J (joinV n x v) (.int 3)=some (.int v):=fun J=>rfl
  refine cut_yes (fun τ' J'=>τ'=[some (.ref p),some (joinV n x v)]∧Q (.fl []) J') (fun R hr'=>word_is rfl (i0 _) R (by rw [decide_eq_true rfl];exact hr')) ?_ ?_
  ·simp_all! only [bo,i1,i2,i3]
   exact ⟨lkNn _ _ _ _,p,L,n,x,v,rfl,b,ok,hT,hl,hc,(fun z=>by rw [hg] at z;cases z),(fun _ z=>absurd hb z),(fun _ _ z=>absurd z hn),(fun _ _ _ z=>by omega),fun _ _ _ _ J1 L1 b1 ok1 jn mv=>q J1 L1 b1 ok1 jn mv⟩
  rintro τ' J' ⟨rfl,hq⟩
  refine cut_no (fun R hr'=>word_is rfl (i0 _) R (by rw [decide_eq_false (by decide +kernel)];exact hr')) ?_
  refine cut_no (fun R hr'=>word_is rfl (i0 _) R (by rw [decide_eq_false (by decide +kernel)];exact hr')) ?_
  refine cut_no (fun R hr'=>word_is rfl (i0 _) R (by rw [decide_eq_false (by decide +kernel)];exact hr')) ?_
  simp_all! only [i0,sx_jg,if_false]
  exact hq
 ·have i0:∀ J,ixQ J (turnV n v) (.int 0)=some (.str "turn"):=fun J=>atI_0 _ _
  have i1:∀ J,ixQ J (turnV n v) (.int 1)=some (.str n):=fun J=>atI_1 _ _ _
  have i2:∀ J,ixQ J (turnV n v) (.int 2)=some (.int v):=fun J=>atI_2 _ _ _ _
  refine cut_no (fun R hr'=>word_is rfl (i0 _) R (by rw [decide_eq_false (by decide +kernel)];exact hr')) ?_
  refine cut_no (fun R hr'=>word_is rfl (i0 _) R (by rw [decide_eq_false (by decide +kernel)];exact hr')) ?_
  refine cut_yes (fun τ' J'=>τ'=[some (.ref p),some (turnV n v)]∧Q (.fl []) J') (fun R hr'=>word_is rfl (i0 _) R (by rw [decide_eq_true rfl];exact hr')) ?_ ?_
  ·simp_all! only [bo,i1,i2]
   exact ⟨lkNn _ _ _ _,p,L,n,v,rfl,b,ok,hw,fun z=>absurd hn z,fun _ z=>absurd hv z,fun _ _ J1 L1 b1 ok1 e t1 mv=>q J1 L1 b1 ok1 e t1 mv⟩
  rintro τ' J' ⟨rfl,hq⟩
  refine cut_no (fun R hr'=>word_is rfl (i0 _) R (by rw [decide_eq_false (by decide +kernel)];exact hr')) ?_
  simp_all! only [i0,sx_tg,if_false]
  exact hq
 ·have i0:∀ J,ixQ J aboutV (.int 0)=some (.str "about"):=fun J=>atI_0 _ _
  refine cut_no (fun R hr'=>word_is rfl (i0 _) R (by rw [decide_eq_false (by decide +kernel)];exact hr')) ?_
  refine cut_no (fun R hr'=>word_is rfl (i0 _) R (by rw [decide_eq_false (by decide +kernel)];exact hr')) ?_
  refine cut_no (fun R hr'=>word_is rfl (i0 _) R (by rw [decide_eq_false (by decide +kernel)];exact hr')) ?_
  refine cut_yes (fun τ' J'=>τ'=[some (.ref p),some (aboutV)]∧Q (.fl []) J') (fun R hr'=>word_is rfl (i0 _) R (by rw [decide_eq_true rfl];exact hr')) ?_ ?_
  ·simp_all! only [bo]
   exact ⟨lkNn _ _ _ _,p,L,rfl,b,ok,hw,fun J1 L1 b1 ok1 e t1 mv=>q J1 L1 b1 ok1 e t1 mv⟩
  rintro τ' J' ⟨rfl,hq⟩
  simp_all! only [i0,sx_ag,if_false]
  exact hq
 ·have i0:∀ J,ixQ J (leaveV n) (.int 0)=some (.str "leave"):=fun J=>atI_0 _ _
  have i1:∀ J,ixQ J (leaveV n) (.int 1)=some (.str n):=fun J=>atI_1 _ _ _
  refine cut_no (fun R hr'=>word_is rfl (i0 _) R (by rw [decide_eq_false (by decide +kernel)];exact hr')) ?_
  refine cut_yes (fun τ' J'=>τ'=[some (.ref p),some (leaveV n)]∧Q (.fl []) J') (fun R hr'=>word_is rfl (i0 _) R (by rw [decide_eq_true rfl];exact hr')) ?_ ?_
  ·simp_all! only [bo,i1]
   exact ⟨lkNn _ _ _ _,p,L,n,rfl,b,ok,fun z=>absurd hn z,fun _ J1 L1 b1 ok1 e t1 mv=>q J1 L1 b1 ok1 e t1 mv⟩
  rintro τ' J' ⟨rfl,hq⟩
  refine cut_no (fun R hr'=>word_is rfl (i0 _) R (by rw [decide_eq_false (by decide +kernel)];exact hr')) ?_
  refine cut_no (fun R hr'=>word_is rfl (i0 _) R (by rw [decide_eq_false (by decide +kernel)];exact hr')) ?_
  simp_all! only [i0,sx_lg,if_false]
  exact hq
 ·have i0:∀ J,ixQ J (goV m) (.int 0)=some (.str "go"):=fun J=>atI_0 _ _
  have i1:∀ J,ixQ J (goV m) (.int 1)=some (fr m):=fun J=>atI_1 _ _ _
  refine cut_no (fun R hr'=>word_is rfl (i0 _) R (by rw [decide_eq_false (by decide +kernel)];exact hr')) ?_
  refine cut_no (fun R hr'=>word_is rfl (i0 _) R (by rw [decide_eq_false (by decide +kernel)];exact hr')) ?_
  refine cut_no (fun R hr'=>word_is rfl (i0 _) R (by rw [decide_eq_false (by decide +kernel)];exact hr')) ?_
  refine cut_no (fun R hr'=>word_is rfl (i0 _) R (by rw [decide_eq_false (by decide +kernel)];exact hr')) ?_
  simp_all! only [i0,i1,if_true,bo]
  refine ⟨lkNn _ _ _ _,p,L,m.num,m.den,rfl,b,ok,(fun z=>by rw [hg] at z;cases z),fun m' e1 e2 _=>?_⟩
  obtain rfl:m'=m:=Rat.ext e1 (by omega)
  exact ⟨fun z=>absurd z (Rat.not_lt.mpr hm),fun _ J1 o1 b1 ok1 mv1=>q J1 o1 b1 ok1 mv1⟩
abbrev s_deed:Stmt:=(top 52)
theorem sc_deed:L2.FnScope ["_law_row","_law_mode","_law_names_here","_law_used","_law_legs","_law_clock","_law_there","_law_fresh","_law_name"] ["_law_row","_law_mode","_law_names_here","_law_used","_law_legs","_law_clock"] (L2.defScope s_deed):=⟨rfl,rfl,rfl,by decide +kernel,rfl,by decide +kernel,by decide +kernel⟩
def DeedOf (names used:List Str) (gs:List (Str × Leg)) (t:Rat) (dv:PV):Prop :=
 (∃ n x v,dv=joinV n x v∧n∈names∧n ∉ used∧gs.length < 12∧x.natAbs≤1000000∧v.natAbs≤1000) ∨
 (∃ n v,dv=turnV n v∧n∈gs.map (·.1)∧v.natAbs≤1000)∨dv=aboutV∨(∃ n,dv=leaveV n∧n∈gs.map (·.1))∨∃ m,dv=goV m∧Later t m
def spDeed:Spr:=fun xs J Q _=>∃ (r0 r1 r2 r3 r4 r5 m:Int) (names used:List Str) (U D:Addr) (gs:List (Str × Leg)) (ep:Nat) (t:Rat),xs=[.fl [.int r0,.int r1,.int r2,.int r3,.int r4,.int r5],.int m,.fl (names.map .str),.ref U,.ref D,fr t]∧J U=some (.lst (used.map .str))∧J D=some (.dct (legD gs) ep)∧names.length≤40∧gs.length≤100 ∧
 0≤r1∧0≤r2∧0≤r3∧r3 < 2001∧0≤r4∧r4 < 2 ^ 60∧0≤r5∧0≤m∧m < 4∧Sz 900 t∧∀ dv,DeedOf names used gs t dv→Q dv J
theorem if_seq {c:TTr} {a u:TSr} {D:En} {τ:Sr} {J:Hq} (b:Prop) [Decidable b] (hc:∀ R:Bool→Hq→Prop,R (decide b) J→c τ J R) (h1:b→∀ N,a { D with nx:=N } τ J) (h2:¬ b→u D τ J):rSeq (rIfS c a rNext) u D τ J:=by
 refine hc _ ?_
 by_cases h:b
 ·rw [decide_eq_true h,if_pos rfl];exact h1 h _
 ·rw [decide_eq_false h,if_neg (by decide)];exact h2 h
theorem r_of {R:Bool→Hq→Prop} {b c:Bool} {J:Hq} (h:R b J) (e:b=true↔c=true):R c J:=by rw [← Bool.eq_iff_iff.mpr e];exact h
theorem pick_in {xs:List Str} {r:Int} (h0:0≤r) (hl:0 < xs.length):∃ n∈xs,atI (xs.map PV.str) (r % (xs.length:Int))=some (.str n):=by
 obtain ⟨j,hj⟩:∃ j:Nat,r % (xs.length:Int)=j:=⟨(r % (xs.length:Int)).toNat,by have:=Int.emod_nonneg r (b:=(xs.length:Int)) (by omega);omega⟩
 have hjl:j < xs.length:=by have:=Int.emod_lt_of_pos r (b:=(xs.length:Int)) (by omega);omega
 exact ⟨xs[j],List.getElem_mem hjl,by rw [hj];exact atI_nat (by rw [List.getElem?_map,List.getElem?_eq_getElem hjl];rfl)⟩
theorem okr_deed {f:Addr} {fd:FuncData} (F:Fun K "_law_deed" "_law_deed" s_deed f fd) (Z:BltR mg) (C_placed:CanR P w K mg base 1 "_law_placed" ["_law_number","_law_mode"] spPlacedR) (C_paced:CanR P w K mg base 1 "_law_paced" ["_law_number","_law_mode"] spPacedR) (C_later:CanR P w K mg base 2 "_law_later" ["_law_clock","_law_number","_law_bottom","_law_mode"] spLater):FnOk P w K mg base (Fly P w) 3 f fd ["_law_row","_law_mode","_law_names_here","_law_used","_law_legs","_law_clock"] (LSp K spDeed):=by
 refine okR F sc_deed (fun xs J Q E h=>?_) (fun cdv A outer s H E G xs J Q E2 hr h B=>?_)
 ·obtain ⟨r0,r1,r2,r3,r4,r5,m,names,used,U,D,gs,ep,t,rfl,_⟩:=h;rfl
 obtain ⟨r0,r1,r2,r3,r4,r5,m,names,used,U,D,gs,ep,t,rfl,hU,hD,hnl,hgl,r10,r20,r30,r31,r40,r41,r50,m0,m1,st,q⟩:=h
 have hkv:(legD gs).map (fun kv=>PV.str kv.1)=(gs.map (·.1)).map PV.str:=by unfold legD;rw [List.map_map,List.map_map];rfl
 refine ⟨_,(rb_cons (rs_set (i:=6) sc_deed.nd rfl (Or.inl rfl) (re_callTy (cq_listD rfl) rfl Z.list boot_list (ra_cons (rv 4) ra_nil)))
   (rb_cons (rs_lcF (i:=7) (L2.defScope s_deed) ["_law_row","_law_mode","_law_names_here","_law_used","_law_legs","_law_clock","_law_there","_law_fresh","_law_name"] [("_law_used",3)] rfl rfl rfl sc_deed.nd rfl (Or.inl rfl) (ri_list (rv 2)) (fun _ _ _ _ _ _=>(rv 0)) (fun _ _ _ _ _ _=>(rt_cmp oq_ninS (rv 0) (rv 1) (by with_unfolding_all rfl))))
   (rb_cons (rs_if (rw_rt (rw_and (rt_cmp oq_gt (re_callB cq_len rfl Z.len boot_len (ra_cons (rv 7) ra_nil)) re_int (L2.nomark _)) (rw_and (rt_cmp oq_lt (re_callB cq_len rfl Z.len boot_len (ra_cons (rv 6) ra_nil)) re_int (L2.nomark _)) (rw_and1 (rw_rt (rw_or (rt_cmp oq_lt (re_ix iq_ix (rv 0) re_int (fun _ _=>rfl)) re_int (L2.nomark _)) (rw_or1 (rw_rt (rw_and (rt_cmp oq_lt (re_callB cq_len rfl Z.len boot_len (ra_cons (rv 6) ra_nil)) re_int (L2.nomark _)) (rw_and1 (rt_cmp oq_lt (re_ix iq_ix (rv 0) re_int (fun _ _=>rfl)) re_int (L2.nomark _)))))))))))) (rb_cons (rs_set (i:=8) sc_deed.nd rfl (Or.inl rfl) (re_ix iq_ix (rv 7) (re_op oq_mod (re_ix iq_ix (rv 0) re_int (fun _ _=>rfl)) (re_callB cq_len rfl Z.len boot_len (ra_cons (rv 7) ra_nil))) (fun _ _=>rfl)))
   (rb_one (rs_ret (re_tup (ra_cons re_str (ra_cons (rv 8) (ra_cons (re_fn C_placed B hr (by decide) rfl (ra_cons (re_ix iq_ix (rv 0) re_int (fun _ _=>rfl)) (ra_cons (rv 1) ra_nil))) (ra_cons (re_fn C_paced B hr (by decide) rfl (ra_cons (re_ix iq_ix (rv 0) re_int (fun _ _=>rfl)) (ra_cons (rv 1) ra_nil))) ra_nil)))))))) rb_nil)
   (rb_cons (rs_if (rw_rt (rw_and (rt_cmp oq_inI (re_ix iq_ix (rv 0) re_int (fun _ _=>rfl)) (re_tup (ra_cons re_int (ra_cons re_int ra_nil))) (by with_unfolding_all rfl)) (rw_and1 (rt_cmp oq_gt (re_callB cq_len rfl Z.len boot_len (ra_cons (rv 6) ra_nil)) re_int (L2.nomark _))))) (rb_one (rs_ret (re_tup (ra_cons re_str (ra_cons (re_ix iq_ix (rv 6) (re_op oq_mod (re_ix iq_ix (rv 0) re_int (fun _ _=>rfl)) (re_callB cq_len rfl Z.len boot_len (ra_cons (rv 6) ra_nil))) (fun _ _=>rfl)) (ra_cons (re_fn C_paced B hr (by decide) rfl (ra_cons (re_ix iq_ix (rv 0) re_int (fun _ _=>rfl)) (ra_cons (rv 1) ra_nil))) ra_nil)))))) rb_nil)
   (rb_cons (rs_if (rw_rt (rw_and (rt_cmp (oq_eq hr.units61) (re_ix iq_ix (rv 0) re_int (fun _ _=>rfl)) re_int (L2.nomark _)) (rw_and1 (rt_cmp oq_gt (re_callB cq_len rfl Z.len boot_len (ra_cons (rv 6) ra_nil)) re_int (L2.nomark _))))) (rb_one (rs_ret (re_tup (ra_cons re_str (ra_cons (re_ix iq_ix (rv 6) (re_op oq_mod (re_ix iq_ix (rv 0) re_int (fun _ _=>rfl)) (re_callB cq_len rfl Z.len boot_len (ra_cons (rv 6) ra_nil))) (fun _ _=>rfl)) ra_nil))))) rb_nil)
   (rb_cons (rs_if (rt_cmp (oq_eq hr.units61) (re_ix iq_ix (rv 0) re_int (fun _ _=>rfl)) re_int (L2.nomark _)) (rb_one (rs_ret (re_tup (ra_cons re_str ra_nil)))) rb_nil)
   (rb_one (rs_ret (re_tup (ra_cons re_str (ra_cons (re_fn C_later B hr (by decide) rfl (ra_cons (rv 5) (ra_cons (re_ix iq_ix (rv 0) re_int (fun _ _=>rfl)) (ra_cons (re_ix iq_ix (rv 0) re_int (fun _ _=>rfl)) (ra_cons (rv 1) ra_nil))))) ra_nil))))))))))),?_⟩
 simp_all! only [hD,hkv,rLCf]
 obtain ⟨pn,hpn⟩:∃ pn:Str→Bool,∀ x,pn x=!decide (x∈used):=⟨_,fun _=>rfl⟩
 refine ⟨fun x=>match x with | .str s=>pn s | _=>false,id,⟨by rw [List.length_map];exact Nat.lt_of_le_of_lt hnl (by decide),fun J' sub=>⟨trivial,fun x hx=>?_⟩⟩,?_⟩
 ·obtain ⟨s,hs,rfl⟩:=List.mem_map.mp hx
  have hU':=sub _ _ hU
  simp_all! only [selR]
  refine ⟨⟨s,used,rfl,by show (match J' U with | some (.lst xs)=>some xs | _=>none)=_;rw [hU'],⟨_,rfl,(hpn s).symm,rfl⟩⟩,fun _=>trivial⟩
 have ef:((names.map PV.str).filter fun x=>match x with | .str s=>pn s | _=>false).map id=(names.filter pn).map PV.str:=by rw [List.map_id,List.filter_map];rfl
 rw [ef]
 have hfr:∀ n∈names.filter pn,n∈names∧n ∉ used:=fun n hn=>by
  obtain ⟨h1,h2⟩:=List.mem_filter.mp hn
  rw [hpn] at h2
  exact ⟨h1,by simpa using h2⟩
 generalize names.filter pn=fresh at hfr ⊢
 have gl:(gs.map (·.1)).length=gs.length:=List.length_map _
 generalize hgn:gs.map (·.1)=gn at gl q ⊢
 refine if_seq (0 < fresh.length∧gs.length < 12∧(r0 < 3∨gs.length < 2∧r0 < 8)) (fun R hR=>?_) (fun hb N=>?_) (fun hb=>?_)
 ·simp_all! only [List.length_map]
  (repeat' split) <;> exact r_of hR (by simp only [decide_eq_true_eq,Bool.false_eq_true,eq_self,iff_true,iff_false];omega)
 ·obtain ⟨n,hn,ha⟩:=pick_in r10 hb.1
  simp_all! only [List.length_map,ha]
  refine ⟨by omega,r2,m,rfl,r20,fun x hx=>⟨r3,m,rfl,r30,r31,fun v hv=>?_⟩⟩
  exact q _ (.inl ⟨n,x,v,rfl,(hfr n hn).1,(hfr n hn).2,hb.2.1,hx,hv⟩)
 refine if_seq ((r0=3∨r0=4)∧0 < gs.length) (fun R hR=>?_) (fun hb N=>?_) (fun hb=>?_)
 ·simp_all! only [List.length_map]
  refine ⟨r0,[3,4],rfl,rfl,_,rfl,?_⟩
  (repeat' split) <;> exact r_of hR (by simp only [decide_eq_true_eq,Bool.false_eq_true,id_eq,List.mem_cons,List.not_mem_nil,or_false,eq_self,iff_true,iff_false] at *;omega)
 ·obtain ⟨n,hn,ha⟩:=pick_in (xs:=gn) r10 (by omega)
  simp_all! only [List.length_map,ha]
  refine ⟨by omega,r3,m,rfl,r30,r31,fun v hv=>?_⟩
  exact q _ (.inr (.inl ⟨n,v,rfl,by rw [hgn];exact hn,hv⟩))
 refine if_seq (r0=5∧2 < gs.length) (fun R hR=>?_) (fun hb N=>?_) (fun hb=>?_)
 ·simp_all! only [List.length_map]
  (repeat' split) <;> exact r_of hR (by simp only [decide_eq_true_eq,Bool.false_eq_true,eq_self,iff_true,iff_false];omega)
 ·obtain ⟨n,hn,ha⟩:=pick_in (xs:=gn) r10 (by omega)
  simp_all! only [List.length_map,ha]
  exact ⟨by omega,q _ (.inr (.inr (.inr (.inl ⟨n,rfl,by rw [hgn];exact hn⟩))))⟩
 refine if_seq (r0=6) (fun R hR=>?_) (fun hb N=>?_) (fun hb=>?_)
 ·simp_all! only []
  exact r_of hR (by simp only [decide_eq_true_eq,Bool.false_eq_true])
 ·simp_all! only []
  exact q _ (.inr (.inr (.inl rfl)))
 simp_all! only []
 exact ⟨t,r4,r5,m,rfl,r40,r50,m0,m1,r41,st,fun m' hm'=>q _ (.inr (.inr (.inr (.inr ⟨m',rfl,hm'⟩))))⟩
theorem goodM_of {m:Rat} (h0:0≤m) (hd:m.den≤60) (h1:m.num≤1000000 * (m.den:Int)):goodM m.num m.den=true:=by
 refine decide_eq_true ⟨by omega,by have:=m.den_pos;omega,?_,Rat.num_nonneg.mpr h0,h1⟩
 have:=m.reduced
 unfold Int.gcd
 exact this
theorem later_den {c q:Rat} (h:Later c q) (hc:c.den≤60):q.den≤60:=by
 rcases h with rfl | ⟨u,s,u0,u1,s0,s1,rfl⟩
 ·exact hc
 ·have:=den_abs (t:=(c.num * (u:Int)).fdiv (c.den:Int) + (s:Int)) (b:=(u:Int)) (by omega)
  omega
theorem le_mil {q:Rat}:q.num≤1000000 * (q.den:Int)↔q≤1000000:=by
 rw [Rat.le_iff]
 have h3:(1000000:Rat).num=1000000:=rfl
 have h4:((1000000:Rat).den:Int)=1:=rfl
 rw [h3,h4]
 omega
abbrev s_walk:Stmt:=(top 56)
theorem sc_walk:L2.FnScope ["_law_lane","_law_names_here","_law_cells","_law_mode","_law_legs","_law_used","_law_clock","_law_cell_here","_law_row","_law_deed_here"] ["_law_lane","_law_names_here","_law_cells","_law_mode"] (L2.defScope s_walk):=⟨rfl,rfl,rfl,by decide +kernel,rfl,by decide +kernel,by decide +kernel⟩
structure Wk (cN cL:Addr) (J0:Hq) (S0:Addr→Prop) (J:Hq) (p:Addr) (L:Ln) (D U:Addr) (gs:List (Str × Leg)) (ep:Nat) (used:List Str) (k:Nat):Prop where
 b:LnAt cN cL J p L
 ok:LnOk L
 rl:Rl L gs
 hD:J D=some (.dct (legD gs) ep)
 hU:J U=some (.lst (used.map .str))
 nD:¬ L.own p D
 nU:¬ L.own p U
 mv:Mv J0 J S0 (fun a=>L.own p a∨a=D∨a=U)
 td:L.t.den≤60
 tl:L.t≤((500 * k:Nat):Rat)
 wl:∀ c∈L.cs,c.w.length≤1 + k
theorem Rl.go {L:Ln} {gs:List (Str × Leg)} (h:Rl L gs) {m:Rat} (hm:L.t≤m) {o:Addr} {row:List Str}:Rl { L with t:=m,o:=o,row:=row } gs:=⟨h.nm,h.ln,h.ck,fun x hx=>Rat.le_trans (h.le x hx) hm,h.ct⟩
theorem later_up {c q:Rat} (h:Later c q) (c0:0≤c):q≤c + 500:=by
 rcases h with rfl | ⟨u,s,u0,u1,s0,s1,rfl⟩
 ·grind
 rw [Rat.divInt_eq_div]
 have hu:(0:Rat) < ((u:Int):Rat):=by exact_mod_cast (show (0:Int) < u by omega)
 have h1:((s:Int):Rat)≤500 * ((u:Int):Rat):=by exact_mod_cast (show (s:Int)≤500 * u by omega)
 have hd:(0:Rat) < ((c.den:Int):Rat):=by exact_mod_cast (show (0:Int) < c.den by have:=c.den_pos;omega)
 have h2:((((c.num * (u:Int)).fdiv (c.den:Int)):Int):Rat)≤c * ((u:Int):Rat):=by
  have e1:(c.num * (u:Int)).fdiv (c.den:Int) * (c.den:Int)≤c.num * u:=by
   rw [Int.fdiv_eq_ediv_of_nonneg _ (by omega)]
   exact Int.ediv_mul_le _ (by have:=c.den_pos;omega)
  have e2:((((c.num * (u:Int)).fdiv (c.den:Int)):Int):Rat) * ((c.den:Int):Rat)≤(c.num:Rat) * ((u:Int):Rat):=by
   rw [← Rat.intCast_mul,← Rat.intCast_mul];exact Rat.intCast_le_intCast.mpr e1
  have e3:(c.num:Rat)=c * ((c.den:Int):Rat):=cast_eq c
  rw [e3] at e2
  generalize ((((c.num * (u:Int)).fdiv (c.den:Int)):Int):Rat)=x at e2 ⊢
  generalize ((c.den:Int):Rat)=y at e2 hd
  generalize ((u:Int):Rat)=z at e2 ⊢
  by_cases k:c * z < x
  ·have:0 < (x - c * z) * y:=Rat.mul_pos (by grind) hd
   grind
  ·grind
 rw [Rat.intCast_add]
 generalize ((((c.num * (u:Int)).fdiv (c.den:Int)):Int):Rat)=a at h2 ⊢
 generalize ((s:Int):Rat)=x at h1 ⊢
 generalize ((u:Int):Rat)=y at h1 h2 hu ⊢
 have e:(a + x) / y * y=a + x:=by grind
 generalize (a + x) / y=z at e ⊢
 by_cases k:c + 500 < z
 ·have:0 < (z - (c + 500)) * y:=Rat.mul_pos (by grind) hu
  grind
 ·grind
section
variable {cN cL:Addr} {J0 J:Hq} {S0:Addr→Prop} {p:Addr} {L:Ln} {D U:Addr} {gs:List (Str × Leg)} {ep:Nat} {used:List Str} {k:Nat}
theorem Wk.ne (h:Wk cN cL J0 S0 J p L D U gs ep used k):U≠D:=fun e=>by have:=h.hU;rw [e,h.hD] at this;cases this
theorem Wk.kept (h:Wk cN cL J0 S0 J p L D U gs ep used k) {T:Addr} {o:HQ} (hT:J0 T=some o) (nT:¬ S0 T):J T=some o:=h.mv.keep _ _ hT nT
theorem Wk.next (h:Wk cN cL J0 S0 J p L D U gs ep used k) {J1:Hq} {L1:Ln} {gs1:List (Str × Leg)} {k1:Nat} (b1:LnAt cN cL J1 p L1) (ok1:LnOk L1) (mv:Mv J J1 (L.own p) (L1.own p)) (rl1:Rl L1 gs1) (td:L1.t.den≤60) (tl:L1.t≤((500 * k1:Nat):Rat)) (wl:∀ c∈L1.cs,c.w.length≤1 + k1) (ep':Nat):Wk cN cL J0 S0 (put J1 D (.dct (legD gs1) ep')) p L1 D U gs1 ep' used k1:=by
 have new:∀ {x o},J x=some o→¬ L.own p x→¬ L1.own p x:=fun hx nx z=>by
  rcases mv.own _ z with q | q
  ·exact nx q
  ·rw [hx] at q;cases q
 have nD1:=new h.hD h.nD
 have hD1:=mv.keep _ _ h.hD h.nD
 have hU1:=mv.keep _ _ h.hU h.nU
 have mv1:Mv J J1 (fun a=>L.own p a∨a=D∨a=U) (fun a=>L1.own p a∨a=D∨a=U) :=
  ⟨fun a o e n=>mv.keep a o e fun z=>n (.inl z),fun a z=>z.elim (fun z=>(mv.own a z).imp .inl id) (fun z=>.inl (.inr z)),mv.mono⟩
 refine ⟨b1.keep fun a u ow e=>?_,ok1,rl1,put_same,?_,nD1,new h.hU h.nU,(h.mv.trans mv1).trans (mv_put (.inr (.inl rfl)) fun a z=>.inl z),td,tl,wl⟩
 ·rw [put_ne (fun z=>by subst z;exact nD1 ow)];exact e
 ·rw [put_ne h.ne];exact hU1
theorem Wk.push (h:Wk cN cL J0 S0 J p L D U gs ep used k) (n:Str):Wk cN cL J0 S0 (put J U (.lst ((used ++ [n]).map .str))) p L D U gs ep (used ++ [n]) k:=by
 refine ⟨h.b.keep fun a u ow e=>?_,h.ok,h.rl,?_,put_same,h.nD,h.nU,h.mv.trans (mv_put (.inr (.inr rfl)) fun a z=>.inl z),h.td,h.tl,h.wl⟩
 ·rw [put_ne (fun z=>by subst z;exact h.nU ow)];exact e
 ·rw [put_ne (fun e=>h.ne e.symm)];exact h.hD
theorem Wk.up (h:Wk cN cL J0 S0 J p L D U gs ep used k):Sz 900 L.t∧(gs.map (·.1)).Nodup∧gs.length≤12∧∀ x∈gs,LSz 900 x.2 :=
 ⟨h.ok.tsz,h.rl.nd h.ok.toLnOk0,by rw [h.rl.len];exact h.ok.flen,fun x hx=>(h.rl.sz x hx).mono (by decide)⟩
end
theorem nat_le_mil {q:Rat} {k:Nat} (hk:k≤2000) (h:q≤((500 * k:Nat):Rat)):q≤1000000:=by
 refine Rat.le_trans h ?_
 have:((500 * k:Nat):Rat)≤((1000000:Nat):Rat):=by exact_mod_cast (show 500 * k≤1000000 by omega)
 exact this
theorem step500 {a b:Rat} {k:Nat} (h:b≤a + 500) (ha:a≤((500 * k:Nat):Rat)):b≤((500 * (k + 1):Nat):Rat):=by
 have e:((500 * (k + 1):Nat):Rat)=((500 * k:Nat):Rat) + 500:=by
  rw [show 500 * (k + 1)=500 * k + 500 by omega];exact Rat.natCast_add _ _
 rw [e];grind
theorem step501 {a:Rat} {k:Nat} (ha:a≤((500 * k:Nat):Rat)):a≤((500 * (k + 1):Nat):Rat):=step500 (a:=a) (by grind) ha
def spWalk (cN cL T:Addr):Spr:=fun xs J Q _=>∃ (p:Addr) (L0:Ln) (names:List Str) (cells:List Int) (m:Int),xs=[.ref p,.fl (names.map .str),.fl (cells.map .int),.int m]∧LnAt cN cL J p L0∧LnOk L0∧L0.cs=[]∧L0.t=0∧J T=some .tab∧names.length≤40∧(∀ n∈names,good n=true)∧cells.length≤40∧0≤m∧m < 4 ∧
 ∀ J' L D U gs ep used,Wk cN cL J (L0.own p) J' p L D U gs ep used cells.length→L.cs.map Cf.n=used→(∀ n∈used,n∈names)→used.length≤cells.length→Q (.tup [.ref D,fr L.t,.ref U]) J'
theorem good_sz {n:Str} (hg:good n=true):n.length≤sizeLine:=by
 have h8:n.cps.size≤8:=by
  unfold good at hg
  rw [Bool.and_eq_true,Bool.and_eq_true] at hg
  exact of_decide_eq_true hg.1.2
 exact Nat.le_trans h8 (by decide)
theorem okr_walk {cN cL T f:Addr} {fd:FuncData} (F:Fun K "_law_walk" "_law_walk" s_walk f fd) (Z:BltR mg) (C_digits:CanR P w K mg base 1 "_law_digits" ["_law_cell_here","_law_sizes"] spDigR) (C_deed:CanR P w K mg base 3 "_law_deed" ["_law_row","_law_mode","_law_names_here","_law_used","_law_legs","_law_clock"] spDeed) (C_done:CanR P w K mg base 9 "_law_done" ["_law_lane","_law_deed_here"] (spDone cN cL T)) (C_acted:CanR P w K mg base 3 "_law_acted" ["_law_legs","_law_clock","_law_deed_here"] spActed):FnOk P w K mg base (Fly P w) 10 f fd ["_law_lane","_law_names_here","_law_cells","_law_mode"] (LSp K (spWalk cN cL T)):=by
 refine okR F sc_walk (fun xs J Q E h=>?_) (fun cdv A outer s H E G xs J Q E2 hr h B=>?_)
 ·obtain ⟨p,L0,names,cells,m,rfl,_⟩:=h;rfl
 obtain ⟨p,L0,names,cells,m,rfl,b,ok,cs0,t0,hT,hnl,hng,hcl,m0,m1,q⟩:=h
 refine ⟨_,(rb_cons (rs_set (i:=4) sc_walk.nd rfl (Or.inl rfl) re_newD)
   (rb_cons (rs_set (i:=5) sc_walk.nd rfl (Or.inl rfl) (re_lst ra_nil))
   (rb_cons (rs_set (i:=6) sc_walk.nd rfl (Or.inl rfl) (re_tup (ra_cons re_int (ra_cons re_int ra_nil))))
   (rb_cons (rs_for cxF_own rfl (ri_list (rv 2)) (rg_name (i:=7) sc_walk.nd rfl (Or.inl rfl)) (rb_cons (rs_set (i:=8) sc_walk.nd rfl (Or.inl rfl) (re_fn C_digits B hr (by decide) rfl (ra_cons (rv 7) (ra_cons (re_fl (ra_cst [.int 10,.int 97,.int 2000001,.int 2001,.int 400000,.int 60] rfl [.int 10,.int 97,.int 2000001,.int 2001,.int 400000,.int 60] rfl)) ra_nil))))
   (rb_cons (rs_set (i:=9) sc_walk.nd rfl (Or.inl rfl) (re_fn C_deed B hr (by decide) rfl (ra_cons (rv 8) (ra_cons (rv 3) (ra_cons (rv 1) (ra_cons (rv 5) (ra_cons (rv 4) (ra_cons (rv 6) ra_nil))))))))
   (rb_join (rs_if (rt_cmp (oq_eq hr.units61) (re_ix iq_ix (rv 9) re_int (fun _ _=>rfl)) re_str (L2.nomark _)) (rb_one (rs_expr (re_bm PySem.F.plainAttrs_list PySem.F.slot_list_append PySem.F.type_list_append mq_append (rv 5) (ra_cons (re_ix iq_ix (rv 9) re_int (fun _ _=>rfl)) ra_nil)))) rb_nil)
   (rb_cons (rs_expr (re_fn C_done B hr (by decide) rfl (ra_cons (rv 0) (ra_cons (rv 9) ra_nil))))
   (rb_one (rs_set (i:=6) sc_walk.nd rfl (Or.inl rfl) (re_fn C_acted B hr (by decide) rfl (ra_cons (rv 4) (ra_cons (rv 6) (ra_cons (rv 9) ra_nil)))))))))))
   (rb_one (rs_ret (re_tup (ra_cons (rv 4) (ra_cons (rv 6) (ra_cons (rv 5) ra_nil)))))))))),?_⟩
 simp_all! only []
 intro D hD ep
 simp_all! only []
 intro U hU
 have nDU:D≠U:=fun e=>by subst e;rw [put_same] at hU;cases hU
 have hU0:J U=none:=by rw [put_ne (fun e=>nDU e.symm)] at hU;exact hU
 have w0:Wk cN cL J (L0.own p) (put (put J D (.dct [] ep)) U (.lst [])) p L0 D U [] ep [] 0:=by
  refine ⟨(b.fresh hD).fresh hU,ok,⟨by unfold Ln.fs Ln.prs;rw [cs0];rfl,(by simp),(by simp),(by simp),(by rw [cs0];simp)⟩,by rw [put_ne nDU];exact put_same,put_same,fun z=>b.some z hD,fun z=>b.some z hU0,?_,by rw [t0];decide,by rw [t0];decide,by rw [cs0];simp⟩
  have hh:=(Mv.new1 (S:=L0.own p) (o:=.dct [] ep) hD).trans (Mv.new1 (o:=.lst []) hU)
  exact ⟨hh.keep,fun a z=>hh.own a (z.elim (fun z=>.inl (.inl z)) fun z=>z.elim (fun z=>.inl (.inr z)) .inr),hh.mono⟩
 generalize put (put J D (.dct [] ep)) U (.lst [])=J1 at w0 ⊢
 clear hU hU0
 simp_all! only []
 obtain ⟨Inv,hInv⟩:∃ Inv:Nat→Sr→Hq→Prop,∀ i τ J',Inv i τ J'↔∃ (L:Ln) (gs:List (Str × Leg)) (ep:Nat) (used:List Str) (u7 u8 u9:Option PV),τ=[some (.ref p),some (.fl (names.map .str)),some (.fl (cells.map .int)),some (.int m),some (.ref D),some (.ref U),some (fr L.t),u7,u8,u9]∧Wk cN cL J (L0.own p) J' p L D U gs ep used i∧L.cs.map Cf.n=used∧(∀ n∈used,n∈names)∧used.length≤i:=⟨_,fun _ _ _=>Iff.rfl⟩
 refine for_ls Inv ((hInv _ _ _).mpr ⟨L0,[],ep,[],_,_,_,by rw [t0];rfl,w0,by rw [cs0];rfl,(by simp),Nat.le_refl _⟩) (fun _ _ _ _=>trivial) ?_ ?_
 ·intro i x τ J' hx hv
  obtain ⟨L,gs,ep,used,u7,u8,u9,rfl,wk,hun,hus,hul⟩:=(hInv _ _ _).mp hv
  clear hv
  have hi:i < cells.length:=by have:=(List.getElem?_eq_some_iff.mp hx).1;simpa using this
  rw [List.getElem?_map,List.getElem?_eq_getElem hi] at hx
  cases hx
  generalize cells[i]=c
  simp_all! only []
  refine ⟨c,[10,97,2000001,2001,400000,60],rfl,sizes_ok (by decide),by decide,fun ds hG=>?_⟩
  obtain ⟨r0,ds,rfl,_,_,hG⟩:=hG.cons
  obtain ⟨r1,ds,rfl,r10,_,hG⟩:=hG.cons
  obtain ⟨r2,ds,rfl,r20,_,hG⟩:=hG.cons
  obtain ⟨r3,ds,rfl,r30,r31,hG⟩:=hG.cons
  obtain ⟨r4,ds,rfl,r40,r41,hG⟩:=hG.cons
  obtain ⟨r5,ds,rfl,r50,_,hG⟩:=hG.cons
  cases hG.nil
  obtain ⟨st,gnd,gl,gsz⟩:=wk.up
  simp_all! only []
  refine ⟨r0,r1,r2,r3,r4,r5,m,names,used,U,D,gs,ep,L.t,rfl,wk.hU,wk.hD,hnl,by omega,r10,r20,r30,r31,r40,by omega,r50,m0,m1,st,fun dv hdv=>?_⟩
  have hT':∀ {J1:Hq} {L1 gs1 ep1 us k1},Wk cN cL J (L0.own p) J1 p L1 D U gs1 ep1 us k1→J1 T=some .tab:=fun wk'=>wk'.kept hT (b.ntab hT)
  have hw200:∀ c∈L.cs,c.w.length < 200:=fun c hc=>by have:=wk.wl c hc;omega
  have tl1:L.t≤((500 * (i + 1):Nat):Rat):=step501 wk.tl
  have hfl:L.fs.length=gs.length:=wk.rl.len.symm
  have hrow:∀ n,n∈gs.map (·.1)→n∈L.row:=fun n hn=>(wk.ok.rm n).mpr (by rw [← wk.rl.nm];exact hn)
  simp_all! only []
  rcases hdv with ⟨n,x,v,rfl,hn,hnu,hgl,hx,hv⟩ | ⟨n,v,rfl,hn,hv⟩ | rfl | ⟨n,rfl,hn⟩ | ⟨m',rfl,hm'⟩
  ·have i0:∀ J,ixQ J (joinV n x v) (.int 0)=some (.str "join"):=fun J=>atI_0 _ _
   have i1:∀ J,ixQ J (joinV n x v) (.int 1)=some (.str n):=fun J=>atI_1 _ _ _
   refine cut_yes (fun τ' J2=>τ'=[some (.ref p),some (.fl (names.map .str)),some (.fl (cells.map .int)),some (.int m),some (.ref D),some (.ref U),some (fr L.t),some (.int c),some (.fl [.int r0,.int r1,.int r2,.int r3,.int r4,.int r5]),some (joinV n x v)]∧J2=put J' U (.lst ((used ++ [n]).map .str))) (fun R hr'=>word_is rfl (i0 _) R (by rw [decide_eq_true rfl];exact hr')) ?_ ?_
   ·simp_all! only [i1,wk.hU,List.length_map]
    exact ⟨Nat.lt_of_lt_of_le (show used.length < 100 by omega) (by decide),by rw [List.map_append];rfl⟩
   rintro τ' J2 ⟨rfl,rfl⟩
   have wk2:=wk.push n
   generalize put J' U (.lst ((used ++ [n]).map .str))=J2 at wk2 ⊢
   have hnc:n ∉ L.cs.map Cf.n:=by rw [hun];exact hnu
   have hcl':L.cs.length < 100:=by have:=congrArg List.length hun;rw [List.length_map] at this;omega
   have hnf:n ∉ L.fs.map (·.1):=fun z=>hnc (by
    rw [fs_names,List.mem_map] at z
    obtain ⟨c',hc',e'⟩:=z
    exact List.mem_map.mpr ⟨c',(Ln.prs_mem.mp hc').1,e'⟩)
   simp_all! only []
   refine ⟨p,L,_,rfl,wk2.b,wk2.ok,.inl ⟨n,x,v,rfl,hT' wk2,hng n hn,⟨hx,hv⟩,hnc,by rw [wk.ok.row,ordQ_len];omega,hcl',good_sz (hng n hn),fun J3 L3 b3 ok3 jn mv3=>?_⟩⟩
   have rl3:=wk2.rl.join ok3.toLnOk0 hv hx jn wk.ok.t0 wk.ok.ts hnf
   obtain ⟨a,r,ecs,et⟩:=jn
   simp_all! only []
   refine ⟨D,gs,ep,L.t,_,rfl,mv3.keep _ _ wk2.hD wk2.nD,gnd,by omega,st,gsz,.inl ⟨n,x,v,rfl,by rw [wk.rl.nm];exact hnf,fun ep'=>?_⟩⟩
   refine (hInv _ _ _).mpr ⟨L3,_,ep',used ++ [n],_,_,_,by rw [et],wk2.next b3 ok3 mv3 rl3 (by rw [et];exact wk.td) (by rw [et];exact tl1) (fun c hc=>?_) ep',?_,fun y hy=>?_,by rw [List.length_append];show used.length + 1≤_;omega⟩
   ·rw [ecs] at hc
    rcases List.mem_append.mp hc with hc | hc
    ·have:=wk.wl c hc;omega
    ·rw [List.mem_singleton] at hc;subst hc;show 1≤_;omega
   ·rw [ecs,List.map_append,hun];rfl
   ·rcases List.mem_append.mp hy with hy | hy
    ·exact hus y hy
    ·rw [List.mem_singleton] at hy;subst hy;exact hn
  ·have i0:∀ J,ixQ J (turnV n v) (.int 0)=some (.str "turn"):=fun J=>atI_0 _ _
   refine cut_no (fun R hr'=>word_is rfl (i0 _) R (by rw [decide_eq_false (by decide +kernel)];exact hr')) ?_
   simp_all! only []
   refine ⟨p,L,_,rfl,wk.b,wk.ok,.inr (.inl ⟨n,v,rfl,hrow n hn,hv,hw200,fun J3 L3 b3 ok3 e t1 mv3=>?_⟩)⟩
   simp_all! only []
   refine ⟨D,gs,ep,L.t,_,rfl,mv3.keep _ _ wk.hD wk.nD,gnd,by omega,st,gsz,.inr (.inl ⟨n,v,rfl,hn,fun ep'=>?_⟩)⟩
   refine (hInv _ _ _).mpr ⟨L3,_,ep',used,_,_,_,by rw [t1],wk.next b3 ok3 mv3 (wk.rl.turn wk.ok.toLnOk0 hv e t1) (by rw [t1];exact wk.td) (by rw [t1];exact tl1) (fun c hc=>?_) ep',by rw [e,map_keep (fun c=>(turnC_n n L.t v c).1)];exact hun,hus,by omega⟩
   rw [e] at hc
   obtain ⟨c0,h0,rfl⟩:=List.mem_map.mp hc
   have h1:=wk.wl c0 h0
   unfold turnC
   split
   ·have:=turned_len c0.w L.t v
    show (turned c0.w L.t v).length≤_
    omega
   ·omega
  ·have i0:∀ J,ixQ J aboutV (.int 0)=some (.str "about"):=fun J=>atI_0 _ _
   refine cut_no (fun R hr'=>word_is rfl (i0 _) R (by rw [decide_eq_false (by decide +kernel)];exact hr')) ?_
   simp_all! only []
   refine ⟨p,L,_,rfl,wk.b,wk.ok,.inr (.inr (.inl ⟨rfl,hw200,fun J3 L3 b3 ok3 e t1 mv3=>?_⟩))⟩
   simp_all! only []
   refine ⟨D,gs,ep,L.t,_,rfl,mv3.keep _ _ wk.hD wk.nD,gnd,by omega,st,gsz,.inr (.inr (.inl ⟨rfl,fun ep'=>?_⟩))⟩
   refine (hInv _ _ _).mpr ⟨L3,_,ep',used,_,_,_,by rw [t1],wk.next b3 ok3 mv3 (wk.rl.about wk.ok.toLnOk0 e t1) (by rw [t1];exact wk.td) (by rw [t1];exact tl1) (fun c hc=>?_) ep',by rw [e,map_keep (fun c=>(aboutC_n L.t c).1)];exact hun,hus,by omega⟩
   rw [e] at hc
   obtain ⟨c0,h0,rfl⟩:=List.mem_map.mp hc
   have h1:=wk.wl c0 h0
   unfold aboutC
   split
   ·have:=turned_len c0.w L.t (-c0.cur.v)
    show (turned c0.w L.t (-c0.cur.v)).length≤_
    omega
   ·omega
  ·have i0:∀ J,ixQ J (leaveV n) (.int 0)=some (.str "leave"):=fun J=>atI_0 _ _
   refine cut_no (fun R hr'=>word_is rfl (i0 _) R (by rw [decide_eq_false (by decide +kernel)];exact hr')) ?_
   simp_all! only []
   refine ⟨p,L,_,rfl,wk.b,wk.ok,.inr (.inr (.inr (.inl ⟨n,rfl,hrow n hn,fun J3 L3 b3 ok3 e t1 mv3=>?_⟩)))⟩
   simp_all! only []
   refine ⟨D,gs,ep,L.t,_,rfl,mv3.keep _ _ wk.hD wk.nD,gnd,by omega,st,gsz,.inr (.inr (.inr (.inl ⟨n,rfl,hn,fun ep'=>?_⟩)))⟩
   refine (hInv _ _ _).mpr ⟨L3,_,ep',used,_,_,_,by rw [t1],wk.next b3 ok3 mv3 (wk.rl.leave e t1) (by rw [t1];exact wk.td) (by rw [t1];exact tl1) (fun c hc=>?_) ep',by rw [e,map_keep (fun c=>(leaveC_n n L.t c).1)];exact hun,hus,by omega⟩
   rw [e] at hc
   obtain ⟨c0,h0,rfl⟩:=List.mem_map.mp hc
   have h1:=wk.wl c0 h0
   rw [(leaveC_n n L.t c0).2.2.2];omega
  ·have i0:∀ J,ixQ J (goV m') (.int 0)=some (.str "go"):=fun J=>atI_0 _ _
   refine cut_no (fun R hr'=>word_is rfl (i0 _) R (by rw [decide_eq_false (by decide +kernel)];exact hr')) ?_
   have tl3:=step500 (later_up hm' wk.ok.t0) wk.tl
   have td3:=later_den hm' wk.td
   have hg:goodM m'.num m'.den=true:=goodM_of (Rat.le_trans wk.ok.t0 (hm'.le)) td3 (le_mil.mpr (nat_le_mil (by omega) tl3))
   simp_all! only []
   refine ⟨p,L,_,rfl,wk.b,wk.ok,.inr (.inr (.inr (.inr ⟨m',rfl,hg,hm'.le,fun J3 o3 b3 ok3 mv3=>?_⟩)))⟩
   simp_all! only []
   have hD3:=mv3.keep _ _ wk.hD wk.nD
   refine ⟨D,gs,ep,L.t,_,rfl,hD3,gnd,by omega,st,gsz,.inr (.inr (.inr (.inr ⟨m',rfl,?_⟩)))⟩
   have w3:=wk.next b3 ok3 mv3 (wk.rl.go hm'.le) td3 tl3 (fun c hc=>by have:=wk.wl c hc;omega) ep
   rw [put_id hD3] at w3
   exact (hInv _ _ _).mpr ⟨_,_,ep,used,_,_,_,rfl,w3,hun,hus,by omega⟩
 ·intro τ J' hv
  obtain ⟨L,gs,ep,used,u7,u8,u9,rfl,wk,hun,hus,hul⟩:=(hInv _ _ _).mp hv
  simp_all! only []
  rw [List.length_map] at wk hul
  exact q J' L D U gs ep used wk hun hus hul
def cellF (ns:List Int) (k:Int):Int:=if k < (ns.length:Int) then ns.getD k.toNat 0 else 5 + 17 * k
def spCellF:Spr:=fun xs J Q _=>∃ (ns:List Int) (k:Int),xs=[.fl (ns.map .int),.int k]∧0≤k∧k < 1000∧Q (.int (cellF ns k)) J
theorem okr_cell {f:Addr} {fd:FuncData} (F:Fun K "_law_cell" "_law_cell" s_cell f fd) (Z:BltR mg):FnOk P w K mg base (Fly P w) 1 f fd ["_law_script","_law_k"] (LSp K spCellF):=by
 refine okR F sc_cell (fun xs J Q E h=>?_) (fun cdv A outer s H E G xs J Q E2 hr h B=>?_)
 ·obtain ⟨ns,k,rfl,_⟩:=h;rfl
 obtain ⟨ns,k,rfl,h0,h1,q⟩:=h
 unfold cellF at q
 refine ⟨_,(rb_cons (rs_if (rt_cmp oq_lt (rv 1) (re_callB cq_len rfl Z.len boot_len (ra_cons (rv 0) ra_nil)) (L2.nomark _)) (rb_one (rs_ret (re_ix iq_ix (rv 0) (rv 1) (fun _ _=>rfl)))) rb_nil)
   (rb_one (rs_ret (re_op oq_add re_int (re_op oq_mul re_int (rv 1)))))),?_⟩
 simp_arith! only [rSeq,List.length_map]
 split
 ·rename_i c
  rw [if_pos c] at q
  obtain ⟨j,rfl⟩:=Int.eq_ofNat_of_zero_le h0
  have hj:j < ns.length:=by omega
  refine ⟨.int ns[j],atI_nat (by rw [List.getElem?_map,List.getElem?_eq_getElem hj];rfl),?_⟩
  simpa [List.getD,hj] using q
 ·rename_i c
  rw [if_neg c] at q
  exact ⟨.of (.small (x:=17) (by decide) (by decide)) (.small (x:=k) (by omega) (by omega)),q⟩
def asI:PV→Int
 | .int i=>i
 | _=>0
theorem cut_last (ss:List Str):cutQ (ss.map .str) none (some (-1))=(ss.dropLast).map PV.str:=by
 unfold cutQ
 rw [HT.sIx_none,List.drop_zero,Nat.sub_zero,List.map_dropLast,List.dropLast_eq_take]
 have e:HT.sIx (ss.map PV.str).length (ss.map PV.str).length (some (-1))=(ss.map PV.str).length - 1:=by
  show (if (-1:Int) < 0 then (-1 + ((ss.map PV.str).length:Int)).toNat else min (-1:Int).toNat (ss.map PV.str).length)=_
  rw [if_pos (by decide)];omega
 rw [e]
theorem row_count (t:Rat) {fs:List (Str × Leg)} (h:(fs.map (·.1)).Nodup) (f:Str→Bool):((ordQ t fs).filter f).length=(fs.filter fun y=>f y.1).length:=by
 unfold ordQ
 rw [List.filter_map,List.length_map,← ordK_filter (by rw [key_names];exact h),ordK_len,List.filter_map,List.length_map]
 rfl
abbrev s_Lane_count_from:Stmt:=(L2.inClass (top 42) 15)
theorem sc_Lane_count_from:L2.FnScope ["self","place"] ["self","place"] (L2.defScope s_Lane_count_from):=⟨rfl,rfl,rfl,by decide +kernel,rfl,by decide +kernel,by decide +kernel⟩
def spNCount (cN cL:Addr):Spr:=fun xs J Q E=>∃ (p:Addr) (L:Ln) (x:Int),xs=[.ref p,.int x]∧LnAt cN cL J p L∧LnOk L∧Bd 8000 x∧Q (.int ((L.fs.filter fun y=>decide ((x:Rat)≤y.2.at L.t)).length:Nat)) J
theorem ok_Lane_count_from {cN cL eC f:Addr} {fd:FuncData} (F:Fun K "count_from" "Lane.count_from" s_Lane_count_from f fd) (Z:BltR mg) (KD_Lane:KDef K mg "Lane" cN) (NA_Lane_row:NoAttr K cN "row") (m_Lane_place:MthR P w K mg base cN 5 "place" ["self","name"] (spNPlace cN cL eC)) (C_less:CanR P w K mg base 1 "less" ["one","two"] spLessR):FnOk P w K mg base (Fly P w) 6 f fd ["self","place"] (LSp K (spNCount cN cL)):=by
 refine okR F sc_Lane_count_from (fun xs J Q E h=>?_) (fun cdv A outer s H E G xs J Q E2 hr h B=>?_)
 ·obtain ⟨p,L,x,rfl,_⟩:=h;rfl
 obtain ⟨p,L,x,rfl,b,ok,bx,q⟩:=h
 have bo:=b.ob
 have br:=b.rw
 have hrl:=ok.rl
 have sx:Sz 9000 (x:Rat):=⟨bx.mono (by decide),(Bd.small (x:=1) (by decide) (by decide)).mono (by decide)⟩
 refine ⟨_,(rb_one (rs_ret (re_callB cq_len rfl Z.len boot_len (ra_cons (re_lcF (L2.defScope s_Lane_count_from) ["self","place"] [("self",0),("place",1)] rfl rfl rfl (ri_list (re_fld KD_Lane.cl NA_Lane_row (rv 0))) (fun _ _ _ _ _ _=>(rv 0)) (fun _ _ _ _ _ _=>(rt_not (rt_val (re_fn C_less ebd0 hr (by decide) rfl (ra_cons (re_meth (pl:=_) m_Lane_place ebd0 hr (by decide) (rv 1) (ra_cons (rv 0) ra_nil)) (ra_cons (re_tup (ra_cons (rv 2) (ra_cons re_int ra_nil))) ra_nil))))))) ra_nil)))),?_⟩
 simp_all! only [rLCf,bo,br,lkN3]
 refine ⟨fun y=>match y with | .str n=>decide ((x:Rat)≤(L.legN n).at L.t) | _=>false,id,⟨by rw [List.length_map];exact small1000 (by omega),fun J' sub=>⟨sub _ _ br,fun y hy=>?_⟩⟩,?_⟩
 ·obtain ⟨n,hn,rfl⟩:=List.mem_map.mp hy
  have b':LnAt cN cL J' p L:=b.keep fun a o _ e=>sub a o e
  obtain ⟨c,hc,rfl,hg⟩:=ok.found hn
  simp_all! only [selR,b'.ob]
  refine ⟨lkNn _ _ _ _,⟨p,L,c.n,rfl,b',ok.toLnOk0,fun c' hc' e' hg'=>?_,fun z=>absurd hn z⟩,fun _=>trivial⟩
  cases ok.uniq hc' hc e'
  have sz:Sz 9000 (c.cur.at L.t):=(at_szL (ok.csz hc) ok.tsz).mono (by decide)
  simp_all! only [fr_int]
  refine ⟨_,_,rfl,sz,sx,_,rfl,?_,rfl⟩
  rw [ok.legN hc,← decide_not]
  exact decide_eq_decide.mpr Rat.not_lt
 have ef:((L.row.map PV.str).filter fun y=>match y with | .str n=>decide ((x:Rat)≤(L.legN n).at L.t) | _=>false).map id=(L.row.filter fun n=>decide ((x:Rat)≤(L.legN n).at L.t)).map PV.str:=by rw [List.map_id,List.filter_map];rfl
 rw [ef]
 simp_all! only [List.length_map]
 rw [ok.row,row_count L.t ok.fnd]
 have ec:(L.fs.filter fun y=>decide ((x:Rat)≤(L.legN y.1).at L.t))=L.fs.filter fun y=>decide ((x:Rat)≤y.2.at L.t):=List.filter_congr fun y hy=>by
  obtain ⟨c,hc,rfl⟩:=List.mem_map.mp hy
  show decide ((x:Rat)≤(L.legN c.n).at L.t)=_
  rw [ok.legN (Ln.prs_mem.mp hc).1]
 rw [ec]
 exact q
theorem cpow12:CPow 10 12=True:=eq_true ⟨by decide,by decide,by decide⟩
theorem fdiv_abs {a b:Int} (hb:0 < b):(a.fdiv b).natAbs≤a.natAbs:=by
 rw [Int.fdiv_eq_ediv_of_nonneg _ (by omega)]
 rcases (show a < 0∨0≤a by omega) with h | h
 ·have h1:a / b < 0:=Int.ediv_neg_of_neg_of_pos h hb
  have h2:a≤a / b:=Int.le_ediv_of_mul_le hb (by
   have:=Int.mul_nonneg (show 0≤-a by omega) (show 0≤b - 1 by omega)
   rw [Int.mul_sub,Int.mul_one,Int.neg_mul] at this
   omega)
  omega
 ·have h1:=Int.ediv_nonneg h (show 0≤b by omega)
  have h2:=Int.ediv_le_self b h
  omega
theorem le_cross (x:Int) (p:Rat):(x * (p.den:Int)≤p.num)=((x:Rat)≤p):=by
 rw [Rat.le_iff,Rat.num_intCast,Rat.den_intCast]
 simp
theorem Rl.ats {L:Ln} {gs:List (Str × Leg)} (h:Rl L gs) (t:Rat):L.fs.map (fun y=>y.2.at t)=gs.map fun y=>y.2.at t:=by
 refine List.ext_getElem (by rw [List.length_map,List.length_map,h.len]) fun i h1 h2=>?_
 rw [List.getElem_map,List.getElem_map]
 have hi:i < gs.length:=by rwa [List.length_map] at h2
 have hi':i < L.fs.length:=by rwa [List.length_map] at h1
 have e:gs[i].1=L.fs[i].1:=by
  have:=congrArg (fun l:List Str=>l[i]?) h.nm
  simp only [List.getElem?_map,List.getElem?_eq_getElem hi,List.getElem?_eq_getElem hi',Option.map_some] at this
  exact Option.some.inj this
 exact ((h.ln gs[i].1 gs[i].2 L.fs[i].2 (List.getElem_mem hi) (by rw [e];exact List.getElem_mem hi')).2 t).symm
theorem Rl.cnt {L:Ln} {gs:List (Str × Leg)} (h:Rl L gs) (t:Rat) (f:Rat→Bool):(L.fs.filter fun y=>f (y.2.at t)).length=(gs.filter fun y=>f (y.2.at t)).length:=by
 have hf:∀ l:List (Str × Leg),(l.filter fun y=>f (y.2.at t)).length=((l.map fun y=>y.2.at t).filter f).length:=fun l=>by rw [List.filter_map,List.length_map];rfl
 rw [hf,hf,h.ats t]
abbrev s_law:Stmt:=(top 57)
theorem sc_law:L2.FnScope ["_law_script","_law_head","_law_names_here","_law_lane","_law_cells","_law_legs","_law_clock","_law_used","_law_k","_law_row","_law_place","_law_here","_law_many","_law_name","_law_found"] ["_law_script"] (L2.defScope s_law):=⟨rfl,rfl,rfl,by decide +kernel,rfl,by decide +kernel,by decide +kernel⟩
theorem okr_law {cN cL T  f:Addr} {fd:FuncData} (F:Fun K "law" "law" s_law f fd) (Z:BltR mg) (C_cell:CanR P w K mg base 1 "_law_cell" ["_law_script","_law_k"] spCellF) (C_digits:CanR P w K mg base 1 "_law_digits" ["_law_cell_here","_law_sizes"] spDigR) (C_names:CanR P w K mg base 2 "_law_names" ["_law_cell_here","_law_many"] spNamesR) (C_walk:CanR P w K mg base 10 "_law_walk" ["_law_lane","_law_names_here","_law_cells","_law_mode"] (spWalk cN cL T)) (M_Lane:MakR P w K mg base cN 1 "Lane" ["self"] (spNInit cN cL)) (C_at:CanR P w K mg base 2 "_law_at" ["_law_leg","_law_moment"] spPlR) (C_whole:CanR P w K mg base 1 "_law_whole" ["_law_found"] spWholeR) (m_Lane_count_from:MthR P w K mg base cN 6 "count_from" ["self","place"] (spNCount cN cL)) :
  FnOk P w K mg base (Fly P w) 11 f fd ["_law_script"] (LSp K (spLawG [T])):=by
 refine okR F sc_law (fun xs J Q E h=>?_) (fun cdv A outer s H E G xs J Q E2 hr h B=>?_)
 ·obtain ⟨ns,rfl,_⟩:=h;rfl
 obtain ⟨ns,rfl,hl,hT,hJ,q⟩:=h
 have hT:J T=some .tab:=hT T (by simp)
 refine ⟨_,(rb_cons (rs_set (i:=1) sc_law.nd rfl (Or.inl rfl) (re_fn C_digits B hr (by decide) rfl (ra_cons (re_fn C_cell B hr (by decide) rfl (ra_cons (rv 0) (ra_cons re_int ra_nil))) (ra_cons (re_fl (ra_cons re_int (ra_cons re_int (ra_cons re_int ra_nil)))) ra_nil))))
   (rb_cons (rs_set (i:=2) sc_law.nd rfl (Or.inl rfl) (re_fn C_names B hr (by decide) rfl (ra_cons (re_fn C_cell B hr (by decide) rfl (ra_cons (rv 0) (ra_cons re_int ra_nil))) (ra_cons (re_op oq_add re_int (re_ix iq_ix (rv 1) re_int (fun _ _=>rfl))) ra_nil))))
   (rb_cons (rs_set (i:=3) sc_law.nd rfl (Or.inl rfl) (re_make0 M_Lane B hr (by decide) rfl))
   (rb_cons (rs_lc (i:=4) (L2.defScope s_law) ["_law_script","_law_head","_law_names_here","_law_lane","_law_cells","_law_legs","_law_clock","_law_used","_law_k","_law_row","_law_place","_law_here","_law_many","_law_name","_law_found"] [("_law_script",0)] rfl rfl rfl sc_law.nd rfl (Or.inl rfl) (ri_range1 rfl Z.range (ra_cons (re_ix iq_ix (rv 1) re_int (fun _ _=>rfl)) ra_nil)) (fun _ _ _ _ _ _=>(re_fn C_cell ebd0 hr (by decide) rfl (ra_cons (rv 1) (ra_cons (re_op oq_add re_int (rv 0)) ra_nil)))))
   (rb_cons (rs_asg (re_fn C_walk B hr (by decide) rfl (ra_cons (rv 3) (ra_cons (re_slice sq_fl (rv 2) ro_none (ro_some (re_un uq_neg re_int))) (ra_cons (rv 4) (ra_cons (re_ix iq_ix (rv 1) re_int (fun _ _=>rfl)) ra_nil))))) (rg_tup (n:=3) rfl (rgs_cons (rg_name (i:=5) sc_law.nd rfl (Or.inl rfl)) (rgs_cons (rg_name (i:=6) sc_law.nd rfl (Or.inl rfl)) (rgs_cons (rg_name (i:=7) sc_law.nd rfl (Or.inl rfl)) rgs_nil)))))
   (rb_cons (rs_for cxF_own rfl (ri_range1 rfl Z.range (ra_cons re_int ra_nil)) (rg_name (i:=8) sc_law.nd rfl (Or.inl rfl)) (rb_cons (rs_set (i:=9) sc_law.nd rfl (Or.inl rfl) (re_fn C_digits B hr (by decide) rfl (ra_cons (re_fn C_cell B hr (by decide) rfl (ra_cons (rv 0) (ra_cons (re_op oq_add re_int (rv 8)) ra_nil))) (ra_cons (re_fl (ra_cst [.int 4,.int 97,.int 3,.int 2000001] rfl [.int 4,.int 97,.int 3,.int 2000001] rfl)) ra_nil))))
   (rb_cons (rs_set (i:=10) sc_law.nd rfl (Or.inl rfl) (re_op oq_sub (re_op oq_mod (re_ix iq_ix (rv 9) re_int (fun _ _=>rfl)) re_int) re_int))
   (rb_join (rs_if (rt_cmp (oq_eq hr.units61) (re_ix iq_ix (rv 9) re_int (fun _ _=>rfl)) re_int (L2.nomark _)) (rb_one (rs_set (i:=10) sc_law.nd rfl (Or.inl rfl) (re_op oq_sub (re_ix iq_ix (rv 9) re_int (fun _ _=>rfl)) re_int))) rb_nil)
   (rb_join (rs_if (rw_rt (rw_and (rt_cmp oq_gt (re_ix iq_ix (rv 9) re_int (fun _ _=>rfl)) re_int (L2.nomark _)) (rw_and1 (rt_cmp oq_gt (re_callB cq_lenD rfl Z.len boot_len (ra_cons (rv 5) ra_nil)) re_int (L2.nomark _))))) (rb_cons (rs_set (i:=11) sc_law.nd rfl (Or.inl rfl) (re_fn C_at B hr (by decide) rfl (ra_cons (re_ix iq_ixD (rv 5) (re_ix iq_ix (re_callTy (cq_listD rfl) rfl Z.list boot_list (ra_cons (rv 5) ra_nil)) (re_op oq_mod (re_ix iq_ix (rv 9) re_int (fun _ _=>rfl)) (re_callB cq_lenD rfl Z.len boot_len (ra_cons (rv 5) ra_nil))) (fun _ _=>rfl)) (fun _ _=>rfl)) (ra_cons (rv 6) ra_nil))))
   (rb_one (rs_set (i:=10) sc_law.nd rfl (Or.inl rfl) (re_op oq_sub (re_op oq_add (re_op oq_fdiv (re_ix iq_ix (rv 11) re_int (fun _ _=>rfl)) (re_ix iq_ix (rv 11) re_int (fun _ _=>rfl))) (re_ix iq_ix (rv 9) re_int (fun _ _=>rfl))) re_int)))) rb_nil)
   (rb_join (rs_if (rw_rt (rw_and (rt_cmp (oq_eq hr.units61) (re_ix iq_ix (rv 9) re_int (fun _ _=>rfl)) re_int (L2.nomark _)) (rw_and1 (rt_cmp (oq_eq hr.units61) (re_ix iq_ix (rv 9) re_int (fun _ _=>rfl)) re_int (L2.nomark _))))) (rb_one (rs_set (i:=10) sc_law.nd rfl (Or.inl rfl) (re_op oq_add (re_op oq_pow re_int re_int) (re_ix iq_ix (rv 9) re_int (fun _ _=>rfl))))) rb_nil)
   (rb_cons (rs_set (i:=12) sc_law.nd rfl (Or.inl rfl) re_int)
   (rb_cons (rs_for cxF_own rfl (ri_dict (rv 5)) (rg_name (i:=13) sc_law.nd rfl (Or.inl rfl)) (rb_cons (rs_set (i:=11) sc_law.nd rfl (Or.inl rfl) (re_fn C_at B hr (by decide) rfl (ra_cons (re_ix iq_ixD (rv 5) (rv 13) (fun _ _=>rfl)) (ra_cons (rv 6) ra_nil))))
   (rb_one (rs_if (rt_cmp oq_ge (re_ix iq_ix (rv 11) re_int (fun _ _=>rfl)) (re_op oq_mul (rv 10) (re_ix iq_ix (rv 11) re_int (fun _ _=>rfl))) (L2.nomark _)) (rb_one (rs_set (i:=12) sc_law.nd rfl (Or.inl rfl) (re_op oq_add (rv 12) re_int))) rb_nil))))
   (rb_cons (rs_set (i:=14) sc_law.nd rfl (Or.inl rfl) (re_meth (pl:=_) m_Lane_count_from B hr (by decide) (rv 3) (ra_cons (rv 10) ra_nil)))
   (rb_one (rs_if (rw_rt (rw_or (rt_not (rt_val (re_fn C_whole B hr (by decide) rfl (ra_cons (rv 14) ra_nil)))) (rw_or1 (rt_cmp (oq_ne hr.units61) (rv 14) (rv 12) (L2.nomark _))))) (rb_one (rs_ret re_bl)) rb_nil)))))))))))
   (rb_one (rs_ret re_bl)))))))),?_⟩
 simp_all! only []
 refine ⟨ns,0,rfl,by decide,by decide,_,[21,7,4],rfl,sizes_ok (by decide),by decide,fun ds hD=>?_⟩
 obtain ⟨d0,ds,rfl,d00,d01,hD⟩:=hD.cons
 obtain ⟨d1,ds,rfl,d10,d11,hD⟩:=hD.cons
 obtain ⟨d2,ds,rfl,d20,d21,hD⟩:=hD.cons
 cases hD.nil
 simp_all! only []
 refine ⟨ns,1,rfl,by decide,by decide,_,3 + d1,rfl,by omega,by omega,fun names nl nd ng=>?_⟩
 simp_all! only []
 intro p hp
 refine ⟨p,rfl,put_same,fun J1 d e o b mv=>?_⟩
 have mvJ:Mv J J1 (fun _=>False) (Ln.own ⟨0,d,e,o,[],[]⟩ p):=by
  refine (Mv.new1 (S:=fun _=>False) hp).trans ⟨fun a u h n=>mv.keep a u h fun z=>n (.inr z),fun a z=>(mv.own a z).imp .inr id,mv.mono⟩
 have ok0:LnOk ⟨0,d,e,o,[],[]⟩:=⟨⟨List.nodup_nil,(by simp),(by simp),(by simp),(by simp),(by simp),Rat.le_refl,sc0 _,(by show 0≤100;decide),(by intro n;simp [Ln.fs,Ln.prs]),List.nodup_nil,(by show 0≤12;decide)⟩,rfl⟩
 have hT1:J1 T=some .tab:=mvJ.keep _ _ hT fun z=>z
 simp_all! only [rLCf]
 refine ⟨by omega,by omega,fun _=>true,fun x=>.int (cellF ns (8 + asI x)),⟨by rw [irow_len];exact small1000 (by omega),fun J' _=>⟨trivial,fun x hx=>⟨⟨rfl,rfl⟩,fun _=>?_⟩⟩⟩,?_⟩
 ·obtain ⟨i,hi⟩:=List.mem_iff_getElem?.mp hx
  obtain ⟨i1,rfl⟩:=(irow_get _ _ _ _).mp hi
  simp_all! only []
  exact ⟨ns,_,rfl,by omega,by omega,rfl,rfl⟩
 obtain ⟨cs,hcs,hcl⟩:∃ cs:List Int,((irow 0 d0.toNat).filter fun _=>true).map (fun x=>PV.int (cellF ns (8 + asI x)))=cs.map .int∧cs.length≤21:=⟨((irow 0 d0.toNat).filter fun _=>true).map (fun x=>cellF ns (8 + asI x)),by rw [List.map_map];rfl,by
  rw [List.length_map]
  exact Nat.le_trans (List.length_filter_le _ _) (by rw [irow_len];omega)⟩
 rw [hcs]
 simp_all! only [cut_last]
 have hnl:names.dropLast.length≤40:=by rw [List.length_dropLast];omega
 refine ⟨p,_,names.dropLast,cs,d2,rfl,b,ok0,rfl,rfl,hT1,hnl,(fun n hn=>ng n (List.dropLast_subset _ hn)),by omega,d20,d21,fun J2 L D U gs ep used wk hun hus hul=>?_⟩
 have hT2:J2 T=some .tab:=wk.kept hT1 (b.ntab hT1)
 obtain ⟨st,gnd,gl,gsz⟩:=wk.up
 clear mvJ mv hT1 hcs
 simp_all! only []
 have hD:=wk.hD
 have bo:=wk.b.ob
 have gsz2:∀ x∈gs,LSz 240 x.2:=wk.rl.sz
 have st2:Sz 240 L.t:=(mm_sz wk.ok.ts).mono (by decide)
 have hkv:(legD gs).map (fun kv=>PV.str kv.1)=gs.map fun x=>PV.str x.1:=by unfold legD;rw [List.map_map];rfl
 refine ⟨by decide,by decide,?_⟩
 obtain ⟨Inv,hInv⟩:∃ Inv:Nat→Sr→Hq→Prop,∀ i τ J',Inv i τ J'↔∃ (u8 u9 u10 u11 u12 u13 u14:Option PV),τ=[some (.fl (ns.map .int)),some (.fl [.int d0,.int d1,.int d2]),some (.fl (names.map .str)),some (.ref p),some (.fl (cs.map .int)),some (.ref D),some (fr L.t),some (.ref U),u8,u9,u10,u11,u12,u13,u14]∧J'=J2:=⟨_,fun _ _ _=>Iff.rfl⟩
 refine for_rng Inv ((hInv _ _ _).mpr ⟨_,_,_,_,_,_,_,rfl,rfl⟩) ?_ ?_
 ·intro i τ J' hi hv
  obtain ⟨u8,u9,u10,u11,u12,u13,u14,rfl,rfl⟩:=(hInv _ _ _).mp hv
  clear hv
  simp_all! only []
  refine ⟨ns,2 + (0 + (i:Int)),rfl,by omega,by omega,_,[4,97,3,2000001],rfl,sizes_ok (by decide),by decide,fun ds hG=>?_⟩
  obtain ⟨e0,ds,rfl,e00,e01,hG⟩:=hG.cons
  obtain ⟨e1,ds,rfl,e10,e11,hG⟩:=hG.cons
  obtain ⟨e2,ds,rfl,e20,e21,hG⟩:=hG.cons
  obtain ⟨e3,ds,rfl,e30,e31,hG⟩:=hG.cons
  cases hG.nil
  simp_all! only []
  have hll:(legD gs).length=gs.length:=by unfold legD;rw [List.length_map]
  refine ⟨by decide,?_⟩
  obtain ⟨M,hM⟩:∃ M:Sr→Hq→Prop,∀ τ' Ja,M τ' Ja↔∃ (x:Int) (u11:Option PV),τ'=[some (.fl (ns.map .int)),some (.fl [.int d0,.int d1,.int d2]),some (.fl (names.map .str)),some (.ref p),some (.fl (cs.map .int)),some (.ref D),some (fr L.t),some (.ref U),some (.int (0 + (i:Int))),some (.fl [.int e0,.int e1,.int e2,.int e3]),some (.int x),u11,u12,u13,u14]∧Ja=J'∧Bd 1000 x:=⟨_,fun _ _=>Iff.rfl⟩
  have sm:∀ {x:Int},x.natAbs≤2000000000000→Bd 1000 x:=fun h=>(Bd.small (by omega) (by omega)).mono (by decide)
  refine ⟨M,?_,?_⟩
  ·simp_all! only []
   split
   ·exact (hM _ _).mpr ⟨_,_,rfl,rfl,sm (by omega)⟩
   ·exact (hM _ _).mpr ⟨_,_,rfl,rfl,sm (by omega)⟩
  intro τ' Ja hm
  obtain ⟨x,u11,rfl,rfl,bx⟩:=(hM _ _).mp hm
  clear hm
  refine ⟨M,?_,?_⟩
  ·simp_all! only [hD,hll]
   split
   ·split
    ·rename_i c1 c2
     obtain ⟨n,hn,ha⟩:=pick_in (xs:=gs.map (·.1)) e10 (by rw [List.length_map];omega)
     obtain ⟨l,hml,hvl⟩:=va_some (f:=Leg.V) gnd hn
     rw [List.length_map] at ha
     have hvl:vaL (legD gs) n=some l.V:=hvl
     have hkv2:(legD gs).map (fun kv=>PV.str kv.1)=(gs.map (·.1)).map PV.str:=by unfold legD;rw [List.map_map,List.map_map];rfl
     have sll:=gsz _ hml
     have sla:=(gsz2 _ hml).at240 st2
     simp_all! only [hD,hkv2,ha,hvl,hll]
     refine ⟨by omega,l,L.t,rfl,sll.m,sll.p,st,sll.v,?_⟩
     refine ⟨_,ix_fr0 _ _,_,ix_fr1 _ _,_,rfl,_,rfl,⟨den_ne _,sla.den.mono (by decide)⟩,(hM _ _).mpr ⟨_,_,rfl,rfl,?_⟩⟩
     have h0:Bd 790 ((l.at L.t).num.fdiv ((l.at L.t).den:Int)):=sla.num.le (fdiv_abs (den_gt _))
     exact ((h0.add (k:=791) (Bd.small (x:=e2) (by omega) (by omega))).sub (k:=792) (Bd.small (x:=1) (by decide) (by decide))).mono (by decide)
    ·exact (hM _ _).mpr ⟨_,_,rfl,rfl,bx⟩
   ·exact (hM _ _).mpr ⟨_,_,rfl,rfl,bx⟩
  intro τ' Ja hm
  obtain ⟨x,u11,rfl,rfl,bx⟩:=(hM _ _).mp hm
  clear hm
  refine ⟨M,?_,?_⟩
  ·simp_all! only []
   split
   ·split
    ·simp_all! only [cpow12]
     exact (hM _ _).mpr ⟨_,_,rfl,rfl,sm (by show (10 ^ 12 + e3:Int).natAbs≤_;omega)⟩
    ·exact (hM _ _).mpr ⟨_,_,rfl,rfl,bx⟩
   ·exact (hM _ _).mpr ⟨_,_,rfl,rfl,bx⟩
  intro τ' Ja hm
  obtain ⟨x,u11,rfl,rfl,bx⟩:=(hM _ _).mp hm
  clear hm hM M
  simp_all! only [hD,hkv]
  obtain ⟨In2,hIn2⟩:∃ In2:Nat→Sr→Hq→Prop,∀ j τ Jb,In2 j τ Jb↔∃ (u11 u13:Option PV),τ=[some (.fl (ns.map .int)),some (.fl [.int d0,.int d1,.int d2]),some (.fl (names.map .str)),some (.ref p),some (.fl (cs.map .int)),some (.ref D),some (fr L.t),some (.ref U),some (.int (0 + (i:Int))),some (.fl [.int e0,.int e1,.int e2,.int e3]),some (.int x),u11,some (.int (((gs.take j).filter fun y=>decide ((x:Rat)≤y.2.at L.t)).length:Nat)),u13,u14]∧Jb=Ja:=⟨_,fun _ _ _=>Iff.rfl⟩
  refine for_ls In2 ((hIn2 _ _ _).mpr ⟨_,_,rfl,rfl⟩) (fun i τ Jb h=>?_) ?_ ?_
  ·obtain ⟨_,_,_,rfl⟩:=(hIn2 _ _ _).mp h
   exact hD
  ·intro j y τ Jb hx hv
   obtain ⟨u11,u13,rfl,rfl⟩:=(hIn2 _ _ _).mp hv
   clear hv
   have hj:j < gs.length:=by have:=(List.getElem?_eq_some_iff.mp hx).1;simpa using this
   rw [List.getElem?_map,List.getElem?_eq_getElem hj] at hx
   cases hx
   rcases hgj:gs[j] with ⟨n,l⟩
   have hmem:(n,l)∈gs:=by rw [← hgj];exact List.getElem_mem hj
   have hvn:vaL (legD gs) n=some l.V:=va_mem (f:=Leg.V) gnd hmem
   have sll:=gsz _ hmem
   have sla:=(gsz2 _ hmem).at240 st2
   have et:gs.take (j + 1)=gs.take j ++ [(n,l)]:=by rw [List.take_add_one,List.getElem?_eq_getElem hj,hgj];rfl
   simp_all! only [hD,hvn]
   refine ⟨l,L.t,rfl,sll.m,sll.p,st,sll.v,?_⟩
   simp_all! only [le_cross]
   refine ⟨.of bx sla.den,?_⟩
   split
   ·rename_i c
    simp_all! only []
    refine (hIn2 _ _ _).mpr ⟨some (fr (l.at L.t)),some (.str n),?_,rfl⟩
    rw [et,List.filter_append,List.filter_cons,if_pos (decide_eq_true c),List.filter_nil,List.length_append]
    rfl
   ·rename_i c
    refine (hIn2 _ _ _).mpr ⟨some (fr (l.at L.t)),some (.str n),?_,rfl⟩
    rw [et,List.filter_append,List.filter_cons,if_neg (by simpa using c),List.filter_nil,List.append_nil]
  ·intro τ Jb hv
   obtain ⟨u11,u13,rfl,rfl⟩:=(hIn2 _ _ _).mp hv
   clear hv hIn2 In2
   rw [List.length_map,List.take_length]
   simp_all! only [bo]
   refine ⟨lkNn _ _ _ _,p,L,x,rfl,wk.b,wk.ok,bx.mono (by decide),?_⟩
   rw [wk.rl.cnt L.t (fun z=>decide ((x:Rat)≤z))]
   simp_all! only [spWholeR]
   exact (hInv _ _ _).mpr ⟨_,_,_,_,_,_,_,rfl,rfl⟩
 ·intro τ J' hv
  obtain ⟨u8,u9,u10,u11,u12,u13,u14,rfl,rfl⟩:=(hInv _ _ _).mp hv
  simp_all! only []
  exact q J' (by simpa using hT2)
end
theorem all_ok {P:Program} {w:World} {K:PySem.W.Frag} {mg:Str→Option Value} (Z:BltR mg) (N:Nought K mg) {t_FARTHEST:Tok} (g_FARTHEST:mg "FARTHEST"=some (.int 1000000 t_FARTHEST)) {t_FASTEST:Tok} (g_FASTEST:mg "FASTEST"=some (.int 1000 t_FASTEST)) {t_FINEST:Tok} (g_FINEST:mg "FINEST"=some (.int 60 t_FINEST)) {t_LATEST:Tok} (g_LATEST:mg "LATEST"=some (.int 1000000 t_LATEST)) {t_LONGEST:Tok} (g_LONGEST:mg "LONGEST"=some (.int 8 t_LONGEST)) {t_MOST:Tok} (g_MOST:mg "MOST"=some (.int 12 t_MOST)) {t_SIGNS:Tok} (g_SIGNS:mg "SIGNS"=some (.str "abcdefghijklmnopqrstuvwxyz0123456789" t_SIGNS)) {e_BadMoment:Addr} (O_BadMoment:Own K mg "BadMoment" e_BadMoment) {e_BadName:Addr} (O_BadName:Own K mg "BadName" e_BadName) {e_Full:Addr} (O_Full:Own K mg "Full" e_Full) {e_NoCraft:Addr} (O_NoCraft:Own K mg "NoCraft" e_NoCraft) {e_NotThere:Addr} (O_NotThere:Own K mg "NotThere" e_NotThere) {e_Past:Addr} (O_Past:Own K mg "Past" e_Past) {e_Taken:Addr} (O_Taken:Own K mg "Taken" e_Taken) {e_TooFar:Addr} (O_TooFar:Own K mg "TooFar" e_TooFar) {c_Log:Addr} (KD_Log:KDef K mg "Log" c_Log) {c_Lane:Addr} (KD_Lane:KDef K mg "Lane" c_Lane) {c_Bells:Addr} (KD_Bells:KDef K mg "Bells" c_Bells) (NA_Log_rows:NoAttr K c_Log "rows") (NA_Log_gone:NoAttr K c_Log "gone") (NA_Lane_now:NoAttr K c_Lane "now") (NA_Lane_logs:NoAttr K c_Lane "logs") (NA_Lane_row:NoAttr K c_Lane "row") (NA_Bells_rows:NoAttr K c_Bells "rows") (D_cell:Def K mg "_law_cell" s_cell) (D_digits:Def K mg "_law_digits" s_digits) (D_shared:Def K mg "shared" s_shared) (D_fraction:Def K mg "fraction" s_fraction) (D_low:Def K mg "_law_low" s_low) (D_less:Def K mg "less" s_less) (D_plus:Def K mg "plus" s_plus) (D_minus:Def K mg "minus" s_minus) (D_times:Def K mg "times" s_times) {T_good_name:Addr} (D_good_name:DefG K mg "good_name" s_good_name T_good_name) (D_names:Def K mg "_law_names" s_names) (D_place_on:Def K mg "place_on" s_place_on) (D_last_by:Def K mg "last_by" s_last_by) (D_lies_behind:Def K mg "lies_behind" s_lies_behind) (D_in_order:Def K mg "in_order" s_in_order) (D_rings_ahead:Def K mg "rings_ahead" s_rings_ahead) (D_meeting:Def K mg "meeting" s_meeting) (D_in_lowest_terms:Def K mg "in_lowest_terms" s_in_lowest_terms) (D_good_moment:Def K mg "good_moment" s_good_moment) (D_whole:Def K mg "_law_whole" s_whole) (D_placed:Def K mg "_law_placed" s_placed) (D_paced:Def K mg "_law_paced" s_paced) (D_at:Def K mg "_law_at" s_at) (D_later:Def K mg "_law_later" s_later) (D_acted:Def K mg "_law_acted" s_acted) (D_done:Def K mg "_law_done" s_done) (D_deed:Def K mg "_law_deed" s_deed) (D_walk:Def K mg "_law_walk" s_walk) (MD_Log___init__:MDef K c_Log "__init__" "Log.__init__" s_Log___init__) (MD_Log_turn:MDef K c_Log "turn" "Log.turn" s_Log_turn) (MD_Log_leave:MDef K c_Log "leave" "Log.leave" s_Log_leave) (MD_Log_there:MDef K c_Log "there" "Log.there" s_Log_there) (MD_Log_leg_at:MDef K c_Log "leg_at" "Log.leg_at" s_Log_leg_at) (MD_Lane___init__:MDef K c_Lane "__init__" "Lane.__init__" s_Lane___init__) (MD_Lane_must_be_there:MDef K c_Lane "must_be_there" "Lane.must_be_there" s_Lane_must_be_there) (MD_Lane_leg_of:MDef K c_Lane "leg_of" "Lane.leg_of" s_Lane_leg_of) (MD_Lane_settle:MDef K c_Lane "settle" "Lane.settle" s_Lane_settle) (MD_Lane_join:MDef K c_Lane "join" "Lane.join" s_Lane_join) (MD_Bells___init__:MDef K c_Bells "__init__" "Bells.__init__" s_Bells___init__) (MD_Bells_drop:MDef K c_Bells "drop" "Bells.drop" s_Bells_drop) (MD_Bells_put:MDef K c_Bells "put" "Bells.put" s_Bells_put) (MD_Bells_told:MDef K c_Bells "told" "Bells.told" s_Bells_told) (MD_Lane_meets:MDef K c_Lane "meets" "Lane.meets" s_Lane_meets) (MD_Lane_foretold:MDef K c_Lane "foretold" "Lane.foretold" s_Lane_foretold) (MD_Lane_go_to:MDef K c_Lane "go_to" "Lane.go_to" s_Lane_go_to) (MD_Lane_turn:MDef K c_Lane "turn" "Lane.turn" s_Lane_turn) (MD_Lane_about:MDef K c_Lane "about" "Lane.about" s_Lane_about) (MD_Lane_leave:MDef K c_Lane "leave" "Lane.leave" s_Lane_leave) (MD_Lane_place:MDef K c_Lane "place" "Lane.place" s_Lane_place) (MD_Lane_count_from:MDef K c_Lane "count_from" "Lane.count_from" s_Lane_count_from) {f:Addr} {fd:FuncData} (F:Fun K "law" "law" s_law f fd) (base:Heap) (Bm:BMain mg base) :
  FnOk P w K mg base (Fly P w) 11 f fd ["_law_script"] (LSp K (spLawG [T_good_name])):=by
 have L_cell:=D_cell.canR (P:=P) (w:=w) (base:=base) (fun _ _ F=>okr_cell F Z) fun _ _ _ _ _ _=>ar2 fun _ _=>rfl
 have C_digits:=D_digits.can (P:=P) (w:=w) (base:=base) (fun _ _ F=>ok_digits F Z.toBlt) fun _ _ _ _ _ _=>ar2 fun _ _=>rfl
 have L_digits:=lift_digits C_digits
 have C_shared:=D_shared.can (P:=P) (w:=w) (base:=base) (fun _ _ F=>ok_shared F Z.toBlt) fun _ _ _ _ _ _=>ar2 fun _ _=>rfl
 have L_shared:=lift_shared C_shared
 have C_fraction:=D_fraction.can (P:=P) (w:=w) (base:=base) (fun _ _ F=>ok_fraction F Z.toBlt C_shared) fun _ _ _ _ _ _=>ar2 fun _ _=>rfl
 have L_fraction:=lift_fraction C_fraction
 have C_low:=D_low.can (P:=P) (w:=w) (base:=base) (fun _ _ F=>ok_low F Z.toBlt) fun _ _ _ _ _ _=>ar2 fun _ _=>rfl
 have L_low:=lift_low C_low
 have C_less:=D_less.can (P:=P) (w:=w) (base:=base) (fun _ _ F=>ok_less F Z.toBlt) fun _ _ _ _ _ _=>ar2 fun _ _=>rfl
 have L_less:=lift_less C_less
 have C_plus:=D_plus.can (P:=P) (w:=w) (base:=base) (fun _ _ F=>ok_plus F Z.toBlt C_fraction) fun _ _ _ _ _ _=>ar2 fun _ _=>rfl
 have C_minus:=D_minus.can (P:=P) (w:=w) (base:=base) (fun _ _ F=>ok_minus F Z.toBlt C_fraction) fun _ _ _ _ _ _=>ar2 fun _ _=>rfl
 have C_times:=D_times.can (P:=P) (w:=w) (base:=base) (fun _ _ F=>ok_times F Z.toBlt C_fraction) fun _ _ _ _ _ _=>ar2 fun _ _=>rfl
 have L_plus:=lift_plus C_plus
 have L_minus:=lift_minus C_minus
 have L_times:=lift_times C_times
 have C_good_name:=D_good_name.can (P:=P) (w:=w) (base:=base) (fun _ _ _ F=>ok_good_name F Z.toBlt Bm g_LONGEST g_SIGNS) fun _ _ _ _ _ _=>ar1 fun _=>rfl
 have L_good_name:=lift_good_name C_good_name
 have C_names:=D_names.can (P:=P) (w:=w) (base:=base) (fun _ _ F=>ok_names F Z.toBlt C_digits) fun _ _ _ _ _ _=>ar2 fun _ _=>rfl
 have L_names:=lift_names C_names
 have L_place_on:=D_place_on.canR (P:=P) (w:=w) (base:=base) (fun _ _ F=>okr_place_on F Z L_plus L_minus L_times) fun _ _ _ _ _ _=>ar2 fun _ _=>rfl
 have L_last_by:=D_last_by.canR (P:=P) (w:=w) (base:=base) (fun _ _ F=>okr_last_by F Z L_less) fun _ _ _ _ _ _=>ar2 fun _ _=>rfl
 have L_lies_behind:=D_lies_behind.canR (P:=P) (w:=w) (base:=base) (fun _ _ F=>okr_lies_behind F Z L_place_on L_less) fun _ _ _ _ _ _=>ar5 fun _ _ _ _ _=>rfl
 have L_in_order:=D_in_order.canR (P:=P) (w:=w) (base:=base) (fun _ _ F=>okr_in_order F Z L_lies_behind) fun _ _ _ _ _ _=>ar2 fun _ _=>rfl
 have M_Log:=MD_Log___init__.mak (P:=P) (w:=w) (base:=base) KD_Log (fun _ _ F=>ok_Log_init F KD_Log NA_Log_rows NA_Log_gone) fun _ _ _ _ _ _=>ar4 fun _ _ _ _=>rfl
 have m_Log_turn:=MD_Log_turn.mth (P:=P) (w:=w) (base:=base) (mg:=mg) KD_Log.cl (fun _ _ F=>ok_Log_turn F Z KD_Log NA_Log_rows L_place_on) fun _ _ _ _ _ _=>ar3 fun _ _ _=>rfl
 have m_Log_leave:=MD_Log_leave.mth (P:=P) (w:=w) (base:=base) (mg:=mg) KD_Log.cl (fun _ _ F=>ok_Log_leave F Z KD_Log NA_Log_gone) fun _ _ _ _ _ _=>ar2 fun _ _=>rfl
 have m_Log_there:=MD_Log_there.mth (P:=P) (w:=w) (base:=base) (mg:=mg) KD_Log.cl (fun _ _ F=>ok_Log_there F Z KD_Log NA_Log_rows NA_Log_gone L_less) fun _ _ _ _ _ _=>ar2 fun _ _=>rfl
 have m_Log_leg_at:=MD_Log_leg_at.mth (P:=P) (w:=w) (base:=base) (mg:=mg) KD_Log.cl (fun _ _ F=>ok_Log_leg_at F Z KD_Log NA_Log_rows O_NotThere m_Log_there L_last_by) fun _ _ _ _ _ _=>ar2 fun _ _=>rfl
 have M_Lane:=MD_Lane___init__.mak (P:=P) (w:=w) (base:=base) KD_Lane (fun _ _ F=>ok_Lane_init F (cL:=c_Log) N KD_Lane NA_Lane_now NA_Lane_logs NA_Lane_row) fun _ _ _ _ _ _=>ar1 fun _=>rfl
 have m_Lane_must_be_there:=MD_Lane_must_be_there.mth (P:=P) (w:=w) (base:=base) (mg:=mg) KD_Lane.cl (fun _ _ F=>ok_Lane_must_be_there F Z (cL:=c_Log) KD_Lane NA_Lane_row O_NoCraft) fun _ _ _ _ _ _=>ar2 fun _ _=>rfl
 have m_Lane_leg_of:=MD_Lane_leg_of.mth (P:=P) (w:=w) (base:=base) (mg:=mg) KD_Lane.cl (fun _ _ F=>ok_Lane_leg_of F Z KD_Lane NA_Lane_logs NA_Lane_now m_Lane_must_be_there m_Log_leg_at) fun _ _ _ _ _ _=>ar2 fun _ _=>rfl
 have m_Lane_settle:=MD_Lane_settle.mth (P:=P) (w:=w) (base:=base) (mg:=mg) KD_Lane.cl (fun _ _ F=>ok_Lane_settle F Z KD_Lane NA_Lane_row NA_Lane_now m_Lane_leg_of L_in_order) fun _ _ _ _ _ _=>ar1 fun _=>rfl
 have m_Lane_join:=MD_Lane_join.mth (P:=P) (w:=w) (base:=base) (mg:=mg) KD_Lane.cl (fun _ _ F=>ok_Lane_join F Z KD_Lane NA_Lane_row NA_Lane_now NA_Lane_logs g_FARTHEST g_FASTEST g_MOST O_BadName O_TooFar O_Taken O_Full L_good_name M_Log m_Lane_settle) fun _ _ _ _ _ _=>ar4 fun _ _ _ _=>rfl
 have L_rings_ahead:=D_rings_ahead.canR (P:=P) (w:=w) (base:=base) (fun _ _ F=>okr_rings_ahead F Z L_less) fun _ _ _ _ _ _=>ar2 fun _ _=>rfl
 have M_Bells:=MD_Bells___init__.mak (P:=P) (w:=w) (base:=base) KD_Bells (fun _ _ F=>ok_Bells_init F KD_Bells NA_Bells_rows) fun _ _ _ _ _ _=>ar1 fun _=>rfl
 have m_Bells_drop:=MD_Bells_drop.mth (P:=P) (w:=w) (base:=base) (mg:=mg) KD_Bells.cl (fun _ _ F=>ok_Bells_drop F Z KD_Bells NA_Bells_rows) fun _ _ _ _ _ _=>ar3 fun _ _ _=>rfl
 have m_Bells_put:=MD_Bells_put.mth (P:=P) (w:=w) (base:=base) (mg:=mg) KD_Bells.cl (fun _ _ F=>ok_Bells_put F Z KD_Bells NA_Bells_rows m_Bells_drop L_rings_ahead) fun _ _ _ _ _ _=>ar4 fun _ _ _ _=>rfl
 have m_Bells_told:=MD_Bells_told.mth (P:=P) (w:=w) (base:=base) (mg:=mg) KD_Bells.cl (fun _ _ F=>ok_Bells_told F Z KD_Bells NA_Bells_rows) fun _ _ _ _ _ _=>ar1 fun _=>rfl
 have L_meeting:=D_meeting.canR (P:=P) (w:=w) (base:=base) (fun _ _ F=>okr_meeting F Z N L_place_on L_minus L_fraction) fun _ _ _ _ _ _=>ar2 fun _ _=>rfl
 have m_Lane_meets:=MD_Lane_meets.mth (P:=P) (w:=w) (base:=base) (mg:=mg) KD_Lane.cl (fun _ _ F=>ok_Lane_meets F Z KD_Lane NA_Lane_now m_Lane_leg_of L_meeting L_less) fun _ _ _ _ _ _=>ar3 fun _ _ _=>rfl
 have L_in_lowest_terms:=D_in_lowest_terms.canR (P:=P) (w:=w) (base:=base) (fun _ _ F=>okr_in_lowest_terms F Z L_shared) fun _ _ _ _ _ _=>ar1 fun _=>rfl
 have L_good_moment:=D_good_moment.canR (P:=P) (w:=w) (base:=base) (fun _ _ F=>okr_good_moment F Z g_FINEST g_LATEST L_in_lowest_terms) fun _ _ _ _ _ _=>ar1 fun _=>rfl
 have m_Lane_foretold:=MD_Lane_foretold.mth (P:=P) (w:=w) (base:=base) (mg:=mg) KD_Lane.cl (fun _ _ F=>ok_Lane_foretold F Z KD_Lane NA_Lane_now NA_Lane_row O_BadMoment O_Past L_good_moment L_less M_Bells m_Lane_meets m_Bells_put m_Bells_told) fun _ _ _ _ _ _=>ar2 fun _ _=>rfl
 have m_Lane_go_to:=MD_Lane_go_to.mth (P:=P) (w:=w) (base:=base) (mg:=mg) KD_Lane.cl (fun _ _ F=>ok_Lane_go_to F Z KD_Lane NA_Lane_now m_Lane_foretold m_Lane_settle) fun _ _ _ _ _ _=>ar2 fun _ _=>rfl
 have m_Lane_turn:=MD_Lane_turn.mth (P:=P) (w:=w) (base:=base) (mg:=mg) KD_Lane.cl (fun _ _ F=>ok_Lane_turn F Z KD_Lane NA_Lane_logs NA_Lane_now g_FASTEST O_TooFar m_Lane_must_be_there m_Log_turn m_Lane_settle) fun _ _ _ _ _ _=>ar3 fun _ _ _=>rfl
 have m_Lane_about:=MD_Lane_about.mth (P:=P) (w:=w) (base:=base) (mg:=mg) KD_Lane.cl (fun _ _ F=>ok_Lane_about F Z KD_Lane NA_Lane_row NA_Lane_logs NA_Lane_now m_Lane_leg_of m_Log_turn m_Lane_settle) fun _ _ _ _ _ _=>ar1 fun _=>rfl
 have m_Lane_leave:=MD_Lane_leave.mth (P:=P) (w:=w) (base:=base) (mg:=mg) KD_Lane.cl (fun _ _ F=>ok_Lane_leave F Z KD_Lane NA_Lane_logs NA_Lane_now NA_Lane_row m_Lane_must_be_there m_Log_leave) fun _ _ _ _ _ _=>ar2 fun _ _=>rfl
 have m_Lane_place:=MD_Lane_place.mth (P:=P) (w:=w) (base:=base) (mg:=mg) KD_Lane.cl (fun _ _ F=>ok_Lane_place F Z KD_Lane NA_Lane_now m_Lane_leg_of L_place_on) fun _ _ _ _ _ _=>ar2 fun _ _=>rfl
 have m_Lane_count_from:=MD_Lane_count_from.mth (P:=P) (w:=w) (base:=base) (mg:=mg) KD_Lane.cl (fun _ _ F=>ok_Lane_count_from F Z KD_Lane NA_Lane_row m_Lane_place L_less) fun _ _ _ _ _ _=>ar2 fun _ _=>rfl
 have L_whole:=D_whole.canR (P:=P) (w:=w) (base:=base) (fun _ _ F=>okr_whole F Z) fun _ _ _ _ _ _=>ar1 fun _=>rfl
 have L_placed:=D_placed.canR (P:=P) (w:=w) (base:=base) (fun _ _ F=>okr_placed F Z) fun _ _ _ _ _ _=>ar2 fun _ _=>rfl
 have L_paced:=D_paced.canR (P:=P) (w:=w) (base:=base) (fun _ _ F=>okr_paced F Z) fun _ _ _ _ _ _=>ar2 fun _ _=>rfl
 have L_at:=D_at.canR (P:=P) (w:=w) (base:=base) (fun _ _ F=>okr_at F Z L_low) fun _ _ _ _ _ _=>ar2 fun _ _=>rfl
 have L_later:=D_later.canR (P:=P) (w:=w) (base:=base) (fun _ _ F=>okr_later F Z L_low) fun _ _ _ _ _ _=>ar4 fun _ _ _ _=>rfl
 have L_acted:=D_acted.canR (P:=P) (w:=w) (base:=base) (fun _ _ F=>okr_acted F Z L_at) fun _ _ _ _ _ _=>ar3 fun _ _ _=>rfl
 have L_done:=D_done.canR (P:=P) (w:=w) (base:=base) (fun _ _ F=>okr_done F Z m_Lane_join m_Lane_leave m_Lane_turn m_Lane_about m_Lane_go_to) fun _ _ _ _ _ _=>ar2 fun _ _=>rfl
 have L_deed:=D_deed.canR (P:=P) (w:=w) (base:=base) (fun _ _ F=>okr_deed F Z L_placed L_paced L_later) fun _ _ _ _ _ _=>ar6 fun _ _ _ _ _ _=>rfl
 have L_walk:=D_walk.canR (P:=P) (w:=w) (base:=base) (fun _ _ F=>okr_walk F Z L_digits L_deed L_done L_acted) fun _ _ _ _ _ _=>ar4 fun _ _ _ _=>rfl
 exact okr_law F Z L_cell L_digits L_names L_walk M_Lane L_at L_whole m_Lane_count_from
end Ov
namespace PySem.W.Fast
def tw12221212299947058657:Unit:=()
def tw16738071893705807429:Unit:=()
def tw14850229049737542461:Unit:=()
def tw11212068099940254740:Unit:=()
def tw1959835796750314931:Unit:=()
def tw5186645709534235751:Unit:=()
def tw575359597358301632:Unit:=()
def tw9026759322273006309:Unit:=()
def tw10571368230090649219:Unit:=()
def tw5287632831361347769:Unit:=()
def tw5540131677191615675:Unit:=()
def tw16345281450701377334:Unit:=()
def tw16335578082063912953:Unit:=()
def tw791466942185770391:Unit:=()
def tw3442614083001500573:Unit:=()
def tw18005632607304958148:Unit:=()
def tw10228099024515295243:Unit:=()
def tw6056800720944740384:Unit:=()
def tw8298658913760951349:Unit:=()
def tw13048799543465676234:Unit:=()
def tw13207506527235551668:Unit:=()
def tw4115102675153256326:Unit:=()
def tw12629522592575584624:Unit:=()
def tw5427758239807917023:Unit:=()
def tw12283976405372997484:Unit:=()
def tw17699464254852792230:Unit:=()
def tw7118097681526601648:Unit:=()
def tw14519099624744531726:Unit:=()
def tw2612378588891204789:Unit:=()
def tw16566820522663962810:Unit:=()
def tw8618096253796477364:Unit:=()
def tw11644935782750779327:Unit:=()
def tw1776834334920724302:Unit:=()
def tw7891555022171069863:Unit:=()
def tw4092725737609649186:Unit:=()
def tw620527582418481804:Unit:=()
def tw12994407934491535950:Unit:=()
def tw4470260930574012572:Unit:=()
def tw11838280822572140282:Unit:=()
def tw9606314692084805190:Unit:=()
def tw9961249850843700891:Unit:=()
def tw5439678287268079264:Unit:=()
def tw8340281637480791699:Unit:=()
def tw10029749083984781223:Unit:=()
def tw13698735715871200699:Unit:=()
def tw9850815114033627900:Unit:=()
def tw4971386896159347813:Unit:=()
def tw2012809940889797822:Unit:=()
def tw7831839711438149758:Unit:=()
def tw394663935558735077:Unit:=()
def tw903968946532117182:Unit:=()
def tw14012722417134282436:Unit:=()
def tw4707185443059576962:Unit:=()
def tw8440446321303365097:Unit:=()
def tw271007730155135199:Unit:=()
def tw4700503223092147070:Unit:=()
def tw340032281002778996:Unit:=()
def tw12365316562136489366:Unit:=()
def tw3650132055887770362:Unit:=()
def tw13818866092874091426:Unit:=()
def tw12990110125261212310:Unit:=()
def tw3908158272508127610:Unit:=()
def tw18435051754162246110:Unit:=()
def tw8252306490025933085:Unit:=()
def tw5381684000882888021:Unit:=()
def tw16756850773358191790:Unit:=()
def tw7828007890359593089:Unit:=()
def tw10254124821074531544:Unit:=()
def tw5377563037124646596:Unit:=()
def tw15318187759772273951:Unit:=()
def tw13834604277532511936:Unit:=()
def tw12678466964633913540:Unit:=()
def tw10422896320446426512:Unit:=()
def tw10808284220154202548:Unit:=()
def tw14231119730651255885:Unit:=()
def tw15547079125454487157:Unit:=()
def tw4449018420555121721:Unit:=()
def tw17734373406169958752:Unit:=()
def tw5073240718140839126:Unit:=()
def tw11321271282476324452:Unit:=()
def tw5236273263418104797:Unit:=()
def tw4255264664948724223:Unit:=()
def tw10376251365557997986:Unit:=()
def tw16846108722786847686:Unit:=()
def tw13997848277900959680:Unit:=()
def tw3372636989613955897:Unit:=()
def tw6325312953464608990:Unit:=()
def tw14339138045819933544:Unit:=()
def tw1118760775770737106:Unit:=()
def tw12301032269390728271:Unit:=()
def tw16437008453035156502:Unit:=()
def tw10832999681392891099:Unit:=()
def tw5792936005430169782:Unit:=()
def tw18206716774045318683:Unit:=()
def tw5490747895125111083:Unit:=()
def tw13818263770367816809:Unit:=()
def tw1635612309993243632:Unit:=()
def tw12956520503227168325:Unit:=()
def tw8719533348179581465:Unit:=()
def tw10452240750918351577:Unit:=()
def tw3941149522202434746:Unit:=()
def tw15167924233134199938:Unit:=()
def tw12581553182701869752:Unit:=()
def tw9348067991741907027:Unit:=()
def tw12485720026498054538:Unit:=()
def tw17506419068722967011:Unit:=()
def tw8265614595737982399:Unit:=()
def tw11587570515385832276:Unit:=()
def tw10639140104118720193:Unit:=()
def tw4427333787203019872:Unit:=()
def tw13068856178159910941:Unit:=()
def tw654342412741297072:Unit:=()
def tw12377187385041080517:Unit:=()
def tw6207328530607379649:Unit:=()
def tw11542552804476770230:Unit:=()
def tw10412846099403570257:Unit:=()
def tw3980138600820881060:Unit:=()
def tw1825250040631411514:Unit:=()
def tw12285646637498823728:Unit:=()
def tw8892114284934643657:Unit:=()
def tw1015663036652466045:Unit:=()
def tw11965752227695758256:Unit:=()
def tw4779190331997426462:Unit:=()
def tw2644478234942615325:Unit:=()
def tw9302219516522866109:Unit:=()
def tw811428881489564010:Unit:=()
def tw10995400378639373873:Unit:=()
def tw563310444655676366:Unit:=()
def tw11496005918265511178:Unit:=()
def tw17579952706579619533:Unit:=()
def tw4091022489406651609:Unit:=()
def tw16336851653040376057:Unit:=()
def tw8085747173975315674:Unit:=()
def tw17081765152497373939:Unit:=()
def tw6946708406732014723:Unit:=()
def tw4682038775656725385:Unit:=()
def tw17110376122806163997:Unit:=()
def tw15601064062448149985:Unit:=()
def tw2284054231218229618:Unit:=()
def tw5720058380035585331:Unit:=()
def tw5155570981825738358:Unit:=()
def tw1807831588643095568:Unit:=()
def tw16320040683708702698:Unit:=()
def tw14159885398560425508:Unit:=()
def tw5660466624499441573:Unit:=()
def tw1680632846440075264:Unit:=()
def tw17249905516053636351:Unit:=()
def tw16318027582665170291:Unit:=()
def tw11594378568112286810:Unit:=()
def tw18326243791049581849:Unit:=()
def tw14756639292612510753:Unit:=()
def tw11497435809975069445:Unit:=()
def tw6112661775816233324:Unit:=()
def tw1655719186055951466:Unit:=()
def tw5087026360313372804:Unit:=()
def tw14357270927263147930:Unit:=()
def tw9604121803280246275:Unit:=()
def tw16583904746540667593:Unit:=()
def tw106877996270589019:Unit:=()
def tw9214713351843506095:Unit:=()
def tw4418671405521973815:Unit:=()
def tw1329003253335695022:Unit:=()
def tw11562032739261722703:Unit:=()
def tw15551761475009800913:Unit:=()
def tw17366076989887544492:Unit:=()
def tw16919259462695381296:Unit:=()
def tw9515528284756288907:Unit:=()
def tw17116428860379087181:Unit:=()
def tw795629272513565398:Unit:=()
def tw12597843216598145710:Unit:=()
def tw9483326158318062024:Unit:=()
def tw12980086328199267147:Unit:=()
def tw16783418967730416933:Unit:=()
def tw6368160972701694521:Unit:=()
def tw17996787126635022918:Unit:=()
def tw14766276899623398767:Unit:=()
def tw1333043038618183859:Unit:=()
def tw8999656392817193943:Unit:=()
def tw8909351401602960743:Unit:=()
def tw3209820882564571579:Unit:=()
def tw13146928463781780433:Unit:=()
def tw14345887496718194806:Unit:=()
def tw17735990023377613395:Unit:=()
def tw15869171782691063471:Unit:=()
def tw15977091078568138271:Unit:=()
def tw13431150988062563536:Unit:=()
def tw15279699645916824441:Unit:=()
def tw6461394928853687399:Unit:=()
def tw16968303927263754853:Unit:=()
def tw10894890589644230949:Unit:=()
def tw4152296847263056388:Unit:=()
def tw15034519770444071205:Unit:=()
def tw12233251073045166961:Unit:=()
def tw1694342560483779424:Unit:=()
def tw4463400616164311534:Unit:=()
def tw8683512251029579200:Unit:=()
def tw8518600772789914155:Unit:=()
def tw1719526172334385844:Unit:=()
def tw10682999926421136400:Unit:=()
def tw15821609841960325584:Unit:=()
def tw9595244600724583413:Unit:=()
def tw4602727771571056737:Unit:=()
def tw1779671337511394177:Unit:=()
def tw14940492138863487349:Unit:=()
def tw7239700622564260096:Unit:=()
def tw4478862141483863154:Unit:=()
def tw7470352755792758152:Unit:=()
def tw3393583227323739544:Unit:=()
def tw4686470406651620967:Unit:=()
def tw1964474360279548063:Unit:=()
def tw3440478231288382777:Unit:=()
def tw8993728004371644821:Unit:=()
def tw568504118059026534:Unit:=()
def tw16972210132736424022:Unit:=()
def tw5040050962783031062:Unit:=()
def tw3693352782262946497:Unit:=()
def tw12625602969644682803:Unit:=()
def tw7622841106998981512:Unit:=()
def tw13698064587646756297:Unit:=()
def tw14329425667689363609:Unit:=()
def tw7925278592447306436:Unit:=()
def tw659508596433318680:Unit:=()
def tw616677377186599054:Unit:=()
def tw17731928336802791108:Unit:=()
def tw1504251528503998445:Unit:=()
def tw14149680030749904918:Unit:=()
def tw13592579931374015688:Unit:=()
def tw2618184325720353643:Unit:=()
def tw1058177635980817068:Unit:=()
def tw28258999184337637:Unit:=()
def tw12118104042085738292:Unit:=()
def tw18043863074503780966:Unit:=()
def tw1689851798068119486:Unit:=()
def tw4579728296499751537:Unit:=()
def tw1549184384243856307:Unit:=()
def tw14341366927326771697:Unit:=()
def tw6652353259464115563:Unit:=()
def tw6736132696647533229:Unit:=()
def tw16387259516594246534:Unit:=()
def tw11813314103876337907:Unit:=()
def tw11646500495645944944:Unit:=()
def tw4464283881791058903:Unit:=()
def tw17872721987935560865:Unit:=()
def tw13044058130210559287:Unit:=()
def tw3625348200553966385:Unit:=()
def tw7356780798360451347:Unit:=()
def tw8806780289558377785:Unit:=()
def tw3393927087113042986:Unit:=()
def tw12045102310781531577:Unit:=()
def tw15011448588074244920:Unit:=()
def tw4879591054724423662:Unit:=()
def tw13410507584851615110:Unit:=()
def tw3344213457802734233:Unit:=()
def tw4666029257513444088:Unit:=()
def tw18410228216650791964:Unit:=()
def tw11835408180053976018:Unit:=()
def tw3099444005470054490:Unit:=()
def tw550728299244488979:Unit:=()
def tw13132559709574355016:Unit:=()
def tw6080451982979255992:Unit:=()
def tw9012574787680483701:Unit:=()
def tw643528921676646991:Unit:=()
def tw15597529000681779182:Unit:=()
def tw8726820651193229311:Unit:=()
def tw3563336573779888954:Unit:=()
def tw17749133254220669138:Unit:=()
def tw6802677334774276060:Unit:=()
def tw14242971525699950556:Unit:=()
def tw11767487559090463097:Unit:=()
def tw8848848233110206875:Unit:=()
def tw9971607287430406188:Unit:=()
def tw7306990592588843795:Unit:=()
def tw5781768156445496169:Unit:=()
def tw5003855754928902787:Unit:=()
def tw3564924452513959731:Unit:=()
def tw9581352083696950985:Unit:=()
def tw953345621789540032:Unit:=()
def tw8602351295757987140:Unit:=()
def tw7847059478101257491:Unit:=()
def tw7126887642271336421:Unit:=()
def tw12460131684962215557:Unit:=()
def tw9937570833926723478:Unit:=()
def tw9909160080632736332:Unit:=()
def tw8949986170458181060:Unit:=()
def tw17116950054025603367:Unit:=()
def tw15836297929650409992:Unit:=()
def tw13897971186563376229:Unit:=()
def tw12173587676818278560:Unit:=()
def tw11543850092545634444:Unit:=()
def tw10856855269900210849:Unit:=()
def tw5941563465293156257:Unit:=()
def tw16423556096573278522:Unit:=()
def tw14091043233790691078:Unit:=()
def tw11494893091496465999:Unit:=()
def tw6573114583676994445:Unit:=()
def tw8488118445124540196:Unit:=()
def tw3933110052472826513:Unit:=()
def tw17580136233711407819:Unit:=()
def tw16853708881618093055:Unit:=()
def tw16323848085561468774:Unit:=()
def tw117953183337358172:Unit:=()
def tw13198181212673042779:Unit:=()
def tw15280822999476584220:Unit:=()
def tw13711142254652850921:Unit:=()
def tw10249871239360170445:Unit:=()
def tw11251841849546802344:Unit:=()
def tw10171405479622850096:Unit:=()
def tw3275311322802956048:Unit:=()
def tw16447557050230244097:Unit:=()
def tw11365036643515588868:Unit:=()
def tw9246847381093726167:Unit:=()
def tw16959343663830847677:Unit:=()
def tw16179168550018241131:Unit:=()
def tw3754940436235928590:Unit:=()
def tw13265910197143354436:Unit:=()
def tw7866525678640905511:Unit:=()
def tw2372314737778723405:Unit:=()
def tw17224327397094374339:Unit:=()
def tw12102119463820265794:Unit:=()
def tw10677787176156999666:Unit:=()
def tw9785874533216148191:Unit:=()
def tw9168447370073482181:Unit:=()
def tw7853483463313637896:Unit:=()
def tw5952663908731817207:Unit:=()
def tw18117408146343723696:Unit:=()
def tw5087362225158484527:Unit:=()
def tw6562848665293368123:Unit:=()
def tw6070764814354872459:Unit:=()
def tw16627561927850665722:Unit:=()
def tw11545979832270049678:Unit:=()
def tw10764313742891065465:Unit:=()
def tw3111726687154770568:Unit:=()
def tw17194091183433116940:Unit:=()
def tw4331336022279226961:Unit:=()
def tw15697477899768366677:Unit:=()
def tw14324323127047668355:Unit:=()
def tw15205829767160211239:Unit:=()
def tw8890000795939152487:Unit:=()
def tw1690587498901528146:Unit:=()
def tw13299947697651195097:Unit:=()
def tw9482808676997620950:Unit:=()
def tw4484244439125437497:Unit:=()
def tw9373687071431587274:Unit:=()
def tw6849120694973941112:Unit:=()
def tw15914220991931168274:Unit:=()
def tw16600998783332368855:Unit:=()
def tw67062317880433284:Unit:=()
def tw14590216245897610847:Unit:=()
def tw8840008790232295492:Unit:=()
def tw8762644609056893047:Unit:=()
def tw1245178537164217218:Unit:=()
def tw12719274414639921682:Unit:=()
def tw1305989605486594312:Unit:=()
def tw1089782234679626846:Unit:=()
def tw16620708897553590686:Unit:=()
def tw1520629115118078384:Unit:=()
def tw808965061103476279:Unit:=()
def tw14229709151638969816:Unit:=()
def tw3555945820726789541:Unit:=()
def tw2108676574367605298:Unit:=()
def tw14427974559093976911:Unit:=()
def tw9990528334772598133:Unit:=()
def tw6290491818416702087:Unit:=()
def tw12394534882193030707:Unit:=()
def tw5227935258372087474:Unit:=()
def tw2352700485181658162:Unit:=()
def tw2911743484789023953:Unit:=()
def tw6496367944527958981:Unit:=()
def tw699573113311798431:Unit:=()
def tw13897134339311351103:Unit:=()
def tw13180565445151178154:Unit:=()
def tw14425184075233812653:Unit:=()
def tw2158462517642092614:Unit:=()
def tw17962034658981225380:Unit:=()
def tw12413712520622248279:Unit:=()
def tw9493460891965685717:Unit:=()
def tw7205040715158537527:Unit:=()
def tw6103971068844128121:Unit:=()
def tw4767138595642395381:Unit:=()
def tw16690112552942428859:Unit:=()
def tw15115349653926211376:Unit:=()
def tw7694501138278261457:Unit:=()
def tw11380351030525649272:Unit:=()
def tw3772502534559053495:Unit:=()
def tw12691616599322333789:Unit:=()
def tw6691686051239855708:Unit:=()
def tw8735460516781738470:Unit:=()
def tw1230205067556725737:Unit:=()
def tw17383584820532061685:Unit:=()
def tw4099917012896208962:Unit:=()
def tw10948677377365270471:Unit:=()
def tw17590833579109836880:Unit:=()
def tw15774292372120763496:Unit:=()
def tw14823742061998820625:Unit:=()
def tw9453786222850973602:Unit:=()
def tw15446772381144541507:Unit:=()
def tw13297122224599871768:Unit:=()
def tw12397202548200887394:Unit:=()
def tw9185223575784087775:Unit:=()
def tw2177782414863268534:Unit:=()
def tw13736679003447730996:Unit:=()
def tw12254922960502493294:Unit:=()
def tw10486476934620779587:Unit:=()
def tw9301324804134674257:Unit:=()
def tw9285939656090676865:Unit:=()
def tw895916139262457895:Unit:=()
def tw7303515595740895480:Unit:=()
def tw6110011227135376305:Unit:=()
def tw18413904764517511198:Unit:=()
def tw12858987796331919229:Unit:=()
def tw10946442023382932702:Unit:=()
def tw10724877843698143198:Unit:=()
def tw18231694349901559875:Unit:=()
def tw16230507585938820319:Unit:=()
def tw3339871102792272617:Unit:=()
def tw14663926722885226924:Unit:=()
def tw9366064514586650090:Unit:=()
def tw5992928445915229616:Unit:=()
def tw4650488194289272853:Unit:=()
def tw16395990057982043627:Unit:=()
def tw6089343755600673912:Unit:=()
def tw4232107792957009671:Unit:=()
def tw3774169016186154184:Unit:=()
def tw3244855189614086406:Unit:=()
def tw2489004973134275060:Unit:=()
def tw17772311599634550688:Unit:=()
def tw1769628142390072889:Unit:=()
def tw16759136649627905164:Unit:=()
def tw13144030785492805143:Unit:=()
def tw11455025737058266189:Unit:=()
def tw11378980412625441836:Unit:=()
def tw6488442156552160977:Unit:=()
def tw16419233838059967487:Unit:=()
def tw6867584677941214627:Unit:=()
def tw5843291416802784334:Unit:=()
def tw329521384950465430:Unit:=()
def tw12031400734716921813:Unit:=()
def tw1127134456677852229:Unit:=()
def tw4094085043945562895:Unit:=()
def tw11854300941674294256:Unit:=()
def tw9051934927823109556:Unit:=()
def tw859212085521743796:Unit:=()
def tw8543585986722194463:Unit:=()
def tw6651954914290005138:Unit:=()
def tw5207404242486844094:Unit:=()
def tw3683063815911204288:Unit:=()
def tw25087139458972498:Unit:=()
def tw2176857426597206880:Unit:=()
def tw1854376916516374963:Unit:=()
def tw18196690872651638064:Unit:=()
def tw18047116657971319918:Unit:=()
def tw17647934455358253095:Unit:=()
def tw15847494995445274433:Unit:=()
def tw1580224509387785407:Unit:=()
def tw14003518195538602882:Unit:=()
def tw13047063040619516003:Unit:=()
def tw12289848489205226041:Unit:=()
def tw18250412690305091873:Unit:=()
def tw10309680471110204185:Unit:=()
def tw12901100159677505227:Unit:=()
def tw9342820528978404737:Unit:=()
def tw839913668434074495:Unit:=()
def tw6704704973124859845:Unit:=()
def tw5693647571178671774:Unit:=()
def tw3602146656683107669:Unit:=()
def tw17181077355538023064:Unit:=()
def tw15821509948198542032:Unit:=()
def tw15797472625456592999:Unit:=()
def tw14804712672136735582:Unit:=()
def tw14800421076957372818:Unit:=()
def tw10829175093137420581:Unit:=()
def tw10208399006025276087:Unit:=()
def tw10206444216277677249:Unit:=()
def tw8326320658685261694:Unit:=()
def tw3061742544355141556:Unit:=()
def tw2923304147487639514:Unit:=()
def tw2909139373815230577:Unit:=()
def tw18299864880581002644:Unit:=()
def tw1701427748189080525:Unit:=()
def tw16725473602813877205:Unit:=()
def tw13809987734302327204:Unit:=()
def tw13336350652548001360:Unit:=()
def tw12977214112133157128:Unit:=()
def tw10964124873600313930:Unit:=()
def tw1045264163435088853:Unit:=()
def tw7332844315214222021:Unit:=()
def tw9884889827889305296:Unit:=()
def tw6019669139099768029:Unit:=()
def tw4485602480659802920:Unit:=()
def tw3383074254009613804:Unit:=()
def tw2895784358033544632:Unit:=()
def tw17510652709477362471:Unit:=()
def tw1611974174705543640:Unit:=()
def tw15168974372503895908:Unit:=()
def tw13134664571239693918:Unit:=()
def tw5972201444574553546:Unit:=()
def tw5168106536382719195:Unit:=()
def tw4607143640096606211:Unit:=()
def tw4077386917378174290:Unit:=()
def tw4045301446960240173:Unit:=()
def tw18309196309109398008:Unit:=()
def tw18120920182110423061:Unit:=()
def tw17577450608252050702:Unit:=()
def tw16740559677886397104:Unit:=()
def tw1665701159375316023:Unit:=()
def tw12832780910234955433:Unit:=()
def tw10870985364635753640:Unit:=()
def tw9777823015744684763:Unit:=()
def tw9764790753846296145:Unit:=()
def tw969735351708572381:Unit:=()
def tw9475541776328509796:Unit:=()
def tw943407918757216995:Unit:=()
def tw923923375820315736:Unit:=()
def tw9211152422501119036:Unit:=()
def tw9173099456775348749:Unit:=()
def tw9067118219322796259:Unit:=()
def tw9054086637491875743:Unit:=()
def tw8978160579195315880:Unit:=()
def tw8912227529481667716:Unit:=()
def tw8718958960372863484:Unit:=()
def tw861360936121346605:Unit:=()
def tw8563648865781353863:Unit:=()
def tw8503568363791051420:Unit:=()
def tw8431040797864191270:Unit:=()
def tw8216732557584503432:Unit:=()
def tw8196325348887913006:Unit:=()
def tw8164364180606658734:Unit:=()
def tw8159480421908351209:Unit:=()
def tw7703440618202655953:Unit:=()
def tw7554806577857933495:Unit:=()
def tw7469125334850999718:Unit:=()
def tw740655098075689252:Unit:=()
def tw7401664106754825751:Unit:=()
def tw7373438613097674634:Unit:=()
def tw7073949107802921680:Unit:=()
def tw6952428237817202969:Unit:=()
def tw6941699216713706032:Unit:=()
def tw6902164255338528321:Unit:=()
def tw6655823165190483954:Unit:=()
def tw6448983088655158782:Unit:=()
def tw6380450243058775855:Unit:=()
def tw6368192091692561416:Unit:=()
def tw6340940231369784390:Unit:=()
def tw6214910326122690567:Unit:=()
def tw5909763828115671835:Unit:=()
def tw5885599773276227063:Unit:=()
def tw5862289242874241566:Unit:=()
def tw5781326210542723619:Unit:=()
def tw5723586411531548519:Unit:=()
def tw5543501666265967250:Unit:=()
def tw5382181421735287774:Unit:=()
def tw5253341126333889567:Unit:=()
def tw5113363274001705262:Unit:=()
def tw4934298739521664509:Unit:=()
def tw4893590725191395216:Unit:=()
def tw4770293912108615386:Unit:=()
def tw4709199194926208560:Unit:=()
def tw4707027368536191220:Unit:=()
def tw4620692711604875083:Unit:=()
def tw459255748439332045:Unit:=()
def tw4547392443792678531:Unit:=()
def tw4541149477582988648:Unit:=()
def tw4486841159211779235:Unit:=()
def tw4236019442543265160:Unit:=()
def tw4106725327517571641:Unit:=()
def tw3932946177972397385:Unit:=()
def tw3929163230183662966:Unit:=()
def tw3880330460621904180:Unit:=()
def tw3843342797597939258:Unit:=()
def tw3830786506347802432:Unit:=()
def tw3575391014419120946:Unit:=()
def tw3553130327858807322:Unit:=()
def tw3432055481109737424:Unit:=()
def tw3309648722652142888:Unit:=()
def tw3296255798678833073:Unit:=()
def tw3246855328167380959:Unit:=()
def tw3241579383295986837:Unit:=()
def tw3217855076613609456:Unit:=()
def tw3112225925635137404:Unit:=()
def tw2986160674707623302:Unit:=()
def tw2945086307738785952:Unit:=()
def tw291179473893017987:Unit:=()
def tw2820439972541955337:Unit:=()
def tw2756017998269304339:Unit:=()
def tw2709965350621276162:Unit:=()
def tw2525573713255451140:Unit:=()
def tw2519390823262474668:Unit:=()
def tw2387314592692766700:Unit:=()
def tw2355885956417963042:Unit:=()
def tw2169720135899358522:Unit:=()
def tw207698446499453655:Unit:=()
def tw2046894385441470358:Unit:=()
def tw1984500806724437146:Unit:=()
def tw1927977759333046168:Unit:=()
def tw1888510819457305119:Unit:=()
def tw1880034277370462112:Unit:=()
def tw18364099081174304430:Unit:=()
def tw18306250638279478239:Unit:=()
def tw18078786943169870778:Unit:=()
def tw17981851752563884139:Unit:=()
def tw17913343302021431056:Unit:=()
def tw17655313383346653010:Unit:=()
def tw17519346039591460782:Unit:=()
def tw17471461453348354348:Unit:=()
def tw17236090992196173247:Unit:=()
def tw17005214738178792347:Unit:=()
def tw16785754420247197765:Unit:=()
def tw16689203249052130821:Unit:=()
def tw16637997124697275177:Unit:=()
def tw16570033849306283308:Unit:=()
def tw16487795072702231493:Unit:=()
def tw16439100117995114963:Unit:=()
def tw16250430213564685854:Unit:=()
def tw16192255409765902643:Unit:=()
def tw16107293544580403686:Unit:=()
def tw15998823808913780078:Unit:=()
def tw15868244478465909347:Unit:=()
def tw15849771205007810523:Unit:=()
def tw15679785198367075320:Unit:=()
def tw15489213900894415893:Unit:=()
def tw15457030425970993756:Unit:=()
def tw15278219916788805382:Unit:=()
def tw15128445365381404666:Unit:=()
def tw15039884043729643672:Unit:=()
def tw15020572009056451885:Unit:=()
def tw149841233885513181:Unit:=()
def tw14973323737958724367:Unit:=()
def tw14939891323066509598:Unit:=()
def tw14790367236736373462:Unit:=()
def tw14789098203856992554:Unit:=()
def tw14617635619020541826:Unit:=()
def tw14603656723656660210:Unit:=()
def tw14534964926040802081:Unit:=()
def tw14463758396932316087:Unit:=()
def tw14301764438660969228:Unit:=()
def tw14156124496449285808:Unit:=()
def tw14079096540670157525:Unit:=()
def tw14055548388263207203:Unit:=()
def tw14048889720258771776:Unit:=()
def tw14012150831052879074:Unit:=()
def tw14005527117019282216:Unit:=()
def tw13993573961845365928:Unit:=()
def tw13983596977183343312:Unit:=()
def tw13605594115042229170:Unit:=()
def tw13365510935329221739:Unit:=()
def tw13354749525014969433:Unit:=()
def tw13347718361626489514:Unit:=()
def tw13333990888163029702:Unit:=()
def tw13329289643553512777:Unit:=()
def tw13190676766882740428:Unit:=()
def tw13147255311196517969:Unit:=()
def tw13080116817101676462:Unit:=()
def tw13069628563530803789:Unit:=()
def tw13069437070171856507:Unit:=()
def tw12924612319841174245:Unit:=()
def tw12836699183465085563:Unit:=()
def tw12788789356062809421:Unit:=()
def tw12724725175846310556:Unit:=()
def tw12585590312300727515:Unit:=()
def tw12505429040181008739:Unit:=()
def tw12416551976555618936:Unit:=()
def tw12414430197546357243:Unit:=()
def tw12282146288350224943:Unit:=()
def tw12257831474282077496:Unit:=()
def tw1216330346616929916:Unit:=()
def tw12146473645779652773:Unit:=()
def tw12095872030694710804:Unit:=()
def tw11933207634973570776:Unit:=()
def tw11807168126800410140:Unit:=()
def tw1180143539993906748:Unit:=()
def tw11492755938129461106:Unit:=()
def tw11373817648156692835:Unit:=()
def tw11280659604976805574:Unit:=()
def tw11138545334431324319:Unit:=()
def tw11107363271278415336:Unit:=()
def tw10979815997903946927:Unit:=()
def tw10977403900614283384:Unit:=()
def tw10934404436804835742:Unit:=()
def tw10927679885354909511:Unit:=()
def tw10750846975748327966:Unit:=()
def tw106878835900640755:Unit:=()
def tw10487827243105826524:Unit:=()
def tw10482823658927529977:Unit:=()
def tw10379412323246276572:Unit:=()
def tw1021567123394798230:Unit:=()
def tw10139565609303414295:Unit:=()
def tw10123179132558724485:Unit:=()
def tw10084643365421771189:Unit:=()
def tw10078362116620024734:Unit:=()
def tw10029273802573038959:Unit:=()
end PySem.W.Fast
open PySem PySem.W PyProof.Rows
set_option maxRecDepth 100000 in
set_option maxHeartbeats 0 in
theorem PySem.Challenge.cw_overhaul_k25_how_many_beyond_holds : PySem.Challenge.rw_overhaul_k25_how_many_beyond.Holds := by
 w_on;o_law;k_head;(case hw=>w_witness2)
 k_fill
 refine Ov.walk_ofT (l:=PySem.Challenge.rw_overhaul_k25_how_many_beyond) (n:=63) (k:=11) (x:="_law_script") (sp:=Ov.spLawH) ["good_name"] rfl (by decide) rfl ⟨rfl,by decide,by decide⟩ (fun w h Y=>PySem.W.kIn_of Y) ?Nm ?F (fun tabs K H a ns hl hT hS hA hK=>⟨a,ns,rfl,hS,hl,hT,hA,hK,fun _ e=>⟨rfl,e⟩⟩)
 case Nm=>decide +kernel
 case F =>
  intro w mg fa h KX G hmg
  have D_cell:Ov.Def (L2.KOf KX) mg "_law_cell" Ov.s_cell:=by
   dsimp only [L2.KOf]
   refine' Ov.def_mk KX G ?a ?l ?c ?k
   (case a=>k_is);(case l=>k_is);(case c=>k_is);(case k=>k_is)
  have D_digits:Ov.Def (L2.KOf KX) mg "_law_digits" Ov.s_digits:=by
   dsimp only [L2.KOf]
   refine' Ov.def_mk KX G ?a ?l ?c ?k
   (case a=>k_is);(case l=>k_is);(case c=>k_is);(case k=>k_is)
  have D_shared:Ov.Def (L2.KOf KX) mg "shared" Ov.s_shared:=by
   dsimp only [L2.KOf]
   refine' Ov.def_mk KX G ?a ?l ?c ?k
   (case a=>k_is);(case l=>k_is);(case c=>k_is);(case k=>k_is)
  have D_fraction:Ov.Def (L2.KOf KX) mg "fraction" Ov.s_fraction:=by
   dsimp only [L2.KOf]
   refine' Ov.def_mk KX G ?a ?l ?c ?k
   (case a=>k_is);(case l=>k_is);(case c=>k_is);(case k=>k_is)
  have D_low:Ov.Def (L2.KOf KX) mg "_law_low" Ov.s_low:=by
   dsimp only [L2.KOf]
   refine' Ov.def_mk KX G ?a ?l ?c ?k
   (case a=>k_is);(case l=>k_is);(case c=>k_is);(case k=>k_is)
  have D_less:Ov.Def (L2.KOf KX) mg "less" Ov.s_less:=by
   dsimp only [L2.KOf]
   refine' Ov.def_mk KX G ?a ?l ?c ?k
   (case a=>k_is);(case l=>k_is);(case c=>k_is);(case k=>k_is)
  have D_plus:Ov.Def (L2.KOf KX) mg "plus" Ov.s_plus:=by
   dsimp only [L2.KOf]
   refine' Ov.def_mk KX G ?a ?l ?c ?k
   (case a=>k_is);(case l=>k_is);(case c=>k_is);(case k=>k_is)
  have D_minus:Ov.Def (L2.KOf KX) mg "minus" Ov.s_minus:=by
   dsimp only [L2.KOf]
   refine' Ov.def_mk KX G ?a ?l ?c ?k
   (case a=>k_is);(case l=>k_is);(case c=>k_is);(case k=>k_is)
  have D_times:Ov.Def (L2.KOf KX) mg "times" Ov.s_times:=by
   dsimp only [L2.KOf]
   refine' Ov.def_mk KX G ?a ?l ?c ?k
   (case a=>k_is);(case l=>k_is);(case c=>k_is);(case k=>k_is)
  obtain ⟨T_good_name,D_good_name⟩:∃ T,Ov.DefG (L2.KOf KX) mg "good_name" Ov.s_good_name T:=by
   dsimp only [L2.KOf]
   refine' ⟨_,Ov.defG_mk KX G ?ga ?gl ?gc ?gk ?gt ?gp ?gb ?ge ?go⟩
   (case ga=>k_is);(case gl=>k_is);(case gc=>k_is);(case gk=>k_is);(case gt=>k_is);(case gp=>rfl);(case gb=>kernel_rfl);(case ge=>decide);(case go=>kernel_rfl)
  have D_names:Ov.Def (L2.KOf KX) mg "_law_names" Ov.s_names:=by
   dsimp only [L2.KOf]
   refine' Ov.def_mk KX G ?a ?l ?c ?k
   (case a=>k_is);(case l=>k_is);(case c=>k_is);(case k=>k_is)
  have D_place_on:Ov.Def (L2.KOf KX) mg "place_on" Ov.s_place_on:=by
   dsimp only [L2.KOf]
   refine' Ov.def_mk KX G ?a ?l ?c ?k
   (case a=>k_is);(case l=>k_is);(case c=>k_is);(case k=>k_is)
  have D_last_by:Ov.Def (L2.KOf KX) mg "last_by" Ov.s_last_by:=by
   dsimp only [L2.KOf]
   refine' Ov.def_mk KX G ?a ?l ?c ?k
   (case a=>k_is);(case l=>k_is);(case c=>k_is);(case k=>k_is)
  have D_lies_behind:Ov.Def (L2.KOf KX) mg "lies_behind" Ov.s_lies_behind:=by
   dsimp only [L2.KOf]
   refine' Ov.def_mk KX G ?a ?l ?c ?k
   (case a=>k_is);(case l=>k_is);(case c=>k_is);(case k=>k_is)
  have D_in_order:Ov.Def (L2.KOf KX) mg "in_order" Ov.s_in_order:=by
   dsimp only [L2.KOf]
   refine' Ov.def_mk KX G ?a ?l ?c ?k
   (case a=>k_is);(case l=>k_is);(case c=>k_is);(case k=>k_is)
  have D_rings_ahead:Ov.Def (L2.KOf KX) mg "rings_ahead" Ov.s_rings_ahead:=by
   dsimp only [L2.KOf]
   refine' Ov.def_mk KX G ?a ?l ?c ?k
   (case a=>k_is);(case l=>k_is);(case c=>k_is);(case k=>k_is)
  have D_meeting:Ov.Def (L2.KOf KX) mg "meeting" Ov.s_meeting:=by
   dsimp only [L2.KOf]
   refine' Ov.def_mk KX G ?a ?l ?c ?k
   (case a=>k_is);(case l=>k_is);(case c=>k_is);(case k=>k_is)
  have D_in_lowest_terms:Ov.Def (L2.KOf KX) mg "in_lowest_terms" Ov.s_in_lowest_terms:=by
   dsimp only [L2.KOf]
   refine' Ov.def_mk KX G ?a ?l ?c ?k
   (case a=>k_is);(case l=>k_is);(case c=>k_is);(case k=>k_is)
  have D_good_moment:Ov.Def (L2.KOf KX) mg "good_moment" Ov.s_good_moment:=by
   dsimp only [L2.KOf]
   refine' Ov.def_mk KX G ?a ?l ?c ?k
   (case a=>k_is);(case l=>k_is);(case c=>k_is);(case k=>k_is)
  have D_whole:Ov.Def (L2.KOf KX) mg "_law_whole" Ov.s_whole:=by
   dsimp only [L2.KOf]
   refine' Ov.def_mk KX G ?a ?l ?c ?k
   (case a=>k_is);(case l=>k_is);(case c=>k_is);(case k=>k_is)
  have D_placed:Ov.Def (L2.KOf KX) mg "_law_placed" Ov.s_placed:=by
   dsimp only [L2.KOf]
   refine' Ov.def_mk KX G ?a ?l ?c ?k
   (case a=>k_is);(case l=>k_is);(case c=>k_is);(case k=>k_is)
  have D_paced:Ov.Def (L2.KOf KX) mg "_law_paced" Ov.s_paced:=by
   dsimp only [L2.KOf]
   refine' Ov.def_mk KX G ?a ?l ?c ?k
   (case a=>k_is);(case l=>k_is);(case c=>k_is);(case k=>k_is)
  have D_at:Ov.Def (L2.KOf KX) mg "_law_at" Ov.s_at:=by
   dsimp only [L2.KOf]
   refine' Ov.def_mk KX G ?a ?l ?c ?k
   (case a=>k_is);(case l=>k_is);(case c=>k_is);(case k=>k_is)
  have D_later:Ov.Def (L2.KOf KX) mg "_law_later" Ov.s_later:=by
   dsimp only [L2.KOf]
   refine' Ov.def_mk KX G ?a ?l ?c ?k
   (case a=>k_is);(case l=>k_is);(case c=>k_is);(case k=>k_is)
  have D_acted:Ov.Def (L2.KOf KX) mg "_law_acted" Ov.s_acted:=by
   dsimp only [L2.KOf]
   refine' Ov.def_mk KX G ?a ?l ?c ?k
   (case a=>k_is);(case l=>k_is);(case c=>k_is);(case k=>k_is)
  have D_done:Ov.Def (L2.KOf KX) mg "_law_done" Ov.s_done:=by
   dsimp only [L2.KOf]
   refine' Ov.def_mk KX G ?a ?l ?c ?k
   (case a=>k_is);(case l=>k_is);(case c=>k_is);(case k=>k_is)
  have D_deed:Ov.Def (L2.KOf KX) mg "_law_deed" Ov.s_deed:=by
   dsimp only [L2.KOf]
   refine' Ov.def_mk KX G ?a ?l ?c ?k
   (case a=>k_is);(case l=>k_is);(case c=>k_is);(case k=>k_is)
  have D_walk:Ov.Def (L2.KOf KX) mg "_law_walk" Ov.s_walk:=by
   dsimp only [L2.KOf]
   refine' Ov.def_mk KX G ?a ?l ?c ?k
   (case a=>k_is);(case l=>k_is);(case c=>k_is);(case k=>k_is)
  have D_law:Ov.Def (L2.KOf KX) mg "law" Ov.s_law:=by
   dsimp only [L2.KOf]
   refine' Ov.def_mk KX G ?a ?l ?c ?k
   (case a=>k_is);(case l=>k_is);(case c=>k_is);(case k=>k_is)
  obtain ⟨c_Log,KD_Log,NA_Log_rows,NA_Log_gone,MD_Log___init__,MD_Log_turn,MD_Log_leave,MD_Log_there,MD_Log_leg_at⟩:∃ C,Ov.KDef (L2.KOf KX) mg "Log" C∧L2.NoAttr (L2.KOf KX) C "rows"∧L2.NoAttr (L2.KOf KX) C "gone"∧Ov.MDef (L2.KOf KX) C "__init__" "Log.__init__" Ov.s_Log___init__∧Ov.MDef (L2.KOf KX) C "turn" "Log.turn" Ov.s_Log_turn∧Ov.MDef (L2.KOf KX) C "leave" "Log.leave" Ov.s_Log_leave∧Ov.MDef (L2.KOf KX) C "there" "Log.there" Ov.s_Log_there∧Ov.MDef (L2.KOf KX) C "leg_at" "Log.leg_at" Ov.s_Log_leg_at:=by
   dsimp only [L2.KOf]
   refine' ⟨_,Ov.kdef_mk KX G ?a ?pg ?hd ?po ?sa ?mk ?kc,?n0,?n1,Ov.mdef_mk ?m0a ?m0i ?m0l ?m0c ?m0k,Ov.mdef_mk ?m1a ?m1i ?m1l ?m1c ?m1k,Ov.mdef_mk ?m2a ?m2i ?m2l ?m2c ?m2k,Ov.mdef_mk ?m3a ?m3i ?m3l ?m3c ?m3k,Ov.mdef_mk ?m4a ?m4i ?m4l ?m4c ?m4k⟩
   (case a=>k_is);(case pg=>k_is);(case hd=>k_is);(case po=>k_is);(case sa=>k_is);(case mk=>k_is);(case kc=>k_is)
   (case n0=>(show PySem.W.findIn _ _ _=_;k_is))
   (case n1=>(show PySem.W.findIn _ _ _=_;k_is))
   (case m0a=>k_is);(case m0i=>k_is);(case m0l=>k_is);(case m0c=>k_is);(case m0k=>k_is)
   (case m1a=>k_is);(case m1i=>k_is);(case m1l=>k_is);(case m1c=>k_is);(case m1k=>k_is)
   (case m2a=>k_is);(case m2i=>k_is);(case m2l=>k_is);(case m2c=>k_is);(case m2k=>k_is)
   (case m3a=>k_is);(case m3i=>k_is);(case m3l=>k_is);(case m3c=>k_is);(case m3k=>k_is)
   (case m4a=>k_is);(case m4i=>k_is);(case m4l=>k_is);(case m4c=>k_is);(case m4k=>k_is)
  obtain ⟨c_Lane,KD_Lane,NA_Lane_now,NA_Lane_logs,NA_Lane_row,MD_Lane___init__,MD_Lane_must_be_there,MD_Lane_leg_of,MD_Lane_settle,MD_Lane_join,MD_Lane_meets,MD_Lane_foretold,MD_Lane_go_to,MD_Lane_turn,MD_Lane_about,MD_Lane_leave,MD_Lane_place,MD_Lane_count_from⟩:∃ C,Ov.KDef (L2.KOf KX) mg "Lane" C∧L2.NoAttr (L2.KOf KX) C "now"∧L2.NoAttr (L2.KOf KX) C "logs"∧L2.NoAttr (L2.KOf KX) C "row"∧Ov.MDef (L2.KOf KX) C "__init__" "Lane.__init__" Ov.s_Lane___init__∧Ov.MDef (L2.KOf KX) C "must_be_there" "Lane.must_be_there" Ov.s_Lane_must_be_there∧Ov.MDef (L2.KOf KX) C "leg_of" "Lane.leg_of" Ov.s_Lane_leg_of∧Ov.MDef (L2.KOf KX) C "settle" "Lane.settle" Ov.s_Lane_settle∧Ov.MDef (L2.KOf KX) C "join" "Lane.join" Ov.s_Lane_join∧Ov.MDef (L2.KOf KX) C "meets" "Lane.meets" Ov.s_Lane_meets∧Ov.MDef (L2.KOf KX) C "foretold" "Lane.foretold" Ov.s_Lane_foretold∧Ov.MDef (L2.KOf KX) C "go_to" "Lane.go_to" Ov.s_Lane_go_to∧Ov.MDef (L2.KOf KX) C "turn" "Lane.turn" Ov.s_Lane_turn∧Ov.MDef (L2.KOf KX) C "about" "Lane.about" Ov.s_Lane_about∧Ov.MDef (L2.KOf KX) C "leave" "Lane.leave" Ov.s_Lane_leave∧Ov.MDef (L2.KOf KX) C "place" "Lane.place" Ov.s_Lane_place∧Ov.MDef (L2.KOf KX) C "count_from" "Lane.count_from" Ov.s_Lane_count_from:=by
   dsimp only [L2.KOf]
   refine' ⟨_,Ov.kdef_mk KX G ?a ?pg ?hd ?po ?sa ?mk ?kc,?n0,?n1,?n2,Ov.mdef_mk ?m0a ?m0i ?m0l ?m0c ?m0k,Ov.mdef_mk ?m1a ?m1i ?m1l ?m1c ?m1k,Ov.mdef_mk ?m2a ?m2i ?m2l ?m2c ?m2k,Ov.mdef_mk ?m3a ?m3i ?m3l ?m3c ?m3k,Ov.mdef_mk ?m4a ?m4i ?m4l ?m4c ?m4k,Ov.mdef_mk ?m5a ?m5i ?m5l ?m5c ?m5k,Ov.mdef_mk ?m6a ?m6i ?m6l ?m6c ?m6k,Ov.mdef_mk ?m7a ?m7i ?m7l ?m7c ?m7k,Ov.mdef_mk ?m8a ?m8i ?m8l ?m8c ?m8k,Ov.mdef_mk ?m9a ?m9i ?m9l ?m9c ?m9k,Ov.mdef_mk ?m10a ?m10i ?m10l ?m10c ?m10k,Ov.mdef_mk ?m11a ?m11i ?m11l ?m11c ?m11k,Ov.mdef_mk ?m12a ?m12i ?m12l ?m12c ?m12k⟩
   (case a=>k_is);(case pg=>k_is);(case hd=>k_is);(case po=>k_is);(case sa=>k_is);(case mk=>k_is);(case kc=>k_is)
   (case n0=>(show PySem.W.findIn _ _ _=_;k_is))
   (case n1=>(show PySem.W.findIn _ _ _=_;k_is))
   (case n2=>(show PySem.W.findIn _ _ _=_;k_is))
   (case m0a=>k_is);(case m0i=>k_is);(case m0l=>k_is);(case m0c=>k_is);(case m0k=>k_is)
   (case m1a=>k_is);(case m1i=>k_is);(case m1l=>k_is);(case m1c=>k_is);(case m1k=>k_is)
   (case m2a=>k_is);(case m2i=>k_is);(case m2l=>k_is);(case m2c=>k_is);(case m2k=>k_is)
   (case m3a=>k_is);(case m3i=>k_is);(case m3l=>k_is);(case m3c=>k_is);(case m3k=>k_is)
   (case m4a=>k_is);(case m4i=>k_is);(case m4l=>k_is);(case m4c=>k_is);(case m4k=>k_is)
   (case m5a=>k_is);(case m5i=>k_is);(case m5l=>k_is);(case m5c=>k_is);(case m5k=>k_is)
   (case m6a=>k_is);(case m6i=>k_is);(case m6l=>k_is);(case m6c=>k_is);(case m6k=>k_is)
   (case m7a=>k_is);(case m7i=>k_is);(case m7l=>k_is);(case m7c=>k_is);(case m7k=>k_is)
   (case m8a=>k_is);(case m8i=>k_is);(case m8l=>k_is);(case m8c=>k_is);(case m8k=>k_is)
   (case m9a=>k_is);(case m9i=>k_is);(case m9l=>k_is);(case m9c=>k_is);(case m9k=>k_is)
   (case m10a=>k_is);(case m10i=>k_is);(case m10l=>k_is);(case m10c=>k_is);(case m10k=>k_is)
   (case m11a=>k_is);(case m11i=>k_is);(case m11l=>k_is);(case m11c=>k_is);(case m11k=>k_is)
   (case m12a=>k_is);(case m12i=>k_is);(case m12l=>k_is);(case m12c=>k_is);(case m12k=>k_is)
  obtain ⟨c_Bells,KD_Bells,NA_Bells_rows,MD_Bells___init__,MD_Bells_drop,MD_Bells_put,MD_Bells_told⟩:∃ C,Ov.KDef (L2.KOf KX) mg "Bells" C∧L2.NoAttr (L2.KOf KX) C "rows"∧Ov.MDef (L2.KOf KX) C "__init__" "Bells.__init__" Ov.s_Bells___init__∧Ov.MDef (L2.KOf KX) C "drop" "Bells.drop" Ov.s_Bells_drop∧Ov.MDef (L2.KOf KX) C "put" "Bells.put" Ov.s_Bells_put∧Ov.MDef (L2.KOf KX) C "told" "Bells.told" Ov.s_Bells_told:=by
   dsimp only [L2.KOf]
   refine' ⟨_,Ov.kdef_mk KX G ?a ?pg ?hd ?po ?sa ?mk ?kc,?n0,Ov.mdef_mk ?m0a ?m0i ?m0l ?m0c ?m0k,Ov.mdef_mk ?m1a ?m1i ?m1l ?m1c ?m1k,Ov.mdef_mk ?m2a ?m2i ?m2l ?m2c ?m2k,Ov.mdef_mk ?m3a ?m3i ?m3l ?m3c ?m3k⟩
   (case a=>k_is);(case pg=>k_is);(case hd=>k_is);(case po=>k_is);(case sa=>k_is);(case mk=>k_is);(case kc=>k_is)
   (case n0=>(show PySem.W.findIn _ _ _=_;k_is))
   (case m0a=>k_is);(case m0i=>k_is);(case m0l=>k_is);(case m0c=>k_is);(case m0k=>k_is)
   (case m1a=>k_is);(case m1i=>k_is);(case m1l=>k_is);(case m1c=>k_is);(case m1k=>k_is)
   (case m2a=>k_is);(case m2i=>k_is);(case m2l=>k_is);(case m2c=>k_is);(case m2k=>k_is)
   (case m3a=>k_is);(case m3i=>k_is);(case m3l=>k_is);(case m3c=>k_is);(case m3k=>k_is)
  have Z:Ov.BltR mg:=by
   refine' ⟨Ov.Blt.mk (PySem.W.mg_none_of KX G ?z0) (PySem.W.mg_none_of KX G ?z1) (PySem.W.mg_none_of KX G ?z2) (PySem.W.mg_none_of KX G ?z3) (PySem.W.mg_none_of KX G ?z4) (PySem.W.mg_none_of KX G ?z5) (PySem.W.mg_none_of KX G ?z6) (PySem.W.mg_none_of KX G ?z7) (PySem.W.mg_none_of KX G ?z8) (PySem.W.mg_none_of KX G ?z9),PySem.W.mg_none_of KX G ?w0,PySem.W.mg_none_of KX G ?w1,PySem.W.mg_none_of KX G ?w2,PySem.W.mg_none_of KX G ?w3,PySem.W.mg_none_of KX G ?w4⟩
   (case z0=>k_is);(case z1=>k_is);(case z2=>k_is);(case z3=>k_is);(case z4=>k_is);(case z5=>k_is);(case z6=>k_is);(case z7=>k_is);(case z8=>k_is);(case z9=>k_is);(case w0=>k_is);(case w1=>k_is);(case w2=>k_is);(case w3=>k_is);(case w4=>k_is)
  have N:Ov.Nought (L2.KOf KX) mg:=by
   dsimp only [L2.KOf]
   refine' Ov.nought_mk KX G ?a ?l
   (case a=>k_is);(case l=>k_is)
  obtain ⟨e_BadMoment,O_BadMoment⟩:∃ C,Ov.Own (L2.KOf KX) mg "BadMoment" C:=by
   dsimp only [L2.KOf]
   refine' ⟨_,Ov.own_mk KX G ?a ?b⟩
   (case a=>k_is);(case b=>kernel_rfl)
  obtain ⟨e_BadName,O_BadName⟩:∃ C,Ov.Own (L2.KOf KX) mg "BadName" C:=by
   dsimp only [L2.KOf]
   refine' ⟨_,Ov.own_mk KX G ?a ?b⟩
   (case a=>k_is);(case b=>kernel_rfl)
  obtain ⟨e_Full,O_Full⟩:∃ C,Ov.Own (L2.KOf KX) mg "Full" C:=by
   dsimp only [L2.KOf]
   refine' ⟨_,Ov.own_mk KX G ?a ?b⟩
   (case a=>k_is);(case b=>kernel_rfl)
  obtain ⟨e_NoCraft,O_NoCraft⟩:∃ C,Ov.Own (L2.KOf KX) mg "NoCraft" C:=by
   dsimp only [L2.KOf]
   refine' ⟨_,Ov.own_mk KX G ?a ?b⟩
   (case a=>k_is);(case b=>kernel_rfl)
  obtain ⟨e_NotThere,O_NotThere⟩:∃ C,Ov.Own (L2.KOf KX) mg "NotThere" C:=by
   dsimp only [L2.KOf]
   refine' ⟨_,Ov.own_mk KX G ?a ?b⟩
   (case a=>k_is);(case b=>kernel_rfl)
  obtain ⟨e_Past,O_Past⟩:∃ C,Ov.Own (L2.KOf KX) mg "Past" C:=by
   dsimp only [L2.KOf]
   refine' ⟨_,Ov.own_mk KX G ?a ?b⟩
   (case a=>k_is);(case b=>kernel_rfl)
  obtain ⟨e_Taken,O_Taken⟩:∃ C,Ov.Own (L2.KOf KX) mg "Taken" C:=by
   dsimp only [L2.KOf]
   refine' ⟨_,Ov.own_mk KX G ?a ?b⟩
   (case a=>k_is);(case b=>kernel_rfl)
  obtain ⟨e_TooFar,O_TooFar⟩:∃ C,Ov.Own (L2.KOf KX) mg "TooFar" C:=by
   dsimp only [L2.KOf]
   refine' ⟨_,Ov.own_mk KX G ?a ?b⟩
   (case a=>k_is);(case b=>kernel_rfl)
  obtain ⟨t_FARTHEST,g_FARTHEST⟩:∃ t,mg "FARTHEST"=some (.int 1000000 t):=by
   refine' Ov.const_int KX G ?cz ?cw
   (case cz=>k_is);(case cw=>kernel_rfl)
  obtain ⟨t_FASTEST,g_FASTEST⟩:∃ t,mg "FASTEST"=some (.int 1000 t):=by
   refine' Ov.const_int KX G ?cz ?cw
   (case cz=>k_is);(case cw=>kernel_rfl)
  obtain ⟨t_FINEST,g_FINEST⟩:∃ t,mg "FINEST"=some (.int 60 t):=by
   refine' Ov.const_int KX G ?cz ?cw
   (case cz=>k_is);(case cw=>kernel_rfl)
  obtain ⟨t_LATEST,g_LATEST⟩:∃ t,mg "LATEST"=some (.int 1000000 t):=by
   refine' Ov.const_int KX G ?cz ?cw
   (case cz=>k_is);(case cw=>kernel_rfl)
  obtain ⟨t_LONGEST,g_LONGEST⟩:∃ t,mg "LONGEST"=some (.int 8 t):=by
   refine' Ov.const_int KX G ?cz ?cw
   (case cz=>k_is);(case cw=>kernel_rfl)
  obtain ⟨t_MOST,g_MOST⟩:∃ t,mg "MOST"=some (.int 12 t):=by
   refine' Ov.const_int KX G ?cz ?cw
   (case cz=>k_is);(case cw=>kernel_rfl)
  obtain ⟨t_SIGNS,g_SIGNS⟩:∃ t,mg "SIGNS"=some (.str "abcdefghijklmnopqrstuvwxyz0123456789" t):=by
   refine' Ov.const_str KX G ?cz ?cw
   (case cz=>k_is);(case cw=>kernel_rfl)
  obtain ⟨fd,F,hb⟩:=Ov.law_fd D_law hmg (fun _ _ _ _ _ _ _=>rfl)
  exact ⟨fd,[T_good_name],hb,(fun T hT=>by simp only [List.mem_cons,List.not_mem_nil,or_false] at hT;rcases hT with rfl <;> first | exact ⟨_,by simp,_,D_good_name⟩),fun base _ _ Bm=>Ov.law_downG (Ov.all_ok Z N g_FARTHEST g_FASTEST g_FINEST g_LATEST g_LONGEST g_MOST g_SIGNS O_BadMoment O_BadName O_Full O_NoCraft O_NotThere O_Past O_Taken O_TooFar KD_Log KD_Lane KD_Bells NA_Log_rows NA_Log_gone NA_Lane_now NA_Lane_logs NA_Lane_row NA_Bells_rows D_cell D_digits D_shared D_fraction D_low D_less D_plus D_minus D_times D_good_name D_names D_place_on D_last_by D_lies_behind D_in_order D_rings_ahead D_meeting D_in_lowest_terms D_good_moment D_whole D_placed D_paced D_at D_later D_acted D_done D_deed D_walk MD_Log___init__ MD_Log_turn MD_Log_leave MD_Log_there MD_Log_leg_at MD_Lane___init__ MD_Lane_must_be_there MD_Lane_leg_of MD_Lane_settle MD_Lane_join MD_Bells___init__ MD_Bells_drop MD_Bells_put MD_Bells_told MD_Lane_meets MD_Lane_foretold MD_Lane_go_to MD_Lane_turn MD_Lane_about MD_Lane_leave MD_Lane_place MD_Lane_count_from F base Bm)⟩
