import PyProof.Rows.All
import Wide.All
import OpenK.AllK
import Wide.FinOn
import Lean
import PyProof.EqAt
import PyProof.EqKinds
import PyProof.TupleCall
import PyProof.NeKinds
import PyProof.CompFree
import PyProof.CompMap
import PyProof.ListRange
import PyProof.Rows.SortWalk
import PyProof.ExcArgsOwn
import PyProof.ExcAttrAll.ValueError
import KE.KTryMore
import PyProof.GenCompD
import PyProof.StrWalks
import PyProof.ConsumeS
import PyProof.StrOps2
import KE.KRevIter
import PyProof.ZipIter
import PyProof.DictWalks
import PyProof.DictCompW
import PyProof.DictRoads
import PyProof.MeetsDictList
import KE.KDictList
import PyProof.EnumFor
import PyProof.EnumMake
import PyProof.WalksEnum
import PySem.Challenge.RW_overhaul_k18_nobody_so_called
noncomputable section
set_option compiler.extract_closed false
set_option Elab.async false
set_option linter.all false
set_option maxRecDepth 100000
open List renaming length_map→UZ,mem_map→U0,getElem?_eq_some_iff→U1,getElem?_eq_getElem→U2,mem_of_getElem?→U3,size_toArray→U5,map_cons→U6,map_append→U7,getElem?_map→U8,mem_append→U9,mem_filter→U_,map_map→U',mem_append_right→Va,mem_cons→Vb,mem_singleton→Vc,length_append→Vg,mem_iff_getElem?→Vi,length_cons→Vk,map_congr_left→Vl,not_mem_nil→Vm,getElem?_set_self→Vn,mem_cons_of_mem→Vo,length_take→Vp,lookup_cons→Vs,filter_cons→Vt,take_length→Vu,take_add_one→Vv,getLast?_concat→Vw,dropLast_concat_getLast→Vx,getElem_of_mem→Vy,getElem?_eq_none→Vz,range→VA,getElem?_cons_succ→VB,getElem?_set_ne→VC,mem_cons_self→VD,getElem?_zip_eq_some→VE,pairwise_iff_getElem→VF,getElem_mem→VG,filter_map→VH,mem_of_mem_take→VI,filter_eq_self→VL,length_filter_le→VM,getElem_map→VO,replicate→VP,append_nil→VQ,take_of_length_le→VR,getElem?_append_right→VS,getElem_inj→VT,map_nil→VV,getElem?_append_left→VW,nodup_cons→VY,nodup_append→VZ,length→V0,map_take→V2,length_drop→V3,all_eq_true→V4,mem_range→V6,cons_lt_cons_iff→V8,take_sublist→V9,exists_cons_of_ne_nil→V_,mem_append_left→V',drop_eq_getElem_cons→Wb,filterMap_cons→Wd,length_set→We,any_cons→Wf,getElem?_cons_zero→Wg,filter_append→Wh,length_nil→Wi,length_zip→Wj,pairwise_cons→Wl,getElem?_tail→Wn,lookup→Wo,eraseIdxIfInBounds_toArray→Wq,length_range→Wt,drop_zero→Wu,dropLast_eq_take→Wv,take_append_drop→Ww,dropLast_concat→Wx,map_drop→Wy,head?_cons→WA,mem_map_of_mem→WB,filter_sublist→WC,mem_filterMap→WE,getElem?_drop→WG,getElem?_eq_none_iff→WH,foldl_append→WJ,getElem?_replicate→WK,eraseIdx_cons_succ→WL,lookup_eq_some_iff→WM,filter_eq_nil_iff→WO,of_mem_zip→WR,length_replicate→WT,filter_nil→WV,map_id'→WY,length_dropLast→WZ,pairwise_append→W0,mem_of_getLast?→W2,getElem?_range→W3,all_cons→W4,zip_cons_cons→W5,append_assoc→W7,nil_lt_cons→Xa,any_eq_true→Xb,mem_flatMap→Xc,getLast_mem→Xe,forIn_cons→Xg,map→Xt,getD→XE
open Nat renaming le_refl→U4,lt_of_lt_of_le→Vf,le_trans→Vh,ne_of_lt→Vj,zero_le→Vr,lt_of_le_of_lt→VN,lt_irrefl→VU,le_add_right→V5,lt_succ_self→Wc,lt_or_eq_of_le→Wm,not_lt_zero→Wz,le_of_lt→WD,mul_div_cancel_left→WN,ne_of_gt→WQ,lt_or_ge→WX,lt_trichotomy→W6,min_self→W9,min_eq_left→Xh
open Bool renaming false_eq_true→Vd,false_ne_true→Ve,and_eq_true→Vq,eq_iff_iff→VX,and_true→V1,decide_and→V7,and_false→Wa,eq_false_iff→Wr,not_eq_true'→Ws,beq_eq_decide_eq→WW
open Option renaming some→VJ,isSome_iff_exists→WI,map_some→WU,getD_none→W_
namespace L2
open PySem PySem.Spec PyProof.Rows
abbrev Key:=Sum Int Str
def Lm:Key→Value→Bool
 | .inl k,v=>Value.isInt k v
 | .inr x,v=>Value.isStrOf x v
def SH (w:World):Key→Int
 | .inl k=>hashInt k
 | .inr x=>hashStr w x
theorem cM:∀{k:Key} {v:Value},Lm k v=true→(∃i t,k=Sum.inl i∧v=Value.int i t)∨(∃x t,k=Sum.inr x∧v=Value.str x t)
 | .inl i,v,h=>by
  obtain ⟨t,e⟩:=Value.isInt_shape (k:=i) (v:=v) h
  exact .inl ⟨i,t,rfl,e⟩
 | .inr x,v,h=>by
  obtain ⟨t,e⟩:=Value.isStrOf_shape (x:=x) (v:=v) h
  exact .inr ⟨x,t,rfl,e⟩
theorem Na (a b:Int):decide ((Sum.inl a:Key)=Sum.inl b)=(a == b):=by
 by_cases e:a=b
 ·subst e;simp
 ·have h:¬ (Sum.inl a:Key)=Sum.inl b:=λq=>e (Sum.inl.inj q)
  rw [decide_eq_false h]
  exact (beq_eq_false_iff_ne.mpr e).symm
theorem Nd (a b:Str):decide ((Sum.inr a:Key)=Sum.inr b)=decide (a=b):=by
 by_cases e:a=b
 ·subst e;simp
 ·have h:¬ (Sum.inr a:Key)=Sum.inr b:=λq=>e (Sum.inr.inj q)
  rw [decide_eq_false h,decide_eq_false e]
theorem Nb (a:Int) (b:Str):decide ((Sum.inl a:Key)=Sum.inr b)=false:=decide_eq_false (λq=>nomatch q)
theorem Nc (a:Str) (b:Int):decide ((Sum.inr a:Key)=Sum.inl b)=false:=decide_eq_false (λq=>nomatch q)
def JA (prog:Program) (w:World):PySem.KeyKind prog w Key where
 is:=Lm
 hash:=SH w
 inj:=λv a b ha hb=>by
  rcases cM ha with ⟨i,t,rfl,rfl⟩ | ⟨x,t,rfl,rfl⟩
  ·rcases cM hb with ⟨j,u,rfl,e⟩ | ⟨y,u,rfl,e⟩
   ·injection e with e1 _;rw [e1]
   ·exact nomatch e
  ·rcases cM hb with ⟨j,u,rfl,e⟩ | ⟨y,u,rfl,e⟩
   ·exact nomatch e
   ·injection e with e1 _;rw [e1]
 byValue:=λk v h=>by
  rcases cM h with ⟨i,t,rfl,rfl⟩ | ⟨x,t,rfl,rfl⟩ <;> rfl
 pyHash:=λhv h=>by
  rcases cM hv with ⟨i,t,rfl,rfl⟩ | ⟨x,t,rfl,rfl⟩
  ·exact wpAny_pyHash_int h
  ·exact wpAny_pyHash_str h
 eqBool:=λhu hv h=>by
  rcases cM hu with ⟨i,t,rfl,rfl⟩ | ⟨x,t,rfl,rfl⟩
  ·rcases cM hv with ⟨j,u,rfl,rfl⟩ | ⟨y,u,rfl,rfl⟩
   ·rw [Na] at h;exact wpAny_eqBool_int h
   ·rw [Nb] at h;exact SeqAt.EqAt.int_str i t y u _ _ _ _ h
  ·rcases cM hv with ⟨j,u,rfl,rfl⟩ | ⟨y,u,rfl,rfl⟩
   ·rw [Nc] at h;exact SeqAt.EqAt.str_int x t j u _ _ _ _ h
   ·rw [Nd] at h;exact wpAny_eqBool_str h
 «strs»:=λk x t v h=>by
  rcases cM h with ⟨i,u,rfl,e⟩ | ⟨y,u,rfl,e⟩
  ·exact nomatch e
  ·injection e with e1 _
   subst e1
   cases v <;> rfl
end L2
namespace L2
open PySem PySem.Spec PyProof.Rows
inductive V where
 | non | bl (b:Bool) | int (i:Int) | str (x:Str) | byt (b:Array UInt8) | flt (b:UInt64) | ref (a:Addr) | ty (n:String)
 deriving DecidableEq
def RelV:V→Value→Prop
 | .non,u=>u=Value.none
 | .bl b,u=>u=Value.bool b
 | .int i,u=>∃t,u=Value.int i t
 | .str x,u=>∃t,u=Value.str x t
 | .byt b,u=>∃t,u=Value.bytes b t
 | .flt b,u=>∃t,u=Value.float b t
 | .ref a,u=>u=Value.ref a
 | .ty n,u=>u=Value.type n
abbrev Vals:List V→List Value→Prop:=Paired RelV
theorem Vals.length {xs:List V} {us:List Value} (r:Vals xs us):xs.length=us.length:=Paired.length r
theorem Vals.get:∀{xs:List V} {us:List Value} {i:Nat} {x:V},Vals xs us→xs[i]?=some x→∃u,us[i]?=some u∧RelV x u
 | _,_,_,_,.nil,e=>by simp at e
 | _,_,0,_,.cons r _,e=>by simp at e;subst e;exact ⟨_,rfl,r⟩
 | _,_,i + 1,x,.cons _ t,e=>by
  obtain ⟨u,h1,h2⟩:=Vals.get (i:=i) (x:=x) t (by simpa using e)
  exact ⟨u,by simpa using h1,h2⟩
theorem Vals.set {x:V} {u:Value} (r:RelV x u):∀{xs:List V} {us:List Value} (i:Nat),Vals xs us→Vals (xs.set i x) (us.set i u)
 | _,_,_,.nil=>.nil
 | _,_,0,.cons _ t=>.cons r t
 | _,_,i + 1,.cons q t=>.cons q (Vals.set r i t)
theorem Vals.append:∀{xs ys:List V} {us ws:List Value},Vals xs us→Vals ys ws→Vals (xs ++ ys) (us ++ ws)
 | _,_,_,_,.nil,s=>s
 | _,_,_,_,.cons r t,s=>.cons r (Vals.append t s)
theorem Vals.take:∀{xs:List V} {us:List Value} (n:Nat),Vals xs us→Vals (xs.take n) (us.take n)
 | _,_,0,_=>.nil
 | _,_,_ + 1,.nil=>.nil
 | _,_,n + 1,.cons r t=>.cons r (Vals.take n t)
theorem Vals.drop:∀{xs:List V} {us:List Value} (n:Nat),Vals xs us→Vals (xs.drop n) (us.drop n)
 | _,_,0,r=>r
 | _,_,_ + 1,.nil=>.nil
 | _,_,n + 1,.cons _ t=>Vals.drop n t
def uC:Option V→Option Value→Prop
 | some v,some u=>RelV v u
 | none,none=>True
 | _,_=>False
def KV {κ:Type}:List (κ × V)→List (κ × Value)→Prop:=Paired λ(p:κ × V) (q:κ × Value)=>p.1=q.1∧RelV p.2 q.2
def kV:Key→V
 | .inl i=>.int i
 | .inr x=>.str x
inductive HO where
 | lst (xs:List V)
 | tup (xs:List V)
 | dK (kvs:List (Key × V)) | dE (kvs:List (Str × V)) (ep:Nat)
 | set (S:Int→Bool) (n:Nat)
 | ins (C dx:Addr) (fs:List (Str × V))
 | own (x:Addr)
 | xd (fs:List (Str × V))
 | met (f x:Addr)
 | OR (lo hi:Int)
 | qO (o:Obj) (u:HO)
 | tbl (ps:Array Value)
 | ext (φ:Heap→Prop)
abbrev Hp:=Addr→Option HO
def upd (H:Hp) (a:Addr) (o:HO):Hp:=λb=>if b=a then some o else H b
theorem aH {H:Hp} {a:Addr} {o:HO}:upd H a o a=some o:=by unfold upd;rw [if_pos rfl]
theorem aM {H:Hp} {a b:Addr} {o:HO} (h:b≠a):upd H a o b=H b:=by unfold upd;rw [if_neg h]
theorem bJ {H:Hp} {a b:Addr} {o:HO} (h:H a=some o) (h':H b=none):a≠b:=by
 intro e;subst e;rw [h] at h';cases h'
section
variable (P:Program) (w:World)
def dP (H:Hp) (h:Heap) (a:Addr):HO→Prop
 | .lst xs=>xs.length≤sizeLine∧∃(its:List Value) (n:Nat),Vals xs its∧h.get? a=some { cls:=.type "list",data:=.seq its.toArray n }
 | .tup xs=>xs.length≤sizeLine∧∃its:List Value,Vals xs its∧IsTup h a its.toArray
 | .dK kvs=>kvs.length≤sizeLine∧(a == sysModules)=false∧∃vs,KV kvs vs∧h.DictOf (JA P w) a vs
 | .dE kvs ep=>kvs.length≤sizeLine∧(a == sysModules)=false∧∃vs,KV kvs vs∧h.DictAt (strKind P w) a vs ep
 | .set S n=>h.SetOf (intKind P w) a S n
 | .ins C dx fs=>H dx=some (.own a)∧fs.length≤1000∧dx≠a∧h.get? a=some (PySem.W.instObj C dx) ∧
   ∃mA,h.Ns1 dx mA∧(∀f,uC (fs.lookup f) (mA f))∧PySem.Within mA (fs.map (·.1))
 | .own _=>∃o,h.get? a=some o
 | .xd fs=>∃mA,h.Ns1 a mA∧∀f,uC (fs.lookup f) (mA f)
 | .OR lo hi=>∃t u v,h.get? a=some { cls:=.type "range",data:=.fields #[.int lo t,.int hi u,.int 1 v] }
 | .qO o u=>h.get? a=some o∧dP H h a u
 | .tbl ps=>h.get? a=some { cls:=.none,data:=.fields ps }
 | .met f x=>h.get? a=some (PySem.W.methodObj (.ref f) (.ref x))
 | .ext φ=>φ h∧(∃o,h.get? a=some o)∧∀h1 h2:Heap,φ h1→(∀o,h1.get? a=some o→h2.get? a=some o)→φ h2
def nt (H:Hp) (h:Heap):Prop:=∀a o,H a=some o→dP P w H h a o
end
section
variable {P:Program} {w:World} {H H':Hp} {h h':Heap} {a:Addr} {o:HO}
theorem dP.lt (x:dP P w H h a o):a < h.objs.size:=by
 cases o with
 | lst xs=>obtain ⟨_,_,_,_,e⟩:=x;exact Heap.lt_size e
 | tup xs=>obtain ⟨_,_,_,p⟩:=x;exact p.lt
 | dK kvs=>obtain ⟨_,_,_,_,o,_,_,e,_⟩:=x;exact Heap.lt_size e
 | dE kvs ep=>obtain ⟨_,_,_,_,o,_,e,_⟩:=x;exact Heap.lt_size e
 | set S n=>obtain ⟨o,_,_,_,e,_⟩:=x;exact Heap.lt_size e
 | ins C dx fs=>obtain ⟨_,_,_,e,_⟩:=x;exact Heap.lt_size e
 | own y=>obtain ⟨_,e⟩:=x;exact Heap.lt_size e
 | xd fs=>obtain ⟨_,⟨_,_,_,e,_⟩,_⟩:=x;exact Heap.lt_size e
 | OR lo hi=>obtain ⟨_,_,_,e⟩:=x;exact Heap.lt_size e
 | qO ob u=>obtain ⟨e,_⟩:=x;exact Heap.lt_size e
 | tbl ps=>exact Heap.lt_size (show h.get? a=some _ from x)
 | met f y=>exact Heap.lt_size (show h.get? a=some _ from x)
 | ext φ=>obtain ⟨_,⟨_,e⟩,_⟩:=x;exact Heap.lt_size e
theorem dP.p7 (x:dP P w H h a o) (k:∀b u,(b=a∨H b=some (.own a))→h.get? b=some u→h'.get? b=some u)
  (ho:∀b,H b=some (.own a)→H' b=some (.own a)) (ht:∀b xs,H b=some (.tup xs)→H' b=some (.tup xs)):dP P w H' h' a o:=by
 induction o with
 | lst xs=>obtain ⟨z,its,n,r,e⟩:=x;exact ⟨z,its,n,r,k _ _ (.inl rfl) e⟩
 | tup xs=>obtain ⟨z,its,r,ob,e,c⟩:=x;exact ⟨z,its,r,ob,k _ _ (.inl rfl) e,c⟩
 | dK kvs=>obtain ⟨z,y,vs,r,ob,es,ep,e,c⟩:=x;exact ⟨z,y,vs,r,ob,es,ep,k _ _ (.inl rfl) e,c⟩
 | dE kvs ep=>obtain ⟨z,y,vs,r,ob,es,e,c⟩:=x;exact ⟨z,y,vs,r,ob,es,k _ _ (.inl rfl) e,c⟩
 | set S n=>obtain ⟨ob,es,ep,t,e,c⟩:=x;exact ⟨ob,es,ep,t,k _ _ (.inl rfl) e,c⟩
 | ins C dx fs =>
  obtain ⟨d,z,ne,e,mA,⟨od,es,ep,e2,c⟩,r⟩:=x
  exact ⟨ho _ d,z,ne,k _ _ (.inl rfl) e,mA,⟨od,es,ep,k _ _ (.inr d) e2,c⟩,r⟩
 | own y=>obtain ⟨ob,e⟩:=x;exact ⟨ob,k _ _ (.inl rfl) e⟩
 | xd fs=>obtain ⟨mA,⟨od,es,ep,e,c⟩,r⟩:=x;exact ⟨mA,⟨od,es,ep,k _ _ (.inl rfl) e,c⟩,r⟩
 | OR lo hi=>obtain ⟨t,u,v,e⟩:=x;exact ⟨t,u,v,k _ _ (.inl rfl) e⟩
 | qO ob u ih=>obtain ⟨e,q⟩:=x;exact ⟨k _ _ (.inl rfl) e,ih q⟩
 | tbl ps =>
  have e:h.get? a=some { cls:=.none,data:=.fields ps }:=x
  show h'.get? a=some { cls:=.none,data:=.fields ps }
  exact k a _ (.inl rfl) e
 | met f y =>
  have e:h.get? a=some (PySem.W.methodObj (.ref f) (.ref y)):=x
  show h'.get? a=some (PySem.W.methodObj (.ref f) (.ref y))
  exact k a _ (.inl rfl) e
 | ext φ=>obtain ⟨p,⟨o,e⟩,st⟩:=x;exact ⟨st _ _ p λo q=>k _ _ (.inl rfl) q,⟨o,k _ _ (.inl rfl) e⟩,st⟩
theorem nt.lt (x:nt P w H h) (e:H a=some o):a < h.objs.size:=(x a o e).lt
theorem nt.fresh (x:nt P w H h) (e:h.objs.size≤a):H a=none:=by
 cases q:H a with
 | none=>rfl
 | some u=>exact absurd (Vf (x.lt q) e) (VU _)
theorem nt.kept (x:nt P w H h) (k:∀b u,h.get? b=some u→h'.get? b=some u):nt P w H h':=λa o e =>
 (x a o e).p7 (λb u _ q=>k b u q) (λ_ q=>q) λ_ _ q=>q
theorem nt.laid (x:nt P w H h) (k:∀b u,h.get? b=some u→h'.get? b=some u) (hp:h.objs.size≤a) (new:dP P w (upd H a o) h' a o):nt P w (upd H a o) h':=λb u e=>by
 have hn:=x.fresh hp
 by_cases hb:b=a
 ·subst hb;rw [aH] at e;cases e;exact new
 ·rw [aM hb] at e
  exact (x b u e).p7 (λc v _ q=>k c v q) (λc q=>by rw [aM (bJ q hn)];exact q) λc xs q=>by rw [aM (bJ q hn)];exact q
end
def Rd (H:Hp) (a:Addr) (u:HO):Prop:=H a=some u∨∃o,H a=some (.qO o u)
theorem Rd.ok {P:Program} {w:World} {H:Hp} {h:Heap} {a:Addr} {u:HO} (r:Rd H a u) (x:nt P w H h):dP P w H h a u:=by
 rcases r with r | ⟨o,r⟩
 ·exact x a u r
 ·obtain ⟨_,q⟩:=x a _ r
  exact q
def RC:Option HO→Prop
 | some (.lst _)=>True
 | some (.dK _)=>True
 | some (.dE _ _)=>True
 | some (.set _ _)=>True
 | some (.ins _ _ _)=>True
 | some (.ext _)=>True
 | _=>False
section
variable {P:Program} {w:World} {H:Hp} {h h':Heap} {x e:Addr} {o':HO}
theorem nt.write (ok:nt P w H h) (mu:RC (H x)) (he:e=x∨H e=some (.own x)) (k:∀b u,b≠e→h.get? b=some u→h'.get? b=some u) (heo:∃u,h'.get? e=some u)
  (new:dP P w (upd H x o') h' x o'):nt P w (upd H x o') h':=λb u q=>by
 have nown:∀c y,H c=some (.own y)→c≠x:=λc y r z=>by subst z;rw [r] at mu;exact mu
 have ntup:∀c xs,H c=some (.tup xs)→c≠x:=λc xs r z=>by subst z;rw [r] at mu;exact mu
 by_cases hb:b=x
 ·subst hb;rw [aH] at q;cases q;exact new
 ·rw [aM hb] at q
  by_cases hbe:b=e
  ·have q':H b=some (.own x):=by
    rcases he with z | z
    ·exact absurd (hbe.trans z) hb
    ·rw [hbe];exact z
   rw [q] at q';cases q'
   obtain ⟨v,hv⟩:=heo
   exact ⟨v,by rw [hbe];exact hv⟩
  ·refine (ok b u q).p7 (λc v hc r=>k c v ?_ r) (λc r=>by rw [aM (nown c b r)];exact r) λc xs r=>by rw [aM (ntup c xs r)];exact r
   rcases hc with rfl | hc
   ·exact hbe
   ·rintro rfl
    rcases he with z | z
    ·exact nown c b hc z
    ·rw [hc] at z;cases z;exact hb rfl
end
structure Un (fs ex:List Addr) (H H':Hp) (h h':Heap):Prop where
 keep:∀b o,h.get? b=some o→H b=none→b ∉ fs→b ∉ ex→h'.get? b=some o
 slot:∀b o,h.get? b=some o→H b=none→b∈fs→b ∉ ex→∃sl,h'.get? b=some { o with slots:=sl }
 free:∀b o,h.get? b=some o→H b=none→b ∉ ex→H' b=none
 there:∀b o,h.get? b=some o→b ∉ ex→∃o',h'.get? b=some o'
 tups:∀b xs,H b=some (.tup xs)→H' b=some (.tup xs)
 frzs:∀b o u,H b=some (.qO o u)→H' b=some (.qO o u)
 tbls:∀b ps,H b=some (.tbl ps)→∃more,H' b=some (.tbl (ps ++ more))
section
variable {fs fs' ex ex':List Addr} {H H1 H2:Hp} {h h1 h2 h':Heap} {a x e:Addr} {o:HO}
theorem Un.any (u:Un fs ex H H1 h h1) {b:Addr} {ob:Obj} (q:h.get? b=some ob) (n:H b=none) (hx:b ∉ ex):∃sl,h1.get? b=some { ob with slots:=sl }:=by
 by_cases hb:b∈fs
 ·exact u.slot b ob q n hb hx
 ·exact ⟨ob.slots,u.keep b ob q n hb hx⟩
theorem Un.kept (k:∀b u,h.get? b=some u→h'.get? b=some u):Un fs ex H H h h' :=
 ⟨λb ob q _ _ _=>k b ob q,λb ob q _ _ _=>⟨ob.slots,k b ob q⟩,λ_ _ _ n _=>n,λb ob q _=>⟨ob,k b ob q⟩,λ_ _ q=>q,λ_ _ _ q=>q,λ_ ps q=>⟨#[],by rw [q];simp⟩⟩
theorem Un.refl:Un fs ex H H h h:=Un.kept λ_ _ q=>q
theorem Un.laid (k:∀b u,h.get? b=some u→h'.get? b=some u) (hp:h.objs.size≤a) (hn:H a=none):Un fs ex H (upd H a o) h h' where
 keep:=λb u q _ _ _=>k b u q
 slot:=λb u q _ _ _=>⟨u.slots,k b u q⟩
 free:=λb u q n _=>by rw [aM (Vj (Vf (Heap.lt_size q) hp))];exact n
 there:=λb u q _=>⟨u,k b u q⟩
 tups:=λb xs q=>by rw [aM (bJ q hn)];exact q
 frzs:=λb u xs q=>by rw [aM (bJ q hn)];exact q
 tbls:=λb ps q=>⟨#[],by rw [aM (bJ q hn),q];simp⟩
theorem Un.write (mu:RC (H x)) (he:e=x∨H e=some (.own x)) (k:∀b u,b≠e→h.get? b=some u→h'.get? b=some u) (heo:∃u,h'.get? e=some u):Un fs ex H (upd H x o) h h':=by
 have hx:∀b,H b=none→b≠x:=λb n z=>by subst z;rw [n] at mu;exact mu
 have hb:∀b,H b=none→b≠e:=λb n z=>by
  subst z
  rcases he with r | r
  ·exact hx b n r
  ·rw [n] at r;cases r
 have hm:∀b u,H b=some u→¬ RC (some u)→b≠x:=λb u q nm z=>by subst z;rw [q] at mu;exact nm mu
 refine ⟨λb u q n _ _=>k b u (hb b n) q,λb u q n _ _=>⟨u.slots,k b u (hb b n) q⟩,λb u q n _=>by rw [aM (hx b n)];exact n,λb u q _=>?_,
  λb xs q=>by rw [aM (hm b _ q λz=>z)];exact q,λb u xs q=>by rw [aM (hm b _ q λz=>z)];exact q,λb ps q=>⟨#[],by rw [aM (hm b _ q λz=>z),q];simp⟩⟩
 by_cases hbe:b=e
 ·subst hbe;exact heo
 ·exact ⟨u,k b u hbe q⟩
end
def R1 (h:Heap) (H:Hp):List Addr:=(VA h.objs.size).filter λa=>(H a).isSome
def uE (h:Heap) (H:Hp):Heap:=PySem.W.hideAll h (R1 h H)
theorem DV (h:Heap) (H:Hp):(uE h H).objs.size=h.objs.size:=PySem.W.hideAll_size _ _
theorem FT {h:Heap} {H:Hp} {b:Addr} {o:Obj} (e:h.get? b=some o) (n:H b=none):(uE h H).get? b=some o :=
 PySem.W.hideAll_get _ e λhm=>by
  have q:(H b).isSome=true:=(U_.mp hm).2
  rw [n] at q;simp at q
theorem JI {h:Heap} {H:Hp} {b:Addr} {o:Obj} (e:(uE h H).get? b=some o):h.get? b=some o∧H b=none:=by
 have e':h.get? b=some o:=PySem.W.of_hideAll (R1 h H) e
 refine ⟨e',?_⟩
 cases q:H b with
 | none=>rfl
 | some x =>
  have hm:b∈R1 h H:=U_.mpr ⟨V6.mpr (Heap.lt_size e'),by simp [q]⟩
  have z:(uE h H).get? b=none:=PySem.W.hideAll_none (R1 h H) hm
  rw [z] at e;cases e
def IT (g h:Heap) (L:Addr):List (Addr × Obj):=(VA h.objs.size).filterMap λa=>if a=L∨(g.get? a).isSome=true then none else (h.get? a).map λo=>(a,o)
def rest (g h:Heap) (L d:Addr):List (Addr × Obj):=(IT g h L).filter λp=>decide (p.1≠d)
end L2
namespace L2
open PySem PySem.Spec PyProof.Rows
structure Mod (K:PySem.W.Frag) (mg:Str→Option Value) (base:Heap):Prop where
 kin:K.In base
 glob:base.Ns mainGlobals mg
 blt:∃mb,base.Ns builtinsNs mb∧∀x:Str,x≠"__name__"→mb x=bootBuiltins x
 nolimit:base.NoLimit
structure Cx where
 prog:Program
 w:World
 K:PySem.W.Frag
 mg:Str→Option Value
 base:Heap
 A:Around
 N:List Str
 s₀:Shared
 H₀:Hp
 env:Env
 outer:List Env
 stack:List Env
 ex:List Addr
 fn:Str→Bool
 calm:Bool
 pn:List (Addr × Obj)
 xe:Value→Shared→Prop
def kb (l:List Env):List Addr:=l.filterMap (·.frame)
abbrev Cx.fs (X:Cx):List Addr:=kb X.outer
def yv (sc:Scope) (x:Str):Prop:=sc.names.lookup x=some .local∨sc.names.lookup x=some .cell∨sc.names.lookup x=some .free
def Loc (sc:Scope) (x:Str):Prop:=sc.names.lookup x=some .local∨sc.names.lookup x=some .cell
def Look (env:Env) (h:Heap) (m:Str→Option Value) (x:Str) (u:Value):Prop :=
 (env.kindOf x=some .local∧m x=some u)∨((env.kindOf x=some .cell∨env.kindOf x=some .free)∧∃c,env.cells.lookup x=some c∧h.IsCell c (some u))
structure Cx.Ok (X:Cx):Prop where
 mod:Mod X.K X.mg X.base
 kind:X.env.scope.kind=.function
 glob:X.env.globals=mainGlobals
 blt:X.env.builtins=builtinsNs
 above:X.s₀.heap.objs.size≤X.env.locals
 inj:∀x y c,X.env.cells.lookup x=some c→X.env.cells.lookup y=some c→x=y
 has:∀x,(X.env.kindOf x=some .cell∨X.env.kindOf x=some .free)→∃c,X.env.cells.lookup x=some c
 cab:∀x c,X.fn x=true→X.env.cells.lookup x=some c→X.s₀.heap.objs.size≤c
 hd:X.calm=true→X.A.handled=none
 frames:X.A.frames=some X.stack
 stk:X.stack=X.outer∨(X.stack=X.env :: X.outer∧X.env.frame=some X.env.locals)
 exf:∀b∈X.ex,b≠X.env.locals∧∀x c,X.env.cells.lookup x=some c→c≠b
 bs:∀b o,X.base.get? b=some o→X.s₀.heap.get? b=some o∧X.H₀ b=none
 bsz:X.base.objs.size≤X.s₀.heap.objs.size
 noex:∀b o,X.base.get? b=some o→b ∉ X.ex
 exfs:∀b∈X.ex,b ∉ X.fs
 mM:X.s₀.heap.FunFrames X.base X.outer
 frf:∀b∈X.fs,X.H₀ b=none
structure Inv (X:Cx) (pins:List (Addr × Obj)) (σ:List (Option V)) (H:Hp) (s:Shared):Prop where
 ok:X.Ok
 os:s.os=X.s₀.os
 bare:AllBare s.gens
 base:Un X.fs X.ex X.H₀ H X.s₀.heap s.heap
 loc:∃m,s.heap.Ns X.env.locals m∧∀(i:Nat) (x:Str) (v:V),X.N[i]?=some x→σ[i]?=some (some v)→yv X.env.scope x→∃u,RelV v u∧Look X.env s.heap m x u
 cell:∀x c,X.env.cells.lookup x=some c→∃v,s.heap.IsCell c v
 free:H X.env.locals=none
 freeC:∀x c,X.env.cells.lookup x=some c→H c=none
 pin:∀p∈X.pn ++ pins,s.heap.get? p.1=some p.2∧H p.1=none∧p.1≠X.env.locals∧p.1 ∉ X.fs∧∀v,p.2.data≠.cell v
 hok:nt X.prog X.w H s.heap
 len:σ.length=X.N.length
section
variable {X:Cx} {pins:List (Addr × Obj)} {σ:List (Option V)} {H H':Hp} {s:Shared} {h':Heap}
theorem Cx.Ok.SY (ok:X.Ok) {b:Addr} {o:Obj} (e:X.base.get? b=some o):b ∉ X.fs:=λhb=>by
 have:=(ok.mM.mem hb).1
 rw [e] at this;cases this
theorem Inv.bs (I:Inv X pins σ H s):∀b o,X.base.get? b=some o→s.heap.get? b=some o∧H b=none:=λb o e =>
 ⟨I.base.keep b o (I.ok.bs b o e).1 (I.ok.bs b o e).2 (I.ok.SY e) (I.ok.noex b o e),I.base.free b o (I.ok.bs b o e).1 (I.ok.bs b o e).2 (I.ok.noex b o e)⟩
theorem Inv.bk (I:Inv X pins σ H s):∀b o,X.base.get? b=some o→s.heap.get? b=some o:=λb o e=>(I.bs b o e).1
theorem Inv.mod (I:Inv X pins σ H s):Mod X.K X.mg X.base:=I.ok.mod
theorem Inv.mO (I:Inv X pins σ H s):X.K.In s.heap:=I.ok.mod.kin.keeps I.bk
theorem Inv.nolimit (I:Inv X pins σ H s):s.heap.NoLimit:=I.ok.mod.nolimit.keeps I.bk
theorem Inv.fr (I:Inv X pins σ H s):∃m,Fr X.base X.env.locals s.heap m :=
 let ⟨m,hn,_⟩:=I.loc
 ⟨m,hn,I.bk,Vh I.ok.bsz I.ok.above⟩
theorem Inv.lt (I:Inv X pins σ H s):X.env.locals < s.heap.objs.size:=let ⟨_,hn,_⟩:=I.loc;hn.lt
theorem Inv.sz (I:Inv X pins σ H s):X.s₀.heap.objs.size≤s.heap.objs.size:=Vh I.ok.above (WD I.lt)
theorem Inv.S1 (I:Inv X pins σ H s) {a:Addr} (h:s.heap.objs.size≤a):a ∉ X.fs:=λhb=>by
 obtain ⟨_,o,ho,_⟩:=I.ok.mM.mem hb
 exact absurd (Vf (Heap.lt_size ho) (Vh I.sz h)) (VU _)
theorem Inv.IX (I:Inv X pins σ H s):∀x c,X.env.cells.lookup x=some c→c≠X.env.locals:=λx c e z=>by
 obtain ⟨v,o,ho,hd⟩:=I.cell x c e
 obtain ⟨m,⟨o',es,ep,ho',hd',_⟩,_⟩:=I.loc
 rw [z,ho'] at ho;cases ho;rw [hd'] at hd;cases hd
theorem Inv.mM (I:Inv X pins σ H s):s.heap.FunFrames X.base X.outer:=by
 have all:∀(l:List Env),(∀b∈kb l,b∈X.fs)→X.s₀.heap.FunFrames X.base l→s.heap.FunFrames X.base l:=by
  intro l
  induction l with
  | nil=>intro _ _;trivial
  | cons env r ih =>
   intro hs hl
   obtain ⟨hk,⟨L,o,hf,hn,ho,hd⟩,hr⟩:=hl
   have hL:L∈X.fs:=hs L (by unfold kb;rw [Wd,hf];exact VD)
   obtain ⟨sl,e⟩:=I.base.slot L o ho (I.ok.frf L hL) hL λz=>I.ok.exfs L z hL
   exact ⟨hk,⟨L,_,hf,hn,e,hd⟩,ih (λb hb=>hs b (by unfold kb;rw [Wd,hf];exact Vo _ hb)) hr⟩
 exact all X.outer (λ_ hb=>hb) I.ok.mM
theorem Inv.stack (I:Inv X pins σ H s):s.heap.FunFrames X.base X.stack:=by
 rcases I.ok.stk with e | ⟨e,hf⟩
 ·rw [e];exact I.mM
 ·rw [e]
  obtain ⟨m,hn,_⟩:=I.loc
  refine .cons (by rw [I.ok.kind];decide) hf hn ?_ I.mM
  exact Heap.get?_none_of_le (Vh I.ok.bsz I.ok.above)
theorem Inv.p8 (I:Inv X pins σ H s):∀b∈kb X.stack,b∈X.env.locals :: X.fs:=λb hb=>by
 rcases I.ok.stk with e | ⟨e,hf⟩
 ·rw [e] at hb;exact Vo _ hb
 ·rw [e] at hb
  unfold kb at hb
  rw [Wd,hf] at hb
  exact hb
theorem Inv.x_ (I:Inv X pins σ H s):∀b∈kb X.stack,H b=none:=λb hb=>by
 rcases Vb.mp (I.p8 b hb) with e | hb
 ·rw [e];exact I.free
 ·obtain ⟨_,o,ho,_⟩:=I.ok.mM.mem hb
  exact I.base.free b o ho (I.ok.frf b hb) λz=>I.ok.exfs b z hb
theorem Inv.step {g':Array GenState} {t':Nat} {d':Drawn} {ch:List Addr} (I:Inv X pins σ H s)
  (hch:∀b∈ch,(b∈X.ex∨X.s₀.heap.objs.size≤b)∧b≠X.env.locals∧(∀x c,X.env.cells.lookup x=some c→c≠b)∧∀p∈X.pn ++ pins,p.1≠b)
  (keep:∀b o,b≠X.env.locals→b ∉ X.fs→b ∉ ch→s.heap.get? b=some o→H b=none→h'.get? b=some o)
  (slot:∀b o,b≠X.env.locals→b∈X.fs→b ∉ ch→s.heap.get? b=some o→H b=none→∃sl,h'.get? b=some { o with slots:=sl }) (free:∀b o,b ∉ ch→s.heap.get? b=some o→H b=none→H' b=none)
  (there:∀b o,b ∉ ch→s.heap.get? b=some o→∃o',h'.get? b=some o')
  (tups:∀b xs,H b=some (.tup xs)→H' b=some (.tup xs)) (frzs:∀b o u,H b=some (.qO o u)→H' b=some (.qO o u)) (tbls:∀b ps,H b=some (.tbl ps)→∃more,H' b=some (.tbl (ps ++ more)))
  (ns:∀m,s.heap.Ns X.env.locals m→h'.Ns X.env.locals m) (hok:nt X.prog X.w H' h') (hg:AllBare g') :
  Inv X pins σ H' { s with heap:=h',gens:=g',drawn:=d',toks:=t' }:=by
 have neL:∀b o,X.s₀.heap.get? b=some o→b≠X.env.locals:=λb o e=>Vj (Vf (Heap.lt_size e) I.ok.above)
 have neC:∀b o,X.s₀.heap.get? b=some o→b ∉ X.ex→b ∉ ch:=λb o e hx hb=>by
  rcases (hch b hb).1 with z | z
  ·exact hx z
  ·exact absurd (Vf (Heap.lt_size e) z) (VU _)
 have cellK:∀x c,X.env.cells.lookup x=some c→∀v,s.heap.IsCell c v→h'.IsCell c v:=λx c e v ⟨o,ho,hd⟩=>by
  have nch:c ∉ ch:=λz=>(hch c z).2.2.1 x c e rfl
  by_cases hc:c∈X.fs
  ·obtain ⟨sl,q⟩:=slot c o (I.IX x c e) hc nch ho (I.freeC x c e)
   exact ⟨_,q,hd⟩
  ·exact ⟨o,keep c o (I.IX x c e) hc nch ho (I.freeC x c e),hd⟩
 refine ⟨I.ok,I.os,hg,⟨λb o e n hb hx=>?_,λb o e n hb hx=>?_,λb o e n hx=>?_,λb o e hx=>?_,λb xs e=>tups b xs (I.base.tups b xs e),λb o xs e=>frzs b o xs (I.base.frzs b o xs e),λb ps e=>?_⟩,?_,λx c e=>?_,?_,λx c e=>?_,λp hp=>?_,hok,I.len⟩
 ·exact keep b o (neL b o e) hb (neC b o e hx) (I.base.keep b o e n hb hx) (I.base.free b o e n hx)
 ·obtain ⟨sl,e1⟩:=I.base.slot b o e n hb hx
  obtain ⟨sl',e2⟩:=slot b _ (neL b o e) hb (neC b o e hx) e1 (I.base.free b o e n hx)
  exact ⟨sl',e2⟩
 ·obtain ⟨o',e1⟩:=I.base.there b o e hx
  exact free b o' (neC b o e hx) e1 (I.base.free b o e n hx)
 ·obtain ⟨o',e1⟩:=I.base.there b o e hx
  exact there b o' (neC b o e hx) e1
 ·obtain ⟨m1,e1⟩:=I.base.tbls b ps e
  obtain ⟨m2,e2⟩:=tbls b _ e1
  exact ⟨m1 ++ m2,by rw [e2,Array.append_assoc]⟩
 ·obtain ⟨m,hn,hl⟩:=I.loc
  refine ⟨m,ns m hn,λi x v e1 e2 e3=>?_⟩
  obtain ⟨u,r,l⟩:=hl i x v e1 e2 e3
  refine ⟨u,r,?_⟩
  rcases l with l | ⟨k,c,e,z⟩
  ·exact .inl l
  ·exact .inr ⟨k,c,e,cellK x c e _ z⟩
 ·obtain ⟨v,z⟩:=I.cell x c e
  exact ⟨v,cellK x c e v z⟩
 ·obtain ⟨m,⟨o,_,_,ho,_⟩,_⟩:=I.loc
  exact free _ o (λz=>(hch _ z).2.1 rfl) ho I.free
 ·obtain ⟨v,o,ho,hd⟩:=I.cell x c e
  exact free c o (λz=>(hch c z).2.2.1 x c e rfl) ho (I.freeC x c e)
 ·obtain ⟨e,n,ne,nf,d⟩:=I.pin p hp
  have nch:p.1 ∉ ch:=λz=>(hch p.1 z).2.2.2 p hp rfl
  exact ⟨keep p.1 p.2 ne nf nch e n,free p.1 p.2 nch e n,ne,nf,d⟩
theorem Inv.un {t':Nat} (I:Inv X pins σ H s) (u:Un X.fs [] H H' s.heap h') (hok:nt X.prog X.w H' h'):Inv X pins σ H' { s with heap:=h',toks:=t' }:=by
 obtain ⟨m,⟨o,es,ep,ho,r⟩,_⟩:=id I.loc
 obtain ⟨sl,hL⟩:=u.any ho I.free (by simp)
 exact I.step (g':=s.gens) (d':=s.drawn) (ch:=[]) (λ_ z=>nomatch z) (λb o _ hb _ e n=>u.keep b o e n hb (by simp)) (λb o _ hb _ e n=>u.slot b o e n hb (by simp)) (λb o _ e n=>u.free b o e n (by simp)) (λb o _ e=>u.there b o e (by simp)) u.tups u.frzs u.tbls (λm' hm=>by
  obtain ⟨o',es',ep',ho',r'⟩:=hm
  rw [ho] at ho';cases ho'
  exact ⟨_,es',ep',hL,r'⟩) hok I.bare
theorem Inv.call {g':Array GenState} {t':Nat} {d':Drawn} {ch:List Addr} (I:Inv X pins σ H s) (u:Un (kb X.stack) ch H H' s.heap h') (hok:nt X.prog X.w H' h') (hg:AllBare g')
  (hch:∀b∈ch,(b∈X.ex∨X.s₀.heap.objs.size≤b)∧b≠X.env.locals∧(∀x c,X.env.cells.lookup x=some c→c≠b)∧∀p∈X.pn ++ pins,p.1≠b) :
  Inv X pins σ H' { s with heap:=h',gens:=g',drawn:=d',toks:=t' }:=by
 obtain ⟨m,⟨o,es,ep,ho,r⟩,_⟩:=id I.loc
 obtain ⟨sl,hL⟩:=u.any ho I.free λz=>(hch _ z).2.1 rfl
 exact I.step (ch:=ch) hch (λb o hL hb hc e n=>u.keep b o e n (λz=>(Vb.mp (I.p8 b z)).elim hL hb) hc) (λb o _ _ hc e n=>u.any e n hc) (λb o hc e n=>u.free b o e n hc) (λb o hc e=>u.there b o e hc) u.tups u.frzs u.tbls (λm' hm=>by
  obtain ⟨o',es',ep',ho',r'⟩:=hm
  rw [ho] at ho';cases ho'
  exact ⟨_,es',ep',hL,r'⟩) hok hg
theorem Inv.turned {t':Nat} {it:Addr} (I:Inv X pins σ H s) (k:∀b o,b≠it→s.heap.get? b=some o→h'.get? b=some o) (hn:H it=none) (hL:it≠X.env.locals)
  (h1:it∈X.ex∨X.s₀.heap.objs.size≤it) (h2:∀x c,X.env.cells.lookup x=some c→c≠it) (h3:∀p∈X.pn ++ pins,p.1≠it):Inv X pins σ H { s with heap:=h',toks:=t' }:=by
 have nit:∀b u,H b=some u→b≠it:=λb u e z=>by rw [z,hn] at e;cases e
 refine I.step (g':=s.gens) (d':=s.drawn) (ch:=[it]) (λb hb=>?_) (λb o _ _ hc e _=>k b o (λz=>hc (by simp [z])) e) (λb o _ _ hc e _=>⟨o.slots,k b o (λz=>hc (by simp [z])) e⟩) (λ_ _ _ _ n=>n)
  (λb o hc e=>⟨o,k b o (λz=>hc (by simp [z])) e⟩) (λ_ _ e=>e) (λ_ _ _ e=>e) (λb ps e=>⟨#[],by rw [e];simp⟩) (λm hm=>?_) (λb u e=>?_) I.bare
 ·have e:b=it:=by simpa using hb
  subst e
  exact ⟨h1,hL,h2,h3⟩
 ·obtain ⟨o,es,ep,ho,r⟩:=hm
  exact ⟨o,es,ep,k _ o (Ne.symm hL) ho,r⟩
 ·refine (I.hok b u e).p7 (λc v hc q=>k c v ?_ q) (λ_ q=>q) λ_ _ q=>q
  rcases hc with z | z
  ·rw [z];exact nit b u e
  ·exact nit c _ z
theorem Inv.tok (I:Inv X pins σ H s) (t:Nat):Inv X pins σ H { s with toks:=t }:=I.un (h':=s.heap) (t':=t) Un.refl I.hok
theorem Inv.kept {t':Nat} (I:Inv X pins σ H s) (k:∀b u,s.heap.get? b=some u→h'.get? b=some u):Inv X pins σ H { s with heap:=h',toks:=t' }:=I.un (Un.kept k) (I.hok.kept k)
theorem Inv.laid {a:Addr} {o:HO} {t':Nat} (I:Inv X pins σ H s) (k:∀b u,s.heap.get? b=some u→h'.get? b=some u) (hp:s.heap.objs.size≤a) (new:dP X.prog X.w (upd H a o) h' a o) :
  Inv X pins σ (upd H a o) { s with heap:=h',toks:=t' }:=I.un (Un.laid k hp (I.hok.fresh hp)) (I.hok.laid k hp new)
theorem Inv.write {x e:Addr} {o:HO} {t':Nat} (I:Inv X pins σ H s) (mu:RC (H x)) (he:e=x∨H e=some (.own x)) (k:∀b u,b≠e→s.heap.get? b=some u→h'.get? b=some u) (heo:∃u,h'.get? e=some u)
  (new:dP X.prog X.w (upd H x o) h' x o):Inv X pins σ (upd H x o) { s with heap:=h',toks:=t' }:=I.un (Un.write mu he k heo) (I.hok.write mu he k heo new)
theorem Inv.weak {σ':List (Option V)} (I:Inv X pins σ H s) (hl:σ'.length=σ.length) (w:∀(i:Nat) v,σ'[i]?=some (some v)→σ[i]?=some (some v)):Inv X pins σ' H s :=
 ⟨I.ok,I.os,I.bare,I.base,let ⟨m,hn,hl'⟩:=I.loc;⟨m,hn,λi x v e1 e2 e3=>hl' i x v e1 (w i v e2) e3⟩,I.cell,I.free,I.freeC,I.pin,I.hok,hl.trans I.len⟩
theorem Inv.CD {pins':List (Addr × Obj)} (I:Inv X pins σ H s) (h:∀p∈pins',s.heap.get? p.1=some p.2∧H p.1=none∧p.1≠X.env.locals∧p.1 ∉ X.fs∧∀v,p.2.data≠.cell v):Inv X pins' σ H s :=
 ⟨I.ok,I.os,I.bare,I.base,I.loc,I.cell,I.free,I.freeC,λp hp=>(U9.mp hp).elim (λz=>I.pin p (V' _ z)) (h p),I.hok,I.len⟩
theorem sF {N:List Str} (hN:N.Nodup) {i j:Nat} {x:Str} (a:N[i]?=some x) (b:N[j]?=some x):i=j:=by
 obtain ⟨h1,e1⟩:=U1.mp a
 obtain ⟨h2,e2⟩:=U1.mp b
 exact (VT hN).mp (e1.trans e2.symm)
theorem vU {M:Model} {A:Around} {E:Value→Shared→Prop} {i:Nat} {x:Str} {v:V} {u:Value} {Q:Unit→Shared→Prop} (I:Inv X pins σ H s) (hN:X.N.Nodup) (hi:X.N[i]?=some x) (hx:Loc X.env.scope x) (r:RelV v u)
  (h:∀s',Inv X pins (σ.set i (some v)) H s'→(∃a,Heap.SameBut a s.heap s'.heap∧(a=X.env.locals∨X.env.cells.lookup x=some a))→Q () s') (hf:X.fn x=true∨X.env.scope.names.lookup x=some .local:=by first | exact .inl rfl | exact .inr rfl | assumption):wpAny M A (storeName X.env x u) Q E s:=by
 obtain ⟨m,hn,hl⟩:=id I.loc
 have hcls:(X.env.scope.kind == .class || (X.env.scope.kind == .module && X.env.locals != X.env.globals))=false:=by rw [I.ok.kind];rfl
 have hiσ:i < σ.length:=by rw [I.len];exact (U1.mp hi).1
 have IX:=I.IX
 have tracked:∀{a:Addr} {h':Heap},(∃o,s.heap.get? a=some o∧H a=none)→Heap.SameBut a s.heap h'→nt X.prog X.w H h':=λ{a h'} ha hs b ob e=>by
  obtain ⟨_,_,hfree⟩:=ha
  refine (I.hok b ob e).p7 (λc w' hc q=>(hs.2 c ?_).trans q) (λ_ q=>q) λ_ _ q=>q
  rintro rfl
  rcases hc with rfl | hc
  ·rw [hfree] at e;cases e
  ·rw [hfree] at hc;cases hc
 rcases hx with hk | hk
 ·refine wpAny_storeName_local hk hn (λh' hn' hs=>?_) hcls
  obtain ⟨oL,_,_,hoL,_⟩:=id hn
  refine h _ ⟨I.ok,I.os,I.bare,⟨λb o e n hb hx=>?_,λb o e n hb hx=>?_,I.base.free,λb o e hx=>?_,I.base.tups,I.base.frzs,I.base.tbls⟩,⟨_,hn',λj y v' e1 e2 e3=>?_⟩,λy c e=>?_,I.free,I.freeC,λp hp=>?_,tracked ⟨oL,hoL,I.free⟩ hs,by simpa using I.len⟩ ⟨_,hs,.inl rfl⟩
  ·exact (hs.2 b (Vj (Vf (Heap.lt_size e) I.ok.above))).trans (I.base.keep b o e n hb hx)
  ·obtain ⟨sl,e1⟩:=I.base.slot b o e n hb hx
   exact ⟨sl,(hs.2 b (Vj (Vf (Heap.lt_size e) I.ok.above))).trans e1⟩
  ·obtain ⟨o',e1⟩:=I.base.there b o e hx
   exact ⟨o',(hs.2 b (Vj (Vf (Heap.lt_size e) I.ok.above))).trans e1⟩
  ·by_cases hj:j=i
   ·subst hj
    rw [hi] at e1;cases e1
    rw [Vn hiσ] at e2
    cases e2
    exact ⟨u,r,.inl ⟨hk,by simp⟩⟩
   ·rw [VC (Ne.symm hj)] at e2
    obtain ⟨u',r',q⟩:=hl j y v' e1 e2 e3
    refine ⟨u',r',?_⟩
    rcases q with ⟨k,e⟩ | ⟨k,c,e,z⟩
    ·refine .inl ⟨k,?_⟩
     have:y≠x:=λe=>hj (sF hN e1 (e ▸ hi))
     simp [this,e]
    ·exact .inr ⟨k,c,e,z.sameBut hs (IX y c e)⟩
  ·obtain ⟨w',z⟩:=I.cell y c e
   exact ⟨w',z.sameBut hs (IX y c e)⟩
  ·obtain ⟨e,n,ne,nf,d⟩:=I.pin p hp
   exact ⟨(hs.2 p.1 ne).trans e,n,ne,nf,d⟩
 ·have hfn:X.fn x=true:=by
   rcases hf with z | z
   ·exact z
   ·rw [z] at hk;cases hk
  obtain ⟨c,hc⟩:=I.ok.has x (.inl hk)
  obtain ⟨w',z⟩:=I.cell x c hc
  refine wpAny_storeName_cell I.ok.kind hk hc z (λh' hc' hs=>?_)
  obtain ⟨oc,hoc,hocd⟩:=id z
  refine h { s with heap:=h' } ⟨I.ok,I.os,I.bare,⟨λb o e n hb hx=>?_,λb o e n hb hx=>?_,I.base.free,λb o e hx=>?_,I.base.tups,I.base.frzs,I.base.tbls⟩,⟨m,hn.sameBut hs (Ne.symm (IX x c hc)),λj y v' e1 e2 e3=>?_⟩,λy c' e=>?_,I.free,I.freeC,λp hp=>?_,tracked ⟨oc,hoc,I.freeC x c hc⟩ hs,by simpa using I.len⟩ ⟨c,hs,.inr hc⟩
  ·exact (hs.2 b (Vj (Vf (Heap.lt_size e) (I.ok.cab x c hfn hc)))).trans (I.base.keep b o e n hb hx)
  ·obtain ⟨sl,e1⟩:=I.base.slot b o e n hb hx
   exact ⟨sl,(hs.2 b (Vj (Vf (Heap.lt_size e) (I.ok.cab x c hfn hc)))).trans e1⟩
  ·obtain ⟨o',e1⟩:=I.base.there b o e hx
   exact ⟨o',(hs.2 b (Vj (Vf (Heap.lt_size e) (I.ok.cab x c hfn hc)))).trans e1⟩
  ·by_cases hj:j=i
   ·subst hj
    rw [hi] at e1;cases e1
    rw [Vn hiσ] at e2
    cases e2
    exact ⟨u,r,.inr ⟨.inl hk,c,hc,hc'⟩⟩
   ·rw [VC (Ne.symm hj)] at e2
    obtain ⟨u',r',q⟩:=hl j y v' e1 e2 e3
    refine ⟨u',r',?_⟩
    rcases q with q | ⟨k,c',e,z'⟩
    ·exact .inl q
    ·refine .inr ⟨k,c',e,z'.sameBut hs ?_⟩
     rintro rfl
     exact hj (sF hN e1 (I.ok.inj _ _ _ e hc ▸ hi))
  ·by_cases hcc:c'=c
   ·subst hcc;exact ⟨_,hc'⟩
   ·obtain ⟨w2,z2⟩:=I.cell y c' e
    exact ⟨w2,z2.sameBut hs hcc⟩
  ·obtain ⟨e,n,ne,nf,d⟩:=I.pin p hp
   refine ⟨(hs.2 p.1 ?_).trans e,n,ne,nf,d⟩
   intro q
   rw [q,hoc] at e
   have q':oc=p.2:=Option.some.inj e
   exact d w' (by rw [← q'];exact hocd)
theorem fM {M:Model} {A:Around} {E:Value→Shared→Prop} {i:Nat} {x:Str} {v:V} {u:Value} {Q:Unit→Shared→Prop} (I:Inv X pins σ H s) (hN:X.N.Nodup) (hi:X.N[i]?=some x) (hx:Loc X.env.scope x) (r:RelV v u)
  (h:∀s',Inv X pins (σ.set i (some v)) H s'→Q () s') (hf:X.fn x=true∨X.env.scope.names.lookup x=some .local:=by first | exact .inl rfl | exact .inr rfl | assumption):wpAny M A (storeName X.env x u) Q E s :=
 vU I hN hi hx r (λs' I' _=>h s' I') hf
theorem Inv.Fu {s':Shared} {ch:List Addr} (I:Inv X pins σ H s) (ho:s'.os=s.os) (u:Un (kb X.stack) ch H H' s.heap s'.heap) (hok:nt X.prog X.w H' s'.heap) (hg:AllBare s'.gens)
  (hch:∀b∈ch,(b∈X.ex∨X.s₀.heap.objs.size≤b)∧b≠X.env.locals∧(∀x c,X.env.cells.lookup x=some c→c≠b)∧∀p∈X.pn ++ pins,p.1≠b):Inv X pins σ H' s':=by
 obtain ⟨h',g',d',t',o'⟩:=s'
 have e:o'=s.os:=ho
 subst e
 exact I.call (g':=g') (t':=t') (d':=d') u hok hg hch
end
abbrev XK:=Value→Option Addr→Hp→Prop
abbrev St:=List (Option V)
abbrev VK:=V→Hp→Prop
abbrev TE:=St→Hp→VK→Prop
abbrev TT:=St→Hp→(Bool→Hp→Prop)→Prop
abbrev TA:=St→Hp→(List V→Hp→Prop)→Prop
structure Ends where
 nx:St→Hp→Prop
 rt:VK
 bk:St→Hp→Prop:=λ_ _=>False
 ct:St→Hp→Prop:=λ_ _=>False
abbrev TS:=Ends→St→Hp→Prop
def EP (X:Cx) (pins:List (Addr × Obj)) (σ:St) (Q:VK) (u:Value) (s':Shared):Prop:=∃v H',Inv X pins σ H' s'∧RelV v u∧Q v H'
def TP (X:Cx) (pins:List (Addr × Obj)) (σ:St) (Q:Bool→Hp→Prop) (b:Bool) (s':Shared):Prop:=∃H',Inv X pins σ H' s'∧Q b H'
def AP (X:Cx) (pins:List (Addr × Obj)) (σ:St) (Q:List V→Hp→Prop) (us:List Value) (s':Shared):Prop:=∃vs H',Inv X pins σ H' s'∧Vals vs us∧Q vs H'
def SP (X:Cx) (pins:List (Addr × Obj)) (D:Ends) (f:Flow) (s':Shared):Prop :=
 match f with
 | .next=>∃σ' H',Inv X pins σ' H' s'∧D.nx σ' H'
 | .brk=>∃σ' H',Inv X pins σ' H' s'∧D.bk σ' H'
 | .cont=>∃σ' H',Inv X pins σ' H' s'∧D.ct σ' H'
 | .ret u=>∃v σ' H',Inv X pins σ' H' s'∧RelV v u∧D.rt v H'
def PE (X:Cx) (e:Expr) (t:TE):Prop :=
 ∀(pins:List (Addr × Obj)) (s:Shared) (σ:St) (H:Hp) (Q:VK),Inv X pins σ H s→t σ H Q→wpAny (model X.prog X.w) X.A (eval e X.env) (EP X pins σ Q) X.xe s
def PT (X:Cx) (e:Expr) (t:TT):Prop :=
 ∀(pins:List (Addr × Obj)) (s:Shared) (σ:St) (H:Hp) (Q:Bool→Hp→Prop),Inv X pins σ H s→t σ H Q→wpAny (model X.prog X.w) X.A (isTrue e X.env (eval e X.env)) (TP X pins σ Q) X.xe s
def PW (X:Cx) (e:Expr) (t:TT):Prop :=
 ∀(whole:Sem Value) (pins:List (Addr × Obj)) (s:Shared) (σ:St) (H:Hp) (Q:Bool→Hp→Prop),Inv X pins σ H s→t σ H Q→wpAny (model X.prog X.w) X.A (isTrue e X.env whole) (TP X pins σ Q) X.xe s
theorem PW.pt {X:Cx} {e:Expr} {t:TT} (h:PW X e t):PT X e t:=h _
def PA (X:Cx) (es:List Expr) (t:TA):Prop :=
 ∀(pos:Pos) (pins:List (Addr × Obj)) (s:Shared) (σ:St) (H:Hp) (Q:List V→Hp→Prop),Inv X pins σ H s→t σ H Q→wpAny (model X.prog X.w) X.A (spliced (backTo pos (starEach es X.env))) (AP X pins σ Q) X.xe s
def PS (X:Cx) (st:Stmt) (t:TS):Prop :=
 ∀(pins:List (Addr × Obj)) (s:Shared) (σ:St) (H:Hp) (D:Ends),Inv X pins σ H s→t D σ H→wpAny (model X.prog X.w) X.A (exec st X.env) (SP X pins D) X.xe s
def t_ (X:Cx) (st:List Stmt) (t:TS):Prop :=
 ∀(pins:List (Addr × Obj)) (s:Shared) (σ:St) (H:Hp) (D:Ends),Inv X pins σ H s→t D σ H→wpAny (model X.prog X.w) X.A (execs st X.env) (SP X pins D) X.xe s
theorem cG {α:Type} {t:Sem α} {Q Q':α→Shared→Prop} {M:Model} {A:Around} {E:Value→Shared→Prop} {s:Shared} (h:wpAny M A t Q E s) (hQ:∀a s,Q a s→Q' a s):wpAny M A t Q' E s:=wpAny_mono h hQ λ_ _ x=>x
end L2
namespace L2
open PySem PySem.Spec PyProof.Rows
section
variable {X:Cx}
def BU (i:Nat):TE:=λσ H Q=>∃v,σ[i]?=some (some v)∧Q v H
def tC (v:V):TE:=λ_ H Q=>Q v H
theorem Bp {i:Nat} {x:Str} {pos:Pos} (hN:X.N[i]?=some x) (hv:yv X.env.scope x) (hd:(x == ("__debug__":Str))=false:=by decide) (hcd:(x == ("__classdict__":Str))=false:=by decide):PE X (.Name x pos) (BU i):=by
 intro pins s σ H Q I h
 obtain ⟨v,e,h⟩:=h
 obtain ⟨m,hn,hl⟩:=I.loc
 obtain ⟨u,r,l⟩:=hl i x v hN e hv
 have fin:EP X pins σ Q u s:=⟨v,H,I,r,h⟩
 rcases l with ⟨hk,hm⟩ | ⟨hk,c,hc,hcell⟩
 ·exact wpAny_Name (wpAny_loadName_local I.ok.kind hk hn hm fin) hd
 ·rcases hk with hk | hk
  ·exact wpAny_Name (wpAny_loadName_cell I.ok.kind hk hc hcell fin) hd
  ·exact wpAny_Name (wpAny_loadName_free I.ok.kind hk hc hcell fin hcd) hd
theorem aT {i j pos}:PE X (.Constant (.int i) j pos) (tC (.int i)):=λ_ _ _ H _ I h=>wpAny_Constant_int ⟨.int i,H,I.tok _,⟨_,rfl⟩,h⟩
theorem zk {b j pos}:PE X (.Constant (.bool b) j pos) (tC (.bl b)):=λ_ _ _ H _ I h=>Constant_bool ⟨.bl b,H,I,rfl,h⟩
theorem Bl {j pos}:PE X (.Constant .none j pos) (tC .non):=λ_ _ _ H _ I h=>Constant_none ⟨.non,H,I,rfl,h⟩
theorem pI {x j pos}:PE X (.Constant (.str x) j pos) (tC (.str x)):=λ_ _ _ H _ I h=>Calls.Constant_str ⟨.str x,H,I.tok _,⟨_,rfl⟩,h⟩
def Gl (X:Cx) (x:Str):Prop:=X.env.kindOf x=some .globalImplicit
theorem lQ {E:Value→Shared→Prop} {pins:List (Addr × Obj)} {s:Shared} {σ:St} {H:Hp} {x:Str} {u:Value} {pos:Pos} {Q:Value→Shared→Prop} (I:Inv X pins σ H s) (hg:Gl X x) (hm:X.mg x=some u) (h:Q u s)
  (hd:(x == ("__debug__":Str))=false:=by decide):wpAny (model X.prog X.w) X.A (eval (.Name x pos) X.env) Q E s :=
 Calls.Name_function_global I.ok.kind hg (Calls.loadGlobal_global (by rw [I.ok.glob];exact I.mod.glob.keeps I.bk) hm h) hd
theorem mP {E:Value→Shared→Prop} {pins:List (Addr × Obj)} {s:Shared} {σ:St} {H:Hp} {x:Str} {u:Value} {pos:Pos} {Q:Value→Shared→Prop} (I:Inv X pins σ H s) (hg:Gl X x) (hm:X.mg x=none) (hv:bootBuiltins x=some u) (h:Q u s)
  (hn:x≠"__name__":=by decide) (hd:(x == ("__debug__":Str))=false:=by decide):wpAny (model X.prog X.w) X.A (eval (.Name x pos) X.env) Q E s:=by
 obtain ⟨mb,h1,h2⟩:=I.mod.blt
 exact Calls.Name_function_global I.ok.kind hg (Calls.loadGlobal_builtin (by rw [I.ok.glob];exact I.mod.glob.keeps I.bk) hm (by rw [I.ok.blt];exact h1.keeps I.bk) ((h2 x hn).trans hv) h) hd
theorem dH {x:Str} {v:V} {u:Value} {pos:Pos} (hg:Gl X x) (hm:X.mg x=some u) (r:RelV v u) (hd:(x == ("__debug__":Str))=false:=by decide):PE X (.Name x pos) (tC v) :=
 λ_ _ _ H _ I h=>lQ I hg hm ⟨v,H,I,r,h⟩ hd
theorem qW {x:Str} {v:V} {u:Value} {pos:Pos} (hg:Gl X x) (hm:X.mg x=none) (hv:bootBuiltins x=some u) (r:RelV v u) (hn:x≠"__name__":=by decide) (hd:(x == ("__debug__":Str))=false:=by decide):PE X (.Name x pos) (tC v) :=
 λ_ _ _ H _ I h=>mP I hg hm hv ⟨v,H,I,r,h⟩ hn hd
variable {a b:Expr} {ta tb:TE} {pos:Pos}
def tB (t:TE):TT:=λσ H Q=>t σ H λx H1=>∃c,x=.bl c∧Q c H1
theorem Bu {e:Expr} {t:TE} (h:PE X e t) (he:∀whole,isTrue e X.env whole=(do let v ← whole;standAt e.pos;holding [v] (truthy v)):=by intro _;rfl):PT X e (tB t):=by
 intro pins s σ H Q I hw
 refine isTrue_plain (cG (h pins s σ H _ I hw) λv s1 ⟨x,H1,I1,r1,q1⟩=>?_) (he _)
 obtain ⟨d,rfl,q⟩:=q1
 cases r1
 exact wpAny_truthy_bool ⟨H1,I1,q⟩
variable {tA tB':TT} {rest:List Expr}
def HM (t u:TT):TT:=λσ H Q=>t σ H λc H1=>if c=true then u σ H1 Q else Q false H1
def Ri (t u:TT):TT:=λσ H Q=>t σ H λc H1=>if c=true then Q true H1 else u σ H1 Q
def KU (t:TT):TT:=λσ H Q=>t σ H λc H1=>Q (!c) H1
theorem q9 (ha:PT X a tA):PW X (.BoolOp .And [a] pos) tA:=by
 intro wh pins s σ H Q I h
 refine isTrue_and (cG (ha pins s σ H Q I h) λc s1 e=>?_)
 cases c with
 | true=>exact isTrue_and_nil e
 | false=>exact e
theorem xw (ha:PT X a tA):PW X (.BoolOp .Or [a] pos) tA:=by
 intro wh pins s σ H Q I h
 refine isTrue_or (cG (ha pins s σ H Q I h) λc s1 e=>?_)
 cases c with
 | false=>exact isTrue_or_nil e
 | true=>exact e
theorem xu (ha:PT X a tA) (hb:PW X (.BoolOp .And (b :: rest) pos) tB'):PW X (.BoolOp .And (a :: b :: rest) pos) (HM tA tB'):=by
 intro wh pins s σ H Q I h
 refine isTrue_and (cG (ha pins s σ H _ I h) λc s1 ⟨H1,I1,q1⟩=>?_)
 cases c with
 | true=>exact hb wh pins s1 σ H1 Q I1 q1
 | false=>exact ⟨H1,I1,q1⟩
theorem CH (ha:PT X a tA) (hb:PW X (.BoolOp .Or (b :: rest) pos) tB'):PW X (.BoolOp .Or (a :: b :: rest) pos) (Ri tA tB'):=by
 intro wh pins s σ H Q I h
 refine isTrue_or (cG (ha pins s σ H _ I h) λc s1 ⟨H1,I1,q1⟩=>?_)
 cases c with
 | true=>exact ⟨H1,I1,q1⟩
 | false=>exact hb wh pins s1 σ H1 Q I1 q1
theorem Bt (ha:PT X a tA):PT X (.UnaryOp .Not a pos) (KU tA):=by
 intro pins s σ H Q I h
 exact isTrue_not (ha pins s σ H (λc H1=>Q (!c) H1) I h)
def Dh (ta tb:TE):TE:=λσ H Q=>ta σ H λx H1=>∃c,x=.bl c∧if c=true then tb σ H1 Q else Q (.bl false) H1
def KW (ta tb:TE):TE:=λσ H Q=>ta σ H λx H1=>∃c,x=.bl c∧if c=true then Q (.bl true) H1 else tb σ H1 Q
def Dk (ta:TE):TE:=λσ H Q=>ta σ H λx H1=>∃c,x=.bl c∧Q (.bl (!c)) H1
theorem Bo {op} {t:TE} (h:PE X a t):PE X (.BoolOp op [a] pos) t:=λpins s σ H Q I hw=>BoolOp_one (h pins s σ H Q I hw)
theorem Bk (ha:PE X a ta) (hb:PE X (.BoolOp .And (b :: rest) pos) tb):PE X (.BoolOp .And (a :: b :: rest) pos) (Dh ta tb):=by
 intro pins s σ H Q I h
 refine BoolOp_and (cG (ha pins s σ H _ I h) λv s1 ⟨x,H1,I1,r1,q1⟩=>?_)
 obtain ⟨c,rfl,q1⟩:=q1
 cases r1
 refine wpAny_truthy_bool ?_
 cases c with
 | true=>exact hb pins s1 σ H1 Q I1 q1
 | false=>exact ⟨.bl false,H1,I1,rfl,q1⟩
theorem GY (ha:PE X a ta) (hb:PE X (.BoolOp .Or (b :: rest) pos) tb):PE X (.BoolOp .Or (a :: b :: rest) pos) (KW ta tb):=by
 intro pins s σ H Q I h
 refine BoolOp_or (cG (ha pins s σ H _ I h) λv s1 ⟨x,H1,I1,r1,q1⟩=>?_)
 obtain ⟨c,rfl,q1⟩:=q1
 cases r1
 refine wpAny_truthy_bool ?_
 cases c with
 | false=>exact hb pins s1 σ H1 Q I1 q1
 | true=>exact ⟨.bl true,H1,I1,rfl,q1⟩
theorem Bn (ha:PE X a ta):PE X (.UnaryOp .Not a pos) (Dk ta):=by
 intro pins s σ H Q I h
 refine UnaryOp_ (cG (ha pins s σ H _ I h) λv s1 ⟨x,H1,I1,r1,q1⟩=>?_)
 obtain ⟨c,rfl,q1⟩:=q1
 cases r1
 exact not_of (wpAny_truthy_bool ⟨.bl (!c),H1,I1,rfl,q1⟩)
def RX (t:TT) (ta tb:TE):TE:=λσ H Q=>t σ H λc H1=>if c=true then ta σ H1 Q else tb σ H1 Q
theorem sT {c:Expr} (hc:PT X c tA) (ha:PE X a ta) (hb:PE X b tb):PE X (.IfExp c a b pos) (RX tA ta tb):=by
 intro pins s σ H Q I h
 refine wpAny_IfExp (cG (hc pins s σ H _ I h) λd s1 ⟨H1,I1,q1⟩=>?_)
 cases d with
 | true=>exact ha pins s1 σ H1 Q I1 q1
 | false=>exact hb pins s1 σ H1 Q I1 q1
end
end L2
namespace L2
open PySem PySem.Spec PyProof.Rows
def dq (K:PySem.W.Frag) (H:Hp) (a:Addr) (xs:List V):Prop :=
 Rd H a (.lst xs) ∨
  ∃(o:Obj) (its:Array Value) (n:Nat),K.lookup a=some o∧o.cls=.type "list"∧o.dict=none∧o.data=.seq its n∧its.size≤sizeLine∧Vals xs its.toList
def g8 (K:PySem.W.Frag) (H:Hp) (a:Addr) (xs:List V):Prop :=
 Rd H a (.tup xs) ∨
  ∃(o:Obj) (its:Array Value) (n:Nat),K.lookup a=some o∧o.cls=.type "tuple"∧o.data=.seq its n∧its.size≤sizeLine∧Vals xs its.toList
def Sb:Value→Option V
 | .none=>some .non
 | .bool b=>some (.bl b)
 | .int i _=>some (.int i)
 | .str x _=>some (.str x)
 | .bytes b _=>some (.byt b)
 | .float b _=>some (.flt b)
 | .ref a=>some (.ref a)
 | .type n=>some (.ty n)
 | _=>none
theorem RelV.abs {x:V} {u:Value} (r:RelV x u):Sb u=some x:=by
 cases x with
 | non=>cases r;rfl
 | bl _=>cases r;rfl
 | int _=>obtain ⟨t,rfl⟩:=r;rfl
 | str _=>obtain ⟨t,rfl⟩:=r;rfl
 | byt _=>obtain ⟨t,rfl⟩:=r;rfl
 | flt _=>obtain ⟨t,rfl⟩:=r;rfl
 | ref _=>cases r;rfl
 | ty _=>cases r;rfl
theorem RelV.inj {x y:V} {u:Value} (r:RelV x u) (q:RelV y u):x=y:=Option.some.inj (r.abs.symm.trans q.abs)
theorem Vals.inj:∀{xs ys:List V} {us:List Value},Vals xs us→Vals ys us→xs=ys
 | _,_,_,.nil,.nil=>rfl
 | _,_,_,.cons r t,.cons r' t'=>by rw [r.inj r',Vals.inj t t']
section
variable {X:Cx} {pins:List (Addr × Obj)} {σ:St} {H:Hp} {s:Shared} {a:Addr} {xs ys:List V}
theorem dq.of {K:PySem.W.Frag} (h:H a=some (.lst xs)):dq K H a xs:=.inl (.inl h)
theorem g8.of {K:PySem.W.Frag} (h:H a=some (.tup xs)):g8 K H a xs:=.inl (.inl h)
theorem Inv.list (I:Inv X pins σ H s) (h:dq X.K H a xs):∃its:List Value,Vals xs its∧PlainL s.heap a its.toArray∧xs.length≤sizeLine:=by
 rcases h with h | ⟨o,its,n,hk,hc,hd,hs,hz,r⟩
 ·obtain ⟨z,its,n,r,e⟩:=h.ok I.hok
  exact ⟨its,r,⟨_,n,e,rfl,rfl,rfl⟩,z⟩
 ·refine ⟨its.toList,r,⟨o,n,I.mO a o hk,hc,hd,by simpa using hs⟩,?_⟩
  have e:=r.length
  simp only [Array.length_toList] at e
  omega
theorem Inv.tuple (I:Inv X pins σ H s) (h:g8 X.K H a xs):∃its:List Value,Vals xs its∧IsTup s.heap a its.toArray∧xs.length≤sizeLine:=by
 rcases h with h | ⟨o,its,n,hk,hc,hs,hz,r⟩
 ·obtain ⟨z,its,r,p⟩:=h.ok I.hok
  exact ⟨its,r,p,z⟩
 ·refine ⟨its.toList,r,⟨o,I.mO a o hk,hc,n,by simpa using hs⟩,?_⟩
  have e:=r.length
  simp only [Array.length_toList] at e
  omega
theorem Inv.kE (I:Inv X pins σ H s) (h:dq X.K H a xs) (h':dq X.K H a ys):xs=ys:=by
 obtain ⟨its,r,⟨o,n,e,_,_,d⟩,_⟩:=I.list h
 obtain ⟨its',r',⟨o',n',e',_,_,d'⟩,_⟩:=I.list h'
 rw [e] at e';cases e'
 rw [d] at d'
 injection d' with d1 _
 have:its=its':=by simpa using congrArg Array.toList d1
 subst this
 exact r.inj r'
theorem Inv.EJ (I:Inv X pins σ H s) (h:g8 X.K H a xs) (h':g8 X.K H a ys):xs=ys:=by
 obtain ⟨its,r,⟨o,e,_,n,d⟩,_⟩:=I.tuple h
 obtain ⟨its',r',⟨o',e',_,n',d'⟩,_⟩:=I.tuple h'
 rw [e] at e';cases e'
 rw [d] at d'
 injection d' with d1 _
 have:its=its':=by simpa using congrArg Array.toList d1
 subst this
 exact r.inj r'
end
abbrev Cx.t6 (X:Cx) (E:Value→Shared→Prop):Cx:={ X with xe:=E }
abbrev Cx.Nx (X:Cx):Cx:=X.t6 λ_ _=>False
theorem Cx.Ok.t6 {X:Cx} (ok:X.Ok) (E:Value→Shared→Prop):(X.t6 E).Ok :=
 ⟨ok.mod,ok.kind,ok.glob,ok.blt,ok.above,ok.inj,ok.has,ok.cab,ok.hd,ok.frames,ok.stk,ok.exf,ok.bs,ok.bsz,ok.noex,ok.exfs,ok.mM,ok.frf⟩
theorem Cx.Ok.lG {X:Cx} {E:Value→Shared→Prop} (ok:(X.t6 E).Ok):X.Ok :=
 ⟨ok.mod,ok.kind,ok.glob,ok.blt,ok.above,ok.inj,ok.has,ok.cab,ok.hd,ok.frames,ok.stk,ok.exf,ok.bs,ok.bsz,ok.noex,ok.exfs,ok.mM,ok.frf⟩
section
variable {X:Cx} {pins:List (Addr × Obj)} {σ:St} {H:Hp} {s:Shared} {E:Value→Shared→Prop}
theorem Inv.t6 (I:Inv X pins σ H s) (E:Value→Shared→Prop):Inv (X.t6 E) pins σ H s:=⟨I.ok.t6 E,I.os,I.bare,I.base,I.loc,I.cell,I.free,I.freeC,I.pin,I.hok,I.len⟩
theorem Inv.lG (I:Inv (X.t6 E) pins σ H s):Inv X pins σ H s:=⟨I.ok.lG,I.os,I.bare,I.base,I.loc,I.cell,I.free,I.freeC,I.pin,I.hok,I.len⟩
theorem SP.lG {D:Ends} {f:Flow} {s':Shared} (h:SP (X.t6 E) pins D f s'):SP X pins D f s':=by
 cases f with
 | next=>obtain ⟨σ',H',I,q⟩:=h;exact ⟨σ',H',I.lG,q⟩
 | brk=>obtain ⟨σ',H',I,q⟩:=h;exact ⟨σ',H',I.lG,q⟩
 | cont=>obtain ⟨σ',H',I,q⟩:=h;exact ⟨σ',H',I.lG,q⟩
 | ret u=>obtain ⟨v,σ',H',I,r,q⟩:=h;exact ⟨v,σ',H',I.lG,r,q⟩
theorem t_.Nx {st:List Stmt} {t:TS} (h:t_ X.Nx st t):t_ X st t:=λpins s σ H D I hw =>
 wpAny_mono (h pins s σ H D (I.t6 _) hw) (λ_ _ q=>q.lG) λ_ _ z=>False.elim z
end
section
variable {X:Cx} {st:Stmt} {rest:List Stmt} {t u:TS} {e:Expr} {te:TE} {pos:Pos}
def Dj:TS:=λD σ H=>D.nx σ H
def K0 (t u:TS):TS:=λD σ H=>t { D with nx:=u D } σ H
theorem f':t_ X [] Dj:=λ_ _ σ H _ I h=>wpAny_execs_nil ⟨σ,H,I,h⟩
theorem ba (h1:PS X st t) (h2:t_ X rest u):t_ X (st :: rest) (K0 t u):=by
 intro pins s σ H D I h
 refine wpAny_execs_cons (cG (h1 pins s σ H { D with nx:=u D } I h) λf s1 q=>?_)
 cases f with
 | next =>
  obtain ⟨σ',H',I',q⟩:=q
  exact h2 pins s1 σ' H' D I' q
 | ret v=>exact q
 | brk=>exact q
 | cont=>exact q
theorem bS (h1:PS X st t):t_ X [st] t:=by
 intro pins s σ H D I h
 refine wpAny_execs_cons (cG (h1 pins s σ H D I h) λf s1 q=>?_)
 cases f with
 | next=>exact wpAny_execs_nil q
 | ret v=>exact q
 | brk=>exact q
 | cont=>exact q
def Oj:TS:=λD σ H=>D.bk σ H
def HP:TS:=λD σ H=>D.ct σ H
theorem kS:PS X (.Continue pos) HP:=λ_ _ σ H _ I h=>wpAny_Continue ⟨σ,H,I,h⟩
theorem Inv.quiet {pins:List (Addr × Obj)} {σ:St} {H:Hp} {s:Shared} (I:Inv X pins σ H s):interactive X.env=false:=by simp [interactive,I.ok.kind]
def Di (te:TE):TS:=λD σ H=>te σ H λ_ H1=>D.nx σ H1
theorem lU (he:PE X e te) (hs:swapsWith e none pos.line X.env=pure false:=by rfl):PS X (.Expr e pos) (Di te):=by
 intro pins s σ H D I h
 exact wpAny_Expr_any (cG (he pins s σ H _ I h) λv s1 ⟨x,H1,I1,r1,q1⟩=>⟨σ,H1,I1,q1⟩) I.quiet hs
def KZ (te:TE):TS:=λD σ H=>te σ H D.rt
theorem er (he:PE X e te):PS X (.Return (some e) pos) (KZ te):=by
 intro pins s σ H D I h
 exact wpAny_Return_some (cG (he pins s σ H _ I h) λv s1 ⟨x,H1,I1,r1,q1⟩=>⟨x,σ,H1,I1,r1,q1⟩)
def Dm:TS:=λD _ H=>D.rt .non H
theorem xp:PS X (.Return none pos) Dm:=λ_ _ σ H _ I h=>wpAny_Return_none ⟨.non,σ,H,I,rfl,h⟩
def KR (c:TT) (t u:TS):TS:=λD σ H=>c σ H λb H1=>if b=true then t D σ H1 else u D σ H1
theorem oA {c:Expr} {a b:List Stmt} {tc:TT} (hc:PT X c tc) (ha:t_ X a t) (hb:t_ X b u):PS X (.If c a b pos) (KR tc t u):=by
 intro pins s σ H D I h
 refine wpAny_If (cG (hc pins s σ H _ I h) λd s1 ⟨H1,I1,q1⟩=>?_)
 cases d with
 | true=>exact ha pins s1 σ H1 D I1 q1
 | false=>exact hb pins s1 σ H1 D I1 q1
def BS:TS:=λ_ _ _=>False
theorem pL {sts:List Stmt}:t_ X sts BS:=λ_ _ _ _ _ _ h=>h.elim
end
abbrev TG:=V→St→Hp→(St→Hp→Prop)→Prop
abbrev rS:=List V→St→Hp→(St→Hp→Prop)→Prop
def PG (X:Cx) (target:Expr) (t:TG):Prop :=
 ∀(pins:List (Addr × Obj)) (s:Shared) (σ:St) (H:Hp) (v:V) (u:Value) (Q:St→Hp→Prop),Inv X pins σ H s→RelV v u→t v σ H Q →
  wpAny (model X.prog X.w) X.A (assign target X.env u) (λ_ s'=>∃σ' H',Inv X pins σ' H' s'∧Q σ' H') X.xe s
def La (X:Cx) (ts:List Expr) (t:rS):Prop :=
 ∀(pins:List (Addr × Obj)) (s:Shared) (σ:St) (H:Hp) (vs:List V) (us:List Value) (Q:St→Hp→Prop),Inv X pins σ H s→Vals vs us→t vs σ H Q →
  wpAny (model X.prog X.w) X.A (assignInOrder ((assignEach ts X.env).map (·.2)) us) (λ_ s'=>∃σ' H',Inv X pins σ' H' s'∧Q σ' H') X.xe s
abbrev l7:=V→V→V→Hp→(Hp→Prop)→Prop
def l6 (X:Cx) (t:l7):Prop :=
 ∀(pins:List (Addr × Obj)) (s:Shared) (σ:St) (H:Hp) (o i v:V) (ov iv u:Value) (Q:Hp→Prop),Inv X pins σ H s→RelV o ov→RelV i iv→RelV v u→t o i v H Q →
  wpAny (model X.prog X.w) X.A (setItem ov iv u) (λ_ s'=>∃H',Inv X pins σ H' s'∧Q H') X.xe s
abbrev RH:=V→V→Hp→VK→Prop
def R9 (X:Cx) (op:Operator) (t:RH):Prop :=
 ∀(pins:List (Addr × Obj)) (s:Shared) (σ:St) (H:Hp) (x y:V) (v u:Value) (Q:VK),Inv X pins σ H s→RelV x v→RelV y u→t x y H Q →
  wpAny (model X.prog X.w) X.A (inplaceOp op v u) (EP X pins σ Q) X.xe s
section
variable {X:Cx} {pos:Pos}
def qd (i:Nat):TG:=λv σ H Q=>Q (σ.set i (some v)) H
theorem lS {i:Nat} {x:Str} (hN:X.N.Nodup) (hi:X.N[i]?=some x) (hx:Loc X.env.scope x) (hf:X.fn x=true∨X.env.scope.names.lookup x=some .local:=by first | exact .inl rfl | exact .inr rfl | assumption):PG X (.Name x pos) (qd i):=by
 intro pins s σ H v u Q I r h
 exact wpAny_assign_Name (fM I hN hi hx r (λs' I'=>⟨_,H,I',h⟩) hf)
def Jh:rS:=λvs σ H Q=>vs=[]∧Q σ H
def Cg (t:TG) (u:rS):rS:=λvs σ H Q=>∃v r,vs=v :: r∧t v σ H λσ' H'=>u r σ' H' Q
theorem xk:La X [] Jh:=by
 intro pins s σ H vs us Q I r h
 obtain ⟨e,h⟩:=h
 subst e
 cases r
 exact assignInOrder_nil ⟨σ,H,I,h⟩
theorem sV {e:Expr} {es:List Expr} {t:TG} {u:rS} (h1:PG X e t) (h2:La X es u)
  (hs:(assignEach (e :: es) X.env).map (·.2)=assign e X.env :: (assignEach es X.env).map (·.2):=by rfl):La X (e :: es) (Cg t u):=by
 intro pins s σ H vs us Q I r h
 obtain ⟨v,vr,e1,h⟩:=h
 subst e1
 cases r with
 | cons r rr =>
  rw [hs]
  refine assignInOrder_cons (cG (h1 pins s σ H _ _ _ I r h) λ_ s1 ⟨σ1,H1,I1,q1⟩=>?_)
  exact h2 pins s1 σ1 H1 _ _ Q I1 rr q1
def Jk (K:PySem.W.Frag) (n:Nat) (t:rS):TG:=λv σ H Q=>∃a xs,v=.ref a∧g8 K H a xs∧xs.length=n∧t xs σ H Q
theorem Bq {es:List Expr} {k:Nat} {t:rS} {n:Nat} (hc:X.calm=true) (h:La X es t)
  (hn:(assignEach es X.env).length=n:=by rfl) (hst:(assignEach es X.env).findIdx? (·.1)=none:=by rfl):PG X (.Tuple es k pos) (Jk X.K n t):=by
 intro pins s σ H v u Q I r hw
 obtain ⟨a,xs,e1,hq,hl,hw⟩:=hw
 subst e1
 cases r
 obtain ⟨its,rv,ht,hz⟩:=I.tuple hq
 refine assign_Tuple_tuple (I.ok.hd hc) ht (by simp [hn,← hl,rv.length]) hst λh' hx=>?_
 have I1:Inv X pins σ H { s with heap:=h' }:=I.kept (t':=s.toks) λb o e=>hx b o (Vj (Heap.lt_size e)) e
 exact h pins _ σ H xs _ Q I1 (by simpa using rv) hw
def Jj (to ti:TE) (t:l7):TG:=λv σ H Q=>to σ H λo H1=>ti σ H1 λi H2=>t o i v H2 λH3=>Q σ H3
theorem xj {o i:Expr} {to ti:TE} {t:l7} (ho:PE X o to) (hi:PE X i ti) (hs:l6 X t)
  (ha:∀v,assign (.Subscript o i pos) X.env v=(do
   let ov ← holding [v] (eval o X.env)
   let iv ← holding [v,ov] (eval i X.env)
   standAt pos
   holding [v,ov,iv] (setItem ov iv v)
   release [v,ov,iv] []):=by intro _;rfl):PG X (.Subscript o i pos) (Jj to ti t):=by
 intro pins s σ H v u Q I r h
 rw [ha]
 refine wpAny_bind (wpAny_holding (cG (ho pins s σ H _ I h) λov s1 ⟨x,H1,I1,r1,q1⟩=>?_))
 refine wpAny_bind (wpAny_holding (cG (hi pins s1 σ H1 _ I1 q1) λiv s2 ⟨y,H2,I2,r2,q2⟩=>?_))
 refine wpAny_bind (wpAny_standAt (wpAny_bind (wpAny_holding (cG (hs pins s2 σ H2 x y v ov iv u _ I2 r1 r2 r q2) λ_ s3 ⟨H3,I3,q3⟩=>?_))))
 exact wpAny_release ⟨σ,H3,I3,q3⟩
def z_ (te:TE) (g:TG):TS:=λD σ H=>te σ H λx H1=>g x σ H1 D.nx
theorem xo {tg e:Expr} {te:TE} {g:TG} (he:PE X e te) (hg:PG X tg g) (hs:swapsWithSole [tg] e pos.line X.env=pure false:=by rfl) (hw:swappedStores [tg] e X.env=pure none:=by rfl)
  (h1:(assignEach [tg] X.env).map (·.2)=[assign tg X.env]:=by rfl):PS X (.Assign [tg] e pos) (z_ te g):=by
 intro pins s σ H D I h
 refine wpAny_Assign_stores (cG (he pins s σ H _ I h) λv s1 ⟨x,H1,I1,r1,q1⟩=>?_) hs hw
 rw [h1]
 exact cG (hg pins s1 σ H1 x v _ I1 r1 q1) λ_ s2 q=>q
theorem c_ {i:Nat} {x:Str} {e:Expr} {te:TE} {pos':Pos} (hN:X.N.Nodup) (hi:X.N[i]?=some x) (hx:Loc X.env.scope x) (he:PE X e te) (hs:swapsWith e (some (.Name x pos')) pos.line X.env=pure false:=by rfl) (hf:X.fn x=true∨X.env.scope.names.lookup x=some .local:=by first | exact .inl rfl | exact .inr rfl | assumption) :
  PS X (.Assign [.Name x pos'] e pos) (z_ te (qd i)):=by
 intro pins s σ H D I h
 refine wpAny_Assign_Name (cG (he pins s σ H _ I h) λv s1 ⟨y,H1,I1,r1,q1⟩=>?_) hs
 exact fM I1 hN hi hx r1 (λs2 I2=>⟨_,H1,I2,q1⟩) hf
def KY (i j:Nat) (ta:TA):TS:=λD σ H=>ta σ H λvs H1=>∃v w,vs=[v,w]∧D.nx ((σ.set i (some v)).set j (some w)) H1
theorem pK {i j:Nat} {x y:Str} {a b:Expr} {ta:TA} {px py pt:Pos} {kt k2 pt2} (hc:X.calm=true) (hN:X.N.Nodup) (hi:X.N[i]?=some x) (hj:X.N[j]?=some y) (hij:i≠j)
  (hx:X.env.scope.names.lookup x=some .local) (hy:X.env.scope.names.lookup y=some .local) (ha:PA X [a,b] ta)
  (hw:swappedStores [.Tuple [.Name x px,.Name y py] kt pt] (.Tuple [a,b] k2 pt2) X.env=pure (some [x,y]))
  (hs:swapsWithSole [.Tuple [.Name x px,.Name y py] kt pt] (.Tuple [a,b] k2 pt2) pos.line X.env=pure false:=by rfl) :
  PS X (.Assign [.Tuple [.Name x px,.Name y py] kt pt] (.Tuple [a,b] k2 pt2) pos) (KY i j ta):=by
 intro pins s σ H D I h
 rw [exec_Assign_arm]
 refine wpAny_bind (wpAny_standAt ?_)
 rw [hs]
 refine wpAny_bind (wpAny_pure ?_)
 rw [if_neg (by decide)]
 refine wpAny_bind (Tuple_ (cG (ha _ pins s σ H _ I h) λus s1 ⟨vs,H1,I1,r1,q1⟩=>?_))
 obtain ⟨v,w,e1,q1⟩:=q1
 subst e1
 obtain ⟨u1,u2,rfl,rv,rw'⟩:∃u1 u2,us=[u1,u2]∧RelV v u1∧RelV w u2:=by
  cases r1 with
  | cons p q =>
   cases q with
   | cons p' q' =>
    cases q'
    exact ⟨_,_,rfl,p,p'⟩
 refine wpAny_newObj_type ?_ (by show 2≤sizeLine;decide)
 have I2:Inv X pins σ H1 { s1 with heap:=s1.heap.push { cls:=.type "tuple",data:=.seq [u1,u2].toArray } }:=I1.kept (t':=s1.toks) λb o e=>Heap.get?_push_of_some _ e
 rw [hw]
 refine wpAny_bind (wpAny_pure ?_)
 show wpAny (model X.prog X.w) X.A (do rule "assign.swapped-stores";let items ← unpackItems (.ref s1.heap.objs.size) 2 none;assignInOrder [λv=>bindName X.env y v,λv=>bindName X.env x v] items.reverse;pure Flow.next) _ _ _
 refine wpAny_bind (wpAny_rule (wpAny_bind (unpackItems_tuple (items:=#[u1,u2]) (I.ok.hd hc) (IsTup.new s1.heap _) λh' hx'=>?_)))
 have I3:=I2.kept (h':=h') (t':=s1.toks) λb o e=>hx' b o (Vj (Heap.lt_size e)) e
 show wpAny _ _ (assignInOrder [λv=>bindName X.env y v,λv=>bindName X.env x v] [u2,u1] >>= λ_=>pure Flow.next) _ _ _
 refine wpAny_bind (assignInOrder_cons (wpAny_bindName (fM I3 hN hj (.inl hy) rw' (λs2 I4=>?_) (.inr hy))))
 refine assignInOrder_cons (wpAny_bindName (fM I4 hN hi (.inl hx) rv (λs3 I5=>assignInOrder_nil (wpAny_pure ?_)) (.inr hx)))
 rw [List.set_comm _ _ (Ne.symm hij)] at I5
 exact ⟨_,H1,I5,q1⟩
def Tr (i:Nat) (te:TE) (ti:RH):TS:=λD σ H=>∃x,σ[i]?=some (some x)∧te σ H λy H1=>ti x y H1 λz H2=>D.nx (σ.set i (some z)) H2
theorem NW {i:Nat} {x:Str} {e:Expr} {te:TE} {op:Operator} {ti:RH} {pos':Pos} (hN:X.N.Nodup) (hi:X.N[i]?=some x) (hx:Loc X.env.scope x) (he:PE X e te) (ho:R9 X op ti) (hf:X.fn x=true∨X.env.scope.names.lookup x=some .local:=by first | exact .inl rfl | exact .inr rfl | assumption) :
  PS X (.AugAssign (.Name x pos') op e pos) (Tr i te ti):=by
 intro pins s σ H D I h
 obtain ⟨v,e1,h⟩:=h
 obtain ⟨m,hn,hl⟩:=I.loc
 have vis:yv X.env.scope x:=by rcases hx with k | k;exact .inl k;exact .inr (.inl k)
 obtain ⟨u,r,l⟩:=hl i x v hi e1 vis
 refine wpAny_AugAssign_Name ?_
 have go:wpAny (model X.prog X.w) X.A (eval e X.env) (λw s₂=>wpAny (model X.prog X.w) X.A (inplaceOp op u w) (λr s₃=>wpAny (model X.prog X.w) X.A (storeName X.env x r) (λ_=>SP X pins D .next) X.xe s₃) X.xe s₂) X.xe s:=by
  refine cG (he pins s σ H _ I h) λw s1 ⟨y,H1,I1,r1,q1⟩=>?_
  refine cG (ho pins s1 σ H1 v y u w _ I1 r r1 q1) λz s2 ⟨zv,H2,I2,r2,q2⟩=>?_
  exact fM I2 hN hi hx r2 (λs3 I3=>⟨_,H2,I3,q2⟩) hf
 rcases l with ⟨hk,hm⟩ | ⟨hk,c,hc,hcell⟩
 ·exact wpAny_loadName_local I.ok.kind hk hn hm go
 ·rcases hk with hk | hk
  ·exact wpAny_loadName_cell I.ok.kind hk hc hcell go
  ·rcases hx with k | k
   ·have:X.env.scope.names.lookup x=some .free:=hk
    rw [k] at this;cases this
   ·have:X.env.scope.names.lookup x=some .free:=hk
    rw [k] at this;cases this
def UN (f:Int→Int→Int):RH:=λx y H Q=>∃i j,x=.int i∧y=.int j∧Q (.int (f i j)) H
theorem M8:R9 X .Sub (UN λi j=>i - j):=by
 intro pins s σ H x y v u Q I r1 r2 h
 obtain ⟨i,j,e1,e2,q⟩:=h
 subst e1;subst e2
 obtain ⟨t,rfl⟩:=r1
 obtain ⟨t',rfl⟩:=r2
 exact isub_int ⟨.int _,H,I.tok _,⟨_,rfl⟩,q⟩
end
section
variable {X:Cx} {pos:Pos}
def yc (c:TT) (tb:TS):TS:=λD σ H=>∃W:Nat→St→Hp→Prop,(∃m,W m σ H)∧∀m σ H,W m σ H →
 c σ H λb H1=>if b=true then ∃N:St→Hp→Prop,(∀σ' H',N σ' H'→∃m',m' < m∧W m' σ' H')∧tb { D with nx:=N,ct:=N,bk:=D.nx } σ H1 else D.nx σ H1
theorem kY {c:Expr} {body:List Stmt} {tc:TT} {tb:TS} (hp:PassesOwn (model X.prog X.w) X.A X.env X.xe) (hc:PT X c tc) (hb:t_ X body tb):PS X (.While c body [] pos) (yc tc tb):=by
 intro pins s σ H D I h
 obtain ⟨W,⟨m0,w0⟩,turn⟩:=h
 refine wpAny_While (codeAny_whileLoop (λn s'=>∃σ' H',Inv X pins σ' H' s'∧W n σ' H') ?_ m0 ⟨σ,H,I,w0⟩)
 rintro n s1 ⟨σ1,H1,I1,w1⟩
 refine wpAny_passesOwn hp (cG (hc pins s1 σ1 H1 _ I1 (turn n σ1 H1 w1)) λb s2 ⟨H2,I2,q2⟩=>?_)
 cases b with
 | true =>
  obtain ⟨N,hN,q2⟩:=q2
  rw [if_pos rfl]
  refine wpAny_passesOwn hp (cG (hb pins s2 σ1 H2 _ I2 q2) λf s3 q3=>?_)
  cases f with
  | next =>
   obtain ⟨σ3,H3,I3,n3⟩:=q3
   obtain ⟨m',hm,w3⟩:=hN σ3 H3 n3
   exact ⟨m',hm,σ3,H3,I3,w3⟩
  | cont =>
   obtain ⟨σ3,H3,I3,n3⟩:=q3
   obtain ⟨m',hm,w3⟩:=hN σ3 H3 n3
   exact ⟨m',hm,σ3,H3,I3,w3⟩
  | brk=>exact q3
  | ret v=>exact q3
 | false =>
  rw [if_neg Ve]
  exact wpAny_execs_nil ⟨σ1,H2,I2,q2⟩
end
structure It where
 go:Nat→Hp→Prop
 yld:Nat→Hp→V→Hp→Prop
 stop:Nat→Hp→Prop
def l5 (X:Cx) (pins:List (Addr × Obj)) (H:Hp) (b:Addr):Prop :=
 H b=none∧b≠X.env.locals∧b ∉ X.fs∧(b∈X.ex∨X.s₀.heap.objs.size≤b)∧(∀x c,X.env.cells.lookup x=some c→c≠b)∧∀p∈X.pn ++ pins,p.1≠b
theorem Inv.FI {X:Cx} {pins:List (Addr × Obj)} {σ:St} {H H':Hp} {s:Shared} {b:Addr} (I:Inv X pins σ H s) (hb:s.heap.objs.size≤b) (hn:H' b=none):l5 X pins H' b:=by
 refine ⟨hn,WQ (Vf I.lt hb),I.S1 hb,.inr (Vh I.sz hb),λx c e z=>?_,λp hp z=>?_⟩
 ·obtain ⟨v,q⟩:=I.cell x c e
  exact absurd (Vf q.lt (by rw [z];exact hb)) (VU _)
 ·exact absurd (Vf (Heap.lt_size (I.pin p hp).1) (by rw [z];exact hb)) (VU _)
structure Turn (P:Program) (w:World) (K:PySem.W.Frag) (tg:Expr) (J:It) (fp:List Addr) (it:Addr) (tn:Nat→Heap→Prop):Prop where
 mem:it∈fp
 obj:∀i h,tn i h→∀b∈fp,∃o,h.get? b=some o∧∀v,o.data≠.cell v
 keep:∀i h h',tn i h→(∀b∈fp,∀o,h.get? b=some o→h'.get? b=some o)→tn i h'
 item:∀(X:Cx),X.prog=P→X.w=w→X.K=K→X.calm=true→∀(i:Nat) (pins:List (Addr × Obj)) (s:Shared) (σ:St) (H:Hp) (E:Value→Shared→Prop),Inv X pins σ H s→(∀b∈fp,l5 X pins H b)→tn i s.heap→J.go i H →
  wpAny (model P w) X.A (pyNext (.ref it)) (λr s1=>∃u,r=some u ∧
   wpAny (model P w) X.A (letOwnedTupleGo tg (.ref it) u) (λ_ s2=>∃x H',Inv X pins σ H' s2∧RelV x u∧J.yld i H x H'∧tn (i + 1) s2.heap∧∀b∈fp,H' b=none) E s1) E s
 done:∀(X:Cx),X.prog=P→X.w=w→X.K=K→X.calm=true→∀(i:Nat) (pins:List (Addr × Obj)) (s:Shared) (σ:St) (H:Hp) (E:Value→Shared→Prop),Inv X pins σ H s→(∀b∈fp,l5 X pins H b)→tn i s.heap→J.stop i H →
  wpAny (model P w) X.A (pyNext (.ref it)) (λr s1=>r=none∧Inv X pins σ H s1) E s
 self:∀(A:Around) (i:Nat) (s:Shared) (Q:Value→Shared→Prop) (E:Value→Shared→Prop),tn i s.heap→Q (.ref it) s→wpAny (model P w) A (pyIter (.ref it)) Q E s
abbrev TI:=St→Hp→(It→Hp→Prop)→Prop
def T8 (X:Cx) (pins:List (Addr × Obj)) (σ:St) (tg:Expr) (R:It→Hp→Prop) (itv:Value) (s2:Shared):Prop :=
 ∃(it:Addr) (fp:List Addr) (tn:Nat→Heap→Prop) (J:It) (H':Hp),itv=.ref it∧Inv X pins σ H' s2∧Turn X.prog X.w X.K tg J fp it tn∧tn 0 s2.heap∧(∀b∈fp,l5 X pins H' b)∧R J H'
def PI (X:Cx) (tg iter:Expr) (wi:TI):Prop :=
 ∀(pins:List (Addr × Obj)) (s:Shared) (σ:St) (H:Hp) (R:It→Hp→Prop),Inv X pins σ H s→wi σ H R →
  wpAny (model X.prog X.w) X.A (eval iter X.env) (λv s1=>wpAny (model X.prog X.w) X.A (pyIter v) (T8 X pins σ tg R) X.xe s1) X.xe s
theorem FP {M:Model} {A:Around} {E:Value→Shared→Prop} {s:Shared} {tg:Expr} {it:Addr} {u:Value} {o:Obj} {n:String} {vs:Array Value} {Q:Unit→Shared→Prop} (ho:s.heap.get? it=some o) (hc:o.cls=.type n) (hd:o.data=.fields vs)
  (hn:["enumerate","zip","dict_itemiterator","dict_reverseitemiterator","odict_iterator","itertools.zip_longest","itertools.pairwise"].contains n=false) (hQ:Q () s):wpAny M A (letOwnedTupleGo tg (.ref it) u) Q E s:=by
 unfold letOwnedTupleGo
 cases tg <;> first
  | exact wpAny_pure hQ
  | (cases u <;> first
    | exact wpAny_pure hQ
    | (refine wpAny_bind (wpAny_load ho ?_)
       rw [hc,hd]
       show wpAny M A (if (["enumerate","zip","dict_itemiterator","dict_reverseitemiterator","odict_iterator","itertools.zip_longest","itertools.pairwise"].contains n && vs[0]? == some (rawInt _))=true then _ else _) Q E s
       rw [if_neg (by intro h;rw [hn,Bool.false_and] at h;cases h)]
       exact wpAny_pure hQ))
def IG (K:PySem.W.Frag) (a:Addr):It :=
 ⟨λi H=>∃xs x,dq K H a xs∧xs[i]?=some x,λi H x H'=>H'=H∧∀xs,dq K H a xs→xs[i]?=some x,λi H=>∃xs,dq K H a xs∧xs.length≤i⟩
def UC (K:PySem.W.Frag) (a:Addr):It :=
 ⟨λi H=>∃xs x,g8 K H a xs∧xs[i]?=some x,λi H x H'=>H'=H∧∀xs,g8 K H a xs→xs[i]?=some x,λi H=>∃xs,g8 K H a xs∧xs.length≤i⟩
def E_ (lo:Int) (n:Nat):It:=⟨λi _=>i < n,λi H x H'=>H'=H∧x=.int (lo + i),λi _=>n≤i⟩
theorem EM {P:Program} {w:World} {K:PySem.W.Frag} {tg:Expr} (a it:Addr):Turn P w K tg (IG K a) [it] it (λi h=>h.IsListIter it a i) where
 mem:=by simp
 obj:=λi h st b hb=>by
  have e:b=it:=by simpa using hb
  subst e
  obtain ⟨o,e,c,d⟩:=st
  exact ⟨o,e,λv z=>by rw [d] at z;cases z⟩
 keep:=λi h h' st k=>st.at λo e=>k it (by simp) o e
 item:=by
  intro X hP hw hK hc i pins s σ H E I hf st hg
  subst hP hw hK
  obtain ⟨xs,x,hq,hx⟩:=hg
  obtain ⟨its,rv,p,hz⟩:=I.list hq
  obtain ⟨u,hu,ru⟩:=rv.get hx
  obtain ⟨f0,f1,f2,f3,f4,f5⟩:=hf it (by simp)
  refine wpAny_pyNext_list_item st p.isList (x:=u) (by simpa using hu) λh' st' sb=>?_
  have I1:Inv X pins σ H { s with heap:=h' }:=I.turned (t':=s.toks) (λb o hb e=>(sb.2 b hb).trans e) f0 f1 f3 f4 f5
  obtain ⟨o,e,c,d⟩:=id st'
  exact ⟨u,rfl,FP (s:={ s with heap:=h' }) e c d (by decide) ⟨x,H,I1,ru,⟨rfl,λys hy=>by rw [I.kE hy hq];exact hx⟩,st',λb hb=>(hf b hb).1⟩⟩
 done:=by
  intro X hP hw hK hc i pins s σ H E I hf st hg
  subst hP hw hK
  obtain ⟨xs,hq,hx⟩:=hg
  obtain ⟨its,rv,p,hz⟩:=I.list hq
  obtain ⟨f0,f1,f2,f3,f4,f5⟩:=hf it (by simp)
  have hl:=rv.length
  exact wpAny_pyNext_list_end (I.ok.hd hc) st p.isList (by simp;omega) λh' eb=>⟨rfl,I.turned (t':=s.toks) (λb o hb e=>eb b o hb e) f0 f1 f3 f4 f5⟩
 self:=λ_ _ _ _ _ st h=>wpAny_pyIter_listiter st h
theorem BV {P:Program} {w:World} {K:PySem.W.Frag} {tg:Expr} (it:Addr) (lo:Int) (n:Nat):Turn P w K tg (E_ lo n) [it] it (λi h=>IsRangeIter h it (lo + (i:Nat) * 1) ((n:Int) - (i:Nat)) 1) where
 mem:=by simp
 obj:=λi h st b hb=>by
  have e:b=it:=by simpa using hb
  subst e
  exact ⟨_,st,λv z=>by
   have z':Data.fields _=Data.cell v:=z
   cases z'⟩
 keep:=λi h h' st k=>k it (by simp) _ st
 item:=by
  intro X hP hw hK hc i pins s σ H E I hf st hg
  subst hP hw hK
  obtain ⟨f0,f1,f2,f3,f4,f5⟩:=hf it (by simp)
  have W:=Walks.range (prog:=X.prog) (w:=X.w) (I.ok.hd hc) it lo 1 n
  refine W.item i s _ _ hg st λv h' tk hv st' kk=>?_
  obtain ⟨t,rfl⟩:=hv
  have I1:Inv X pins σ H { s with heap:=h',toks:=tk }:=I.turned (λb o hb e=>kk b o (by simpa using hb) e) f0 f1 f3 f4 f5
  refine ⟨_,rfl,FP (s:={ s with heap:=h',toks:=tk }) (n:="range_iterator") st' rfl rfl (by decide) ⟨.int (lo + i),H,I1,⟨t,?_⟩,⟨rfl,rfl⟩,st',λb hb=>(hf b hb).1⟩⟩
  rw [Int.mul_one]
 done:=by
  intro X hP hw hK hc i pins s σ H E I hf st hg
  subst hP hw hK
  obtain ⟨f0,f1,f2,f3,f4,f5⟩:=hf it (by simp)
  exact wpAny_pyNext_range_end (I.ok.hd hc) st (by have:n≤i:=hg;omega) λh' eb=>⟨rfl,I.turned (t':=s.toks) (λb o hb e=>eb b o hb e) f0 f1 f3 f4 f5⟩
 self:=λ_ _ _ _ _ st h=>wpAny_pyIter_rangeiter st h
end L2
namespace L2
open PySem PySem.Spec PyProof.Rows
section
variable {X:Cx} {tg:Expr}
def Cm (K:PySem.W.Frag) (tl:TE):TI:=λσ H R=>tl σ H λx H1=>∃a,x=.ref a∧(∃xs,dq K H1 a xs)∧R (IG K a) H1
def Sq (K:PySem.W.Frag) (tl:TE):TI:=λσ H R=>tl σ H λx H1=>∃a,x=.ref a∧(∃xs,g8 K H1 a xs)∧R (UC K a) H1
theorem n9 {l:Expr} {tl:TE} (hl:PE X l tl):PI X tg l (Cm X.K tl):=by
 intro pins s σ H R I h
 refine cG (hl pins s σ H _ I h) λv s1 ⟨x,H1,I1,r1,q1⟩=>?_
 obtain ⟨a,e,⟨xs,hq⟩,q⟩:=q1
 subst e
 cases r1
 obtain ⟨its,rv,p,hz⟩:=I1.list hq
 refine wpAny_pyIter_list p.isList ?_
 refine ⟨s1.heap.objs.size,[s1.heap.objs.size],_,_,H1,rfl,I1.kept (t':=s1.toks) λb o e=>Heap.get?_push_of_some _ e,EM a _,⟨_,Heap.get?_push_size _ rfl,rfl,rfl⟩,λb hb=>?_,q⟩
 have e:b=s1.heap.objs.size:=by simpa using hb
 subst e
 exact I1.FI (U4 _) (I1.hok.fresh (U4 _))
theorem Hf {pins:List (Addr × Obj)} {σ:St} {H:Hp} {s:Shared} {R:It→Hp→Prop} {E:Value→Shared→Prop} {lo hi:Int} {t u v:Tok} {tk:Nat} (I:Inv X pins σ H s) (h1:-(2 ^ 62)≤lo) (h2:lo < 2 ^ 62) (h3:-(2 ^ 62)≤hi) (h4:hi < 2 ^ 62)
  (q:R (E_ lo (hi - lo).toNat) H):wpAny (model X.prog X.w) X.A (pyIter (.ref s.heap.objs.size)) (T8 X pins σ tg R) E { s with heap:=s.heap.push { cls:=.type "range",data:=.fields #[.int lo t,.int hi u,.int 1 v] },toks:=tk }:=by
 refine wpAny_pyIter_range (IsRange.new ..) (small_one h1 h2 h3 h4) ?_
 have I1:Inv X pins σ H { s with heap:=s.heap.push { cls:=.type "range",data:=.fields #[.int lo t,.int hi u,.int 1 v] },toks:=tk }:=I.kept λb o e=>Heap.get?_push_of_some _ e
 refine ⟨(s.heap.push { cls:=.type "range",data:=.fields #[.int lo t,.int hi u,.int 1 v] }).objs.size,[(s.heap.push { cls:=.type "range",data:=.fields #[.int lo t,.int hi u,.int 1 v] }).objs.size],_,_,H,rfl,
  I1.kept (t':=tk) λb o e=>Heap.get?_push_of_some _ e,BV _ lo (hi - lo).toNat,?_,λb hb=>?_,q⟩
 ·have e1:lo + ((0:Nat):Int) * 1=lo:=by simp
  have e2:(((hi - lo).toNat:Nat):Int) - ((0:Nat):Int)=Builtin.Range.rangeSize lo hi 1:=by rw [rangeSize_one];split <;> omega
  show IsRangeIter _ _ (lo + ((0:Nat):Int) * 1) ((((hi - lo).toNat:Nat):Int) - ((0:Nat):Int)) 1
  rw [e1,e2]
  exact Heap.get?_push_size _ rfl
 ·have e:b=(s.heap.push { cls:=.type "range",data:=.fields #[.int lo t,.int hi u,.int 1 v] }).objs.size:=by simpa using hb
  subst e
  exact I1.FI (U4 _) (I1.hok.fresh (U4 _))
def Cn (ta:TA):TI:=λσ H R=>ta σ H λvs H1=>∃j:Int,vs=[.int j]∧-(2 ^ 62)≤j∧j < 2 ^ 62∧R (E_ 0 j.toNat) H1
def Li (ta:TA):TI:=λσ H R=>ta σ H λvs H1=>∃i j:Int,vs=[.int i,.int j]∧(-(2 ^ 62)≤i∧i < 2 ^ 62∧-(2 ^ 62)≤j∧j < 2 ^ 62)∧R (E_ i (j - i).toNat) H1
theorem gj {a:Expr} {ta:TA} {p pos:Pos} (hg:Gl X "range") (hm:X.mg "range"=none) (ha:PA X [a] ta) (hs:starEach [a] X.env=[(false,eval a X.env)]:=by rfl):PI X tg (.Call (.Name "range" p) [a] [] pos) (Cn ta):=by
 intro pins s σ H R I h
 refine Call_ (mP I hg hm boot_range (PyProof.Rows.callWith_type1 (cG (ha pos pins s σ H _ I h) λus s1 ⟨vs,H1,I1,r1,q1⟩=>?_) hs rfl))
 obtain ⟨j,e,q1,q2,q⟩:=q1
 subst e
 cases r1 with
 | cons r rr =>
  cases rr
  obtain ⟨t,rfl⟩:=r
  exact call_range_1 (Hf I1 (by omega) (by omega) q1 q2 (by simpa using q))
def Ol (wi:TI) (g:TG) (tb:TS):TS:=λD σ H=>wi σ H λJ H1=>∃W:Nat→Nat→St→Hp→Prop,(∃m,W 0 m σ H1)∧∀i m σ H,W i m σ H →
 (J.stop i H∧D.nx σ H)∨(J.go i H∧∃N:St→Hp→Prop,(∀σ' H',N σ' H'→∃m',m' < m∧W (i + 1) m' σ' H')∧∀x H',J.yld i H x H'→g x σ H' λσ2 H2=>tb { D with nx:=N,ct:=N,bk:=D.nx } σ2 H2)
def xm (fp:List Addr) (h:Heap):List (Addr × Obj):=fp.filterMap λb=>(h.get? b).map λo=>(b,o)
theorem cS {fp:List Addr} {h:Heap} {b:Addr} {o:Obj} (hb:b∈fp) (e:h.get? b=some o):(b,o)∈xm fp h:=WE.mpr ⟨b,hb,by rw [e];rfl⟩
theorem Ed {fp:List Addr} {h:Heap} {p:Addr × Obj} (hp:p∈xm fp h):p.1∈fp∧h.get? p.1=some p.2:=by
 obtain ⟨b,hb,e⟩:=WE.mp hp
 cases q:h.get? b with
 | none=>rw [q] at e;cases e
 | some o =>
  rw [q] at e
  have e':(b,o)=p:=Option.some.inj e
  subst e'
  exact ⟨hb,q⟩
theorem Inv.pinned {pins:List (Addr × Obj)} {σ:St} {H:Hp} {s:Shared} {fp:List Addr} (I:Inv X pins σ H s) (hf:∀b∈fp,l5 X pins H b) (ho:∀b∈fp,∃o,s.heap.get? b=some o∧∀v,o.data≠.cell v):Inv X (pins ++ xm fp s.heap) σ H s :=
 I.CD λp hp=>(U9.mp hp).elim (λz=>I.pin p (Va _ z)) λz=>by
  obtain ⟨hb,e⟩:=Ed z
  obtain ⟨f0,f1,f2,_⟩:=hf p.1 hb
  obtain ⟨o,e',d⟩:=ho p.1 hb
  rw [e] at e';cases e'
  exact ⟨e,f0,f1,f2,d⟩
theorem Inv.gY {pins pl:List (Addr × Obj)} {σ:St} {H:Hp} {s:Shared} (I:Inv X (pins ++ pl) σ H s):Inv X pins σ H s:=I.CD λp hp=>I.pin p (Va _ (V' _ hp))
theorem pJ {iter:Expr} {body:List Stmt} {wi:TI} {g:TG} {tb:TS} {pos:Pos} (hp:PassesOwn (model X.prog X.w) X.A X.env X.xe) (hc:X.calm=true) (hi:PI X tg iter wi) (hg:PG X tg g) (hb:t_ X body tb)
  (hs:∀x,foldedSetIterable iter X.env x=pure x:=by intro _;rfl):PS X (.For tg iter body [] pos) (Ol wi g tb):=by
 intro pins s σ H D I h
 refine wpAny_For (cG (hi pins s σ H _ I h) λv s1 h1=>cG h1 λitv s2 h2=>?_) hs
 obtain ⟨it,fp,tn,J,H2,e,I2,T,st2,f2,W,⟨m0,w0⟩,turn⟩:=h2
 subst e
 have stat:∀{H':Hp},(∀b∈fp,H' b=none)→∀b∈fp,l5 X pins H' b:=λhn b hb=>⟨hn b hb,(f2 b hb).2⟩
 refine codeAny_forLoop_any (λn s'=>∃i σ' H',Inv X pins σ' H' s'∧tn i s'.heap∧(∀b∈fp,H' b=none)∧W i n σ' H') ?_ m0 ⟨0,σ,H2,I2,st2,λb hb=>(f2 b hb).1,w0⟩
 rintro n s3 ⟨i,σ3,H3,I3,st3,fr3,w3⟩
 rcases turn i n σ3 H3 w3 with ⟨stop,qn⟩ | ⟨go,N,hN,step⟩
 ·refine wpAny_passesOwn hp (cG (T.done X rfl rfl rfl hc i pins s3 σ3 H3 X.xe I3 (stat fr3) st3 stop) λr s4 ⟨hr,I4⟩=>?_)
  subst hr
  exact wpAny_execs_nil ⟨σ3,H3,I4,qn⟩
 ·refine wpAny_passesOwn hp (cG (T.item X rfl rfl rfl hc i pins s3 σ3 H3 X.xe I3 (stat fr3) st3 go) λr s4 ⟨u,hr,h4⟩=>?_)
  subst hr
  refine wpAny_passesOwn hp (cG h4 λ_ s5 ⟨x,H5,I5,r5,y5,st5,fr5⟩=>?_)
  have I5':=I5.pinned (stat fr5) (T.obj _ _ st5)
  refine wpAny_passesOwn hp (cG (hg _ s5 σ3 H5 x u _ I5' r5 (step x H5 y5)) λ_ s6 ⟨σ6,H6,I6,q6⟩=>?_)
  refine wpAny_passesOwn hp (cG (hb _ s6 σ6 H6 _ I6 q6) λf s7 q7=>?_)
  have again:∀{σ7:St} {H7:Hp},Inv X (pins ++ xm fp s5.heap) σ7 H7 s7→N σ7 H7→∃m,m < n∧∃i σ' H',Inv X pins σ' H' s7∧tn i s7.heap∧(∀b∈fp,H' b=none)∧W i m σ' H':=λ{σ7 H7} I7 n7=>by
   obtain ⟨m',hm,w7⟩:=hN σ7 H7 n7
   refine ⟨m',hm,i + 1,σ7,H7,I7.gY,T.keep _ _ _ st5 λb hb o e=>(I7.pin (b,o) (Va _ (Va _ (cS hb e)))).1,λb hb=>?_,w7⟩
   obtain ⟨o,e,d⟩:=T.obj _ _ st5 b hb
   exact (I7.pin (b,o) (Va _ (Va _ (cS hb e)))).2.1
  cases f with
  | next=>obtain ⟨σ7,H7,I7,n7⟩:=q7;exact again I7 n7
  | cont=>obtain ⟨σ7,H7,I7,n7⟩:=q7;exact again I7 n7
  | brk=>obtain ⟨σ7,H7,I7,q7⟩:=q7;exact ⟨σ7,H7,I7.gY,q7⟩
  | ret v=>obtain ⟨x7,σ7,H7,I7,r7,q7⟩:=q7;exact ⟨x7,σ7,H7,I7.gY,r7,q7⟩
end
theorem FH {K:PySem.W.Frag} {a:Addr} {xs:List V} {g:TG} {tb:TS} {D:Ends} {σ:St} {H:Hp} (Pv:Nat→St→Hp→Prop) (h0:Pv 0 σ H) (hl:∀i σ H,i≤xs.length→Pv i σ H→dq K H a xs)
  (hs:∀i x σ H,xs[i]?=some x→Pv i σ H→g x σ H λσ2 H2=>tb { D with nx:=Pv (i + 1),ct:=Pv (i + 1),bk:=D.nx } σ2 H2) (hd:∀σ H,Pv xs.length σ H→D.nx σ H) :
  ∃W:Nat→Nat→St→Hp→Prop,(∃m,W 0 m σ H)∧∀i m σ H,W i m σ H →
   ((IG K a).stop i H∧D.nx σ H)∨((IG K a).go i H∧∃N:St→Hp→Prop,(∀σ' H',N σ' H'→∃m',m' < m∧W (i + 1) m' σ' H')∧∀x H',(IG K a).yld i H x H'→g x σ H' λσ2 H2=>tb { D with nx:=N,ct:=N,bk:=D.nx } σ2 H2):=by
 refine ⟨λi m σ H=>m=xs.length - i∧i≤xs.length∧Pv i σ H,⟨xs.length,by simp,Vr _,h0⟩,?_⟩
 rintro i m σ H ⟨rfl,hi,p⟩
 have q:=hl i σ H hi p
 by_cases hlt:i < xs.length
 ·refine .inr ⟨⟨xs,xs[i],q,by simp [hlt]⟩,Pv (i + 1),λσ' H' p'=>⟨xs.length - (i + 1),by omega,rfl,hlt,p'⟩,λx H' y=>?_⟩
  obtain ⟨e,y⟩:=y
  subst e
  exact hs i x σ _ (y xs q) p
 ·have e:i=xs.length:=by omega
  subst e
  exact .inl ⟨⟨xs,q,U4 _⟩,hd σ H p⟩
theorem vD {lo:Int} {n:Nat} {g:TG} {tb:TS} {D:Ends} {σ:St} {H:Hp} (Pv:Nat→St→Hp→Prop) (h0:Pv 0 σ H)
  (hs:∀i σ H,i < n→Pv i σ H→g (.int (lo + i)) σ H λσ2 H2=>tb { D with nx:=Pv (i + 1),ct:=Pv (i + 1),bk:=D.nx } σ2 H2) (hd:∀σ H,Pv n σ H→D.nx σ H) :
  ∃W:Nat→Nat→St→Hp→Prop,(∃m,W 0 m σ H)∧∀i m σ H,W i m σ H →
   ((E_ lo n).stop i H∧D.nx σ H)∨((E_ lo n).go i H∧∃N:St→Hp→Prop,(∀σ' H',N σ' H'→∃m',m' < m∧W (i + 1) m' σ' H')∧∀x H',(E_ lo n).yld i H x H'→g x σ H' λσ2 H2=>tb { D with nx:=N,ct:=N,bk:=D.nx } σ2 H2):=by
 refine ⟨λi m σ H=>m=n - i∧i≤n∧Pv i σ H,⟨n,by simp,Vr _,h0⟩,?_⟩
 rintro i m σ H ⟨rfl,hi,p⟩
 by_cases hlt:i < n
 ·refine .inr ⟨hlt,Pv (i + 1),λσ' H' p'=>⟨n - (i + 1),by omega,rfl,hlt,p'⟩,λx H' y=>?_⟩
  obtain ⟨e,y⟩:=y
  subst e y
  exact hs i σ _ hlt p
 ·have e:i=n:=by omega
  subst e
  exact .inl ⟨U4 _,hd σ H p⟩
theorem Aa {c:TT} {tb:TS} {D:Ends} {σ:St} {H:Hp} (Pv:St→Hp→Prop) (μ:St→Hp→Nat) (h0:Pv σ H)
  (hs:∀σ H,Pv σ H→c σ H λb H1=>if b=true then tb { D with nx:=λσ' H'=>Pv σ' H'∧μ σ' H' < μ σ H,ct:=λσ' H'=>Pv σ' H'∧μ σ' H' < μ σ H,bk:=D.nx } σ H1 else D.nx σ H1)
  (mono:∀σ H Q Q',(∀b H1,Q b H1→Q' b H1)→c σ H Q→c σ H Q'):yc c tb D σ H:=by
 refine ⟨λm σ H=>m=μ σ H∧Pv σ H,⟨_,rfl,h0⟩,?_⟩
 rintro m σ H ⟨rfl,p⟩
 refine mono σ H _ _ (λb H1 q=>?_) (hs σ H p)
 cases b with
 | true=>exact ⟨_,λσ' H' ⟨p',l⟩=>⟨_,l,rfl,p'⟩,q⟩
 | false=>exact q
end L2
namespace L2
open PySem PySem.Spec PyProof.Rows
abbrev R2:=V→V→Hp→VK→Prop
def fI (X:Cx) (f:Value→Value→Sem Value) (r:R2):Prop :=
 ∀(pins:List (Addr × Obj)) (s:Shared) (σ:St) (H:Hp) (x y:V) (v u:Value) (Q:VK),Inv X pins σ H s→RelV x v→RelV y u→r x y H Q →
  wpAny (model X.prog X.w) X.A (f v u) (EP X pins σ Q) X.xe s
def Ab (X:Cx) (f:Value→Sem Value) (r:V→Hp→VK→Prop):Prop :=
 ∀(pins:List (Addr × Obj)) (s:Shared) (σ:St) (H:Hp) (x:V) (v:Value) (Q:VK),Inv X pins σ H s→RelV x v→r x H Q →
  wpAny (model X.prog X.w) X.A (f v) (EP X pins σ Q) X.xe s
def cq (X:Cx) (f:Value) (r:List V→Hp→VK→Prop):Prop :=
 ∀(pins:List (Addr × Obj)) (s:Shared) (σ:St) (H:Hp) (xs:List V) (us:List Value) (Q:VK),Inv X pins σ H s→Vals xs us→r xs H Q →
  wpAny (model X.prog X.w) X.A (call f us) (EP X pins σ Q) X.xe s
def Sa (X:Cx) (r:V→Hp→(Bool→Hp→Prop)→Prop):Prop :=
 ∀(pins:List (Addr × Obj)) (s:Shared) (σ:St) (H:Hp) (x:V) (v:Value) (Q:Bool→Hp→Prop),Inv X pins σ H s→RelV x v→r x H Q →
  wpAny (model X.prog X.w) X.A (truthy v) (TP X pins σ Q) X.xe s
def HU (r:R2) (ta tb:TE):TE:=λσ H Q=>ta σ H λx H1=>tb σ H1 λy H2=>r x y H2 Q
def R0 (r:V→Hp→VK→Prop) (ta:TE):TE:=λσ H Q=>ta σ H λx H1=>r x H1 Q
def rI (C:Int→Int→Prop) (g:Int→Int→V):R2:=λx y H Q=>∃i j,x=.int i∧y=.int j∧C i j∧Q (g i j) H
def Ik (g:Int→Int→V):R2:=λx y H Q=>∃i j,x=.int i∧y=.int j∧Q (g i j) H
def rU (g:Int→V):V→Hp→VK→Prop:=λx H Q=>∃i,x=.int i∧Q (g i) H
section
variable {X:Cx} {a b c:Expr} {ta tb tc:TE} {pos:Pos}
theorem MP (ha:PE X a ta) (hb:PE X b tb) {pins:List (Addr × Obj)} {s:Shared} {σ:St} {H:Hp} {R:V→V→Hp→Prop} (I:Inv X pins σ H s)
  (h:ta σ H λx H1=>tb σ H1 λy H2=>R x y H2) {Q:Value→Shared→Prop} {f:Value→Value→Sem Value}
  (hf:∀v u s2 x y H2,Inv X pins σ H2 s2→RelV x v→RelV y u→R x y H2→wpAny (model X.prog X.w) X.A (f v u) Q X.xe s2) :
  wpAny (model X.prog X.w) X.A (eval a X.env) (λv s₁=>wpAny (model X.prog X.w) X.A (eval b X.env) (λu s₂=>wpAny (model X.prog X.w) X.A (f v u) Q X.xe s₂) X.xe s₁) X.xe s:=by
 refine cG (ha pins s σ H _ I h) λv s1 ⟨x,H1,I1,r1,q1⟩=>?_
 refine cG (hb pins s1 σ H1 _ I1 q1) λu s2 ⟨y,H2,I2,r2,q2⟩=>?_
 exact hf v u s2 x y H2 I2 r1 r2 q2
theorem bH {op:Operator} {r:R2} (ho:fI X (binaryOp op) r) (ha:PE X a ta) (hb:PE X b tb):PE X (.BinOp a op b pos) (HU r ta tb):=by
 intro pins s σ H Q I h
 exact wpAny_BinOp (MP ha hb I h λv u s2 x y H2 I2 rx ry q=>ho pins s2 σ H2 x y v u Q I2 rx ry q)
theorem CC {op:UnaryOp} {r:V→Hp→VK→Prop} (ho:Ab X (unaryOp op) r) (ha:PE X a ta):PE X (.UnaryOp op a pos) (R0 r ta):=by
 intro pins s σ H Q I h
 exact UnaryOp_ (cG (ha pins s σ H _ I h) λv s1 ⟨x,H1,I1,r1,q1⟩=>ho pins s1 σ H1 x v Q I1 r1 q1)
theorem RQ {f:Value→Value→Sem Value} {C:Int→Int→Prop} {g:Int→Int→Int}
  (rule:∀(i j:Int) (t u:Tok) (s:Shared) (Q:Value→Shared→Prop) (E:Value→Shared→Prop),C i j→Q (.int (g i j) s.toks) { s with toks:=s.toks + 1 }→wpAny (model X.prog X.w) X.A (f (.int i t) (.int j u)) Q E s) :
  fI X f (rI C λi j=>.int (g i j)):=by
 intro pins s σ H x y v u Q I rx ry h
 obtain ⟨i,j,rfl,rfl,hc,q⟩:=h
 obtain ⟨t,rfl⟩:=rx
 obtain ⟨t',rfl⟩:=ry
 exact rule i j t t' s _ _ hc ⟨.int (g i j),H,I.tok _,⟨_,rfl⟩,q⟩
theorem Qh {f:Value→Value→Sem Value} {g:Int→Int→Int}
  (rule:∀(i j:Int) (t u:Tok) (s:Shared) (Q:Value→Shared→Prop) (E:Value→Shared→Prop),Q (.int (g i j) s.toks) { s with toks:=s.toks + 1 }→wpAny (model X.prog X.w) X.A (f (.int i t) (.int j u)) Q E s) :
  fI X f (Ik λi j=>.int (g i j)):=by
 intro pins s σ H x y v u Q I rx ry h
 obtain ⟨i,j,rfl,rfl,q⟩:=h
 obtain ⟨t,rfl⟩:=rx
 obtain ⟨t',rfl⟩:=ry
 exact rule i j t t' s _ _ ⟨.int (g i j),H,I.tok _,⟨_,rfl⟩,q⟩
theorem JO {f:Value→Value→Sem Value} {g:Int→Int→Bool}
  (rule:∀(i j:Int) (t u:Tok) (s:Shared) (Q:Value→Shared→Prop) (E:Value→Shared→Prop),Q (.bool (g i j)) s→wpAny (model X.prog X.w) X.A (f (.int i t) (.int j u)) Q E s) :
  fI X f (Ik λi j=>.bl (g i j)):=by
 intro pins s σ H x y v u Q I rx ry h
 obtain ⟨i,j,rfl,rfl,q⟩:=h
 obtain ⟨t,rfl⟩:=rx
 obtain ⟨t',rfl⟩:=ry
 exact rule i j t t' s _ _ ⟨.bl (g i j),H,I,rfl,q⟩
def R4 (i j:Int):Prop:=0≤j∧j≤1000000∧i.natAbs < 2 ^ 64
theorem jF:fI X (binaryOp .Add) (Ik λi j=>.int (i + j)):=Qh λ_ _ _ _ _ _ _ q=>add_int q
theorem Bi:fI X (binaryOp .Sub) (Ik λi j=>.int (i - j)):=Qh λ_ _ _ _ _ _ _ q=>sub_int q
theorem gK:fI X (binaryOp .Mod) (rI (λ_ j=>0 < j) λi j=>.int (i % j)):=RQ λi j _ _ _ _ _ hc q=>by
 have h1:(0:Int) < j:=hc
 exact mod_int' (by omega) (by rw [Int.fmod_eq_emod_of_nonneg i (by omega)];exact q)
theorem GN:fI X (binaryOp .Pow) (rI R4 λi j=>.int (i ^ j.toNat)):=RQ λ_ _ _ _ _ _ _ hc q=>pow_int_small hc.1 hc.2.1 hc.2.2 q
theorem UY {f:Value→Sem Value} {g:Int→Int}
  (rule:∀(i:Int) (t:Tok) (s:Shared) (Q:Value→Shared→Prop) (E:Value→Shared→Prop),Q (.int (g i) s.toks) { s with toks:=s.toks + 1 }→wpAny (model X.prog X.w) X.A (f (.int i t)) Q E s) :
  Ab X f (rU λi=>.int (g i)):=by
 intro pins s σ H x v Q I rx h
 obtain ⟨i,rfl,q⟩:=h
 obtain ⟨t,rfl⟩:=rx
 exact rule i t s _ _ ⟨.int (g i),H,I.tok _,⟨_,rfl⟩,q⟩
theorem H0:Ab X (unaryOp .USub) (rU λi=>.int (-i)):=UY λ_ _ _ _ _ q=>neg_int q
end
def Ht:V→V→Bool
 | .non,.non=>true | .non,.int _=>true | .int _,.non=>true | .non,.bl _=>true | .bl _,.non=>true | .non,.str _=>true | .str _,.non=>true
 | .int _,.int _=>true | .bl _,.bl _=>true | .str _,.str _=>true | .byt _,.byt _=>true
 | .int _,.str _=>true | .str _,.int _=>true | .bl _,.str _=>true | .str _,.bl _=>true
 | _,_=>false
def Ut:R2:=λx y H Q=>Ht x y=true∧Q (.bl (decide (x=y))) H
def Ux:R2:=λx y H Q=>Ht x y=true∧Q (.bl (!decide (x=y))) H
theorem B' {i j:Int}:decide (V.int i=V.int j)=(i == j):=by
 rw [VX]
 simp
theorem Fz {i j:Bool}:decide (V.bl i=V.bl j)=(i == j):=by
 rw [VX]
 simp
theorem Ca {i j:Str}:decide (V.str i=V.str j)=(i == j):=by
 rw [VX]
 simp
theorem B_ {i j:Array UInt8}:decide (V.byt i=V.byt j)=(i.toList == j.toList):=by
 rw [VX]
 cases i
 cases j
 simp
section
variable {X:Cx} {a b c:Expr} {ta tb tc:TE} {pos:Pos}
theorem bI {pins:List (Addr × Obj)} {σ:St} {H:Hp} {s:Shared} {Q:VK} {k k':Bool} (I:Inv X pins σ H s) (q:Q (.bl k) H) (e:k=k'):EP X pins σ Q (.bool k') s:=by
 subst e
 exact ⟨.bl k,H,I,rfl,q⟩
theorem GL:fI X (compareOp .Eq) Ut:=by
 intro pins s σ H x y v u Q I rx ry h
 obtain ⟨hs,q⟩:=h
 cases x with
 | non =>
  cases rx
  cases y with
  | non=>cases ry;exact PySem.EqNone.eq_none_none (bI I q (by simp))
  | bl j=>cases ry;exact PySem.EqNone.eq_none_bool (bI I q (by simp))
  | int j=>obtain ⟨t',rfl⟩:=ry;exact PySem.EqNone.eq_none_int (bI I q (by simp))
  | str j=>obtain ⟨t',rfl⟩:=ry;exact PySem.EqNone.eq_none_str (bI I q (by simp))
  | _=>exact absurd (show false=true from hs) Ve
 | bl i =>
  cases rx
  cases y with
  | non=>cases ry;exact PySem.EqNone.eq_bool_none (bI I q (by simp))
  | bl j=>cases ry;exact eq_bool (bI I q Fz)
  | str j=>obtain ⟨t',rfl⟩:=ry;exact PySem.EqMixed.eq_bool_str (bI I q (by simp))
  | _=>exact absurd (show false=true from hs) Ve
 | int i =>
  obtain ⟨t,rfl⟩:=rx
  cases y with
  | non=>cases ry;exact PySem.EqNone.eq_int_none (bI I q (by simp))
  | int j=>obtain ⟨t',rfl⟩:=ry;exact eq_int (bI I q B')
  | str j=>obtain ⟨t',rfl⟩:=ry;exact PySem.EqMixed.eq_int_str (bI I q (by simp))
  | _=>exact absurd (show false=true from hs) Ve
 | str i =>
  obtain ⟨t,rfl⟩:=rx
  cases y with
  | non=>cases ry;exact PySem.EqNone.eq_str_none (bI I q (by simp))
  | bl j=>cases ry;exact PySem.EqMixed.eq_str_bool (bI I q (by simp))
  | int j=>obtain ⟨t',rfl⟩:=ry;exact PySem.EqMixed.eq_str_int (bI I q (by simp))
  | str j=>obtain ⟨t',rfl⟩:=ry;exact eq_str (bI I q Ca)
  | _=>exact absurd (show false=true from hs) Ve
 | byt i =>
  obtain ⟨t,rfl⟩:=rx
  cases y with
  | byt j=>obtain ⟨t',rfl⟩:=ry;exact PySem.W.eq_bytes (bI I q B_)
  | _=>exact absurd (show false=true from hs) Ve
 | _=>cases y <;> exact absurd (show false=true from hs) Ve
theorem LJ:fI X (compareOp .NotEq) Ux:=by
 intro pins s σ H x y v u Q I rx ry h
 obtain ⟨hs,q⟩:=h
 cases x with
 | non =>
  cases rx
  cases y with
  | non=>cases ry;exact PySem.EqNone.ne_none_none (bI I q (by simp))
  | bl j=>cases ry;exact PySem.EqNone.ne_none_bool (bI I q (by simp))
  | int j=>obtain ⟨t',rfl⟩:=ry;exact PySem.EqNone.ne_none_int (bI I q (by simp))
  | str j=>obtain ⟨t',rfl⟩:=ry;exact PySem.EqNone.ne_none_str (bI I q (by simp))
  | _=>exact absurd (show false=true from hs) Ve
 | bl i =>
  cases rx
  cases y with
  | non=>cases ry;exact PySem.EqNone.ne_bool_none (bI I q (by simp))
  | bl j=>cases ry;exact ne_bool (bI I q (congrArg not Fz))
  | str j=>obtain ⟨t',rfl⟩:=ry;exact PySem.EqMixed.ne_bool_str (bI I q (by simp))
  | _=>exact absurd (show false=true from hs) Ve
 | int i =>
  obtain ⟨t,rfl⟩:=rx
  cases y with
  | non=>cases ry;exact PySem.EqNone.ne_int_none (bI I q (by simp))
  | int j=>obtain ⟨t',rfl⟩:=ry;exact ne_int (bI I q (congrArg not B'))
  | str j=>obtain ⟨t',rfl⟩:=ry;exact PySem.EqMixed.ne_int_str (bI I q (by simp))
  | _=>exact absurd (show false=true from hs) Ve
 | str i =>
  obtain ⟨t,rfl⟩:=rx
  cases y with
  | non=>cases ry;exact PySem.EqNone.ne_str_none (bI I q (by simp))
  | bl j=>cases ry;exact PySem.EqMixed.ne_str_bool (bI I q (by simp))
  | int j=>obtain ⟨t',rfl⟩:=ry;exact PySem.EqMixed.ne_str_int (bI I q (by simp))
  | str j=>obtain ⟨t',rfl⟩:=ry;exact ne_str (bI I q (congrArg not Ca))
  | _=>exact absurd (show false=true from hs) Ve
 | byt i =>
  obtain ⟨t,rfl⟩:=rx
  cases y with
  | byt j=>obtain ⟨t',rfl⟩:=ry;exact PySem.W.ne_bytes (bI I q (congrArg not B_))
  | _=>exact absurd (show false=true from hs) Ve
 | _=>cases y <;> exact absurd (show false=true from hs) Ve
theorem Cz:fI X (compareOp .Lt) (Ik λi j=>.bl (decide (i < j))):=JO λ_ _ _ _ _ _ _ q=>lt_int q
theorem LH:fI X (compareOp .LtE) (Ik λi j=>.bl (decide (i≤j))):=JO λ_ _ _ _ _ _ _ q=>le_int q
theorem LF:fI X (compareOp .Gt) (Ik λi j=>.bl (decide (j < i))):=JO λ_ _ _ _ _ _ _ q=>gt_int q
theorem LD:fI X (compareOp .GtE) (Ik λi j=>.bl (decide (j≤i))):=JO λ_ _ _ _ _ _ _ q=>ge_int q
theorem Et:fI X (compareOp .Lt) (λx y H Q=>∃i j,x=.str i∧y=.str j∧Q (.bl (decide (i.cps.toList < j.cps.toList))) H):=by
 intro pins s σ H x y v u Q I rx ry h
 obtain ⟨i,j,rfl,rfl,q⟩:=h
 obtain ⟨t,rfl⟩:=rx
 obtain ⟨t',rfl⟩:=ry
 exact lt_str (bI I q rfl)
theorem NO:fI X (compareOp .Is) (λx y H Q=>y=.non∧Q (.bl (decide (x=.non))) H):=by
 intro pins s σ H x y v u Q I rx ry h
 obtain ⟨rfl,q⟩:=h
 cases ry
 refine is_none_gen (bI I q ?_)
 cases x <;> first
  | (cases rx;rfl)
  | (obtain ⟨t,rfl⟩:=rx;rfl)
theorem JR:fI X (compareOp .IsNot) (λx y H Q=>y=.non∧Q (.bl (!decide (x=.non))) H):=by
 intro pins s σ H x y v u Q I rx ry h
 obtain ⟨rfl,q⟩:=h
 cases ry
 refine isnot_none_gen (bI I q ?_)
 cases x <;> first
  | (cases rx;rfl)
  | (obtain ⟨t,rfl⟩:=rx;rfl)
theorem fI.or {f:Value→Value→Sem Value} {r r':R2} (h:fI X f r) (h':fI X f r'):fI X f (λx y H Q=>r x y H Q∨r' x y H Q):=by
 intro pins s σ H x y v u Q I rx ry q
 rcases q with q | q
 ·exact h pins s σ H x y v u Q I rx ry q
 ·exact h' pins s σ H x y v u Q I rx ry q
theorem fw (b:Expr) {op:CmpOp} (h:op≠.In:=by decide) (h2:op≠.NotIn:=by decide):behindInMarks op b=false:=by
 have e1:(op == CmpOp.In)=false:=by cases op <;> first | rfl | exact absurd rfl h
 have e2:(op == CmpOp.NotIn)=false:=by cases op <;> first | rfl | exact absurd rfl h2
 cases b <;> simp [behindInMarks,e1,e2]
theorem qX {op:CmpOp} {r:R2} (ho:fI X (compareOp op) r) (ha:PE X a ta) (hb:PE X b tb) (hm:behindInMarks op b=false):PE X (.Compare a [op] [b] pos) (HU r ta tb):=by
 intro pins s σ H Q I h
 exact wpAny_Compare1 (MP ha hb I h λv u s2 x y H2 I2 rx ry q=>ho pins s2 σ H2 x y v u Q I2 rx ry q) hm
def Dp (t:TE):TT:=λσ H Q=>t σ H λx H'=>∃k,x=.bl k∧Q k H'
theorem d7 {op:CmpOp} {r:R2} (ho:fI X (compareOp op) r) (ha:PE X a ta) (hb:PE X b tb) (hm:behindInMarks op b=false):PT X (.Compare a [op] [b] pos) (Dp (HU r ta tb)):=by
 intro pins s σ H Q I h
 refine wpAny_isTrue_Compare1 (cG (ha pins s σ H _ I h) λv s1 ⟨x,H1,I1,r1,q1⟩=>cG (hb pins s1 σ H1 _ I1 q1) λu s2 ⟨y,H2,I2,r2,q2⟩ =>
  cG (ho pins s2 σ H2 x y v u _ I2 r1 r2 q2) λc s3 ⟨z,H3,I3,r3,k,e,q3⟩=>?_) hm
 subst e
 cases r3
 exact wpAny_truthy_bool ⟨H3,I3,q3⟩
def HN (r r':R2) (ta tb tc:TE):TE:=λσ H Q=>ta σ H λx H1=>tb σ H1 λy H2=>r x y H2 λz H3=>∃k,z=.bl k ∧
 (if k=true then tc σ H3 λw' H4=>r' y w' H4 Q else Q (.bl false) H3)
theorem GV {op op':CmpOp} {r r':R2} (ho:fI X (compareOp op) r) (ho':fI X (compareOp op') r') (ha:PE X a ta) (hb:PE X b tb) (hc:PE X c tc)
  (hm:lastMarks [op,op'] [b,c]=false:=by with_unfolding_all rfl):PE X (.Compare a [op,op'] [b,c] pos) (HN r r' ta tb tc):=by
 intro pins s σ H Q I h
 refine Compare_chain (cG (ha pins s σ H _ I h) λv s1 ⟨x,H1,I1,r1,q1⟩=>chain_link (cG (hb pins s1 σ H1 _ I1 q1) λu s2 ⟨y,H2,I2,r2,q2⟩ =>
  cG (ho pins s2 σ H2 x y v u _ I2 r1 r2 q2) λd s3 ⟨z,H3,I3,r3,k,e,q3⟩=>?_)) hm
 subst e
 cases r3
 refine wpAny_truthy_bool ?_
 cases k with
 | false=>exact ite_ff ⟨.bl false,H3,I3,rfl,q3⟩
 | true=>exact ite_tt (chain_last (cG (hc pins s3 σ H3 _ I3 q3) λw' s4 ⟨z',H4,I4,r4,q4⟩=>ho' pins s4 σ H4 y z' u w' Q I4 r2 r4 q4))
def MG (K:PySem.W.Frag) (x:V) (H:Hp) (k:Bool):Prop :=
 match x with
 | .non=>k=false
 | .bl b=>k=b
 | .int i=>k=(i != 0)
 | .str y=>y.length≤sizeLine∧k=((y.length:Int) != 0)
 | .byt y=>y.size≤sizeLine∧k=((y.size:Int) != 0)
 | .ref p=>(∃xs,dq K H p xs∧k=!xs.isEmpty)∨(∃xs,g8 K H p xs∧k=!xs.isEmpty)∨∃kvs ep,H p=some (.dE kvs ep)∧k=!kvs.isEmpty
 | _=>False
theorem AY {κ:Type} {kvs:List (κ × V)} {vs:List (κ × Value)} (r:KV kvs vs):(!vs.isEmpty)=!kvs.isEmpty:=by
 cases r <;> rfl
theorem so {xs:List V} {its:List Value} (r:Vals xs its):(!its.toArray.isEmpty)=!xs.isEmpty:=by
 cases r <;> simp
theorem mR:(sizeLine:Nat) < 2 ^ 63:=by rw [sizeLine_eq];decide
theorem Ot:Sa X (λx H Q=>∃k,MG X.K x H k∧Q k H):=by
 intro pins s σ H x v Q I rx h
 obtain ⟨k,e,q⟩:=h
 have hl:=mR
 have hs:sizeLine=16777216:=sizeLine_eq
 cases x with
 | non =>
  cases rx
  have e':k=false:=e
  subst e'
  exact truthy_none ⟨H,I,q⟩
 | bl b =>
  cases rx
  have e':k=b:=e
  subst e'
  exact wpAny_truthy_bool ⟨H,I,q⟩
 | int i =>
  obtain ⟨t,rfl⟩:=rx
  have e':k=(i != 0):=e
  subst e'
  exact PySem.P.truthy_int ⟨H,I,q⟩
 | str y =>
  obtain ⟨t,rfl⟩:=rx
  obtain ⟨hy,e'⟩:y.length≤sizeLine∧k=((y.length:Int) != 0):=e
  subst e'
  exact PySem.P.truthy_str (by omega) ⟨H,I.tok _,q⟩
 | byt y =>
  obtain ⟨t,rfl⟩:=rx
  obtain ⟨hy,e'⟩:y.size≤sizeLine∧k=((y.size:Int) != 0):=e
  subst e'
  exact PySem.W.truthy_bytes (by omega) ⟨H,I.tok _,q⟩
 | ref p =>
  cases rx
  have e':(∃xs,dq X.K H p xs∧k=!xs.isEmpty)∨(∃xs,g8 X.K H p xs∧k=!xs.isEmpty)∨∃kvs ep,H p=some (.dE kvs ep)∧k=!kvs.isEmpty:=e
  rcases e' with ⟨xs,hx,e'⟩ | ⟨xs,hx,e'⟩ | ⟨kvs,ep,hx,e'⟩
  ·subst e'
   obtain ⟨its,r,pl,hz⟩:=I.list hx
   have hlen:=r.length
   exact wpAny_truthy_list pl.isList (by simp only [U5];omega) ⟨H,I.tok _,by rw [so r];exact q⟩
  ·subst e'
   obtain ⟨its,r,pl,hz⟩:=I.tuple hx
   have hlen:=r.length
   exact truthy_tuple pl (by simp only [U5];omega) ⟨H,I.tok _,by rw [so r];exact q⟩
  ·subst e'
   obtain ⟨hz,hS,vs,r,m⟩:kvs.length≤sizeLine∧(p == sysModules)=false∧∃vs,KV kvs vs∧s.heap.DictAt (strKind X.prog X.w) p vs ep:=I.hok p _ hx
   have hlen:kvs.length=vs.length:=Paired.length r
   exact wpAny_truthy_dict hS m.dictOf (by omega) ⟨H,I.tok _,by rw [AY r];exact q⟩
 | _=>exact (show False from e).elim
theorem G1 (ha:PE X a ta) (he:∀whole,isTrue a X.env whole=(do let v ← whole;standAt a.pos;holding [v] (truthy v))) :
  PT X a (λσ H Q=>ta σ H λx H'=>∃k,MG X.K x H' k∧Q k H'):=by
 intro pins s σ H Q I h
 exact isTrue_plain (cG (ha pins s σ H _ I h) λv s1 ⟨x,H1,I1,r1,q1⟩=>Ot pins s1 σ H1 x v Q I1 r1 q1) (he _)
theorem vals1 {x:V} {us:List Value} (r:Vals [x] us):∃u,us=[u]∧RelV x u:=by
 cases r with
 | cons r1 r2=>cases r2;exact ⟨_,rfl,r1⟩
theorem vals2 {x y:V} {us:List Value} (r:Vals [x,y] us):∃u w',us=[u,w']∧RelV x u∧RelV y w':=by
 cases r with
 | cons r1 r2 =>
  cases r2 with
  | cons r3 r4=>cases r4;exact ⟨_,_,rfl,r1,r3⟩
theorem nJ:cq X (.builtin "abs") (λxs H Q=>∃i,xs=[.int i]∧Q (.int (if i < 0 then -i else i)) H):=by
 intro pins s σ H xs us Q I r h
 obtain ⟨i,rfl,q⟩:=h
 obtain ⟨u,rfl,t,rfl⟩:=vals1 r
 exact call_abs_int λu tk=>⟨.int (if i < 0 then -i else i),H,I.tok _,⟨_,rfl⟩,q⟩
theorem DL:cq X (.type "int") (λxs H Q=>(∃i,xs=[.int i]∧Q (.int i) H)∨∃k,xs=[.bl k]∧Q (.int (if k then 1 else 0)) H):=by
 intro pins s σ H xs us Q I r h
 rcases h with ⟨i,rfl,q⟩ | ⟨k,rfl,q⟩
 ·obtain ⟨u,rfl,t,rfl⟩:=vals1 r
  exact call_int_int ⟨.int i,H,I,⟨_,rfl⟩,q⟩
 ·obtain ⟨u,rfl,r1⟩:=vals1 r
  cases r1
  exact call_int_bool ⟨.int (if k then 1 else 0),H,I.tok _,⟨_,rfl⟩,q⟩
end
end L2
namespace L2
open PySem PySem.Spec PyProof.Rows
structure AB (h:Heap) (x dx C:Addr) (mA:Str→Option Value):Prop where
 obj:h.get? x=some (PySem.W.instObj C dx)
 ns:h.Ns1 dx mA
 ne:dx≠x
theorem D7 {h:Heap} {dx:Addr} {mA:Str→Option Value} (n:h.Ns1 dx mA):∃od,h.get? dx=some od∧∀name,PySem.W.lookIn name od=some (mA name):=by
 obtain ⟨o,es,ep,ho,hd,hk,_,hm⟩:=n
 refine ⟨o,ho,λname=>?_⟩
 have e:=hm name
 unfold nsFind findBy at e
 rw [← Array.find?_toList] at e
 unfold PySem.W.lookIn
 rw [hd]
 dsimp only
 split
 ·rename_i y q
  rw [q] at e
  exact congrArg some e
 ·rename_i q
  rw [q] at e
  have a:es.toList.any (·.refKey)=false:=by
   rw [List.any_eq_false]
   intro y hy
   obtain ⟨z,t,hkey⟩:=hk y (Array.mem_toList_iff.mp hy)
   simp [DictEntry.refKey,hkey]
  have a':¬ es.toList.any (·.refKey)=true:=by rw [a];exact Ve
  rw [if_neg a']
  exact congrArg some e
theorem AB.look {h:Heap} {x dx C:Addr} {mA:Str→Option Value} (I:AB h x dx C mA):∃od,PySem.W.InstAt h x (PySem.W.instObj C dx) C (some od)∧∀name,PySem.W.lookIn name od=some (mA name) :=
 let ⟨od,ho,hl⟩:=D7 I.ns
 ⟨od,⟨I.obj,rfl,rfl,ho⟩,hl⟩
section
variable {prog:Program} {w:World} {A:Around} {E:Value→Shared→Prop} {s:Shared} {K:PySem.W.Frag} {x dx C f:Addr} {mA:Str→Option Value} {name:Str} {v:Value}
theorem get_map {expr:Bool} {Q:Value→Shared→Prop} (X:K.In s.heap) (I:AB s.heap x dx C mA) (hg:PySem.W.plainGet K C name=true) (hh:PySem.W.hasDictIn K C=true)
  (ha:PySem.W.findIn K (.ref C) name=some none) (hv:mA name=some v) (hv':PySem.W.handedIn v=true) (h:Q v { s with toks:=s.toks + 1 }) :
  wpAny (model prog w) A (getAttr (.ref x) name expr) Q E s:=by
 obtain ⟨od,J,hl⟩:=I.look
 exact PySem.W.get_value X J (PySem.W.plainGet_of hg).1 (PySem.W.findObj_own hh ha rfl (by rw [hl,hv])) hv' h
theorem FO {pl:Sem Bool} {Q:Value × List Value→Shared→Prop} (X:K.In s.heap) (I:AB s.heap x dx C mA) (hg:PySem.W.plainGet K C name=true)
  (hf:PySem.W.findIn K (.ref C) name=some (some (.ref f))) (ht:PySem.W.isFn K (.ref f)=true) (hv:mA name=none) (h:Q (.ref f,[.ref x]) s) :
  wpAny (model prog w) A (getMethod (.ref x) name pl) Q E s:=by
 obtain ⟨od,J,hl⟩:=I.look
 exact PySem.W.method_fn X J (PySem.W.plainGet_of hg).1 (PySem.W.plainGet_of hg).2 hf (beq_iff_eq.mp ht) (by show (PySem.W.lookIn name od).map (·.isSome)=some false;rw [hl,hv];rfl) h
theorem KN {ns:List Str} {Q:Unit→Shared→Prop} (X:K.In s.heap) (I:AB s.heap x dx C mA)
  (hs:PySem.W.findIn K (.ref C) "__setattr__"=some (some (.builtin "object.__setattr__"))) (hp:PySem.W.plainOver K C=true) (ht:PySem.W.takerIn K C name=some none) (hh:PySem.W.hasDictIn K C=true)
  (hw:PySem.Within mA ns) (hsz:ns.length≤sizeLine)
  (h:∀h',AB h' x dx C (λy=>if y=name then some v else mA y)→Heap.SameBut dx s.heap h'→Q () { s with heap:=h',toks:=s.toks + 2 }) :
  wpAny (model prog w) A (setAttr (.ref x) name v) Q E s:=by
 obtain ⟨od,J,hl⟩:=I.look
 refine PySem.W.set_plain X J hs (PySem.W.osa_open (s:={ s with toks:=s.toks + 1 }) (r:=none) X J hp ht λb=>?_)
 obtain ⟨cd,hc,hd'⟩:=PySem.W.any_some hh
 have hx:s.heap.get? x=some ⟨.ref C,some dx,.plain,#[]⟩:=I.obj
 refine wpAny_bind (wpAny_pure (wpAny_bind (wpAny_bind (wpAny_loadPart hx (wpAny_bind (PySem.W.Looks.here (s:={ s with toks:=s.toks + 1 }) (PySem.W.looks_clsIn X hc) ?_))))))
 rw [hd']
 refine wpAny_pure (a:=some dx) (wpAny_bind (wpAny_pure (wpAny_bind ?_)))
 refine wpAny_nsSet1 (s:={ s with toks:=s.toks + 1 }) I.ns λh' hn2 hs2=>?_
 obtain ⟨oD,esD,epD,hoD,hdD,hcD⟩:=hn2.count (PySem.Within.cons name v hw)
 refine wpAny_bind (wpAny_lookBehind hoD (by rw [hdD];exact pastItsLine_dict (Vh hcD (by rw [Vk];omega))) ?_)
 exact wpAny_pure (h _ ⟨(hs2.2 _ (Ne.symm I.ne)).trans I.obj,hn2,I.ne⟩ hs2)
theorem Gp {R:Result→Shared→Prop} {vs:List Value} {kw:List (Str × Value)} (X:K.In s.heap) (hm:PySem.W.makesIn K C=true)
  (hi:PySem.W.findIn K (.ref C) "__init__"=some (some (.ref f))) (hf:PySem.W.typeIn K (.ref f)=some (.type "function"))
  (h:codeAny (model prog w) (A.under (.builtin "type.__call__" ⟨.ref C :: vs,kw⟩)) (.call (.ref f) ⟨.ref (s.heap.objs.size + 1) :: vs,kw⟩) (PySem.W.InitBack (s.heap.objs.size + 1) R)
   { s with heap:=(s.heap.push PySem.W.emptyDict).push (PySem.W.instObj C s.heap.objs.size) }) :
  codeAny (model prog w) A (.call (.ref C) ⟨vs,kw⟩) R s:=by
 obtain ⟨hh,g,d,t,os⟩:=s
 exact PySem.W.make_core (PySem.W.makes_of X hm) (PySem.W.looks_findIn X hi) (λself=>PySem.W.bind_fn X self hf) (.inl rfl) h
end
def fA (f:Str) (v:V):List (Str × V)→List (Str × V)
 | []=>[(f,v)]
 | (g,x) :: r=>if g=f then (g,v) :: r else (g,x) :: fA f v r
theorem qh (f g:Str) (v:V):∀fs:List (Str × V),(fA f v fs).lookup g=if g=f then some v else fs.lookup g
 | []=>by
  show Wo g [(f,v)]=_
  by_cases h:g=f
  ·have hb:(g == f)=true:=beq_iff_eq.mpr h
   simp only [Wo,hb,if_pos h]
  ·have hb:(g == f)=false:=beq_eq_false_iff_ne.mpr h
   simp only [Wo,hb,if_neg h]
 | (k,x) :: r=>by
  have ih:=qh f g v r
  rw [show fA f v ((k,x) :: r)=(if k=f then (k,v) :: r else (k,x) :: fA f v r) from rfl]
  by_cases hk:k=f
  ·rw [if_pos hk]
   by_cases h:g=k
   ·have hb:(g == k)=true:=beq_iff_eq.mpr h
    simp only [Wo,hb,if_pos (h.trans hk)]
   ·have hb:(g == k)=false:=beq_eq_false_iff_ne.mpr h
    simp only [Wo,hb,if_neg (λe:g=f=>h (e.trans hk.symm))]
  ·rw [if_neg hk]
   by_cases h:g=k
   ·have hb:(g == k)=true:=beq_iff_eq.mpr h
    simp only [Wo,hb,if_neg (λe:g=f=>hk (h.symm.trans e))]
   ·have hb:(g == k)=false:=beq_eq_false_iff_ne.mpr h
    simp only [Wo,hb]
    exact ih
theorem ph (f:Str) (v:V):∀fs:List (Str × V),f∈(fA f v fs).map (·.1)∧∀g,g∈fs.map (·.1)→g∈(fA f v fs).map (·.1)
 | []=>⟨by simp [fA],λg h=>by simp at h⟩
 | (k,x) :: r=>by
  obtain ⟨i1,i2⟩:=ph f v r
  rw [show fA f v ((k,x) :: r)=(if k=f then (k,v) :: r else (k,x) :: fA f v r) from rfl]
  by_cases hk:k=f
  ·rw [if_pos hk]
   subst hk
   exact ⟨by simp,λg h=>by simpa using h⟩
  ·rw [if_neg hk]
   refine ⟨?_,λg h=>?_⟩
   ·rw [U6]
    exact Vo _ i1
   ·rw [U6] at h ⊢
    rcases Vb.mp h with e | e
    ·exact Vb.mpr (.inl e)
    ·exact Vo _ (i2 g e)
theorem qg (f:Str) (v:V):∀fs:List (Str × V),(fA f v fs).length≤fs.length + 1
 | []=>by simp [fA]
 | (k,x) :: r=>by
  have ih:=qg f v r
  rw [show fA f v ((k,x) :: r)=(if k=f then (k,v) :: r else (k,x) :: fA f v r) from rfl]
  by_cases hk:k=f
  ·rw [if_pos hk,Vk,Vk];omega
  ·rw [if_neg hk,Vk,Vk];omega
theorem uC.some_of {v:V} {o:Option Value} (r:uC (some v) o):∃u,o=some u∧RelV v u:=by
 cases o with
 | none=>exact (show False from r).elim
 | some u=>exact ⟨u,rfl,r⟩
theorem uC.none_of {o:Option Value} (r:uC none o):o=none:=by
 cases o with
 | none=>rfl
 | some u=>exact (show False from r).elim
theorem DU {v:V} {u:Value} (r:RelV v u):PySem.W.handedIn u=true:=by
 cases v with
 | non=>cases (show u=Value.none from r);rfl
 | bl b=>cases (show u=Value.bool b from r);rfl
 | int i=>obtain ⟨t,e⟩:=(show ∃t,u=Value.int i t from r);cases e;rfl
 | str x=>obtain ⟨t,e⟩:=(show ∃t,u=Value.str x t from r);cases e;rfl
 | byt b=>obtain ⟨t,e⟩:=(show ∃t,u=Value.bytes b t from r);cases e;rfl
 | flt b=>obtain ⟨t,e⟩:=(show ∃t,u=Value.float b t from r);cases e;rfl
 | ref a=>cases (show u=Value.ref a from r);rfl
 | ty n=>cases (show u=Value.type n from r);rfl
section
variable {P:Program} {w:World} {H H':Hp} {h h':Heap} {a C dx:Addr} {fs fs':List (Str × V)}
theorem qP (hok:nt P w H h) (e:H a=some (.ins C dx fs)):∃mA,AB h a dx C mA∧(∀f,uC (fs.lookup f) (mA f))∧PySem.Within mA (fs.map (·.1))∧fs.length≤1000∧H dx=some (.own a):=by
 obtain ⟨d,z,ne,ob,mA,n,r,q⟩:=(show dP P w H h a (.ins C dx fs) from hok a _ e)
 exact ⟨mA,⟨ob,n,ne⟩,r,q,z,d⟩
end
structure qK (K:PySem.W.Frag) (C:Addr):Prop where
 pg:PySem.W.plainGet K C Str.empty=true
 hd:PySem.W.hasDictIn K C=true
 po:PySem.W.plainOver K C=true
 sa:PySem.W.findIn K (.ref C) "__setattr__"=some (some (.builtin "object.__setattr__"))
theorem qK.get {K:PySem.W.Frag} {C:Addr} (c:qK K C) (f:Str):PySem.W.plainGet K C f=true:=c.pg
def aK (K:PySem.W.Frag) (C:Addr) (f:Str):Prop:=PySem.W.findIn K (.ref C) f=some none
theorem aK.Rj {K:PySem.W.Frag} {C:Addr} {f:Str} (n:aK K C f):PySem.W.takerIn K C f=some none:=by
 unfold PySem.W.takerIn
 rw [show PySem.W.findIn K (.ref C) f=some none from n]
 rfl
structure Meth (K:PySem.W.Frag) (C:Addr) (m:Str) (f:Addr):Prop where
 at_:PySem.W.findIn K (.ref C) m=some (some (.ref f))
 fn:PySem.W.isFn K (.ref f)=true
 kp:PySem.W.keepIn K (.ref f)=true
section
variable {X:Cx} {pins:List (Addr × Obj)} {σ:St} {H:Hp} {s:Shared} {a C dx:Addr} {fs:List (Str × V)} {f:Str} {v:V} {A:Around} {E:Value→Shared→Prop}
theorem AV {b:Bool} {Q:Value→Shared→Prop} (I:Inv X pins σ H s) (e:H a=some (.ins C dx fs)) (c:qK X.K C) (n:aK X.K C f) (l:fs.lookup f=some v)
  (h:∀u s',Inv X pins σ H s'→RelV v u→Q u s'):wpAny (model X.prog X.w) A (getAttr (.ref a) f b) Q E s:=by
 obtain ⟨mA,O,r,_,_,_⟩:=qP I.hok e
 obtain ⟨u,hu,ru⟩:=uC.some_of (v:=v) (o:=mA f) (by rw [← l];exact r f)
 exact get_map I.mO O (c.get f) c.hd n hu (DU ru) (h u _ (I.tok _) ru)
theorem sh {m:Str} {g:Addr} {pl:Sem Bool} {Q:Value × List Value→Shared→Prop} (I:Inv X pins σ H s) (e:H a=some (.ins C dx fs)) (c:qK X.K C) (k:Meth X.K C m g) (l:fs.lookup m=none)
  (h:Q (.ref g,[.ref a]) s):wpAny (model X.prog X.w) A (getMethod (.ref a) m pl) Q E s:=by
 obtain ⟨mA,O,r,_,_,_⟩:=qP I.hok e
 have hn:mA m=none:=uC.none_of (by rw [← l];exact r m)
 exact FO I.mO O (c.get m) k.at_ k.fn hn h
theorem BK {y:V} {u:Value} {Q:Unit→Shared→Prop} (I:Inv X pins σ H s) (e:H a=some (.ins C dx fs)) (c:qK X.K C) (n:aK X.K C f) (hl:fs.length < 1000) (ry:RelV y u)
  (h:∀s',Inv X pins σ (upd H a (.ins C dx (fA f y fs))) s'→Q () s'):wpAny (model X.prog X.w) A (setAttr (.ref a) f u) Q E s:=by
 obtain ⟨mA,O,r,wi,_,ho⟩:=qP I.hok e
 have hz:(fs.map (·.1)).length≤sizeLine:=by rw [UZ,sizeLine_eq];omega
 refine KN I.mO O c.sa c.po n.Rj c.hd wi hz λh' O' sb=>h _ ?_
 have hd:∃o,h'.get? dx=some o:=let ⟨o,_,_,e',_⟩:=O'.ns;⟨o,e'⟩
 refine I.write (x:=a) (e:=dx) (by rw [e];exact True.intro) (.inr ho) (λb q hb z=>(sb.2 b hb).trans z) hd ?_
 refine ⟨by rw [aM O.ne];exact ho,?_,O.ne,O'.obj,_,O'.ns,λg=>?_,λg hg=>?_⟩
 ·have:=qg f y fs;omega
 ·show uC ((fA f y fs).lookup g) (if g=f then some u else mA g)
  rw [qh]
  by_cases q:g=f
  ·rw [if_pos q,if_pos q];exact ry
  ·rw [if_neg q,if_neg q];exact r g
 ·by_cases q:g=f
  ·rw [q];exact (ph f y fs).1
  ·refine (ph f y fs).2 g (wi g λz=>hg ?_)
   show (if g=f then some u else mA g)=none
   rw [if_neg q];exact z
theorem Inv.made (I:Inv X pins σ H s):Inv X pins σ (upd (upd H s.heap.objs.size (.own (s.heap.objs.size + 1))) (s.heap.objs.size + 1) (.ins C s.heap.objs.size []))
  { s with heap:=(s.heap.push PySem.W.emptyDict).push (PySem.W.instObj C s.heap.objs.size) }:=by
 have e1:(s.heap.push PySem.W.emptyDict).get? s.heap.objs.size=some PySem.W.emptyDict:=Heap.get?_push_size s.heap rfl
 have e2:((s.heap.push PySem.W.emptyDict).push (PySem.W.instObj C s.heap.objs.size)).get? (s.heap.objs.size + 1)=some (PySem.W.instObj C s.heap.objs.size):=by
  have:=Heap.get?_push_size (s.heap.push PySem.W.emptyDict) (o:=PySem.W.instObj C s.heap.objs.size) rfl
  rwa [Heap.size_push] at this
 have e3:(s.heap.push PySem.W.emptyDict).Ns s.heap.objs.size (λ_=>none):=⟨PySem.W.emptyDict,#[],_,e1,rfl,(λe he=>absurd he (by simp)),λ_=>rfl⟩
 have I1:=I.laid (a:=s.heap.objs.size) (o:=.own (s.heap.objs.size + 1)) (h':=s.heap.push PySem.W.emptyDict) (t':=s.toks) (λb u q=>Heap.get?_push_of_some _ q) (U4 _) ⟨_,e1⟩
 refine I1.laid (a:=s.heap.objs.size + 1) (o:=.ins C s.heap.objs.size []) (t':=s.toks) (λb u q=>Heap.get?_push_of_some _ q) (Nat.le_of_eq (Heap.size_push _ _)) ?_
 have ne:s.heap.objs.size≠s.heap.objs.size + 1:=Vj (Wc _)
 refine ⟨by rw [aM ne,aH],Vr _,ne,e2,λ_=>none,(Heap.Ns1.of_empty e3).at λo q=>Heap.get?_push_of_some _ q,λ_=>True.intro,λy hy=>absurd rfl hy⟩
theorem IW {prog:Program} {w:World} {env:Env} {e:Expr} {f:Str} {pos:Pos} {s:Shared} {Q:Value→Shared→Prop} (hb:attributeBase e f env (eval e env)=eval e env)
  (h:wpAny (model prog w) A (eval e env) (λo s₁=>wpAny (model prog w) A (getAttr o f true) Q E s₁) E s):wpAny (model prog w) A (eval (.Attribute e f pos) env) Q E s :=
 Attribute_any_ h (by rw [arm_eval_Attribute,hb])
end
def Tt (K:PySem.W.Frag) (ta:TE) (f:Str):TE:=λσ H Q=>ta σ H λx H1=>∃a C dx fs v,x=.ref a∧H1 a=some (.ins C dx fs)∧qK K C∧aK K C f∧fs.lookup f=some v∧Q v H1
def Tq (K:PySem.W.Frag) (ta tv:TE) (f:Str):TS:=λD σ H=>tv σ H λy H1=>ta σ H1 λx H2=>∃a C dx fs,x=.ref a∧H2 a=some (.ins C dx fs)∧qK K C∧aK K C f∧fs.length < 1000 ∧
 D.nx σ (upd H2 a (.ins C dx (fA f y fs)))
section
variable {X:Cx} {o e value:Expr} {f:Str} {pos pos' tpos:Pos} {ta tv:TE}
theorem NT (he:PE X e ta) (hb:attributeBase e f X.env (eval e X.env)=eval e X.env):PE X (.Attribute e f pos) (Tt X.K ta f):=by
 intro pins s σ H Q I h
 refine IW hb (cG (he pins s σ H _ I h) λu s1 ⟨x,H1,I1,rx,a,C,dx,fs,v,ex,ea,c,n,l,q⟩=>?_)
 subst ex
 obtain rfl:u=Value.ref a:=rx
 exact AV I1 ea c n l λu' s2 I2 ru=>⟨v,H1,I2,ru,q⟩
theorem NX (ha:PE X o ta) (hv:PE X value tv) (hs:swapsWith value (some (.Attribute o f pos')) pos.line X.env=pure false):PS X (.Assign [.Attribute o f pos'] value pos) (Tq X.K ta tv f):=by
 intro pins s σ H D I h
 refine plainObj_wpAny_Assign_Attribute (cG (hv pins s σ H _ I h) λu s1 ⟨y,H1,I1,ry,q⟩=>cG (ha pins s1 σ H1 _ I1 q) λov s2 ⟨x,H2,I2,rx,a,C,dx,fs,ex,ea,c,n,l,q2⟩=>?_) hs
 subst ex
 obtain rfl:ov=Value.ref a:=rx
 exact BK I2 ea c n l ry λs3 I3=>⟨σ,_,I3,q2⟩
end
section
variable {X:Cx} {pins:List (Addr × Obj)} {σ:St} {H:Hp} {s:Shared} {A:Around} {E:Value→Shared→Prop} {Q:Value→Shared→Prop} {c:Value} {b:Bool}
inductive g6 (K:PySem.W.Frag) (H:Hp):V→Value→Prop where
 | non:g6 K H .non (.type "NoneType")
 | bl (x:Bool):g6 K H (.bl x) (.type "bool")
 | int (i:Int):g6 K H (.int i) (.type "int")
 | str (x:Str):g6 K H (.str x) (.type "str")
 | flt (x:UInt64):g6 K H (.flt x) (.type "float")
 | lst {a:Addr} {xs:List V} (e:H a=some (.lst xs)):g6 K H (.ref a) (.type "list")
 | qO {a:Addr} {o:Obj} {xs:List V} (e:H a=some (.qO o (.lst xs))):g6 K H (.ref a) (.type "list")
 | tup {a:Addr} {xs:List V} (e:H a=some (.tup xs)):g6 K H (.ref a) (.type "tuple")
 | dK {a:Addr} {kvs:List (Key × V)} (e:H a=some (.dK kvs)):g6 K H (.ref a) (.type "dict")
 | dE {a:Addr} {kvs:List (Str × V)} {ep:Nat} (e:H a=some (.dE kvs ep)):g6 K H (.ref a) (.type "dict")
 | ins {a C dx:Addr} {fs:List (Str × V)} (e:H a=some (.ins C dx fs)) (cl:qK K C) (ha:PySem.W.findIn K (.ref C) "__class__"=some (some (.builtin "object.__class__")))
   (hn:PySem.W.specialIn K (.builtin "object.__class__") "__get__"=some (some (.builtin "getset_descriptor.__get__"))) (htk:PySem.W.takesIn K (.builtin "object.__class__")=some true)
   (hm:PySem.W.mroIn K C (.type "object")=some true):g6 K H (.ref a) (.ref C)
theorem DX {x:V} {u t:Value} (I:Inv X pins σ H s) (rx:RelV x u) (ty:g6 X.K H x t) (e:PySem.W.kitOne X.K t c=some b) (h:∀tk,Q (.bool b) { s with toks:=tk }) :
  wpAny (model X.prog X.w) A (call (.builtin "isinstance") [u,c]) Q E s:=by
 cases ty with
 | non=>cases (show u=Value.none from rx);exact PySem.W.kia_one PySem.W.kitx_none I.mO True.intro e (λz=>nomatch z) h
 | bl y=>cases (show u=Value.bool y from rx);exact PySem.W.kia_one PySem.W.kitx_bool I.mO True.intro e (λz=>nomatch z) h
 | int i=>obtain ⟨t,q⟩:=(show ∃t,u=Value.int i t from rx);cases q;exact PySem.W.kia_one PySem.W.kitx_int I.mO True.intro e (λz=>nomatch z) h
 | str y=>obtain ⟨t,q⟩:=(show ∃t,u=Value.str y t from rx);cases q;exact PySem.W.kia_one PySem.W.kitx_str I.mO True.intro e (λz=>nomatch z) h
 | flt y=>obtain ⟨t,q⟩:=(show ∃t,u=Value.float y t from rx);cases q;exact PySem.W.kia_one PySem.W.kitx_float I.mO True.intro e (λz=>nomatch z) h
 | @lst a xs ea =>
  cases (show u=Value.ref a from rx)
  obtain ⟨_,_,n,_,h1⟩:=(show dP X.prog X.w H s.heap a (.lst xs) from I.hok a _ ea)
  exact PySem.W.kia_one PySem.W.kitx_list I.mO ⟨_,h1,rfl⟩ e (λz=>nomatch z) h
 | @qO a ob xs ea =>
  cases (show u=Value.ref a from rx)
  obtain ⟨_,_,_,n,_,h1⟩:=(show dP X.prog X.w H s.heap a (.qO ob (.lst xs)) from I.hok a _ ea)
  exact PySem.W.kia_one PySem.W.kitx_list I.mO ⟨_,h1,rfl⟩ e (λz=>nomatch z) h
 | @tup a xs ea =>
  cases (show u=Value.ref a from rx)
  obtain ⟨_,_,_,p⟩:=(show dP X.prog X.w H s.heap a (.tup xs) from I.hok a _ ea)
  obtain ⟨o,h1,h2,_⟩:=p
  exact PySem.W.kia_one PySem.W.kitx_tuple I.mO ⟨o,h1,h2⟩ e (λz=>nomatch z) h
 | @dK a kvs ea =>
  cases (show u=Value.ref a from rx)
  obtain ⟨_,_,vs,_,p⟩:=(show dP X.prog X.w H s.heap a (.dK kvs) from I.hok a _ ea)
  obtain ⟨o,es,ep,h1,h2,_⟩:=p
  exact PySem.W.kia_one PySem.W.kitx_dict I.mO ⟨o,h1,h2.1⟩ e (λz=>nomatch z) h
 | @dE a kvs ep ea =>
  cases (show u=Value.ref a from rx)
  obtain ⟨_,_,vs,_,o,es,h1,h2,_⟩:=(show dP X.prog X.w H s.heap a (.dE kvs ep) from I.hok a _ ea)
  exact PySem.W.kia_one PySem.W.kitx_dict I.mO ⟨o,h1,h2.1⟩ e (λz=>nomatch z) h
 | @ins a C dx fs ea cl ha hn htk hm =>
  cases (show u=Value.ref a from rx)
  obtain ⟨mA,O,_⟩:=qP I.hok ea
  obtain ⟨od,J,_⟩:=O.look
  exact PySem.W.kia_one (PySem.W.kitx_own (cl.get _) cl.hd ha hn htk hm) I.mO J e (λz=>nomatch z) h
end
end L2
namespace L2
open PySem PySem.Spec PyProof.Rows
structure b9 (k:Nat) (A:Around):Prop where
 hd:A.handled=none
 dp:A.depth + 3 * k + 5 < recursionLimit
 un:A.units + 16 * k + 200 < cLine
theorem b9.mono {j k:Nat} {A:Around} (r:b9 k A) (h:j≤k):b9 j A:=⟨r.hd,by have:=r.dp;omega,by have:=r.un;omega⟩
theorem b9.deeper {k:Nat} {A:Around} (r:b9 (k + 1) A) (env:Env):b9 k (A.deeper env) :=
 ⟨r.hd,by have:=r.dp;show A.depth + 1 + 3 * k + 5 < _;omega,by have:=r.un;show A.units + 3 + 16 * k + 200 < _;omega⟩
theorem A7 {A:Around} {C:Addr} {us:List Value} {kw:List (Str × Value)}:(A.under (.builtin "type.__call__" ⟨.ref C :: us,kw⟩)).depth=A.depth + 1:=by
 first | rfl | simp [Around.under,Code.weight,Code.isCreation,Code.isGuard,Code.isCaller,Code.frames,Code.isFrame,guardIds]
theorem A8 {A:Around} {C:Addr} {us:List Value} {kw:List (Str × Value)}:(A.under (.builtin "type.__call__" ⟨.ref C :: us,kw⟩)).units=A.units + 1:=by
 first | rfl | simp [Around.under,Code.cUnits,Code.frames,Code.isFrame]
theorem b9.make {k:Nat} {A:Around} (r:b9 (k + 1) A) (C:Addr) (us:List Value) (kw:List (Str × Value)):b9 k (A.under (.builtin "type.__call__" ⟨.ref C :: us,kw⟩)) :=
 ⟨r.hd,by have:=r.dp;rw [A7];omega,by have:=r.un;rw [A8];omega⟩
theorem b9.depth {k:Nat} {A:Around} (r:b9 k A):A.depth < recursionLimit:=by have:=r.dp;omega
theorem b9.Oy {k:Nat} {A:Around} (r:b9 k A):A.units < cLine:=by have:=r.un;omega
def yb:TA:=λ_ H Q=>Q [] H
def fo (ta:TE) (tr:TA):TA:=λσ H Q=>ta σ H λx H1=>tr σ H1 λxs H2=>Q (x :: xs) H2
section
variable {X:Cx} {e:Expr} {es:List Expr} {te:TE} {t:TA} {pos:Pos}
theorem bj:PA X [] yb:=λ_ _ _ _ H Q I h=>Calls.spliced_nil ⟨[],H,I,.nil,h⟩
theorem aA (ha:PE X e te) (hr:PA X es t) (hs:starEach (e :: es) X.env=(false,eval e X.env) :: starEach es X.env:=by rfl):PA X (e :: es) (fo te t):=by
 intro pos pins s σ H Q I h
 rw [hs]
 show wpAny _ _ (spliced ((false,eval e X.env) :: backTo pos (starEach es X.env))) _ _ s
 refine Calls.spliced_cons (cG (ha pins s σ H _ I h) λu s1 ⟨x,H1,I1,r1,q1⟩=>?_)
 exact cG (hr pos pins s1 σ H1 _ I1 q1) λus s2 ⟨xs,H2,I2,r2,q2⟩=>⟨x :: xs,H2,I2,.cons r1 r2,q2⟩
def K1 (t:TA):TE:=λσ H Q=>t σ H λxs H1=>xs.length≤sizeLine∧∀p,H1 p=none→Q (.ref p) (upd H1 p (.tup xs))
def EI (t:TA):TE:=λσ H Q=>t σ H λxs H1=>xs.length≤sizeLine∧∀p,H1 p=none→Q (.ref p) (upd H1 p (.lst xs))
theorem sU {x1} (h:PA X es t):PE X (.Tuple es x1 pos) (K1 t):=by
 intro pins s σ H Q I hq
 refine wpAny_Tuple_spliced (cG (h pos pins s σ H _ I hq) λus s1 ⟨xs,H1,I1,r,z,q⟩=>⟨by rw [← r.length];exact z,?_⟩)
 have hf:H1 s1.heap.objs.size=none:=I1.hok.fresh (U4 _)
 refine ⟨.ref s1.heap.objs.size,upd H1 s1.heap.objs.size (.tup xs),I1.laid (t':=s1.toks) (λb u e=>Heap.get?_push_of_some _ e) (U4 _) ?_,rfl,q _ hf⟩
 exact ⟨z,us,r,⟨_,Heap.get?_push_size _ rfl,rfl,_,rfl⟩⟩
theorem jG (h:PA X es t):PE X (.List es pos) (EI t):=by
 intro pins s σ H Q I hq
 refine wpAny_List_spliced (cG (h pos pins s σ H _ I hq) λus s1 ⟨xs,H1,I1,r,z,q⟩=>⟨by rw [← r.length];exact z,?_⟩)
 have hf:H1 s1.heap.objs.size=none:=I1.hok.fresh (U4 _)
 refine ⟨.ref s1.heap.objs.size,upd H1 s1.heap.objs.size (.lst xs),I1.laid (t':=s1.toks) (λb u e=>Heap.get?_push_of_some _ e) (U4 _) ?_,rfl,q _ hf⟩
 exact ⟨z,us,0,r,Heap.get?_push_size _ rfl⟩
end
abbrev Sp:=List V→Hp→VK→XK→Prop
abbrev uc:=List Env→Hp→Shared→XK→Value→Shared→Prop
structure Aq (P:Program) (w:World) (K:PySem.W.Frag) (mg:Str→Option Value) (base:Heap) (A:Around) (outer:List Env) (s:Shared) (H:Hp):Prop where
 frames:A.frames=some outer
 mod:Mod K mg base
 bs:∀b o,base.get? b=some o→s.heap.get? b=some o∧H b=none
 bsz:base.objs.size≤s.heap.objs.size
 mM:s.heap.FunFrames base outer
 frf:∀b∈kb outer,H b=none
 hok:nt P w H s.heap
 bare:AllBare s.gens
def CE (outer:List Env) (P:Program) (w:World) (H:Hp) (s:Shared) (Q:VK) (u:Value) (s':Shared):Prop :=
 ∃v H',s'.os=s.os∧AllBare s'.gens∧Un (kb outer) [] H H' s.heap s'.heap∧nt P w H' s'.heap∧RelV v u∧Q v H'
def CR (CX:uc) (outer:List Env) (P:Program) (w:World) (H:Hp) (s:Shared) (Q:VK) (E:XK) (r:Result) (s':Shared):Prop :=
 match r with
 | .ok (.ret u)=>CE outer P w H s Q u s'
 | .ok _=>False
 | .error e=>CX outer H s E e s'
structure aO (P:Program) (w:World) (K:PySem.W.Frag) (mg:Str→Option Value) (base:Heap) (CX:uc) (k:Nat) (f:Addr) (fd:FuncData) (ps:List Str) (sp:Sp):Prop where
 len:∀vs H Q E,sp vs H Q E→vs.length=ps.length
 run:∀(A:Around) (outer:List Env) (s:Shared) (H:Hp) (args:Args) (us:List Value) (vs:List V) (Q:VK) (E:XK),b9 k A→Aq P w K mg base A outer s H→BindsTo s fd args (ps.zip us)→Vals vs us→sp vs H Q E →
  codeAny (model P w) A (.call (.ref f) args) (CR CX outer P w H s Q E) s
theorem aO.imp {P:Program} {w:World} {K:PySem.W.Frag} {mg:Str→Option Value} {base:Heap} {CX:uc} {k:Nat} {f:Addr} {fd:FuncData} {ps:List Str} {sp sp':Sp} (F:aO P w K mg base CX k f fd ps sp)
  (h:∀vs H Q E,sp' vs H Q E→sp vs H Q E):aO P w K mg base CX k f fd ps sp' :=
 ⟨λvs H Q E q=>F.len vs H Q E (h _ _ _ _ q),λA outer s H args us vs Q E hr he hb hv hs=>F.run A outer s H args us vs Q E hr he hb hv (h _ _ _ _ hs)⟩
theorem Aq.make {P:Program} {w:World} {K:PySem.W.Frag} {mg:Str→Option Value} {base:Heap} {A:Around} {outer:List Env} {s:Shared} {H:Hp} (e:Aq P w K mg base A outer s H) (C:Addr) (us:List Value) (kw:List (Str × Value)) :
  Aq P w K mg base (A.under (.builtin "type.__call__" ⟨.ref C :: us,kw⟩)) outer s H:=⟨by first | exact e.frames | (simpa [Around.under,Code.envs,Code.isFrame,pushEnvs] using e.frames),e.mod,e.bs,e.bsz,e.mM,e.frf,e.hok,e.bare⟩
section
variable {X:Cx} {pins:List (Addr × Obj)} {σ:St} {H:Hp} {s s':Shared}
theorem Inv.Pe (I:Inv X pins σ H s):Aq X.prog X.w X.K X.mg X.base X.A X.stack s H :=
 ⟨I.ok.frames,I.ok.mod,I.bs,Vh I.ok.bsz I.sz,I.stack,I.x_,I.hok,I.bare⟩
theorem Inv.after {Q:VK} {u:Value} (I:Inv X pins σ H s) (h:CE X.stack X.prog X.w H s Q u s'):EP X pins σ Q u s':=by
 obtain ⟨v,H',os,bare,un,hok,r,q⟩:=h
 obtain ⟨hh,g,d,t,os'⟩:=s'
 obtain rfl:os'=s.os:=os
 exact ⟨v,H',I.call (h':=hh) (g':=g) (d':=d) (t':=t) (ch:=[]) un hok bare (λb z=>absurd z (by simp)),r,q⟩
end
def t4 (sp:Sp) (dvs:List V) (E:XK) (t:TA):TE:=λσ H Q=>t σ H λvs H1=>sp (vs ++ dvs) H1 Q E
def HS (C:Addr) (m:Str) (sp:Sp) (dvs:List V) (E:XK) (ta:TE) (t:TA):TE:=λσ H Q=>ta σ H λx H1=>∃a dx fs,x=.ref a∧H1 a=some (.ins C dx fs)∧fs.lookup m=none ∧
 t σ H1 λvs H2=>sp (x :: (vs ++ dvs)) H2 Q E
def HR (C:Addr) (sp:Sp) (dvs:List V) (E:XK) (t:TA):TE:=λσ H Q=>t σ H λvs H1=>∀x dx,H1 x=none→H1 dx=none→dx≠x →
 sp (.ref x :: (vs ++ dvs)) (upd (upd H1 dx (.own x)) x (.ins C dx [])) (λv H2=>v=.non∧Q (.ref x) H2) E
def Binds (K:PySem.W.Frag) (fd:FuncData) (ps:List Str) (ds:List Value):Prop :=
 ∀(s:Shared) (us:List Value),K.In s.heap→(us ++ ds).length=ps.length→BindsTo s fd ⟨us,[]⟩ (ps.zip (us ++ ds))
theorem Binds.all {K:PySem.W.Frag} {fd:FuncData} {ps:List Str} (h:∀us:List Value,us.length=ps.length→bindArgs fd ⟨us,[]⟩=pure (ps.zip us)):Binds K fd ps []:=λs us _ hl=>by
 rw [VQ] at hl ⊢
 exact .of_eq (h us hl)
def Passes (CX:uc) (X:Cx) (E:XK):Prop:=∀(pins:List (Addr × Obj)) (σ:St) (H:Hp) (s:Shared) (e:Value) (s':Shared),Inv X pins σ H s→CX X.stack H s E e s'→X.xe e s'
section
variable {X:Cx} {CX:uc} {k:Nat} {f C:Addr} {fd:FuncData} {ps:List Str} {sp:Sp} {dvs:List V} {ds:List Value} {E:XK} {x m:Str} {p pos apos:Pos} {e o:Expr} {es:List Expr} {ta:TE} {t:TA}
theorem BA {pins:List (Addr × Obj)} {σ:St} {H:Hp} {s:Shared} {Q:VK} {us:List Value} {vs:List V} (F:aO X.prog X.w X.K X.mg X.base CX k f fd ps sp) (hr:b9 k X.A) (hb:Binds X.K fd ps ds) (hd:Vals dvs ds) (hx:Passes CX X E)
  (I:Inv X pins σ H s) (r:Vals vs us) (h:sp (vs ++ dvs) H Q E):wpAny (model X.prog X.w) X.A (call (.ref f) us) (EP X pins σ Q) X.xe s:=by
 have r2:Vals (vs ++ dvs) (us ++ ds):=r.append hd
 have hl:(us ++ ds).length=ps.length:=by rw [← r2.length];exact F.len _ _ _ _ h
 refine wpAny_call (codeAny_mono (F.run X.A X.stack s H ⟨us,[]⟩ (us ++ ds) (vs ++ dvs) Q E hr I.Pe (hb s us I.mO hl) r2 h) λr s' hq=>?_)
 cases r with
 | error e=>exact hx pins σ H s e s' I hq
 | ok fl =>
  cases fl with
  | ret u=>exact I.after hq
  | next=>exact False.elim hq
  | brk=>exact False.elim hq
  | cont=>exact False.elim hq
theorem CB (F:aO X.prog X.w X.K X.mg X.base CX k f fd ps sp) (hr:b9 k X.A) (hg:Gl X x) (hm:X.mg x=some (.ref f)) (hk:PySem.W.keepIn X.K (.ref f)=true) (hb:Binds X.K fd ps ds) (hd:Vals dvs ds) (hx:Passes CX X E)
  (ha:PA X (e :: es) t) (hdb:(x == ("__debug__":Str))=false:=by decide) (he:starEach (e :: es) X.env=(false,eval e X.env) :: starEach es X.env:=by rfl) (hpl:(backTo pos (starEach es X.env)).any (·.1)=false:=by rfl) :
  PE X (.Call (.Name x p) (e :: es) [] pos) (t4 sp dvs E t):=by
 intro pins s σ H Q I h
 refine wpAny_Call_Name_kw (lQ I hg hm ?_ hdb)
 refine PySem.W.callWith_K (h₀:=X.base) I.ok.mod.kin hk (cG (ha pos pins s σ H _ I h) λus s1 ⟨vs,H1,I1,r,q⟩=>⟨I1.mO,?_⟩) he hpl
 exact BA F hr hb hd hx I1 r q
theorem JY {pl:Sem Bool} (he:PE X o ta) (c:qK X.K C) (hm:Meth X.K C m f) (F:aO X.prog X.w X.K X.mg X.base CX k f fd ps sp) (hr:b9 k X.A) (hb:Binds X.K fd ps ds) (hd:Vals dvs ds) (hx:Passes CX X E) (ha:PA X (e :: es) t)
  (hst:starEach (e :: es) X.env=(false,eval e X.env) :: starEach es X.env:=by rfl) (hpl:(backTo pos (starEach es X.env)).any (·.1)=false:=by rfl)
  (ht:eval (.Call (.Attribute o m apos) (e :: es) [] pos) X.env=(do
   let ov ← eval o X.env
   standAt apos.atName
   let (f,first) ← holding [ov] (getMethod ov m pl)
   callWith pos f first (backTo pos (starEach (e :: es) X.env)) (backToKw pos (keywordEach [] X.env))):=by rfl) :
  PE X (.Call (.Attribute o m apos) (e :: es) [] pos) (HS C m sp dvs E ta t):=by
 intro pins s σ H Q I h
 refine PySem.W.methodCall_KW (pl:=pl) (cG (he pins s σ H _ I h) λu s1 ⟨x,H1,I1,rx,a,dx,fs,ex,ea,l,q⟩=>?_) ht
 subst ex
 obtain rfl:u=Value.ref a:=rx
 refine sh I1 ea c hm l ?_
 refine PySem.W.callWith_K (first:=[.ref a]) (h₀:=X.base) I.ok.mod.kin hm.kp (cG (ha pos pins s1 σ H1 _ I1 q) λus s2 ⟨vs,H2,I2,r,q2⟩=>⟨I2.mO,?_⟩) hst hpl
 exact BA (us:=.ref a :: us) (vs:=.ref a :: vs) F hr hb hd hx I2 (.cons rfl r) q2
theorem GX {pl:Sem Bool} (he:PE X o ta) (c:qK X.K C) (hm:Meth X.K C m f) (F:aO X.prog X.w X.K X.mg X.base CX k f fd ps sp) (hr:b9 k X.A) (hb:Binds X.K fd ps ds) (hd:Vals dvs ds) (hx:Passes CX X E)
  (ht:eval (.Call (.Attribute o m apos) [] [] pos) X.env=(do
   let ov ← eval o X.env
   standAt apos.atName
   let (f,first) ← holding [ov] (getMethod ov m pl)
   callWith pos f first (backTo pos (starEach [] X.env)) (backToKw pos (keywordEach [] X.env))):=by rfl) :
  PE X (.Call (.Attribute o m apos) [] [] pos) (HS C m sp dvs E ta yb):=by
 intro pins s σ H Q I h
 refine PySem.W.methodCall_KW (pl:=pl) (cG (he pins s σ H _ I h) λu s1 ⟨x,H1,I1,rx,a,dx,fs,ex,ea,l,q⟩=>?_) ht
 subst ex
 obtain rfl:u=Value.ref a:=rx
 refine sh I1 ea c hm l ?_
 exact PySem.W.callWith_K0 (first:=[.ref a]) I1.mO hm.kp (BA (us:=[.ref a]) (vs:=[.ref a]) F hr hb hd hx I1 (.cons rfl .nil) q)
structure Mk (K:PySem.W.Frag) (C f:Addr):Prop where
 makes:PySem.W.makesIn K C=true
 init:PySem.W.findIn K (.ref C) "__init__"=some (some (.ref f))
 fn:PySem.W.isFn K (.ref f)=true
 kp:PySem.W.keepIn K (.ref C)=true
theorem zB {pins:List (Addr × Obj)} {σ:St} {H:Hp} {s:Shared} {Q:VK} {us:List Value} {vs:List V} (M:Mk X.K C f) (F:aO X.prog X.w X.K X.mg X.base CX k f fd ps sp) (hr:b9 (k + 1) X.A) (hb:Binds X.K fd ps ds) (hd:Vals dvs ds)
  (hx:Passes CX X E) (I:Inv X pins σ H s) (r:Vals vs us)
  (h:∀x dx,H x=none→H dx=none→dx≠x→sp (.ref x :: (vs ++ dvs)) (upd (upd H dx (.own x)) x (.ins C dx [])) (λv H2=>v=.non∧Q (.ref x) H2) E) :
  wpAny (model X.prog X.w) X.A (call (.ref C) us) (EP X pins σ Q) X.xe s:=by
 have hq:=h (s.heap.objs.size + 1) s.heap.objs.size (I.hok.fresh (Nat.le_succ _)) (I.hok.fresh (U4 _)) (Vj (Wc _))
 have I2:=Inv.made (C:=C) I
 have r2:Vals (V.ref (s.heap.objs.size + 1) :: (vs ++ dvs)) (Value.ref (s.heap.objs.size + 1) :: (us ++ ds)):=.cons rfl (r.append hd)
 have hl:(Value.ref (s.heap.objs.size + 1) :: us ++ ds).length=ps.length:=by
  have e:=r2.length
  rw [F.len _ _ _ _ hq] at e
  exact e.symm
 refine wpAny_call (Gp (f:=f) I.mO M.makes M.init (beq_iff_eq.mp M.fn) (codeAny_mono (F.run _ X.stack _ _ ⟨Value.ref (s.heap.objs.size + 1) :: us,[]⟩ (Value.ref (s.heap.objs.size + 1) :: (us ++ ds)) _ _ E (hr.make C us [])
  (I2.Pe.make C us []) (hb _ (Value.ref (s.heap.objs.size + 1) :: us) I2.mO hl) r2 hq) λr s' hq'=>?_))
 cases r with
 | error e=>exact hx pins σ _ _ e s' I2 hq'
 | ok fl =>
  cases fl with
  | ret u =>
   obtain ⟨v,H',I3,rv,ev,q3⟩:=I2.after hq'
   subst ev
   exact ⟨rv,⟨V.ref (s.heap.objs.size + 1),H',I3,rfl,q3⟩⟩
  | next=>exact False.elim hq'
  | brk=>exact False.elim hq'
  | cont=>exact False.elim hq'
theorem JX (M:Mk X.K C f) (F:aO X.prog X.w X.K X.mg X.base CX k f fd ps sp) (hr:b9 (k + 1) X.A) (hg:Gl X x) (hm:X.mg x=some (.ref C)) (hb:Binds X.K fd ps ds) (hd:Vals dvs ds) (hx:Passes CX X E)
  (ha:PA X (e :: es) t) (hdb:(x == ("__debug__":Str))=false:=by decide) (he:starEach (e :: es) X.env=(false,eval e X.env) :: starEach es X.env:=by rfl) (hpl:(backTo pos (starEach es X.env)).any (·.1)=false:=by rfl) :
  PE X (.Call (.Name x p) (e :: es) [] pos) (HR C sp dvs E t):=by
 intro pins s σ H Q I h
 refine wpAny_Call_Name_kw (lQ I hg hm ?_ hdb)
 refine PySem.W.callWith_K (h₀:=X.base) I.ok.mod.kin M.kp (cG (ha pos pins s σ H _ I h) λus s1 ⟨vs,H1,I1,r,q⟩=>⟨I1.mO,?_⟩) he hpl
 exact zB M F hr hb hd hx I1 r q
theorem GW (M:Mk X.K C f) (F:aO X.prog X.w X.K X.mg X.base CX k f fd ps sp) (hr:b9 (k + 1) X.A) (hg:Gl X x) (hm:X.mg x=some (.ref C)) (hb:Binds X.K fd ps ds) (hd:Vals dvs ds) (hx:Passes CX X E)
  (hdb:(x == ("__debug__":Str))=false:=by decide):PE X (.Call (.Name x p) [] [] pos) (HR C sp dvs E yb):=by
 intro pins s σ H Q I h
 refine wpAny_Call_Name_kw (lQ I hg hm ?_ hdb)
 exact PySem.W.callWith_K0 I.mO M.kp (zB (us:=[]) M F hr hb hd hx I .nil h)
end
section
variable {X:Cx} {CX:uc} {k:Nat} {f C:Addr} {fd:FuncData} {ps ks:List Str} {sp:Sp} {E:XK} {x m:Str} {p pos apos kpos:Pos} {e o:Expr} {es:List Expr} {kws:List Keyword} {te ta:TE} {t tk:TA} {nm:Option Str}
variable {g:List Value→List Value→List Value} {gV:List V→List V→List V}
end
structure av (N P:List Str) (sc:Scope):Prop where
 kind:sc.kind=.function
 co:sc.isCoroutine=false
 gen:sc.isGenerator=false
 nd:N.Nodup
 pre:N.take P.length=P
 par:∀x∈P,sc.names.lookup x=some .local∨sc.names.lookup x=some .cell
 nofree:∀y∈sc.names,y.2≠.free
theorem vt {kindOf:Str→Option NameKind} {x:Str}:∀{binds:List (Str × Value)} {m:Str→Option Value},(∀v,(x,v) ∉ binds)→bindL kindOf binds m x=m x
 | [],_,_=>rfl
 | (n,v) :: r,m,h=>by
  unfold bindL
  rw [vt λw hw=>h w (Vo _ hw)]
  split
  ·have:x≠n:=by rintro rfl;exact h v VD
   simp [this]
  ·rfl
theorem vp {kindOf:Str→Option NameKind} {x:Str}:∀{binds:List (Str × Value)} {m:Str→Option Value},(∀v,(x,v) ∉ binds)→bindC kindOf binds m x=m x
 | [],_,_=>rfl
 | (n,v) :: r,m,h=>by
  unfold bindC
  rw [vp λw hw=>h w (Vo _ hw)]
  split
  ·rfl
  ·have:x≠n:=by rintro rfl;exact h v VD
   simp [this]
theorem vq {kindOf:Str→Option NameKind} {x:Str} {v:Value}:∀{P:List Str} {vs:List Value} {i:Nat} {m:Str→Option Value},P.Nodup→P[i]?=some x→vs[i]?=some v→kindOf x=some .local →
  bindL kindOf (P.zip vs) m x=some v
 | [],_,_,_,_,h,_,_=>by simp at h
 | _ :: _,[],_,_,_,_,h,_=>by simp at h
 | p :: P,w :: vs,0,m,nd,h1,h2,hk=>by
  simp at h1 h2;subst h1;subst h2
  show bindL kindOf ((p,w) :: P.zip vs) m p=_
  unfold bindL
  rw [vt λv hv=>(VY.mp nd).1 (WR hv).1,if_pos hk]
  simp
 | p :: P,w :: vs,i + 1,m,nd,h1,h2,hk=>by
  show bindL kindOf ((p,w) :: P.zip vs) m x=_
  unfold bindL
  exact vq (i:=i) (VY.mp nd).2 (by simpa using h1) (by simpa using h2) hk
theorem vo {kindOf:Str→Option NameKind} {x:Str} {v:Value}:∀{P:List Str} {vs:List Value} {i:Nat} {m:Str→Option Value},P.Nodup→P[i]?=some x→vs[i]?=some v→kindOf x≠some .local →
  bindC kindOf (P.zip vs) m x=some v
 | [],_,_,_,_,h,_,_=>by simp at h
 | _ :: _,[],_,_,_,_,h,_=>by simp at h
 | p :: P,w :: vs,0,m,nd,h1,h2,hk=>by
  simp at h1 h2;subst h1;subst h2
  show bindC kindOf ((p,w) :: P.zip vs) m p=_
  unfold bindC
  rw [vp λv hv=>(VY.mp nd).1 (WR hv).1,if_neg hk]
  simp
 | p :: P,w :: vs,i + 1,m,nd,h1,h2,hk=>by
  show bindC kindOf ((p,w) :: P.zip vs) m x=_
  unfold bindC
  exact vo (i:=i) (VY.mp nd).2 (by simpa using h1) (by simpa using h2) hk
def start (N:List Str) (vs:List V):St:=vs.map some ++ VP (N.length - vs.length) none
def wz (CX:uc) (P:Program) (w:World) (K:PySem.W.Frag) (mg:Str→Option Value) (base:Heap) (N:List Str) (qual:Str) (scope:Scope) (f:Addr) (cd:Value) (A:Around) (outer:List Env) (s:Shared) (H:Hp) (E:XK):Cx where
 prog:=P
 w:=w
 K:=K
 mg:=mg
 base:=base
 A:=A.deeper (envOfC qual scope s.heap.objs.size f cd)
 N:=N
 s₀:=s
 H₀:=H
 env:=envOfC qual scope s.heap.objs.size f cd
 outer:=outer
 stack:=envOfC qual scope s.heap.objs.size f cd :: outer
 ex:=[]
 calm:=true
 fn:=λ_=>true
 pn:=[]
 xe:=λe s'=>wpAny (model P w) (A.deeper (envOfC qual scope s.heap.objs.size f cd)) (leaving (envOfC qual scope s.heap.objs.size f cd) e) (λ_ s''=>CX outer H s E e s'') (λe' s''=>CX outer H s E e' s'') s'
theorem yC {sc:Scope} {n:Nat} {x:Str} (h:sc.names.lookup x=some .cell):∃c,(cellsFrom n sc.names []).lookup x=some c:=by
 have q:=PySem.W.cellsFrom_some sc.names n [] (.inl h)
 exact WI.mp q
theorem DW {CX:uc} {P:Program} {w:World} {K:PySem.W.Frag} {mg:Str→Option Value} {base:Heap} {N ps:List Str} {qual:Str} {scope:Scope} {f:Addr} {cd:Value} {A:Around} {outer:List Env} {s s1:Shared} {H:Hp} {E:XK} {us:List Value} {vs:List V}
  (S:av N ps scope) (hd:A.handled=none) (e0:Aq P w K mg base A outer s H) (hl:vs.length=ps.length) (r:Vals vs us)
  (x:InCallC s s.heap.objs.size (bindL (envOfC qual scope s.heap.objs.size f cd).kindOf (ps.zip us) λ_=>none) (cellsFrom (s.heap.objs.size + 1) scope.names []) (bindC (envOfC qual scope s.heap.objs.size f cd).kindOf (ps.zip us) λ_=>none) s1) :
  Inv (wz CX P w K mg base N qual scope f cd A outer s H E) [] (start N vs) H s1:=by
 have hpl:ps.length≤N.length:=by have:=congrArg V0 S.pre;rw [Vp] at this;omega
 obtain ⟨h1,tk,rfl,hk⟩:=x.done
 have noA:∀b:Addr,b ∉ (wz CX P w K mg base N qual scope f cd A outer s H E).ex:=λb z=>absurd (show b∈([]:List Addr) from z) (by simp)
 refine ⟨⟨e0.mod,S.kind,rfl,rfl,U4 _,λy z c h1 h2=>?_,λy hy=>?_,λy c _ h=>?_,λ_=>hd,Around.frames_deeper e0.frames,.inr ⟨rfl,rfl⟩,λb z=>absurd z (noA b),e0.bs,e0.bsz,λb _ _=>noA b,λb z=>absurd z (noA b),e0.mM,e0.frf⟩,
  rfl,e0.bare,Un.kept hk,⟨_,x.toInCall.ns,λi y v h1 h2 h3=>?_⟩,λy c h=>⟨_,x.cell y c h⟩,e0.hok.fresh (U4 _),λy c h=>?_,λp hp=>absurd (show p∈([]:List (Addr × Obj)) from hp) (by simp),e0.hok.kept hk,?_⟩
 ·exact name_of_addr x.apart (PySem.mem_of_lookup h1) (PySem.mem_of_lookup h2)
 ·have hy:scope.names.lookup y=some .cell∨scope.names.lookup y=some .free:=hy
  rcases hy with hy | hy
  ·exact yC hy
  ·exact absurd rfl (S.nofree _ (PySem.mem_of_lookup hy))
 ·exact WD (x.above y c (PySem.mem_of_lookup h))
 ·have hi:i < vs.length:=by
   unfold start at h2
   by_cases hi:i < vs.length
   ·exact hi
   ·rw [VS (by simpa using hi)] at h2
    rw [WK] at h2
    split at h2 <;> cases h2
  have ha:vs[i]?=some v:=by
   unfold start at h2
   rw [VW (by simpa using hi),U8] at h2
   cases e:vs[i]? with
   | none=>rw [e] at h2;cases h2
   | some a=>rw [e] at h2;cases h2;rfl
  obtain ⟨u,hu,rv⟩:=r.get ha
  have hp:ps[i]?=some y:=by
   rw [← S.pre,List.getElem?_take_of_lt (by omega)];exact h1
  have ndP:ps.Nodup:=by rw [← S.pre];exact S.nd.sublist (V9 _ _)
  refine ⟨u,rv,?_⟩
  rcases S.par y (U3 hp) with k | k
  ·exact .inl ⟨k,vq ndP hp hu k⟩
  ·obtain ⟨c,e⟩:=yC (n:=s.heap.objs.size + 1) k
   refine .inr ⟨.inl k,c,e,?_⟩
   have q:=x.cell y c e
   rw [vo ndP hp hu (by show scope.names.lookup y≠_;rw [k];decide)] at q
   exact q
 ·exact e0.hok.fresh (WD (x.above y c (PySem.mem_of_lookup h)))
 ·unfold start
  show _=N.length
  rw [Vg,UZ,WT]
  omega
theorem FG {CX:uc} {P:Program} {w:World} {K:PySem.W.Frag} {mg:Str→Option Value} {base:Heap} {k:Nat} {f:Addr} {name qual:Str} {params:Arguments} {body:List Stmt} {scope:Scope} {dV kV doc pm cdv ct oc:Value} {an od:Option Addr}
  {osl:Array (Option Value)} {N ps:List Str} {sp:Sp} (lk:K.lookup f=some ⟨oc,od,.func (PySem.W.fnOf name qual params body scope dV kV doc pm an cdv ct),osl⟩) (hcd:PySem.W.codeIn K cdv qual=true) (S:av N ps scope)
  (len:∀vs H Q E,sp vs H Q E→vs.length=ps.length)
  (hbody:∀(A:Around) (outer:List Env) (s:Shared) (H:Hp) (vs:List V) (Q:VK) (E:XK),b9 k (A.deeper (envOfC qual scope s.heap.objs.size f cdv))→sp vs H Q E →
   ∃t,t_ (wz CX P w K mg base N qual scope f cdv A outer s H E) body t∧t { nx:=λ_ H'=>Q .non H',rt:=Q } (start N vs) H) :
  aO P w K mg base CX (k + 1) f (PySem.W.fnOf name qual params body scope dV kV doc pm an cdv ct) ps sp:=by
 refine ⟨len,λA outer s H args us vs Q E hr e0 hb r hsp=>?_⟩
 have hl:=len _ _ _ _ hsp
 have KX:K.In s.heap:=e0.mod.kin.keeps λb o e=>(e0.bs b o e).1
 have lim:s.heap.NoLimit:=e0.mod.nolimit.keeps λb o e=>(e0.bs b o e).1
 have hkind:∀y∈ps.zip us,scope.names.lookup y.1=some .local∨(scope.names.lookup y.1=some .cell∧((cellsFrom (s.heap.objs.size + 1) scope.names []).lookup y.1).isSome=true):=λ⟨n,v⟩ hy=>by
  rcases S.par n (WR hy).1 with q | q
  ·exact .inl q
  ·exact .inr ⟨q,PySem.W.cellsFrom_some _ _ _ (.inl q)⟩
 refine codeAny_call_function hr.depth (KX _ _ lk) rfl S.co S.gen rfl (PySem.W.codeRec_of KX hcd) (hb _ _ _ _ ?_)
 refine wpAny_newFunctionEnv_cells S.kind hkind λenv he s1 x=>?_
 subst he
 refine ⟨lim.keeps x.toInCall.keep,codeAny_func ?_⟩
 obtain ⟨t,ht,hq⟩:=hbody A outer s H vs Q E (hr.deeper _) hsp
 have I:Inv (wz CX P w K mg base N qual scope f cdv A outer s H E) [] (start N vs) H s1:=DW S hr.hd e0 hl r x
 refine wpAny_mono (ht [] s1 (start N vs) H _ I hq) (λfl s' hs=>?_) λe s' hs=>hs
 have fin:∀{σ':St} {H':Hp} {v:V} {u:Value},Inv (wz CX P w K mg base N qual scope f cdv A outer s H E) [] σ' H' s'→RelV v u→Q v H'→CE outer P w H s Q u s' :=
  λ{σ' H' v u} J rv q=>⟨v,H',J.os,J.bare,J.base,J.hok,rv,q⟩
 cases fl with
 | ret u =>
  obtain ⟨v,σ',H',J,rv,q⟩:=hs
  exact fin J rv q
 | next =>
  obtain ⟨σ',H',J,q⟩:=hs
  exact fin (v:=V.non) (u:=Value.none) J rfl q
 | brk =>
  obtain ⟨_,_,_,q⟩:=hs
  exact False.elim q
 | cont =>
  obtain ⟨_,_,_,q⟩:=hs
  exact False.elim q
end L2
namespace L2
open PySem PySem.Spec PyProof.Rows
section
variable {X:Cx} {x:Str} {p pos:Pos} {e:Expr} {es:List Expr} {t:TA} {id T:String} {r:List V→Hp→VK→Prop}
def KQ (r:List V→Hp→VK→Prop) (t:TA):TE:=λσ H Q=>t σ H λvs H1=>r vs H1 Q
theorem bM (hc:cq X (.builtin id) r) (hg:Gl X x) (hm:X.mg x=none) (hv:bootBuiltins x=some (.builtin id)) (ha:PA X (e :: es) t) (hn:x≠"__name__":=by decide) (hdb:(x == ("__debug__":Str))=false:=by decide)
  (he:starEach (e :: es) X.env=(false,eval e X.env) :: starEach es X.env:=by rfl) (hpl:(backTo pos (starEach es X.env)).any (·.1)=false:=by rfl):PE X (.Call (.Name x p) (e :: es) [] pos) (KQ r t):=by
 intro pins s σ H Q I h
 refine wpAny_Call_Name_kw (mP I hg hm hv ?_ hn hdb)
 exact PyProof.Rows.callWith_builtin1 (cG (ha pos pins s σ H _ I h) λus s1 ⟨vs,H1,I1,r1,q1⟩=>hc pins s1 σ H1 vs us Q I1 r1 q1) he hpl
theorem pH (hc:cq X (.type T) r) (hg:Gl X x) (hm:X.mg x=none) (hv:bootBuiltins x=some (.type T)) (ha:PA X (e :: es) t) (hn:x≠"__name__":=by decide) (hdb:(x == ("__debug__":Str))=false:=by decide)
  (he:starEach (e :: es) X.env=(false,eval e X.env) :: starEach es X.env:=by rfl) (hpl:(backTo pos (starEach es X.env)).any (·.1)=false:=by rfl):PE X (.Call (.Name x p) (e :: es) [] pos) (KQ r t):=by
 intro pins s σ H Q I h
 refine wpAny_Call_Name_kw (mP I hg hm hv ?_ hn hdb)
 exact PyProof.Rows.callWith_type1 (cG (ha pos pins s σ H _ I h) λus s1 ⟨vs,H1,I1,r1,q1⟩=>hc pins s1 σ H1 vs us Q I1 r1 q1) he hpl
end
end L2
namespace HT
open PySem PyProof.Rows
def lexLt:List Int→List Int→Bool
 | [],[]=>false
 | [],_ :: _=>true
 | _ :: _,[]=>false
 | x :: xs,y :: ys=>if x=y then lexLt xs ys else decide (x < y)
section
open PySem.SeqAt
open PySem.AutoSeq1 (wpAny_loadPart')
open PySem.MeetsSeq PySem.MeetsSeq2 PySem.MeetsSeq3
end
section
variable {prog:Program} {w:World} {A:Around} {E:Value→Shared→Prop} {s:Shared}
def eR (n d:Nat):Option Int→Nat
 | none=>d
 | some v=>if v < 0 then (v + (n:Int)).toNat else min v.toNat n
theorem zC (n d:Nat):eR n d none=d:=rfl
theorem xD (n d k:Nat):eR n d (some (k:Int))=min k n:=by
 show (if (k:Int) < 0 then ((k:Int) + (n:Int)).toNat else min (k:Int).toNat n)=min k n
 rw [if_neg (by omega),Int.toNat_natCast]
theorem Oa (n d:Nat) (hd:d≤n) (o:Option Int):eR n d o≤n:=by
 cases o with
 | none=>exact hd
 | some v =>
  show (if v < 0 then (v + (n:Int)).toNat else min v.toNat n)≤n
  by_cases hv:v < 0
  ·rw [if_pos hv];omega
  ·rw [if_neg hv];exact Nat.min_le_right _ _
theorem B5 (v:Int) (n d:Nat):(if v < 0 then max (v + (n:Int)) 0 else min v (n:Int))=((eR n d (some v):Nat):Int):=by
 show (if v < 0 then max (v + (n:Int)) 0 else min v (n:Int))=(((if v < 0 then (v + (n:Int)).toNat else min v.toNat n):Nat):Int)
 by_cases hv:v < 0
 ·simp only [if_pos hv];omega
 ·simp only [if_neg hv];omega
theorem AF (lo hi:Option Int) (n:Nat):Builtin.Slice.sliceAdjust lo hi 1 (n:Int)=(((eR n 0 lo:Nat):Int),((eR n n hi:Nat):Int)):=by
 have h1:¬ ((1:Int) < 0):=by omega
 unfold Builtin.Slice.sliceAdjust
 simp only [h1,if_false]
 refine Prod.ext ?_ ?_
 ·cases lo with
  | none=>rfl
  | some v=>exact B5 v n 0
 ·cases hi with
  | none=>rfl
  | some v=>exact B5 v n n
theorem Br (i j:Nat):Builtin.Slice.slicePlaces (i:Int) (j:Int) 1=j - i:=by
 unfold Builtin.Slice.slicePlaces
 have h1:(1:Int) > 0:=by omega
 simp only [h1,if_true,Int.ediv_one]
 split <;> omega
theorem tM {v:Value} {o:Option Int} {Q:Option Int→Shared→Prop} (p:IsPart v o) (h:Q o s):wpAny (model prog w) A (Builtin.Slice.slicePartIndex v) Q E s:=by
 cases p with
 | none=>exact slicePart_none h
 | int i t=>exact slicePart_int h
theorem pY {sl:Addr} {vl vu:Value} {lo hi:Option Int} {n:Nat} {Q:Int × Int × Nat→Shared→Prop} (hs:s.heap.IsSliceOf sl vl vu .none) (pl:IsPart vl lo) (pu:IsPart vu hi)
  (h:Q (((eR n 0 lo:Nat):Int),1,eR n n hi - eR n 0 lo) s):wpAny (model prog w) A (Builtin.Slice.sliceApplied (.ref sl) (pure (n:Int))) Q E s:=by
 obtain ⟨os,hos,hcs,hds⟩:=id hs
 unfold Builtin.Slice.sliceApplied Builtin.Slice.sliceFields
 refine wpAny_bind (wpAny_bind (wpAny_field hos hds (x:=vl) rfl (wpAny_bind (wpAny_field hos hds (x:=vu) rfl (wpAny_bind (wpAny_field hos hds (x:=.none) rfl (wpAny_pure ?_)))))))
 refine wpAny_bind (slicePart_none ?_)
 show wpAny _ _ (if ((1:Int) == 0)=true then _ else _) _ _ s
 rw [if_neg (by decide)]
 refine wpAny_bind (tM pl (wpAny_bind (tM pu (wpAny_bind (wpAny_pure ?_)))))
 show wpAny _ _ (match Builtin.Slice.sliceAdjust lo hi 1 (n:Int) with | (lo,hi)=>pure (lo,(1:Int),Builtin.Slice.slicePlaces lo hi 1)) _ _ s
 rw [AF lo hi n]
 show wpAny _ _ (pure (((eR n 0 lo:Nat):Int),(1:Int),Builtin.Slice.slicePlaces ((eR n 0 lo:Nat):Int) ((eR n n hi:Nat):Int) 1)) _ _ s
 rw [Br]
 exact wpAny_pure h
theorem GZ (xs:Array Value) (i k:Nat):((VA k).filterMap λ(m:Nat)=>xs[((i:Int) + (m:Int) * 1).toNat]?).toArray=((xs.toList.drop i).take k).toArray:=by
 have e:(λ(m:Nat)=>xs[((i:Int) + (m:Int) * 1).toNat]?)=λm=>xs[i + m]?:=by
  funext m
  have:((i:Int) + (m:Int) * 1).toNat=i + m:=by omega
  rw [this]
 rw [e]
 have:=pick_run xs i k
 rw [List.filterMap_map] at this
 have e2:((λx=>xs[x]?) ∘ λx=>i + x)=λm=>xs[i + m]?:=rfl
 rw [e2] at this
 rw [this]
theorem nS {t sl:Addr} {items:Array Value} {vl vu:Value} {lo hi:Option Int} {Q:Value→Shared→Prop} (ht:IsTup s.heap t items) (hs:s.heap.IsSliceOf sl vl vu .none) (pl:IsPart vl lo) (pu:IsPart vu hi)
  (hw:¬ (eR items.size 0 lo=0∧eR items.size items.size hi=items.size))
  (h:Q (.ref s.heap.objs.size) { s with heap:=s.heap.push { cls:=.type "tuple",data:=.seq ((items.toList.drop (eR items.size 0 lo)).take (eR items.size items.size hi - eR items.size 0 lo)).toArray } })
  (hsz:items.size≤sizeLine):wpAny (model prog w) A (getItem (.ref t) (.ref sl)) Q E s:=by
 have htake:sizeOk (.seq ((items.toList.drop (eR items.size 0 lo)).take (eR items.size items.size hi - eR items.size 0 lo)).toArray):=by
  show ((items.toList.drop (eR items.size 0 lo)).take (eR items.size items.size hi - eR items.size 0 lo)).toArray.size≤sizeLine
  rw [U5,Vp,V3,Array.length_toList]
  omega
 have hj:eR items.size items.size hi≤items.size:=Oa _ _ (U4 _) hi
 obtain ⟨os,hos,hcs,hds⟩:=id hs
 have hTs:s.TypeIs (.ref sl) "slice":=⟨os,hos,hcs⟩
 unfold getItem
 try with_reducible refine wpAny_holding ?_
 first | refine wpAny_bind (wpAny_pure ?_) | skip
 refine wpAny_bind (wpAny_sequenceKey ht.typeIs (by decide) ?_)
 refine wpAny_bind (wpAny_callSpecial?_slot (name:=Str.ofString "__getitem__") ht.typeIs PyProof.Rows.slot_tuple_getitem
  (wpAny_call_entry PyProof.Rows.slot_tuple_getitem ht.typeIs entry_tuple_getitem ?_ (args_tuple_getitem _ _)))
 show wpAny _ _ (Builtin.Tuple.tupleItemsOf (.ref t) >>= _) _ _ s
 refine wpAny_bind (tupleItemsOf_ ht ?_)
 refine wpAny_bind (wpAny_typeOf hTs ?_)
 rw [if_pos (by decide)]
 refine wpAny_bind (pY hs pl pu ?_)
 have hno:¬ ((((eR items.size 0 lo:Nat):Int) == 0 && (1:Int) == 1 && (eR items.size items.size hi - eR items.size 0 lo) == items.size)=true):=by
  intro q
  rw [Vq,Vq] at q
  have q1:((eR items.size 0 lo:Nat):Int)=0:=eq_of_beq q.1.1
  have q2:eR items.size items.size hi - eR items.size 0 lo=items.size:=eq_of_beq q.2
  exact hw ⟨by omega,by omega⟩
 show wpAny _ _ (if (((eR items.size 0 lo:Nat):Int) == 0 && (1:Int) == 1 && (eR items.size items.size hi - eR items.size 0 lo) == items.size)=true then _ else _) _ _ s
 rw [if_neg hno,GZ]
 first
  | exact wpAny_bind (m:=Builtin.Tuple.tupleExact _) (wpAny_newObj_type (wpAny_pure ⟨_,rfl,wpAny_pure h⟩) htake)
  | exact wpAny_bind (m:=Builtin.Tuple.tupleExact _) (wpAny_newObj_type (wpAny_bind (wpAny_pure (wpAny_pure ⟨_,rfl,wpAny_pure h⟩))) htake)
  | exact wpAny_bind (wpAny_bind (m:=Builtin.Tuple.tupleExact _) (wpAny_newObj_type (wpAny_pure (wpAny_pure ⟨_,rfl,wpAny_pure h⟩)) htake))
  | exact wpAny_bind (wpAny_bind (m:=Builtin.Tuple.tupleExact _) (wpAny_newObj_type (wpAny_pure ⟨_,rfl,wpAny_pure h⟩) htake))
end
end HT
namespace L2
open PySem PySem.Spec PyProof.Rows
abbrev TO:=St→Hp→(Option Int→Hp→Prop)→Prop
def PO (X:Cx) (e:Option Expr) (t:TO):Prop :=
 ∀(pins:List (Addr × Obj)) (s:Shared) (σ:St) (H:Hp) (Q:Option Int→Hp→Prop),Inv X pins σ H s→t σ H Q →
  wpAny (model X.prog X.w) X.A (evalPart e X.env) (λu s'=>∃o H',Inv X pins σ H' s'∧IsPart u o∧Q o H') X.xe s
def rp:TO:=λ_ H Q=>Q none H
def Dl (t:TE):TO:=λσ H Q=>t σ H λx H1=>∃i,x=.int i∧Q (some i) H1
theorem intsAre_of {ns:List Int}:∀{us:List Value},Vals (ns.map V.int) us→IntsAre us ns:=by
 induction ns with
 | nil=>intro us r;rw [VV] at r;cases r;exact .nil
 | cons n ns ih =>
  intro us r
  rw [U6] at r
  cases r with
  | cons r1 r2 =>
   obtain ⟨t,e⟩:=r1
   subst e
   exact .cons n t (ih r2)
section
variable {X:Cx} {e:Expr} {te:TE} {lo hi:Option Expr} {tl th:TO} {pos p2:Pos}
theorem qY:PO X none rp:=by
 intro pins s σ H Q I h
 rw [evalPart_none]
 exact wpAny_pure ⟨none,H,I,.none,h⟩
theorem lT (h:PE X e te):PO X (some e) (Dl te):=by
 intro pins s σ H Q I hw
 rw [evalPart_some]
 refine cG (h pins s σ H _ I hw) λu s1 ⟨x,H1,I1,r1,q1⟩=>?_
 obtain ⟨i,rfl,q⟩:=q1
 obtain ⟨t,rfl⟩:=r1
 exact ⟨some i,H1,I1,.int i t,q⟩
def vj (X:Cx) (r:V→Option Int→Option Int→Hp→VK→Prop):Prop :=
 ∀(pins:List (Addr × Obj)) (s:Shared) (σ:St) (H:Hp) (x:V) (v vl vu:Value) (lo hi:Option Int) (sl:Addr) (Q:VK),Inv X pins σ H s→RelV x v→s.heap.IsSliceOf sl vl vu .none→IsPart vl lo→IsPart vu hi→r x lo hi H Q →
  ∃T id,typeLookup (.type T) "__getitem__"=pure (some (.builtin id))∧s.TypeIs v T∧wpAny (model X.prog X.w) X.A (getItem v (.ref sl)) (EP X pins σ Q) X.xe s
theorem vj.or {r r':V→Option Int→Option Int→Hp→VK→Prop} (h:vj X r) (h':vj X r'):vj X (λx lo hi H Q=>r x lo hi H Q∨r' x lo hi H Q):=by
 intro pins s σ H x v vl vu lo hi sl Q I rx hs pl pu q
 rcases q with q | q
 ·exact h pins s σ H x v vl vu lo hi sl Q I rx hs pl pu q
 ·exact h' pins s σ H x v vl vu lo hi sl Q I rx hs pl pu q
def RZ (r:V→Option Int→Option Int→Hp→VK→Prop) (te:TE) (tl th:TO):TE:=λσ H Q=>te σ H λx H1=>tl σ H1 λl H2=>th σ H2 λu H3=>r x l u H3 Q
theorem kO {r:V→Option Int→Option Int→Hp→VK→Prop} (hr:vj X r) (he:PE X e te) (hl:PO X lo tl) (hu:PO X hi th):PE X (.Subscript e (.Slice lo hi none p2) pos) (RZ r te tl th):=by
 intro pins s σ H Q I h
 refine Subscript_ (cG (he pins s σ H _ I h) λv s1 ⟨x,H1,I1,r1,q1⟩=>?_)
 refine wpAny_Slice (cG (hl pins s1 σ H1 _ I1 q1) λvl s2 ⟨l,H2,I2,pl,q2⟩=>cG (hu pins s2 σ H2 _ I2 q2) λvu s3 ⟨u,H3,I3,pu,q3⟩=>?_)
 rw [evalPart_none]
 refine wpAny_pure ?_
 have I4:Inv X pins σ H3 { s3 with heap:=s3.heap.push { cls:=.type "slice",data:=.fields #[vl,vu,.none] } }:=I3.kept (t':=s3.toks) λb ob q=>Heap.get?_push_of_some _ q
 obtain ⟨T,id,hT,ht,hg⟩:=hr pins { s3 with heap:=s3.heap.push { cls:=.type "slice",data:=.fields #[vl,vu,.none] } } σ H3 x v vl vu l u s3.heap.objs.size Q I4 r1 (Heap.IsSliceOf.new ..) pl pu q3
 show wpAny (model X.prog X.w) X.A (subscriptTail e (.Slice lo hi none p2) v (.ref s3.heap.objs.size)) (EP X pins σ Q) X.xe { s3 with heap:=s3.heap.push { cls:=.type "slice",data:=.fields #[vl,vu,.none] } }
 exact tail_any (ops:=[.ref s3.heap.objs.size,v]) ht hT hg (by with_unfolding_all rfl)
def o_ (xs:List V) (lo hi:Option Int):List V:=(xs.drop (HT.eR xs.length 0 lo)).take (HT.eR xs.length xs.length hi - HT.eR xs.length 0 lo)
theorem qa (xs:List V) (lo hi:Option Int):(o_ xs lo hi).length≤xs.length:=by
 unfold o_
 rw [Vp,V3]
 omega
def Tn (K:PySem.W.Frag):V→Option Int→Option Int→Hp→VK→Prop:=λx lo hi H Q=>∃a xs,x=.ref a∧g8 K H a xs ∧
 ¬ (HT.eR xs.length 0 lo=0∧HT.eR xs.length xs.length hi=xs.length)∧∀p,H p=none→Q (.ref p) (upd H p (.tup (o_ xs lo hi)))
theorem Og:vj X (Tn X.K):=by
 intro pins s σ H x v vl vu lo hi sl Q I rx hs pl pu h
 obtain ⟨a,xs,rfl,hx,hw,q⟩:=h
 cases rx
 obtain ⟨its,r,ht,hz⟩:=I.tuple hx
 have hlen:its.toArray.size=xs.length:=by rw [U5];exact r.length.symm
 refine ⟨"tuple",_,PyProof.Rows.slot_tuple_getitem.lookup,ht.typeIs,?_⟩
 refine HT.nS ht hs pl pu (by rw [hlen];exact hw) ?_ (by rw [hlen];exact hz)
 rw [hlen]
 refine ⟨.ref s.heap.objs.size,_,I.laid (t':=s.toks) (o:=.tup (o_ xs lo hi)) (λb ob q=>Heap.get?_push_of_some _ q) (U4 _) ?_,rfl,q _ (I.hok.fresh (U4 _))⟩
 exact ⟨Vh (qa xs lo hi) hz,_,(r.drop (HT.eR xs.length 0 lo)).take (HT.eR xs.length xs.length hi - HT.eR xs.length 0 lo),IsTup.new _ _⟩
end
end L2
namespace L2
open PySem PySem.Spec PyProof.Rows
def EV (n:Nat) (i:Int):Option Nat:=if 0≤i then (if i < n then some i.toNat else none) else if -(n:Int)≤i then some (i + n).toNat else none
def dF {α:Type} (xs:List α) (i:Int):Option α:=(EV xs.length i).bind λj=>xs[j]?
theorem Cs {n:Nat} {i:Int} {j:Nat} (h:EV n i=some j):seqIndex? i n=some j∧j < n∧-(n:Int)≤i∧i < n:=by
 unfold EV at h
 by_cases h0:0≤i
 ·rw [if_pos h0] at h
  by_cases h1:i < n
  ·rw [if_pos h1] at h
   have e:i.toNat=j:=Option.some.inj h
   exact ⟨by rw [seqIndex_of h0 h1,e],by omega,by omega,h1⟩
  ·rw [if_neg h1] at h;cases h
 ·rw [if_neg h0] at h
  by_cases h1:-(n:Int)≤i
  ·rw [if_pos h1] at h
   have e:(i + n).toNat=j:=Option.some.inj h
   exact ⟨by rw [seqIndex_neg (by omega) h1,e],by omega,h1,by omega⟩
  ·rw [if_neg h1] at h;cases h
theorem wt {α:Type} {xs:List α} {i:Int} {v:α} (h:dF xs i=some v):∃j,seqIndex? i xs.length=some j∧xs[j]?=some v∧j < xs.length∧-(xs.length:Int)≤i∧i < xs.length:=by
 unfold dF at h
 cases e:EV xs.length i with
 | none=>rw [e] at h;cases h
 | some j =>
  rw [e] at h
  obtain ⟨h1,h2,h3,h4⟩:=Cs e
  exact ⟨j,h1,h,h2,h3,h4⟩
theorem bA {α:Type} {xs:List α} {j:Nat} {v:α} (h:xs[j]?=some v):dF xs (j:Int)=some v:=by
 have hj:j < xs.length:=(U1.mp h).1
 have e:EV xs.length (j:Int)=some j:=by
  unfold EV
  rw [if_pos (by omega),if_pos (by omega)];simp
 unfold dF;rw [e];exact h
def dZ (b:Expr):Prop:=∀o i,subscripted b false o i=operate [o,i] (getItem o i)
def rK (X:Cx) (r:R2):Prop :=
 ∀(value slice:Expr) (pins:List (Addr × Obj)) (s:Shared) (σ:St) (H:Hp) (x y:V) (v u:Value) (Q:VK),Inv X pins σ H s→RelV x v→RelV y u→r x y H Q →
  subscripted slice false v u=operate [v,u] (getItem v u)→wpAny (model X.prog X.w) X.A (subscriptTail value slice v u) (EP X pins σ Q) X.xe s
def qL (X:Cx) (id:String) (r:V→List V→Hp→VK→Prop):Prop :=
 ∀(pins:List (Addr × Obj)) (s:Shared) (σ:St) (H:Hp) (x:V) (xs:List V) (v:Value) (us:List Value) (Q:VK),Inv X pins σ H s→RelV x v→Vals xs us→r x xs H Q →
  wpAny (model X.prog X.w) X.A (call (.builtin id) (v :: us)) (EP X pins σ Q) X.xe s
section
variable {X:Cx} {a b:Expr} {ta tb:TE} {pos:Pos}
theorem rK.or {r r':R2} (h:rK X r) (h':rK X r'):rK X (λx y H Q=>r x y H Q∨r' x y H Q):=by
 intro value slice pins s σ H x y v u Q I rx ry q hs
 rcases q with q | q
 ·exact h value slice pins s σ H x y v u Q I rx ry q hs
 ·exact h' value slice pins s σ H x y v u Q I rx ry q hs
theorem qL.or {id:String} {r r':V→List V→Hp→VK→Prop} (h:qL X id r) (h':qL X id r'):qL X id (λx xs H Q=>r x xs H Q∨r' x xs H Q):=by
 intro pins s σ H x xs v us Q I rx rs q
 rcases q with q | q
 ·exact h pins s σ H x xs v us Q I rx rs q
 ·exact h' pins s σ H x xs v us Q I rx rs q
theorem cD {r:R2} (hr:rK X r) (ha:PE X a ta) (hb:PE X b tb) (hs:dZ b):PE X (.Subscript a b pos) (HU r ta tb):=by
 intro pins s σ H Q I h
 exact Subscript_ (MP ha hb I h λv u s2 x y H2 I2 rx ry q=>hr a b pins s2 σ H2 x y v u Q I2 rx ry q (hs _ _))
def QL (K:PySem.W.Frag):R2:=λx y H Q=>∃p xs i v,x=.ref p∧y=.int i∧dq K H p xs∧dF xs i=some v∧Q v H
def QN (K:PySem.W.Frag):R2:=λx y H Q=>∃p xs i v,x=.ref p∧y=.int i∧g8 K H p xs∧dF xs i=some v∧Q v H
def QM:R2:=λx y H Q=>∃z i c,x=.str z∧y=.int i∧z.length≤sizeLine∧dF z.cps.toList i=some c∧Q (.str ⟨#[c]⟩) H
theorem wH:rK X (QL X.K):=by
 intro value slice pins s σ H x y v u Q I rx ry h hs
 obtain ⟨p,xs,i,z,rfl,rfl,hq,he,q⟩:=h
 cases rx
 obtain ⟨t,rfl⟩:=ry
 obtain ⟨its,r,pl,hz⟩:=I.list hq
 obtain ⟨j,h1,h2,h3,h4,h5⟩:=wt he
 obtain ⟨w,ew,rw'⟩:=r.get h2
 have hl:=r.length
 have hn:=mR
 have fin:EP X pins σ Q w s:=⟨z,H,I,rw',q⟩
 by_cases h0:0≤i
 ·have hj:i.toNat=j:=by
   rw [seqIndex_of h0 h5] at h1
   exact Option.some.inj h1
  exact item_listR pl.isList h0 (by omega) (by rw [hj];simpa using ew) fin hs
 ·have hj:(i + (its.toArray.size:Int)).toNat=j:=by
   rw [seqIndex_neg (by omega) h4] at h1
   rw [U5,← hl]
   exact Option.some.inj h1
  exact subscriptTail_builtinR (x:=w) pl.isList.typeIs slot_list_getitem.lookup
   (wpAny_getItem_list_neg (Q:=λr s'=>r=w∧EP X pins σ Q r s') pl.isList (by omega) (by rw [U5] <;> omega) (by omega) (by rw [hj];simpa using ew) ⟨rfl,fin⟩) hs
theorem dh:rK X (QN X.K):=by
 intro value slice pins s σ H x y v u Q I rx ry h hs
 obtain ⟨p,xs,i,z,rfl,rfl,hq,he,q⟩:=h
 cases rx
 obtain ⟨t,rfl⟩:=ry
 obtain ⟨its,r,pl,hz⟩:=I.tuple hq
 obtain ⟨j,h1,h2,h3,h4,h5⟩:=wt he
 obtain ⟨w,ew,rw'⟩:=r.get h2
 have hl:=r.length
 have hn:=mR
 have fin:EP X pins σ Q w s:=⟨z,H,I,rw',q⟩
 exact subscriptTail_builtinR (x:=w) pl.typeIs slot_tuple_getitem.lookup
  (getItem_tuple (j:=j) (Q:=λr s'=>r=w∧EP X pins σ Q r s') pl (by omega) (by omega) (by rw [U5,← hl];exact h1) (by simpa using ew) ⟨rfl,fin⟩) hs
theorem F8:rK X QM:=by
 intro value slice pins s σ H x y v u Q I rx ry h hs
 obtain ⟨z,i,c,rfl,rfl,hz,he,q⟩:=h
 obtain ⟨t,rfl⟩:=rx
 obtain ⟨t',rfl⟩:=ry
 obtain ⟨j,h1,h2,h3,h4,h5⟩:=wt he
 have hl:z.cps.toList.length=z.length:=by simp [Str.length]
 rw [hl] at h1 h4 h5
 have hn:=mR
 exact tail_any (typeIs_str s z t) slot_str_getitem.lookup (getItem_str (c:=c) (by
  have e1:decide (i < -(2 ^ 63:Int))=false:=decide_eq_false (by omega)
  have e2:decide (i ≥ 2 ^ 63)=false:=decide_eq_false (by omega)
  rw [e1,e2,Bool.or_false]) (by rw [h1];simpa using h2) ⟨.str ⟨#[c]⟩,H,I.tok _,⟨_,rfl⟩,q⟩) hs
theorem A9 (its:List Value) (n j:Nat) (u:Value):Obj.mapSeq (·.setIfInBounds j u) { cls:=.type "list",data:=.seq its.toArray n }={ cls:=.type "list",data:=.seq (its.set j u).toArray n }:=by
 simp [Obj.mapSeq]
theorem Inv.lst {pins:List (Addr × Obj)} {σ:St} {H:Hp} {s:Shared} {p:Addr} {xs:List V} (I:Inv X pins σ H s) (h:H p=some (.lst xs)) :
  ∃(its:List Value) (n:Nat),Vals xs its∧s.heap.get? p=some { cls:=.type "list",data:=.seq its.toArray n }∧xs.length≤sizeLine:=by
 obtain ⟨z,its,n,r,e⟩:=I.hok p _ h
 exact ⟨its,n,r,e,z⟩
theorem Inv.Np {pins:List (Addr × Obj)} {σ:St} {H:Hp} {s:Shared} {p:Addr} {xs ys:List V} {its its':List Value} {n n':Nat} {f:Obj→Obj} (I:Inv X pins σ H s) (h:H p=some (.lst xs))
  (ho:s.heap.get? p=some { cls:=.type "list",data:=.seq its.toArray n }) (hf:f { cls:=.type "list",data:=.seq its.toArray n }={ cls:=.type "list",data:=.seq its'.toArray n' }) (r:Vals ys its') (hz:ys.length≤sizeLine) (t:Nat) :
  Inv X pins σ (upd H p (.lst ys)) { s with heap:=s.heap.update p f,toks:=t }:=by
 have e:(s.heap.update p f).get? p=some { cls:=.type "list",data:=.seq its'.toArray n' }:=by
  rw [Heap.get?_update_self f ho (by rw [hf] <;> rfl),hf]
 refine I.write (x:=p) (e:=p) (by rw [h];trivial) (.inl rfl) (λb u hb q=>(Heap.get?_update_other _ _ (Ne.symm hb)).trans q) ⟨_,e⟩ ?_
 exact ⟨hz,its',n',r,e⟩
def L_:V→V→V→Hp→(Hp→Prop)→Prop:=λo i v H Q=>∃p xs k j,o=.ref p∧i=.int k∧H p=some (.lst xs)∧EV xs.length k=some j∧Q (upd H p (.lst (xs.set j v)))
theorem set_list:l6 X L_:=by
 intro pins s σ H o i v ov iv u Q I ro ri rv h
 obtain ⟨p,xs,k,j,rfl,rfl,hp,hj,q⟩:=h
 cases ro
 obtain ⟨t,rfl⟩:=ri
 obtain ⟨its,n,r,ho,hz⟩:=I.lst hp
 obtain ⟨h1,h2,h3,h4⟩:=Cs hj
 have hl:=r.length
 have hn:=mR
 have I':Inv X pins σ (upd H p (.lst (xs.set j v))) { s with heap:=s.heap.update p (Obj.mapSeq (·.setIfInBounds j u)) } :=
  I.Np hp ho (A9 its n j u) (r.set rv j) (by rw [We];exact hz) s.toks
 by_cases h0:0≤k
 ·have hk:k.toNat=j:=by
   rw [seqIndex_of h0 h4] at h1
   exact Option.some.inj h1
  exact PySem.W.ki_setAt ho h0 (by omega) (by rw [U5,← hl];exact h4) (by rw [hk];exact ⟨_,I',q⟩)
 ·have hk:(k + (its.toArray.size:Int)).toNat=j:=by
   rw [seqIndex_neg (by omega) h3] at h1
   rw [U5,← hl]
   exact Option.some.inj h1
  exact PySem.W.ki_setBack ho (by omega) (by rw [U5,← hl];exact h3) (by omega) (by rw [hk];exact ⟨_,I',q⟩)
theorem xW (lo hi:Option Int) (n:Nat):(sliceBounds lo hi none n).1=((HT.eR n 0 lo:Nat):Int)∧(sliceBounds lo hi none n).2.1=((HT.eR n n hi:Nat):Int)∧(sliceBounds lo hi none n).2.2=1:=by
 refine ⟨?_,?_,rfl⟩
 ·cases lo with
  | none=>simp [sliceBounds,HT.eR]
  | some i =>
   simp only [sliceBounds,HT.eR,W_,show (1:Int) > 0 by decide,if_true]
   by_cases h:i < 0
   ·simp only [h,if_true] <;> omega
   ·simp only [h,if_false] <;> omega
 ·cases hi with
  | none=>simp [sliceBounds,HT.eR]
  | some i =>
   simp only [sliceBounds,HT.eR,W_,show (1:Int) > 0 by decide,if_true]
   by_cases h:i < 0
   ·simp only [h,if_true] <;> omega
   ·simp only [h,if_false] <;> omega
theorem vf (its:List Value) (lo hi:Option Int):slicePick its.toArray lo hi none=((its.drop (HT.eR its.length 0 lo)).take (HT.eR its.length its.length hi - HT.eR its.length 0 lo)).toArray:=by
 obtain ⟨h1,h2,h3⟩:=xW lo hi its.toArray.size
 unfold slicePick
 rw [h1,h2,h3]
 simp only [sliceRange_one,pick_run,U5] <;> rfl
def Q3 (K:PySem.W.Frag):V→Option Int→Option Int→Hp→VK→Prop:=λx lo hi H Q=>∃a xs,x=.ref a∧dq K H a xs∧∀p,H p=none→Q (.ref p) (upd H p (.lst (o_ xs lo hi)))
theorem xV:vj X (Q3 X.K):=by
 intro pins s σ H x v vl vu lo hi sl Q I rx hs pl pu h
 obtain ⟨a,xs,rfl,hx,q⟩:=h
 cases rx
 obtain ⟨its,r,ht,hz⟩:=I.list hx
 have hlen:=r.length
 refine ⟨"list",_,slot_list_getitem.lookup,ht.isList.typeIs,?_⟩
 refine wpAny_getItem_list_slice ht.isList hs pl pu .none (by simp) ?_ (by rw [U5] <;> omega)
 rw [vf,← hlen]
 refine ⟨.ref s.heap.objs.size,_,I.laid (t':=s.toks) (o:=.lst (o_ xs lo hi)) (λb ob q=>Heap.get?_push_of_some _ q) (U4 _) ?_,rfl,q _ (I.hok.fresh (U4 _))⟩
 exact ⟨Vh (qa xs lo hi) hz,_,0,(r.drop (HT.eR xs.length 0 lo)).take (HT.eR xs.length xs.length hi - HT.eR xs.length 0 lo),Heap.get?_push_size _ rfl⟩
def j1:V→Bool
 | .non=>true
 | .bl _=>true
 | .int _=>true
 | .str _=>true
 | _=>false
def Ih:V→V→Bool
 | .non,.non=>true
 | .bl a,.bl b=>a == b
 | .bl a,.int b=>(if a then 1 else 0) == b
 | .int a,.bl b=>a == (if b then 1 else 0)
 | .int a,.int b=>a == b
 | .str a,.str b=>a == b
 | _,_=>false
theorem M0 {A:Around} {s:Shared} {y x:V} {u v:Value} (ry:RelV y u) (rx:RelV x v) (fy:j1 y=true) (fx:j1 x=true):SeqAt.EqAt A s u v (Ih y x):=by
 cases y with
 | non =>
  cases ry
  cases x with
  | non=>cases rx;exact SeqAt.EqAt.same _
  | bl b=>cases rx;exact SeqAt.EqAt.none_bool b
  | int b=>obtain ⟨t,rfl⟩:=rx;exact SeqAt.EqAt.none_int b t
  | str b=>obtain ⟨t,rfl⟩:=rx;exact SeqAt.EqAt.none_str b t
  | _=>exact absurd (show false=true from fx) Ve
 | bl a =>
  cases ry
  cases x with
  | non=>cases rx;exact SeqAt.EqAt.bool_none a
  | bl b=>cases rx;exact SeqAt.EqAt.bool_bool a b
  | int b=>obtain ⟨t,rfl⟩:=rx;exact SeqAt.EqAt.bool_int a b t
  | str b=>obtain ⟨t,rfl⟩:=rx;exact SeqAt.EqAt.bool_str a b t
  | _=>exact absurd (show false=true from fx) Ve
 | int a =>
  obtain ⟨t',rfl⟩:=ry
  cases x with
  | non=>cases rx;exact SeqAt.EqAt.int_none a t'
  | bl b=>cases rx;exact SeqAt.EqAt.int_bool a t' b
  | int b=>obtain ⟨t,rfl⟩:=rx;exact SeqAt.EqAt.int_int a t' b t
  | str b=>obtain ⟨t,rfl⟩:=rx;exact SeqAt.EqAt.int_str a t' b t
  | _=>exact absurd (show false=true from fx) Ve
 | str a =>
  obtain ⟨t',rfl⟩:=ry
  cases x with
  | non=>cases rx;exact SeqAt.EqAt.str_none a t'
  | bl b=>cases rx;exact SeqAt.EqAt.str_bool a t' b
  | int b=>obtain ⟨t,rfl⟩:=rx;exact SeqAt.EqAt.str_int a t' b t
  | str b=>obtain ⟨t,rfl⟩:=rx;exact SeqAt.EqAt.str_str a t' b t
  | _=>exact absurd (show false=true from fx) Ve
 | _=>exact absurd (show false=true from fy) Ve
def AQ (x:V) (u:Value):Bool:=match u with
 | .none=>Ih .non x
 | .bool b=>Ih (.bl b) x
 | .int i _=>Ih (.int i) x
 | .str z _=>Ih (.str z) x
 | _=>false
theorem FE {x y:V} {u:Value} (r:RelV y u) (f:j1 y=true):AQ x u=Ih y x:=by
 cases y with
 | non=>cases r;rfl
 | bl b=>cases r;rfl
 | int i=>obtain ⟨t,rfl⟩:=r;rfl
 | str z=>obtain ⟨t,rfl⟩:=r;rfl
 | _=>exact absurd (show false=true from f) Ve
theorem nI {x:V}:∀{xs:List V} {us:List Value},Vals xs us→xs.all j1=true→us.any (AQ x)=xs.any λy=>Ih y x
 | _,_,.nil,_=>rfl
 | y :: xs,u :: us,.cons r t,f=>by
  rw [W4,Vq] at f
  rw [Wf,Wf,FE r f.1,nI t f.2]
theorem kL {A:Around} {s:Shared} {x:V} {v:Value} (rx:RelV x v) (fx:j1 x=true):∀{xs:List V} {us:List Value},Vals xs us→xs.all j1=true→∀u∈us,SeqAt.EqAt A s u v (AQ x u)
 | _,_,.nil,_=>λu hu=>by cases hu
 | y :: xs,u :: us,.cons r t,f=>λu' hu=>by
  rw [W4,Vq] at f
  rcases Vb.mp hu with rfl | hu
  ·rw [FE r f.1];exact M0 r rx f.1 fx
  ·exact kL rx fx t f.2 u' hu
def OL (x:V) (xs:List V):Bool:=xs.any λy=>Ih y x
def Uw (K:PySem.W.Frag) (neg:Bool):R2:=λx y H Q=>∃p xs,y=.ref p∧(dq K H p xs∨g8 K H p xs)∧j1 x=true∧xs.all j1=true∧Q (.bl (if neg then !OL x xs else OL x xs)) H
theorem Es:fI X (compareOp .In) (Uw X.K false):=by
 intro pins s σ H x y v u Q I rx ry h
 obtain ⟨p,xs,rfl,hq,fx,fs,q⟩:=h
 cases ry
 rcases hq with hq | hq
 ·obtain ⟨its,r,pl,hz⟩:=I.list hq
  refine SeqAt.in_listAt (AQ x) pl.isList (λw hw=>kL rx fx r fs w (by simpa using hw)) ⟨.bl _,H,I,rfl,?_⟩
  rw [show its.toArray.any (AQ x)=its.any (AQ x) by simp,nI r fs]
  exact q
 ·obtain ⟨its,r,pl,hz⟩:=I.tuple hq
  refine SeqAt.in_tupleAt (AQ x) pl (λw hw=>kL rx fx r fs w (by simpa using hw)) ⟨.bl _,H,I,rfl,?_⟩
  rw [show its.toArray.any (AQ x)=its.any (AQ x) by simp,nI r fs]
  exact q
theorem xg:fI X (compareOp .NotIn) (Uw X.K true):=by
 intro pins s σ H x y v u Q I rx ry h
 obtain ⟨p,xs,rfl,hq,fx,fs,q⟩:=h
 cases ry
 rcases hq with hq | hq
 ·obtain ⟨its,r,pl,hz⟩:=I.list hq
  refine SeqAt.notIn_listAt (AQ x) pl.isList (λw hw=>kL rx fx r fs w (by simpa using hw)) ⟨.bl _,H,I,rfl,?_⟩
  rw [show its.toArray.any (AQ x)=its.any (AQ x) by simp,nI r fs]
  exact q
 ·obtain ⟨its,r,pl,hz⟩:=I.tuple hq
  refine SeqAt.notIn_tupleAt (AQ x) pl (λw hw=>kL rx fx r fs w (by simpa using hw)) ⟨.bl _,H,I,rfl,?_⟩
  rw [show its.toArray.any (AQ x)=its.any (AQ x) by simp,nI r fs]
  exact q
theorem ju:cq X (.builtin "len") (λxs H Q=>∃p ys,xs=[.ref p]∧(dq X.K H p ys∨g8 X.K H p ys)∧Q (.int ys.length) H):=by
 intro pins s σ H xs us Q I r h
 obtain ⟨p,ys,rfl,hq,q⟩:=h
 obtain ⟨u,rfl,rx⟩:=vals1 r
 cases rx
 have hn:=mR
 rcases hq with hq | hq
 ·obtain ⟨its,r',pl,hz⟩:=I.list hq
  have hlen:=r'.length
  exact Calls.call_len_list pl.isList (by simp only [U5] <;> omega) ⟨.int ys.length,H,I.tok _,⟨s.toks + 1,by rw [U5,hlen]⟩,q⟩
 ·obtain ⟨its,r',pl,hz⟩:=I.tuple hq
  have hlen:=r'.length
  exact len_tuple pl (by simp only [U5] <;> omega) ⟨.int ys.length,H,I.tok _,⟨s.toks + 1,by rw [U5,hlen]⟩,q⟩
theorem nK:cq X (.builtin "len") (λxs H Q=>∃z,xs=[.str z]∧z.length≤sizeLine∧Q (.int z.length) H):=by
 intro pins s σ H xs us Q I r h
 obtain ⟨z,rfl,hz,q⟩:=h
 obtain ⟨u,rfl,t,rfl⟩:=vals1 r
 have hn:=mR
 exact len_str (by omega) ⟨.int z.length,H,I.tok _,⟨_,rfl⟩,q⟩
theorem cq.or {f:Value} {r r':List V→Hp→VK→Prop} (h:cq X f r) (h':cq X f r'):cq X f (λxs H Q=>r xs H Q∨r' xs H Q):=by
 intro pins s σ H xs us Q I rs q
 rcases q with q | q
 ·exact h pins s σ H xs us Q I rs q
 ·exact h' pins s σ H xs us Q I rs q
theorem wx:cq X (.type "list") (λxs H Q=>∃p ys,xs=[.ref p]∧(dq X.K H p ys∨g8 X.K H p ys)∧∀l,H l=none→Q (.ref l) (upd H l (.lst ys))):=by
 intro pins s σ H xs us Q I r h
 obtain ⟨p,ys,rfl,hq,q⟩:=h
 obtain ⟨u,rfl,rx⟩:=vals1 r
 cases rx
 have fin:∀(its:List Value),Vals ys its→ys.length≤sizeLine→∀(h':Heap) (c':Nat),(∀b o',s.heap.get? b=some o'→h'.get? b=some o') →
   h'.get? s.heap.objs.size=some { cls:=.type "list",dict:=none,data:=.seq its.toArray c',slots:=#[] }→EP X pins σ Q (.ref s.heap.objs.size) { s with heap:=h' }:=λits r' hz h' c' kp e =>
  ⟨.ref s.heap.objs.size,_,I.laid (t':=s.toks) kp (U4 _) (show dP X.prog X.w _ h' _ (.lst ys) from ⟨hz,its,c',r',e⟩),rfl,q _ (I.hok.fresh (U4 _))⟩
 rcases hq with hq | hq
 ·obtain ⟨its,r',pl,hz⟩:=I.list hq
  have hlen:=r'.length
  obtain ⟨o,ho,hc,n,hd⟩:=pl.isList
  exact call_list_seq p (.inl rfl) ho hc hd (λh' c' kp e=>fin its r' hz h' c' kp e) (by simp only [U5] <;> omega)
 ·obtain ⟨its,r',pl,hz⟩:=I.tuple hq
  have hlen:=r'.length
  obtain ⟨o,ho,hc,n,hd⟩:=pl
  exact call_list_seq p (.inr rfl) ho hc hd (λh' c' kp e=>fin its r' hz h' c' kp e) (by simp only [U5] <;> omega)
def R3 (K:PySem.W.Frag) (T:String) (x:V) (H:Hp):Prop:=match x with
 | .str _=>T="str"
 | .int _=>T="int"
 | .ref p=>(T="list"∧∃xs,dq K H p xs)∨(T="tuple"∧∃o,K.lookup p=some o∧o.cls=.type "tuple"∧o.dict=none) ∨
   (T="dict"∧((∃kvs,H p=some (.dK kvs))∨∃kvs ep,H p=some (.dE kvs ep)))∨(T="set"∧∃S n,H p=some (.set S n))
 | _=>False
theorem HZ {pins:List (Addr × Obj)} {σ:St} {H:Hp} {s:Shared} {T:String} {x:V} {v:Value} (I:Inv X pins σ H s) (r:RelV x v) (ty:R3 X.K T x H) :
  s.TypeIs v T∧∀a,v=.ref a→∃ob,s.heap.get? a=some ob∧ob.dict=none:=by
 cases x with
 | str z =>
  obtain ⟨t,rfl⟩:=r
  cases (show T="str" from ty)
  exact ⟨typeIs_str s z t,λ_ e=>nomatch e⟩
 | int i =>
  obtain ⟨t,rfl⟩:=r
  cases (show T="int" from ty)
  exact ⟨typeIs_int s i t,λ_ e=>nomatch e⟩
 | ref p =>
  cases r
  rcases ty with ⟨rfl,xs,hq⟩ | ⟨rfl,o,hk,hc,hd⟩ | ⟨rfl,hk⟩ | ⟨rfl,S,n,hk⟩
  ·obtain ⟨its,_,pl,_⟩:=I.list hq
   refine ⟨pl.isList.typeIs,λa e=>?_⟩
   cases e
   obtain ⟨o,n,e,c,hd,_⟩:=pl
   exact ⟨o,e,hd⟩
  ·refine ⟨⟨o,I.mO p o hk,hc⟩,λa e=>?_⟩
   cases e
   exact ⟨o,I.mO _ o hk,hd⟩
  ·have z:∃o,s.heap.get? p=some o∧o.ExactDict:=by
    rcases hk with ⟨kvs,hk⟩ | ⟨kvs,ep,hk⟩
    ·obtain ⟨_,_,_,_,o,_,_,e,ex,_⟩:=I.hok p _ hk
     exact ⟨o,e,ex⟩
    ·obtain ⟨_,_,_,_,o,_,e,ex,_⟩:=I.hok p _ hk
     exact ⟨o,e,ex⟩
   obtain ⟨o,e,ex⟩:=z
   refine ⟨⟨o,e,ex.1⟩,λa e2=>?_⟩
   cases e2
   exact ⟨o,e,ex.2.1⟩
  ·obtain ⟨o,_,_,_,e,ex,_⟩:=I.hok p _ hk
   refine ⟨⟨o,e,ex.1⟩,λa e2=>?_⟩
   cases e2
   exact ⟨o,e,ex.2.1⟩
 | _=>exact False.elim ty
def Ts (K:PySem.W.Frag) (T:String) (r:V→List V→Hp→VK→Prop) (to:TE):TE:=λσ H Q=>to σ H λx H1=>R3 K T x H1∧r x [] H1 Q
def RV (K:PySem.W.Frag) (T:String) (r:V→List V→Hp→VK→Prop) (to:TE) (t:TA):TE:=λσ H Q=>to σ H λx H1=>R3 K T x H1∧t σ H1 λxs H2=>r x xs H2 Q
variable {o e:Expr} {es:List Expr} {to:TE} {t:TA} {name:Str} {apos cpos:Pos} {T id:String} {r:V→List V→Hp→VK→Prop}
theorem NR (pa:PlainAttrs T) (slot:Slot T name id) (hty:typeOf (.builtin id)=pure (.type "method_descriptor")) (hm:qL X id r) (ho:PE X o to)
  (hbase:attributeBase o name X.env (eval o X.env)=eval o X.env:=by rfl) (hline:(apos.endLine == cpos.line)=true:=by rfl):PE X (.Call (.Attribute o name apos) [] [] cpos) (Ts X.K T r to):=by
 intro pins s σ H Q I h
 refine wpAny_Call_method0_late hbase hline (cG (ho pins s σ H _ I h) λv s1 ⟨x,H1,I1,r1,ty,q1⟩=>?_)
 obtain ⟨h1,h2⟩:=HZ I1 r1 ty
 exact ⟨T,id,pa,slot,hty,h1,h2,Calls.callWith_builtin rfl (PySem.evalArgs_none (hm pins s1 σ H1 x [] v [] Q I1 r1 .nil q1))⟩
theorem sS (pa:PlainAttrs T) (slot:Slot T name id) (hty:typeOf (.builtin id)=pure (.type "method_descriptor")) (hm:qL X id r) (ho:PE X o to) (ha:PA X (e :: es) t)
  (hbase:attributeBase o name X.env (eval o X.env)=eval o X.env:=by rfl)
  (hfew:((backTo cpos (starEach (e :: es) X.env)).all (λx=>!x.1) && (backToKw cpos (keywordEach [] X.env)).all (λx=>x.1.isSome)
   && decide ((e :: es).length + ([]:List Keyword).length + (if ([]:List Keyword).isEmpty then 0 else 1) < 30))=true:=by rfl)
  (hline:(apos.endLine == cpos.line)=true:=by rfl) (hs:starEach (e :: es) X.env=(false,eval e X.env) :: starEach es X.env:=by rfl) (hplain:(backTo cpos (starEach es X.env)).any (·.1)=false:=by rfl) :
  PE X (.Call (.Attribute o name apos) (e :: es) [] cpos) (RV X.K T r to t):=by
 intro pins s σ H Q I h
 refine wpAny_Call_method_late hbase hfew hline rfl (cG (ho pins s σ H _ I h) λv s1 ⟨x,H1,I1,r1,ty,q1⟩=>?_)
 obtain ⟨h1,h2⟩:=HZ I1 r1 ty
 refine ⟨T,id,pa,slot,hty,h1,h2,?_⟩
 have hA:=ha cpos pins s1 σ H1 _ I1 q1
 rw [hs] at hA ⊢
 refine Calls.callWith_builtin (by show (false || (backTo cpos (starEach es X.env)).any (·.1))=false;rw [hplain] <;> rfl) (Calls.evalArgs_plain ?_)
 exact cG hA λus s2 ⟨vs,H2,I2,r2,q2⟩=>hm pins s2 σ H2 x vs v us Q I2 r1 r2 q2
end
end L2
namespace L2
open PySem PySem.Spec PyProof.Rows
def T7 (X:Cx) (id:String) (r:V→List V→Hp→VK→Prop):Prop :=
 ∀(pins:List (Addr × Obj)) (s:Shared) (σ:St) (H:Hp) (x:V) (xs:List V) (v:Value) (us:List Value) (Q:VK),Inv X pins σ H s→RelV x v→Vals xs us→r x xs H Q →
  wpAny (model X.prog X.w) X.A (call (.builtin id) (v :: us)) (EP X pins σ Q) X.xe s
theorem Vals.one {x:V} {us:List Value} (r:Vals [x] us):∃u,us=[u]∧RelV x u:=vals1 r
theorem Vals.two {x y:V} {us:List Value} (r:Vals [x,y] us):∃u v,us=[u,v]∧RelV x u∧RelV y v:=vals2 r
theorem Vals.zero:∀{us:List Value},Vals [] us→us=[]
 | _,.nil=>rfl
theorem Vals.dropLast {xs:List V} {us:List Value} (h:Vals xs us):Vals xs.dropLast us.dropLast:=by
 induction h with
 | nil=>exact .nil
 | cons r t ih =>
  cases t with
  | nil=>exact .nil
  | cons q t'=>exact .cons r ih
theorem Vals.eraseIdx:∀{xs:List V} {us:List Value} (i:Nat),Vals xs us→Vals (xs.eraseIdx i) (us.eraseIdx i)
 | _,_,_,.nil=>.nil
 | _,_,0,.cons _ t=>t
 | _,_,i + 1,.cons r t=>.cons r (Vals.eraseIdx i t)
theorem AR {α:Type} (l:List α):l.eraseIdx (l.length - 1)=l.dropLast:=by
 induction l with
 | nil=>rfl
 | cons a r ih =>
  cases r with
  | nil=>rfl
  | cons b r =>
   have e:(a :: b :: r).length - 1=((b :: r).length - 1) + 1:=by
    have h1:(a :: b :: r).length=r.length + 2:=rfl
    have h2:(b :: r).length=r.length + 1:=rfl
    omega
   rw [e,WL,ih]
   all_goals rfl
section
variable {X:Cx} {pins:List (Addr × Obj)} {σ:St} {H:Hp} {s:Shared} {l b:Addr} {xs ys zs:List V}
theorem Inv.Jw {its its':List Value} {n:Nat} {f:Array Value→Array Value} {t':Nat} (I:Inv X pins σ H s) (hH:H l=some (.lst xs))
  (e:s.heap.get? l=some { cls:=.type "list",data:=.seq its.toArray n }) (hf:f its.toArray=its'.toArray) (hv:Vals ys its') (hz:ys.length≤sizeLine) :
  Inv X pins σ (upd H l (.lst ys)) { s with heap:=s.heap.update l (Obj.mapSeq f),toks:=t' }:=by
 have q:=PySem.IsL.update e f
 rw [hf] at q
 refine I.write (x:=l) (e:=l) (by rw [hH];exact trivial) (.inl rfl) (λb' u hb hu=>(Heap.get?_update_other s.heap (Obj.mapSeq f) (Ne.symm hb)).trans hu) ⟨_,q⟩ ?_
 exact ⟨hz,its',_,hv,q⟩
theorem Inv.SR {its:List Value} {t':Nat} (I:Inv X pins σ H s) (hv:Vals ys its) (hz:ys.length≤sizeLine) :
  Inv X pins σ (upd H s.heap.objs.size (.lst ys)) { s with heap:=s.heap.push { cls:=.type "list",data:=.seq its.toArray },toks:=t' } :=
 I.laid (λ_ _ q=>Heap.get?_push_of_some _ q) (U4 _) ⟨hz,its,0,hv,Heap.get?_push_size _ rfl⟩
theorem Inv.fresh (I:Inv X pins σ H s):H s.heap.objs.size=none:=I.hok.fresh (U4 _)
theorem Inv.Gm (I:Inv X pins σ H s) (hH:H l=some (.lst xs)):xs.length≤sizeLine∧∃(its:List Value) (n:Nat),Vals xs its∧xs.length=its.length∧s.heap.get? l=some { cls:=.type "list",data:=.seq its.toArray n }:=by
 obtain ⟨z,its,n,r,e⟩:=I.hok l _ hH
 exact ⟨z,its,n,r,r.length,e⟩
end
section
variable {X:Cx}
def CK:V→List V→Hp→VK→Prop:=λx vs H Q=>∃l xs y,x=.ref l∧vs=[y]∧H l=some (.lst xs)∧xs.length < sizeLine∧Q .non (upd H l (.lst (xs ++ [y])))
theorem i5:T7 X "list.append" CK:=by
 intro pins s σ H x vs v us Q I rx rv h
 obtain ⟨l,xs,y,rfl,rfl,hH,hz,q⟩:=h
 cases rx
 obtain ⟨u,rfl,ru⟩:=rv.one
 obtain ⟨z,its,n,r,hl,e⟩:=I.Gm hH
 refine call_meets F.slot_list_append ⟨_,e,rfl⟩ F.entry_list_append (F.args_list_append_2 _ _) (PySem.list_append l its.toArray n u (by rw [U5];omega)) ⟨e,?_⟩
 refine ⟨.non,_,I.Jw (its':=its ++ [u]) hH e (by simp) (r.append (.cons ru .nil)) ?_,rfl,q⟩
 rw [Vg,List.length_singleton]
 omega
def Tj:V→List V→Hp→VK→Prop:=λx vs H Q=>∃l xs y,x=.ref l∧vs=[]∧H l=some (.lst xs)∧xs[xs.length - 1]?=some y∧Q y (upd H l (.lst xs.dropLast))
theorem Nw:T7 X "list.pop" Tj:=by
 intro pins s σ H x vs v us Q I rx rv h
 obtain ⟨l,xs,y,rfl,rfl,hH,hy,q⟩:=h
 cases rx
 have hus:=rv.zero
 subst hus
 obtain ⟨z,its,n,r,hl,e⟩:=I.Gm hH
 obtain ⟨u,hu,ru⟩:=r.get hy
 have hy':its.toArray[its.toArray.size - 1]?=some u:=by
  show its.toArray[its.length - 1]?=some u
  rw [← Array.getElem?_toList,← hl]
  exact hu
 refine call_meets F.slot_list_pop ⟨_,e,rfl⟩ F.entry_list_pop (F.args_list_pop_1 _) (MeetsSeq.list_pop_last l its.toArray n u hy' (by rw [U5];omega)) ⟨e,?_⟩
 refine ⟨y,_,I.Jw (its':=its.dropLast) hH e ?_ r.dropLast ?_,ru,q⟩
 ·show its.toArray.eraseIdxIfInBounds (its.toArray.size - 1)=its.dropLast.toArray
  rw [U5,Wq,AR]
 ·rw [WZ]
  omega
end
section
variable {prog:Program} {w:World} {A:Around} {E:Value→Shared→Prop} {s:Shared}
end
section
variable {X:Cx}
end
end L2
namespace Att
open PySem PySem.W PySem.Calls PyProof.Rows
theorem qA {P:Params} {h:Heap}:∀(ns:List Int) (vs:List Value),WellAll P h vs (ns.map WData.int)→IntsAre vs ns:=by
 intro ns
 induction ns with
 | nil =>
  intro vs w
  rw [VV] at w
  cases w
  exact .nil
 | cons n ns ih =>
  intro vs w
  rw [U6] at w
  cases w with
  | cons a b =>
   cases a
   exact .cons _ _ (ih _ b)
theorem EF {l:OpenLaw} {n:Nat} (hn:l.most=some n) {P:Params} {h:Heap} {args:List WData} {vals:List Value}
  (hpre:l.row.toRowW.claim.pre args=true) (hwl:WellAll P h vals args) :
  ∃a vs ns,vals=[Value.ref a]∧args=[WData.list (ns.map WData.int)]∧h.get? a=some { cls:=.type "list",data:=.seq vs.toArray }∧IntsAre vs ns∧ns.length≤n:=by
 have hsh:WShape.hasAll [] args [.list .int]=true:=(pre_splitW hpre).1
 have hc:l.pre.holds [] { args:=args }=true:=(pre_splitW hpre).2
 obtain ⟨d,r,rfl,h1,h2⟩:=hasAllW_cons hsh
 obtain rfl:=hasAllW_nil h2
 obtain ⟨xs,rfl,h3⟩:=hasW_list h1
 obtain ⟨ns,rfl⟩:=items_int h3
 have hlen:ns.length≤n:=by
  unfold OpenLaw.pre at hc
  have h4:(WTm.not (.lt (.lit (.int (n:Int))) (.len (.arg 0)))).holds [] { args:=[.list (ns.map .int)] }=true:=by
   have h4:=(holds_andW hc).1
   rw [hn] at h4
   exact h4
  have h5:=condW_of h4 (w_not (w_lt w_lit (w_len_list (w_arg rfl))))
  rw [UZ] at h5
  refine Nat.le_of_not_lt λq=>?_
  have q':(n:Int) < ((ns.length:Nat):Int):=by omega
  first
   | (rw [decide_eq_true q'] at h5;exact absurd h5 (by decide))
   | (simp at h5;omega)
 cases hwl with
 | cons w1 w2 =>
  cases w2
  cases w1 with
  | list ho hall=>exact ⟨_,_,ns,rfl,rfl,ho,qA ns _ hall,hlen⟩
theorem EA (l:OpenLaw) (args:List WData):l.row.toRowW.claim.post args (.bool true) args=true :=
 postW_of (r:=l.row.toRowW) (X:=(true == true))
  (show WShape.has [] (.bool true) .bool=true by first | rfl | decide | simp [WShape.has,WShape.arms,WShape.armsAll])
  (show (WTm.eq .res (.lit (.bool true))).value [] { args:=args,res:=some (.bool true),after:=args }=some (.bool (true == true)) from w_eq_bool (w_res rfl) w_lit) rfl
theorem yy {l:OpenLaw} {n:Nat} {q:Program} {loose:List Str} {XP:(Str→Option Value)→Heap→Prop} {YP:World→Heap→Prop} {d:DefRec}
  (hn:l.most=some n) (hdf:d.params.defaults=[])
  (call:∀(w:World) (s₀ s₁:Shared) (mg mb:Str→Option Value) (fa:Addr) (o:Obj) (pm cd doc:Value) (a:Addr) (vs:List Value) (ns:List Int),
   Ground q loose [] XP w s₀ mg mb s₁.heap→YP w s₁.heap →
   s₁.heap.get? fa=some o→o.data=.func (docDef d.name d.params d.body d.scope pm cd doc)→s₁.heap.CodeRec cd d.name→mg d.name=some (.ref fa) →
   s₁.heap.get? a=some { cls:=.type "list",data:=.seq vs.toArray }→IntsAre vs ns→ns.length≤n→s₁.gens=#[] →
   codeAny (model l.prog w) callerA (.call (.ref fa) ⟨[.ref a],[]⟩) (λr s'=>r=.ok (.ret (.bool true))∧OldK s₁.heap s'.heap∧s'.os=s₁.os∧AllBare s'.gens) s₁) :
  WalkO q loose XP YP l.row.toRowW d [] (λf vs=>PySem.call f vs):=by
 intro w s₀ s₁ mg mb G Y fa o pm cd doc dV kV ho hd hcd hD hmg hg args vals as hpre hlay hrd hwl hlo
 obtain rfl:dV=.none:=Dflts.none hD hdf
 obtain rfl:kV=.none:=Dflts.noKw hD
 obtain ⟨a,vs,ns,rfl,rfl,hobj,hints,hlen⟩:=EF hn hpre hwl
 refine enter_call (codeAny_mono (call w s₀ s₁ mg mb fa o pm cd doc a vs ns G Y ho (fd_plain hd) hcd hmg hobj hints hlen hg) λr s' hq=>?_)
 obtain ⟨rfl,h2,h3,h4⟩:=hq
 exact ⟨.inl ⟨.bool true,.bool true,[],rfl,λ_=>rfl,.bool true,EA l _,λ_=>⟨List.Pairwise.nil,λ_ hm=>(nomatch hm)⟩⟩,h2,h3,h4⟩
section
variable {prog:Program} {w:World} {A:Around} {E:Value→Shared→Prop} {s:Shared} {K:Frag}
end
end Att
namespace L2
open PySem PySem.Spec PyProof.Rows
theorem v3:∀{vs:List Value} {ns:List Int},IntsAre vs ns→Vals (ns.map V.int) vs
 | _,_,.nil=>.nil
 | _,_,.cons n t h=>.cons ⟨t,rfl⟩ (v3 h)
end L2
namespace L2
open PySem PySem.Spec PyProof.Rows
abbrev Fb {K:PySem.W.Frag} {h:Heap} (_:K.In h):PySem.W.Frag:=K
end L2
namespace L2
open PySem PySem.Spec PyProof.Rows
def inClass (s:Stmt) (j:Nat):Stmt:=match s with
 | .ClassDef _ _ _ body _ _ _ _ _ _ _=>body.getD j (.Pass ⟨0,0,0,0⟩)
 | _=>.Pass ⟨0,0,0,0⟩
def dG (s:Stmt):Arguments:=match s with
 | .FunctionDef _ a _ _ _ _ _ _ _ _=>a
 | _=>{ posonlyargs:=[],args:=[],vararg:=none,kwonlyargs:=[],kw_defaults:=[],kwarg:=none,defaults:=[] }
def cb (s:Stmt):List Stmt:=match s with
 | .FunctionDef _ _ b _ _ _ _ _ _ _=>b
 | _=>[]
def aj (s:Stmt):Scope:=match s with
 | .FunctionDef _ _ _ _ _ _ sc _ _ _=>sc
 | _=>{ kind:=.function,names:=[],isGenerator:=false,isCoroutine:=false }
abbrev rF:uc:=λ_ _ _ _ _ _=>False
abbrev E0:XK:=λ_ _ _=>False
theorem Qj {X:Cx}:Passes rF X E0:=λ_ _ _ _ _ _ _ h=>h.elim
structure cg (K:PySem.W.Frag) (x qual:Str) (st:Stmt) (f:Addr) (fd:FuncData):Prop where
 ex:∃(oc:Value) (od:Option Addr) (kV doc pm:Value) (an:Option Addr) (cdv ct:Value) (osl:Array (Option Value)),
  fd=PySem.W.fnOf x qual (dG st) (cb st) (aj st) .none kV doc pm an cdv ct∧K.lookup f=some ⟨oc,od,.func fd,osl⟩∧PySem.W.codeIn K cdv qual=true
 kp:PySem.W.keepIn K (.ref f)=true
section
variable {P:Program} {w:World} {K:PySem.W.Frag} {mg:Str→Option Value} {base:Heap}
theorem cg.ok {x qual:Str} {st:Stmt} {f:Addr} {fd:FuncData} {N ps:List Str} {k:Nat} {sp:Sp} (F:cg K x qual st f fd) (S:av N ps (aj st)) (len:∀vs H Q E,sp vs H Q E→vs.length=ps.length)
  (hbody:∀(cdv:Value) (A:Around) (outer:List Env) (s:Shared) (H:Hp) (vs:List V) (Q:VK) (E:XK),b9 k (A.deeper (envOfC qual (aj st) s.heap.objs.size f cdv))→sp vs H Q E →
   ∃t,t_ (wz rF P w K mg base N qual (aj st) f cdv A outer s H E).Nx (cb st) t∧t { nx:=λ_ H'=>Q .non H',rt:=Q } (start N vs) H):aO P w K mg base rF (k + 1) f fd ps sp:=by
 obtain ⟨oc,od,kV,doc,pm,an,cdv,ct,osl,rfl,lk,hcd⟩:=F.ex
 refine FG lk hcd S len λA outer s H vs Q E hr hsp=>?_
 obtain ⟨t,h,q⟩:=hbody cdv A outer s H vs Q E hr hsp
 exact ⟨t,h.Nx,q⟩
theorem cg.binds {x qual:Str} {st:Stmt} {f:Addr} {fd:FuncData} {ps:List Str} (F:cg K x qual st f fd)
  (h:∀(kV doc pm:Value) (an:Option Addr) (cdv ct:Value) (us:List Value),us.length=ps.length→bindArgs (PySem.W.fnOf x qual (dG st) (cb st) (aj st) .none kV doc pm an cdv ct) ⟨us,[]⟩=pure (ps.zip us)):Binds K fd ps []:=by
 obtain ⟨oc,od,kV,doc,pm,an,cdv,ct,osl,rfl,lk,hcd⟩:=F.ex
 exact .all (h kV doc pm an cdv ct)
theorem AU {x qual:Str} {st:Stmt} {f:Addr} {oc:Value} {od an:Option Addr} {osl:Array (Option Value)} {kV doc pm cdv ct:Value} (l:K.lookup f=some ⟨oc,od,.func (PySem.W.fnOf x qual (dG st) (cb st) (aj st) .none kV doc pm an cdv ct),osl⟩)
  (c:PySem.W.codeIn K cdv qual=true) (k:PySem.W.keepIn K (.ref f)=true):cg K x qual st f (PySem.W.fnOf x qual (dG st) (cb st) (aj st) .none kV doc pm an cdv ct):=⟨⟨oc,od,kV,doc,pm,an,cdv,ct,osl,rfl,l,c⟩,k⟩
end
theorem bp {n:Nat} (h:n≤1000):n < sizeLine:=VN h (by decide)
section
variable {X:Cx}
theorem pv (i:Nat) {x:Str} {pos:Pos} (hN:X.N[i]?=some x:=by rfl) (hv:yv X.env.scope x:=by first | exact Or.inl rfl | exact Or.inr (Or.inl rfl) | exact Or.inr (Or.inr rfl)) (hd:(x == ("__debug__":Str))=false:=by decide)
  (hcd:(x == ("__classdict__":Str))=false:=by decide):PE X (.Name x pos) (BU i):=Bp hN hv hd hcd
end
theorem F2 {c A B:Prop} [Decidable c] (h1:c→A) (h2:¬ c→B):if c then A else B:=by
 by_cases h:c
 ·rw [if_pos h]
  exact h1 h
 ·rw [if_neg h]
  exact h2 h
def bL (H H':Hp):Prop:=∀b o,H b=some o→H' b=some o
theorem bL.trans {H H1 H2:Hp} (a:bL H H1) (b:bL H1 H2):bL H H2:=λc o h=>b c o (a c o h)
theorem bL.free {H H':Hp} (e:bL H H') {l:Addr} (h:H' l=Option.none):H l=Option.none:=by
 cases q:H l with
 | none=>rfl
 | some o =>
  rw [e l o q] at h
  cases h
theorem bL.seq {K:PySem.W.Frag} {H H':Hp} {a:Addr} {xs:List V} (e:bL H H') (h:dq K H a xs):dq K H' a xs:=by
 rcases h with (h | ⟨o,h⟩) | h
 ·exact .inl (.inl (e _ _ h))
 ·exact .inl (.inr ⟨o,e _ _ h⟩)
 ·exact .inr h
end L2
namespace Ov
theorem yI {a b:Int} (h:b≠0):Int.gcd b (a % b)=Int.gcd a b:=by
 have e:a=b * (a / b) + a % b:=(Int.mul_ediv_add_emod a b).symm
 have d1:((Int.gcd b (a % b):Nat):Int) ∣ a:=by
  rw [e]
  exact Int.dvd_add (Int.dvd_trans (Int.gcd_dvd_left ..) (Int.dvd_mul_right ..)) (by rw [← e];exact Int.gcd_dvd_right ..)
 have d2:((Int.gcd a b:Nat):Int) ∣ a % b:=by
  have e2:a % b=a - b * (a / b):=by omega
  rw [e2]
  exact Int.dvd_sub (Int.gcd_dvd_left ..) (Int.dvd_trans (Int.gcd_dvd_right ..) (Int.dvd_mul_right ..))
 exact Nat.dvd_antisymm (Int.dvd_gcd d1 (Int.gcd_dvd_left ..)) (Int.dvd_gcd (Int.gcd_dvd_right ..) d2)
theorem Ci {a:Int} (h:0≤a):((Int.gcd a 0:Nat):Int)=a:=by
 rw [Int.gcd_zero_right];omega
theorem Jl (a b:Int):Int.gcd (if a < 0 then -a else a) (if b < 0 then -b else b)=Int.gcd a b:=by
 split <;> split <;> simp [Int.gcd_neg,Int.neg_gcd]
theorem FK (a b:Int):Int.gcd (if a < 0 then -a else a) b=Int.gcd a b:=by
 split <;> simp [Int.gcd_neg,Int.neg_gcd]
theorem Cj {t b:Int} (h:b≠0):0 < ((Int.gcd t b:Nat):Int):=by
 have:0 < Int.gcd t b:=Int.gcd_pos_of_ne_zero_right t h
 omega
theorem M6 {t b:Int} (h:b≠0):Int.gcd t b≤b.natAbs:=Nat.le_of_dvd (by omega) (Int.ofNat_dvd.mp (by rw [Int.dvd_natAbs];exact Int.gcd_dvd_right ..))
theorem wO {t b:Int} (h:0 < b):t.fdiv ((Int.gcd t b:Nat):Int)=(Rat.divInt t b).num:=by
 rw [Rat.num_divInt,Int.sign_eq_one_of_pos h,Int.one_mul,Int.gcd_comm b t,Int.fdiv_eq_ediv_of_nonneg _ (Int.natCast_nonneg _)]
theorem den_pos {t b:Int} (h:0 < b):b.fdiv ((Int.gcd t b:Nat):Int)=((Rat.divInt t b).den:Int):=by
 rw [Rat.den_divInt,if_neg (by omega),Int.gcd_comm b t,Int.fdiv_eq_ediv_of_nonneg _ (Int.natCast_nonneg _)]
 rw [Int.natCast_ediv]
 congr 1
 omega
theorem Cy {t b:Int} (h:b < 0):t.fdiv (-((Int.gcd t b:Nat):Int))=(Rat.divInt t b).num:=by
 have e:t.fdiv (-((Int.gcd t b:Nat):Int))=(-t).fdiv ((Int.gcd t b:Nat):Int):=by
  have:=Int.neg_fdiv_neg (a:=-t) (b:=((Int.gcd t b:Nat):Int))
  rw [← this];simp
 rw [e,Rat.num_divInt,Int.sign_eq_neg_one_of_neg h,Int.gcd_comm b t,Int.fdiv_eq_ediv_of_nonneg _ (Int.natCast_nonneg _)]
 congr 1
 omega
theorem Jb {t b:Int} (h:b < 0):b.fdiv (-((Int.gcd t b:Nat):Int))=((Rat.divInt t b).den:Int):=by
 have e:b.fdiv (-((Int.gcd t b:Nat):Int))=(-b).fdiv ((Int.gcd t b:Nat):Int):=by
  have:=Int.neg_fdiv_neg (a:=-b) (b:=((Int.gcd t b:Nat):Int))
  rw [← this];simp
 rw [e,Rat.den_divInt,if_neg (by omega),Int.gcd_comm b t,Int.fdiv_eq_ediv_of_nonneg _ (Int.natCast_nonneg _)]
 rw [Int.natCast_ediv]
 congr 1
 omega
theorem Cw (t b:Int):(Rat.divInt t b).num.natAbs≤t.natAbs:=by
 rcases Int.lt_trichotomy b 0 with h | h | h
 ·rw [← Cy h]
  exact Int.natAbs_fdiv_le_natAbs ..
 ·subst h;simp
 ·rw [← wO h,Int.fdiv_eq_ediv_of_nonneg _ (Int.natCast_nonneg _)]
  exact Int.natAbs_ediv_le_natAbs ..
theorem wA {t b:Int} (h:b≠0):(((Rat.divInt t b).den:Int)).natAbs≤b.natAbs:=by
 rw [Rat.den_divInt,if_neg h]
 exact Nat.div_le_self ..
theorem lZ (p:Rat):Rat.divInt p.num p.den=p:=Rat.num_divInt_den p
theorem fu (p:Rat):(p.den:Int)≠0:=by have:=p.den_pos;omega
theorem dB (p:Rat):(0:Int) < p.den:=by have:=p.den_pos;omega
theorem add_eq (p q:Rat):Rat.divInt (p.num * q.den + q.num * p.den) (p.den * q.den)=p + q:=by
 rw [← Rat.divInt_add_divInt _ _ (fu p) (fu q),lZ,lZ]
theorem sub_eq (p q:Rat):Rat.divInt (p.num * q.den - q.num * p.den) (p.den * q.den)=p - q:=by
 rw [← Rat.divInt_sub_divInt _ _ (fu p) (fu q),lZ,lZ]
theorem mul_eq (p:Rat) (m:Int):Rat.divInt (p.num * m) p.den=p * m:=by
 have:=Rat.divInt_mul_divInt p.num m (d₁:=p.den) (d₂:=1)
 rw [lZ,Int.mul_one] at this
 rw [← this,Rat.divInt_eq_div]
 congr 1
 grind
theorem cast_eq (p:Rat):(p.num:Rat)=p * (p.den:Int):=by
 have h:((p.den:Int):Rat)≠0:=by
  intro e
  exact fu p (by exact_mod_cast e)
 have e:=lZ p
 rw [Rat.divInt_eq_div] at e
 grind
theorem eD (p:Rat):((p.den:Int):Rat)≠0:=λe=>fu p (by exact_mod_cast e)
theorem O9 (b p m:Rat) (v:Int):Rat.divInt (p.num * (m.den * b.den) + v * (m.num * b.den - b.num * m.den) * p.den) (p.den * (m.den * b.den))=p + (m - b) * v:=by
 have h:=eD p
 have g:=eD b
 have k:=eD m
 simp only [Rat.divInt_eq_div,Rat.intCast_add,Rat.intCast_sub,Rat.intCast_mul,cast_eq p,cast_eq b,cast_eq m]
 generalize ((p.den:Int):Rat)=d at h ⊢
 generalize ((b.den:Int):Rat)=e at g ⊢
 generalize ((m.den:Int):Rat)=f at k ⊢
 generalize (v:Rat)=v
 grind
theorem de {n:Int} (h:n≠0):(n:Rat)≠0:=λe=>h (by exact_mod_cast e)
theorem N2 (g:Rat) (n:Int) (h:n≠0):Rat.divInt g.num (g.den * n)=g / n:=by
 have k:=eD g
 have l:=de h
 simp only [Rat.divInt_eq_div,Rat.intCast_mul,cast_eq g]
 generalize ((g.den:Int):Rat)=d at k ⊢
 generalize (n:Rat)=n at l ⊢
 grind
def rank (n:Nat) (f:Nat→Nat→Bool) (k:Nat):Nat:=(VA n).countP λj=>j != k && f j k
end Ov
namespace Ov
open PySem PySem.Spec PyProof.Rows L2
structure Bd (n:Nat) (x:Int):Prop where
 lt:x.natAbs < 2 ^ n
theorem Bd.bits {n:Nat} {x:Int} (h:Bd n x):Builtin.Int.intBits x≤n:=intBits_le_iff.mpr h.lt
theorem Bd.of {n:Nat} {x:Int} (h:Builtin.Int.intBits x≤n):Bd n x:=⟨intBits_le_iff.mp h⟩
theorem Bd.mono {m n:Nat} {x:Int} (h:Bd m x) (hmn:m≤n):Bd n x:=.of (Vh h.bits hmn)
theorem Bd.neg {n:Nat} {x:Int} (h:Bd n x):Bd n (-x):=.of (intBits_neg_le h.bits)
theorem Bd.add {m n k:Nat} {x y:Int} (h:Bd m x) (g:Bd n y) (hk:max m n + 1≤k:=by decide):Bd k (x + y):=(Bd.of (intBits_add_le h.bits g.bits)).mono hk
theorem Bd.sub {m n k:Nat} {x y:Int} (h:Bd m x) (g:Bd n y) (hk:max m n + 1≤k:=by decide):Bd k (x - y):=(Bd.of (intBits_sub_le h.bits g.bits)).mono hk
theorem Bd.mul {m n k:Nat} {x y:Int} (h:Bd m x) (g:Bd n y) (hk:m + n≤k:=by decide):Bd k (x * y):=(Bd.of (intBits_mul_le h.bits g.bits)).mono hk
theorem Bd.le {n:Nat} {x y:Int} (g:Bd n y) (h:x.natAbs≤y.natAbs):Bd n x:=⟨VN h g.lt⟩
theorem Bd.small {x:Int} (h1:-(2 ^ 64) < x) (h2:x < 2 ^ 64):Bd 64 x:=.of (intBits_le_64 h1 h2)
theorem Bd.log {n:Nat} {x:Int} (h:Bd n x) (hn:n≤9000) (h0:x≠0):x.natAbs.log2 < 9000 :=
 Vf ((Nat.log2_lt (by omega)).mpr h.lt) hn
section
variable {X:Cx}
def CM (i j:Int):Prop:=∃m n,Bd m i∧Bd n j∧m + n≤134217728
theorem CM.of {m n:Nat} {i j:Int} (h:Bd m i) (g:Bd n j) (hk:m + n≤134217728:=by decide):CM i j:=⟨m,n,h,g,hk⟩
theorem cU:fI X (binaryOp .Mult) (rI CM λi j=>.int (i * j)):=RQ λ_ _ _ _ _ _ _ hc q=>by
 obtain ⟨m,n,h,g,hk⟩:=hc
 exact mul_int q (IntMulOk.of_le h.bits g.bits hk)
def CQ (_ j:Int):Prop:=j≠0∧Bd 9000 j
theorem gJ:fI X (binaryOp .FloorDiv) (rI CQ λi j=>.int (i.fdiv j)):=RQ λ_ _ _ _ _ _ _ hc q =>
 floordiv_int hc.1 q (.inl (PyProof.noPylong_of_log2 (hc.2.log (U4 _) hc.1)))
def UU (f:Bool→Bool):R2:=λx y H Q=>∃(p q:Addr) (a b c d:Int),x=.ref p∧y=.ref q∧H p=some (.tup [.int a,.int b])∧H q=some (.tup [.int c,.int d])∧Q (.bl (f (decide (a=c∧b=d)))) H
def Rf (t u:TS):TS:=λD σ H=>∃M:L2.St→Hp→Prop,t { D with nx:=M } σ H∧∀σ' H',M σ' H'→u D σ' H'
theorem Kg {st:Stmt} {rest:List Stmt} {t u:TS} (h1:PS X st t) (h2:t_ X rest u):t_ X (st :: rest) (Rf t u):=by
 intro pins s σ H D I h
 obtain ⟨M,h,k⟩:=h
 refine wpAny_execs_cons (cG (h1 pins s σ H { D with nx:=M } I h) λf s1 q=>?_)
 cases f with
 | next =>
  obtain ⟨σ',H',I',q⟩:=q
  exact h2 pins s1 σ' H' D I' (k _ _ q)
 | ret v=>exact q
 | brk=>exact q
 | cont=>exact q
end
section
variable {X:Cx}
def L5:R2:=λx y H Q=>∃p xs i v,x=.ref p∧y=.int i∧H p=some (.lst xs)∧dF xs i=some v∧Q v H
def QP:R2:=λx y H Q=>∃p xs i v,x=.ref p∧y=.int i∧H p=some (.tup xs)∧dF xs i=some v∧Q v H
theorem gC:rK X L5:=λvalue slice pins s σ H x y v u Q I rx ry ⟨p,xs,i,z,e1,e2,h,e3,q⟩ hs =>
 wH value slice pins s σ H x y v u Q I rx ry ⟨p,xs,i,z,e1,e2,dq.of h,e3,q⟩ hs
end
theorem d_ {α:Type} (x:α) (xs:List α):dF (x :: xs) 0=some x:=bA (j:=0) rfl
theorem fZ {α:Type} (x y:α) (xs:List α):dF (x :: y :: xs) 1=some y:=bA (j:=1) rfl
theorem ma {α:Type} (x y z:α) (xs:List α):dF (x :: y :: z :: xs) 2=some z:=bA (j:=2) rfl
theorem Fs {α:Type} (x y z u:α) (xs:List α):dF (x :: y :: z :: u :: xs) 3=some u:=bA (j:=3) rfl
theorem KJ (i j:Int):Ht (.int i) (.int j)=true:=rfl
theorem KI (i j:Bool):Ht (.bl i) (.bl j)=true:=rfl
theorem KL (i j:Str):Ht (.str i) (.str j)=true:=rfl
def t9 (P:Program) (w:World) (K:PySem.W.Frag) (mg:Str→Option Value) (base:Heap) (k:Nat) (x:Str) (ps:List Str) (sp:Sp):Prop :=
 ∃f fd,aO P w K mg base rF k f fd ps sp∧Binds K fd ps []∧PySem.W.keepIn K (.ref f)=true∧mg x=some (.ref f)
theorem NS {X:Cx} {k k':Nat} {x:Str} {ps:List Str} {sp:Sp} {p pos:Pos} {e:Expr} {es:List Expr} {t:TA} (C:t9 X.prog X.w X.K X.mg X.base k x ps sp) (hr:b9 k' X.A) (hk:k≤k') (hg:Gl X x) (ha:PA X (e :: es) t)
  (hdb:(x == ("__debug__":Str))=false:=by decide) (he:starEach (e :: es) X.env=(false,eval e X.env) :: starEach es X.env:=by rfl) (hpl:(backTo pos (starEach es X.env)).any (·.1)=false:=by rfl) :
  PE X (.Call (.Name x p) (e :: es) [] pos) (t4 sp [] E0 t):=by
 obtain ⟨f,fd,F,b,kp,m⟩:=C
 exact CB F (hr.mono hk) hg m kp b .nil Qj ha hdb he hpl
theorem dC {N P:List Str} {sc:Scope} (a:sc.kind=.function:=by rfl) (b:sc.isCoroutine=false:=by rfl) (c:sc.isGenerator=false:=by rfl) (d:N.Nodup:=by decide +kernel) (e:N.take P.length=P:=by rfl) (f:∀x∈P,sc.names.lookup x=some .local∨sc.names.lookup x=some .cell:=by decide +kernel) (g:∀y∈sc.names,y.2≠.free:=by decide +kernel):av N P sc:=⟨a,b,c,d,e,f,g⟩
def Def (K:PySem.W.Frag) (mg:Str→Option Value) (x:Str) (st:Stmt):Prop:=∃f fd,cg K x x st f fd∧mg x=some (.ref f)
theorem MX {K:PySem.W.Frag} {h:Heap} {mg:Str→Option Value} {x:Str} {st:Stmt} (X:K.In h) (G:h.Ns mainGlobals mg) {f:Addr} {od an:Option Addr} {sl:Array (Option Value)} {oc kV dc pm cd ct:Value}
  (a:PySem.W.nsIn K mainGlobals x=some (some (.ref f))) (l:K.lookup f=some ⟨oc,od,.func (PySem.W.fnOf x x (dG st) (cb st) (aj st) .none kV dc pm an cd ct),sl⟩) (c:PySem.W.codeIn K cd x=true) (k:PySem.W.keepIn K (.ref f)=true) :
  Def K mg x st:=⟨f,_,AU l c k,PySem.W.mg_of X G a⟩
theorem Def.Fv {P:Program} {w:World} {K:PySem.W.Frag} {mg:Str→Option Value} {base:Heap} {x:Str} {st:Stmt} {k:Nat} {ps:List Str} {sp:Sp} (D:Def K mg x st)
  (h:∀f fd,cg K x x st f fd→aO P w K mg base rF k f fd ps sp)
  (hb:∀(kV doc pm:Value) (an:Option Addr) (cdv ct:Value) (us:List Value),us.length=ps.length→bindArgs (PySem.W.fnOf x x (dG st) (cb st) (aj st) .none kV doc pm an cdv ct) ⟨us,[]⟩=pure (ps.zip us)) :
  t9 P w K mg base k x ps sp:=by
 obtain ⟨f,fd,F,m⟩:=D
 exact ⟨f,fd,h f fd F,F.binds hb,F.kp,m⟩
theorem Nf {K:PySem.W.Frag} {mg:Str→Option Value} {st:Stmt} {fa:Addr} {p:Str} (D:Def K mg "law" st) (hfa:mg "law"=some (.ref fa))
  (hb:∀(kV doc pm:Value) (an:Option Addr) (cdv ct:Value) (u:Value),bindArgs (PySem.W.fnOf "law" "law" (dG st) (cb st) (aj st) .none kV doc pm an cdv ct) ⟨[u],[]⟩=pure [(p,u)]) :
  ∃fd,cg K "law" "law" st fa fd∧∀(s:Shared) (u:Value),BindsTo s fd ⟨[u],[]⟩ [(p,u)]:=by
 obtain ⟨f,fd,F,m⟩:=D
 have e:=m.symm.trans hfa
 cases e
 obtain ⟨oc,od,kV,doc,pm,an,cdv,ct,osl,rfl,lk,hcd⟩:=F.ex
 exact ⟨_,F,λs u=>.of_eq (hb kV doc pm an cdv ct u)⟩
structure ES (mg:Str→Option Value):Prop where
 abs:mg "abs"=none
 len:mg "len"=none
 isinstance:mg "isinstance"=none
 range:mg "range"=none
 int:mg "int"=none
 bool:mg "bool"=none
 tuple:mg "tuple"=none
 list:mg "list"=none
 sorted:mg "sorted"=none
 all:mg "all"=none
theorem _root_.L2.bL.tup {K:PySem.W.Frag} {H H':Hp} {a:Addr} {xs:List V} (e:bL H H') (h:g8 K H a xs):g8 K H' a xs:=by
 rcases h with (h | ⟨o,h⟩) | h
 ·exact .inl (.inl (e _ _ h))
 ·exact .inl (.inr ⟨o,e _ _ h⟩)
 ·exact .inr h
theorem _root_.L2.bL.new {H:Hp} {p:Addr} (h:H p=none) (o:HO):bL H (upd H p o):=λb u q=>by rw [aM (bJ q h)];exact q
theorem _root_.L2.bL.OQ {H H':Hp} {p:Addr} (h:H p=none) (e:bL H H') (o:HO):bL H (upd H' p o):=λb u q=>by rw [aM (bJ q h)];exact e b u q
def OH (K:PySem.W.Frag) (H:Hp) (a:Addr) (q:Rat):Prop:=g8 K H a [.int q.num,.int q.den]
structure Sz (n:Nat) (q:Rat):Prop where
 num:Bd n q.num
 den:Bd n q.den
theorem Sz.mono {m n:Nat} {q:Rat} (h:Sz m q) (k:m≤n):Sz n q:=⟨h.num.mono k,h.den.mono k⟩
theorem Kt (x y:Rat):(x.num=y.num∧(x.den:Int)=(y.den:Int))=(x=y):=propext
 ⟨λh=>Rat.ext h.1 (by have:=h.2;omega),λh=>by subst h;exact ⟨rfl,rfl⟩⟩
theorem kF (c:Str→NameKind→Bool):∀(names:List (Str × NameKind)) (y:Str),
  (names.map λ(x:Str × NameKind)=>if c x.1 x.2 then (x.1,NameKind.cell) else (x.1,x.2)).lookup y=(names.lookup y).map λk=>if c y k then NameKind.cell else k
 | [],_=>rfl
 | (n,k) :: r,y=>by
  have ih:=kF c r y
  cases hy:y == n with
  | true =>
   have e:y=n:=by simpa using hy
   subst e
   by_cases h:c y k=true <;> simp [Vs,h]
  | false =>
   by_cases h:c n k=true <;> simp [Vs,h,hy,ih]
theorem k6 (sc:Scope) (env:Env) (y:Str):(relabel sc env).names.lookup y=(sc.names.lookup y).map λk=>if (k == .free && env.scope.kind == .function && env.kindOf y == some .cell) then NameKind.cell else k:=by
 have h:=kF (λn k=>k == .free && env.scope.kind == .function && env.kindOf n == some .cell) sc.names y
 exact h
theorem mK {env:Env}:∀(names:List (Str × NameKind)) (acc:List (Str × Addr)),(∀y∈names,y.2=.free→∃c,env.cells.lookup y.1=some c)→(∀y c,acc.lookup y=some c→env.cells.lookup y=some c) →
  ∃cl,(forIn names acc λ(x:Str × NameKind) (r:List (Str × Addr))=>match x with
   | (name,kind)=>if (kind == NameKind.free)=true then (do let c ← cellOf env name;pure (ForInStep.yield ((name,c) :: r))) else (pure (ForInStep.yield r):Sem (ForInStep (List (Str × Addr)))))=(pure cl:Sem (List (Str × Addr))) ∧
   (∀y c,cl.lookup y=some c→env.cells.lookup y=some c)∧(∀y c,acc.lookup y=some c→∃c,cl.lookup y=some c)∧∀y∈names,y.2=.free→∃c,cl.lookup y.1=some c
 | [],acc,_,ha=>⟨acc,rfl,ha,λy c e=>⟨c,e⟩,λy hy=>by cases hy⟩
 | (n,k) :: r,acc,hn,ha=>by
  by_cases hk:k=.free
  ·subst hk
   obtain ⟨c,hc⟩:=hn (n,.free) VD rfl
   obtain ⟨cl,e,h1,h2,h3⟩:=mK r ((n,c) :: acc) (λy hy=>hn y (Vo _ hy)) (λy d e=>by
    rw [Vs] at e
    cases hy:y == n with
    | true =>
     rw [hy] at e
     have e1:y=n:=by simpa using hy
     subst e1
     rw [hc]
     exact e
    | false=>rw [hy] at e;exact ha y d e)
   have self:∃d,cl.lookup n=some d:=h2 n c (by simp [Vs])
   refine ⟨cl,?_,h1,λy d q=>?_,λy hy hf=>?_⟩
   ·rw [Xg]
    have ec:cellOf env n=pure c:=by unfold cellOf;rw [hc]
    simp only [beq_self_eq_true,if_true,ec,pure_bind]
    exact e
   ·by_cases hy:y=n
    ·subst hy;exact self
    ·exact h2 y d (by rw [List.lookup_cons];have:(y == n)=false:=by simpa using hy
                      rw [this];exact q)
   ·rcases Vb.mp hy with rfl | hy
    ·exact self
    ·exact h3 y hy hf
  ·obtain ⟨cl,e,h1,h2,h3⟩:=mK r acc (λy hy=>hn y (Vo _ hy)) ha
   refine ⟨cl,?_,h1,h2,λy hy hf=>?_⟩
   ·rw [Xg]
    have hb:(k == NameKind.free)=false:=by simpa using hk
    simp only [hb,Vd,if_false,pure_bind]
    exact e
   ·rcases Vb.mp hy with rfl | hy
    ·exact absurd hf hk
    ·exact h3 y hy hf
theorem mJ {sc:Scope} {env:Env} (h:∀y∈sc.names,y.2=.free→∃c,env.cells.lookup y.1=some c) :
  ∃cl,closureFor sc env=pure cl∧(∀y c,cl.lookup y=some c→env.cells.lookup y=some c)∧∀y∈sc.names,y.2=.free→∃c,cl.lookup y.1=some c:=by
 obtain ⟨cl,e,h1,_,h3⟩:=mK sc.names [] h (λy c z=>by cases z)
 refine ⟨cl,?_,h1,h3⟩
 unfold closureFor
 have e':=congrArg (λm=>m >>= λr=>(pure r:Sem (List (Str × Addr)))) e
 simp only [pure_bind] at e'
 exact e'
abbrev df (sc osc:Scope) (N:List Str) (x:Str) (ks:List (Str × Nat)):Prop :=
 sc.kind=.function∧(∀y∈sc.names,y.2≠.cell)∧sc.names.lookup x=some .local∧(∀y∈sc.names,y.2=.local→sc.names.lookup y.1=some .local) ∧
 (∀y∈sc.names,y.2=.free→osc.names.lookup y.1=some .cell)∧(∀p∈ks,N[p.2]?=some p.1∧sc.names.lookup p.1=some .free)∧(x :: ks.map (·.1)).Nodup
def gx (X:Cx) (sc:Scope) (cl:List (Str × Addr)) (C:Addr) (x:Str) (ks:List (Str × Nat)) (s₀:Shared) (H₀:Hp) (fp:List Addr) (pins:List (Addr × Obj)):Cx :=
 { X with N:=x :: ks.map (·.1),s₀:=s₀,H₀:=H₀,env:=compEnvC sc cl C X.env,outer:=X.stack,ex:=fp,fn:=λ_=>false,pn:=X.pn ++ pins,xe:=λ_ _=>False }
def eK (ks:List (Str × Nat)) (σ:L2.St):L2.St:=ks.map λp=>(σ[p.2]?).getD none
section
variable {X:Cx} {pins:List (Addr × Obj)} {σ:L2.St} {H:Hp} {s:Shared} {sc:Scope} {cl:List (Str × Addr)} {x:Str} {ks:List (Str × Nat)} {fp:List Addr}
theorem get_map {α β:Type} (f:α→β) (l:List α) (i:Nat):(l.map f)[i]?=(l[i]?).map f:=U8
theorem yN (I:Inv X pins σ H s) (ok:df sc X.env.scope X.N x ks) (h1:∀y c,cl.lookup y=some c→X.env.cells.lookup y=some c) (h2:∀y∈sc.names,y.2=.free→∃c,cl.lookup y.1=some c)
  (hfp:∀b∈fp,l5 X pins H b∧∃o,s.heap.get? b=some o) {h4:Heap} {m:Str→Option Value} {t':Nat} (hn:h4.Ns s.heap.objs.size m) (kp:∀b o,s.heap.get? b=some o→h4.get? b=some o) :
  Inv (gx X sc cl s.heap.objs.size x ks s H fp pins) [] (none :: eK ks σ) H { s with heap:=h4,toks:=t' }:=by
 obtain ⟨kd,nc,lx,ll,fr,kk,nd⟩:=ok
 have fresh:H s.heap.objs.size=none:=I.hok.fresh (U4 _)
 have lt:∀b o,s.heap.get? b=some o→b≠s.heap.objs.size:=λb o e=>Vj (Heap.lt_size e)
 have cellLt:∀y c,X.env.cells.lookup y=some c→c≠s.heap.objs.size:=λy c e=>by
  obtain ⟨v,o,ho,_⟩:=I.cell y c e
  exact lt c o ho
 have sub:∀b∈kb X.stack,b=X.env.locals∨b∈X.fs:=λb hb=>Vb.mp (I.p8 b hb)
 have kof:∀y,(compEnvC sc cl s.heap.objs.size X.env).kindOf y=(relabel sc X.env).names.lookup y:=λy=>rfl
 have ok':(gx X sc cl s.heap.objs.size x ks s H fp pins).Ok:={
  mod:=I.ok.mod
  kind:=kd
  glob:=I.ok.glob
  blt:=I.ok.blt
  above:=U4 _
  inj:=λy z c e1 e2=>I.ok.inj y z c (h1 y c e1) (h1 z c e2)
  has:=λy hy=>by
   rw [show (gx X sc cl s.heap.objs.size x ks s H fp pins).env.kindOf y=_ from kof y,k6] at hy
   cases e:sc.names.lookup y with
   | none=>rw [e] at hy;rcases hy with z | z <;> cases z
   | some k =>
    have hm:(y,k)∈sc.names:=by
     have:=WM.mp e
     obtain ⟨l1,l2,q,_⟩:=this
     rw [q]
     simp
    by_cases hk:k=.free
    ·subst hk;exact h2 _ hm rfl
    ·have hb:(k == NameKind.free)=false:=by simpa using hk
     rw [e] at hy
     simp only [WU,hb,Bool.false_and,Vd,if_false] at hy
     rcases hy with z | z
     ·exact absurd (Option.some.inj z) (nc _ hm)
     ·exact absurd (Option.some.inj z) hk
  cab:=λ_ _ z=>by cases z
  hd:=λz=>I.ok.hd z
  frames:=I.ok.frames
  stk:=.inl rfl
  exf:=λb hb=>⟨lt b _ (hfp b hb).2.choose_spec,λy c e=>(hfp b hb).1.2.2.2.2.1 y c (h1 y c e)⟩
  bs:=λb o e=>I.bs b o e
  bsz:=Vh I.ok.bsz I.sz
  noex:=λb o e hb=>by
   rcases (hfp b hb).1.2.2.2.1 with z | z
   ·exact I.ok.noex b o e z
   ·exact absurd (Vf (Heap.lt_size e) (Vh I.ok.bsz z)) (VU _)
  exfs:=λb hb z=>by
   rcases sub b z with e | e
   ·exact (hfp b hb).1.2.1 e
   ·exact (hfp b hb).1.2.2.1 e
  mM:=I.stack
  frf:=I.x_ }
 obtain ⟨mX,hnX,hlX⟩:=I.loc
 refine ⟨ok',rfl,I.bare,Un.kept kp,⟨m,hn,λi y v e1 e2 e3=>?_⟩,λy c e=>?_,fresh,λy c e=>I.freeC y c (h1 y c e),λp hp=>?_,I.hok.kept kp,by simp [gx,eK]⟩
 ·cases i with
  | zero =>
   rw [Wg] at e2
   cases e2
  | succ i =>
   have e1':(ks.map (·.1))[i]?=some y:=by simpa [gx] using e1
   rw [VB] at e2
   unfold eK at e2
   rw [U8] at e1' e2
   cases ep:ks[i]? with
   | none=>rw [ep] at e1';cases e1'
   | some p =>
    rw [ep] at e1' e2
    have ey:p.1=y:=Option.some.inj e1'
    have ev:(σ[p.2]?).getD none=some v:=Option.some.inj e2
    obtain ⟨kN,kf⟩:=kk p (U3 ep)
    have es:σ[p.2]?=some (some v):=by
     cases q:σ[p.2]? with
     | none=>rw [q] at ev;cases ev
     | some w=>rw [q] at ev;exact congrArg some ev
    have hm:(p.1,NameKind.free)∈sc.names:=by
     obtain ⟨l1,l2,q,_⟩:=WM.mp kf
     rw [q]
     simp
    have oc:X.env.scope.names.lookup p.1=some .cell:=fr _ hm rfl
    obtain ⟨u,ru,lu⟩:=hlX p.2 p.1 v kN es (.inr (.inl oc))
    refine ⟨u,ru,.inr ⟨.inl ?_,?_⟩⟩
    ·rw [show (gx X sc cl s.heap.objs.size x ks s H fp pins).env.kindOf y=_ from kof y,k6,← ey,kf]
     have k1:X.env.kindOf p.1=some .cell:=oc
     simp [I.ok.kind,k1]
    ·obtain ⟨c,hc⟩:=h2 _ hm rfl
     have hc:cl.lookup p.1=some c:=hc
     rcases lu with ⟨z,_⟩ | ⟨_,c',hc',z⟩
     ·have z':X.env.scope.names.lookup p.1=some .local:=z
      rw [oc] at z';cases z'
     ·have:=h1 _ _ hc
      rw [hc'] at this
      cases this
      obtain ⟨o,ho,hd⟩:=z
      exact ⟨_,by rw [← ey];exact hc,o,kp _ _ ho,hd⟩
 ·obtain ⟨v,o,ho,hd⟩:=I.cell y c (h1 y c e)
  exact ⟨v,o,kp _ _ ho,hd⟩
 ·rw [VQ] at hp
  obtain ⟨a1,a2,a3,a4,a5⟩:=I.pin p hp
  refine ⟨kp _ _ a1,a2,lt _ _ a1,λz=>?_,a5⟩
  rcases sub p.1 z with e | e
  ·exact a3 e
  ·exact a4 e
end
def IS (X:Cx) (ifs:List Expr) (t:TT):Prop :=
 ∀(pins:List (Addr × Obj)) (s:Shared) (σ:L2.St) (H:Hp) (Q:Bool→Hp→Prop),Inv X pins σ H s→t σ H Q →
  wpAny (model X.prog X.w) X.A (forIn ifs true λc r=>if r=true then do let ok ← isTrue c X.env (eval c X.env);pure (ForInStep.yield ok) else pure (ForInStep.yield r)) (TP X pins σ Q) X.xe s
theorem xq {X:Cx}:IS X [] (λ_ H Q=>Q true H):=λpins s σ H Q I h=>by rw [List.forIn_nil];exact wpAny_pure ⟨H,I,h⟩
theorem CF {X:Cx} {c:Expr} {t:TT} (h:PT X c t):IS X [c] t:=λpins s σ H Q I q=>wpAny_tests_one (h pins s σ H Q I q)
section
variable {prog:Program} {w:World} {A:Around} {R:Result→Shared→Prop} {s:Shared}
theorem D8 {elt iter:Expr} {ifs:List Expr} {x:Str} {px:Pos} {sc:Scope} {pos:Pos} {it acc:Value} {env:Env} (I:Nat→Shared→Prop)
  (turn:∀n s,I n s→wpAny (model prog w) A (pyNext it) (λr s₁=>match r with
   | none=>R (.ok .next) s₁
   | some v=>wpAny (model prog w) A (letOwnedTupleGo (.Name x px) it v) (λ_ s₂=>wpAny (model prog w) A (assign (.Name x px) env v) (λ_ s₃=>wpAny (model prog w) A (forIn ifs true λc r=>if r=true then do let ok ← isTrue c env (eval c env);pure (ForInStep.yield ok) else pure (ForInStep.yield r)) (λok s₃=>if ok=true then wpAny (model prog w) A (eval elt env) (λy s₄ =>
     wpAny (model prog w) A (call (.builtin "list.append") [acc,y]) (λ_ s₅=>∃m,m < n∧I m s₅) (λ_ _=>False) s₄) (λ_ _=>False) s₃ else ∃m,m < n∧I m s₃) (λ_ _=>False) s₃) (λ_ _=>False) s₂) (λ_ _=>False) s₁) (λ_ _=>False) s)
  (n:Nat) (h:I n s):codeAny (model prog w) A (.compLoop (.ListComp elt [⟨.Name x px,iter,ifs,0⟩] sc pos) 0 it acc env) R s:=by
 refine codeAny_loop rfl I (λn s hI=>?_) n h
 show wpAny _ _ ((compTurn (.ListComp elt [⟨.Name x px,iter,ifs,0⟩] sc pos) 0 it acc env).onRaise (λx=>do noteFrame x env;theTreesLotGoes x)) _ _ s
 refine wpAny_noted ?_
 rw [compTurn_list]
 have no:∀(e:Value) (s':Shared),False→notedBy (model prog w) A env (λe s'=>R (.error e) s') e s':=λ_ _ z=>z.elim
 refine wpAny_bind (wpAny_standAt (wpAny_bind (wpAny_mono (turn n s hI) (λr s₁ h₁=>?_) no)))
 cases r with
 | none=>exact wpAny_pure h₁
 | some v =>
  refine wpAny_bind (wpAny_mono h₁ (λ_ s₂ h₂=>?_) no)
  refine wpAny_bind (wpAny_mono h₂ (λ_ s₃ h₃=>wpAny_bind (wpAny_mono h₃ (λok s₃' h₃'=>?_) no)) no)
  cases ok with
  | false=>exact wpAny_pure ⟨rfl,h₃'⟩
  | true =>
   exact wpAny_bind (wpAny_bind (wpAny_mono h₃' (λy s₄ h₄=>wpAny_bind (wpAny_mono h₄ (λ_ s₅ h₅=>wpAny_pure (wpAny_pure ⟨rfl,h₅⟩)) no)) no))
end
def KS (wi:TI) (ks:List (Str × Nat)) (tc:TT) (te:TE):TE:=λσ H Q=>wi σ H λJ H1=>∀D,H1 D=none→∃W:Nat→Nat→Hp→Prop,(∃m,W 0 m (upd H1 D (.lst []))) ∧
 ∀i m H2,W i m H2→(J.stop i H2∧Q (.ref D) H2)∨(J.go i H2∧∀v H3,J.yld i H2 v H3→tc (some v :: eK ks σ) H3 λb H4=>if b=true then te (some v :: eK ks σ) H4 λy H5=>∃ys,H5 D=some (.lst ys)∧ys.length < sizeLine∧∃m',m' < m∧W (i + 1) m' (upd H5 D (.lst (ys ++ [y]))) else ∃m',m' < m∧W (i + 1) m' H4)
section
variable {X:Cx}
theorem zA {elt iter:Expr} {ifs:List Expr} {x:Str} {px:Pos} {sc:Scope} {pos:Pos} {te:TE} {tc:TT} {ks:List (Str × Nat)} {cl:List (Str × Addr)} {pins:List (Addr × Obj)} {σ:L2.St} {H:Hp} {s:Shared} {it:Addr} {fp:List Addr} {tn:Nat→Heap→Prop} {J:It} {Q:VK}
  {RR:Value→Addr→Result→Shared→Prop} {E:Value→Shared→Prop}
  (hc:X.calm=true) (ok:df sc X.env.scope X.N x ks) (h1:∀y c,cl.lookup y=some c→X.env.cells.lookup y=some c) (h2:∀y∈sc.names,y.2=.free→∃c,cl.lookup y.1=some c)
  (he:∀cl C s₀ H₀ fp pins,PE (gx X sc cl C x ks s₀ H₀ fp pins) elt te) (hcn:∀cl C s₀ H₀ fp pins,IS (gx X sc cl C x ks s₀ H₀ fp pins) ifs tc)
  (I:Inv X pins σ H s) (T:Turn X.prog X.w X.K (.Name x px) J fp it tn) (st:tn 0 s.heap) (f:∀b∈fp,l5 X pins H b)
  (hw:∀D,H D=none→∃W:Nat→Nat→Hp→Prop,(∃m,W 0 m (upd H D (.lst [])))∧∀i m H2,W i m H2→(J.stop i H2∧Q (.ref D) H2) ∨
   (J.go i H2∧∀v H3,J.yld i H2 v H3→tc (some v :: eK ks σ) H3 λb H4=>if b=true then te (some v :: eK ks σ) H4 λy H5=>∃ys,H5 D=some (.lst ys)∧ys.length < sizeLine∧∃m',m' < m∧W (i + 1) m' (upd H5 D (.lst (ys ++ [y]))) else ∃m',m' < m∧W (i + 1) m' H4))
  (hR:∀(D C:Addr) (s':Shared) (H':Hp) (m:Str→Option Value),Inv X pins σ H' s'→Q (.ref D) H'→s'.heap.Ns C m→H' C=none→C≠X.env.locals→X.s₀.heap.objs.size≤C→(∀y c,X.env.cells.lookup y=some c→c≠C)→(∀p∈X.pn ++ pins,p.1≠C)→RR (.ref D) C (.ok .next) s') :
  wpAny (model X.prog X.w) X.A (newList []) (λacc s₃=>wpAny (model X.prog X.w) X.A (newFunctionEnv sc X.env.globals cl [] X.env.qual none .none (some X.env)) (λcenv s₄ =>
   codeAny (model X.prog X.w) X.A (.compStart (.ListComp elt [⟨.Name x px,iter,ifs,0⟩] sc pos) 0 (.ref it) acc { cenv with scope:=relabel sc X.env }) (RR acc cenv.locals) s₄) E s₃) E s:=by
 have okk:=ok
 obtain ⟨kd,nc,lx,ll,fr,kk,nd⟩:=okk
 have hD0:H s.heap.objs.size=none:=I.hok.fresh (U4 _)
 obtain ⟨W,⟨m0,w0⟩,turn⟩:=hw s.heap.objs.size hD0
 refine wpAny_newObj_type ?_
 have I3:Inv X pins σ (upd H s.heap.objs.size (.lst [])) { s with heap:=s.heap.push { cls:=.type "list",dict:=none,data:=.seq ([]:List Value).toArray } } :=
  I.laid (t':=s.toks) (λb u e=>Heap.get?_push_of_some _ e) (U4 _) (show dP X.prog X.w _ _ _ (.lst []) from ⟨Vr _,[],0,.nil,Heap.get?_push_size _ rfl⟩)
 have st3:tn 0 (s.heap.push { cls:=.type "list",dict:=none,data:=.seq ([]:List Value).toArray }):=T.keep 0 _ _ st λb hb o e=>Heap.get?_push_of_some _ e
 generalize hD:s.heap.objs.size=D at *
 generalize hH:upd H D (.lst [])=H3 at *
 generalize hs3:({ s with heap:=s.heap.push { cls:=.type "list",dict:=none,data:=.seq ([]:List Value).toArray } }:Shared)=s3 at *
 have e3:s.heap.push { cls:=.type "list",dict:=none,data:=.seq ([]:List Value).toArray }=s3.heap:=by rw [← hs3]
 rw [e3] at st3
 have fD:∀b∈fp,b≠D:=λb hb z=>by
  obtain ⟨o,ho,_⟩:=T.obj 0 _ st b hb
  have:=Heap.lt_size ho
  rw [z,← hD] at this
  exact VU _ this
 have f3:∀b∈fp,l5 X pins H3 b:=λb hb=>⟨by rw [← hH,aM (fD b hb)];exact (f b hb).1,(f b hb).2⟩
 have g3:∀b∈fp,∃o,s3.heap.get? b=some o:=λb hb=>by
  obtain ⟨o,ho,_⟩:=T.obj 0 _ st3 b hb
  exact ⟨o,ho⟩
 refine wpAny_newFunctionEnv nc (by intro y hy;simp at hy) (λh₁ hns hsb=>?_) kd
 have kp:∀b o,s3.heap.get? b=some o→h₁.get? b=some o:=λb o e=>hsb.extBut b o (Vj (Heap.lt_size e)) (Heap.get?_push_of_some _ e)
 have J0:=yN (fp:=fp) (cl:=cl) (t':=s3.toks + ([]:List (Str × Value)).length) I3 ok h1 h2 (λb hb=>⟨f3 b hb,g3 b hb⟩) hns kp
 have st4:tn 0 h₁:=T.keep 0 _ _ st3 λb hb o e=>kp b o e
 have ltC:∀b o,s3.heap.get? b=some o→b≠s3.heap.objs.size:=λb o e=>Vj (Heap.lt_size e)
 have cC:∀y c,X.env.cells.lookup y=some c→c≠s3.heap.objs.size:=λy c e=>by
  obtain ⟨v,o,ho,_⟩:=I3.cell y c e
  exact ltC c o ho
 have pC:∀p∈X.pn ++ pins,p.1≠s3.heap.objs.size:=λp hp=>ltC _ _ (I3.pin p hp).1
 have lC:s3.heap.objs.size≠X.env.locals:=WQ I3.lt
 have fX:∀{H':Hp},(∀b∈fp,H' b=none)→∀b∈fp,l5 (gx X sc cl s3.heap.objs.size x ks s3 H3 fp pins) [] H' b:=λhn b hb=>by
  obtain ⟨o,ho⟩:=g3 b hb
  obtain ⟨_,q1,q2,q3,q4,q5⟩:=f b hb
  refine ⟨hn b hb,ltC b o ho,λz=>?_,.inl hb,λy c e=>q4 y c (h1 y c e),λp hp=>q5 p (by simpa [gx] using hp)⟩
  rcases Vb.mp (I3.p8 b z) with e | e
  ·exact q1 e
  ·exact q2 e
 have back:∀{o:Option V} {H':Hp} {s':Shared},Inv (gx X sc cl s3.heap.objs.size x ks s3 H3 fp pins) [] (o :: eK ks σ) H' s'→Inv X pins σ H' s':=λ{o H' s'} J=>by
  obtain ⟨hh,g,d,t,os'⟩:=s'
  obtain rfl:os'=s3.os:=J.os
  exact I3.call (h':=hh) (g':=g) (d':=d) (t':=t) (ch:=fp) J.base J.hok J.bare λb hb=>⟨(f b hb).2.2.2.1,(f b hb).2.1,(f b hb).2.2.2.2.1,(f b hb).2.2.2.2.2⟩
 have lookX:(relabel sc X.env).names.lookup x=some .local:=lookup_relabel_local lx
 have loop:∀s',(∃(i:Nat) (o:Option V) (H':Hp),Inv (gx X sc cl s3.heap.objs.size x ks s3 H3 fp pins) [] (o :: eK ks σ) H' s'∧tn i s'.heap∧(∀b∈fp,H' b=none)∧W i m0 H') →
   codeAny (model X.prog X.w) X.A (.compLoop (.ListComp elt [⟨.Name x px,iter,ifs,0⟩] sc pos) 0 (.ref it) (.ref D) (compEnvC sc cl s3.heap.objs.size X.env)) (RR (.ref D) s3.heap.objs.size) s':=by
  intro s' hs'
  refine D8 (λn s'=>∃(i:Nat) (o:Option V) (H':Hp),Inv (gx X sc cl s3.heap.objs.size x ks s3 H3 fp pins) [] (o :: eK ks σ) H' s'∧tn i s'.heap∧(∀b∈fp,H' b=none)∧W i n H') ?_ m0 hs'
  rintro n s5 ⟨i,o,H5,J5,t5,n5,w5⟩
  rcases turn i n H5 w5 with ⟨stop,hq⟩ | ⟨go,step⟩
  ·refine cG (T.done (gx X sc cl s3.heap.objs.size x ks s3 H3 fp pins) rfl rfl rfl hc i [] s5 _ H5 _ J5 (fX n5) t5 stop) λr s6 ⟨hr,J6⟩=>?_
   subst hr
   obtain ⟨m,hm,_⟩:=J6.loc
   exact hR D _ s6 H5 m (back J6) hq hm J6.free lC I3.sz cC pC
  ·refine cG (T.item (gx X sc cl s3.heap.objs.size x ks s3 H3 fp pins) rfl rfl rfl hc i [] s5 _ H5 _ J5 (fX n5) t5 go) λr s6 ⟨u,hr,h6⟩=>?_
   subst hr
   refine cG h6 λ_ s7 ⟨v,H7,J7,r7,y7,t7,n7⟩=>?_
   have J7':=J7.pinned (fX n7) (T.obj _ _ t7)
   refine wpAny_assign_Name (fM (X:=gx X sc cl s3.heap.objs.size x ks s3 H3 fp pins) (i:=0) J7' nd rfl (.inl lookX) r7 (λs8 J8=>?_) (.inr lookX))
   refine cG (hcn cl s3.heap.objs.size s3 H3 fp pins _ s8 _ H7 _ J8 (step v H7 y7)) λok s8' ⟨H8,J8',q8⟩=>?_
   cases ok with
   | false =>
    simp only [Vd,if_false] at q8 ⊢
    obtain ⟨m',hm,w'⟩:=q8
    refine ⟨m',hm,i + 1,_,_,J8'.gY,?_,?_,w'⟩
    ·exact T.keep _ _ _ t7 λb hb o e=>(J8'.pin (b,o) (Va _ (Va _ (cS hb e)))).1
    ·intro b hb
     obtain ⟨o,e,d⟩:=T.obj _ _ t7 b hb
     exact (J8'.pin (b,o) (Va _ (Va _ (cS hb e)))).2.1
   | true =>
    simp only [if_true] at q8 ⊢
    refine cG (he cl s3.heap.objs.size s3 H3 fp pins _ s8' _ H8 _ J8' q8) λy s9 ⟨vy,H9,J9,r9,ys,hys,hz,m',hm,w'⟩=>?_
    refine cG (i5 (X:=gx X sc cl s3.heap.objs.size x ks s3 H3 fp pins) _ s9 _ H9 (.ref D) [vy] (.ref D) [y] (λ_ H'=>H'=upd H9 D (.lst (ys ++ [vy]))) J9 rfl (.cons r9 .nil) ⟨D,ys,vy,rfl,rfl,hys,hz,rfl⟩) λ_ s10 ⟨_,H10,J10,_,eH⟩=>?_
    subst eH
    refine ⟨m',hm,i + 1,_,_,J10.gY,?_,?_,w'⟩
    ·exact T.keep _ _ _ t7 λb hb o e=>(J10.pin (b,o) (Va _ (Va _ (cS hb e)))).1
    ·intro b hb
     obtain ⟨o,e,d⟩:=T.obj _ _ t7 b hb
     exact (J10.pin (b,o) (Va _ (Va _ (cS hb e)))).2.1
 have l0:=loop _ ⟨0,none,H3,J0,st4,λb hb=>(f3 b hb).1,w0⟩
 exact codeAny_compStart_list l0 (T.self _ 0 _ _ _ st4 l0)
theorem sP {sc osc:Scope} {N:List Str} {x:Str} {ks:List (Str × Nat)} (ok:df sc osc N x ks) {pins:List (Addr × Obj)} {σ:L2.St} {H:Hp} {s:Shared} (I:Inv X pins σ H s) (ho:X.env.scope=osc):∀y∈sc.names,y.2=.free→∃c,X.env.cells.lookup y.1=some c:=λy hy hf =>
 I.ok.has y.1 (.inl (by show X.env.scope.names.lookup y.1=some .cell;rw [ho];exact ok.2.2.2.2.1 y hy hf))
theorem NU {elt iter:Expr} {ifs:List Expr} {x:Str} {px:Pos} {sc:Scope} {pos:Pos} {wi:TI} {te:TE} {tc:TT} (osc:Scope) (N:List Str) (ks:List (Str × Nat)) (hc:X.calm=true) (ho:X.env.scope=osc) (hN:X.N=N) (hi:PI X (.Name x px) iter wi)
  (he:∀cl C s₀ H₀ fp pins,PE (gx X sc cl C x ks s₀ H₀ fp pins) elt te) (hcn:∀cl C s₀ H₀ fp pins,IS (gx X sc cl C x ks s₀ H₀ fp pins) ifs tc) (ok:df sc osc N x ks:=by decide +kernel) (hs:∀x,foldedSetIterable iter X.env x=pure x:=by intro _;rfl) :
  PE X (.ListComp elt [⟨.Name x px,iter,ifs,0⟩] sc pos) (KS wi ks tc te):=by
 intro pins s σ H Q I hw
 obtain ⟨cl,hcl,h1,h2⟩:=mJ (sP ok I ho)
 have ok':df sc X.env.scope X.N x ks:=by rw [ho,hN];exact ok
 rw [eval_ListComp]
 refine wpAny_comprehension_free (use:=none) rfl hs hcl ok.1 ok.2.2.2.1 (cG (hi pins s σ H _ I hw) λv s1 h3=>cG h3 λitv s2 h4=>?_)
 obtain ⟨it,fp,tn,J,H2,rfl,I2,T,st2,f2,hR⟩:=h4
 refine zA (RR:=λacc C=>compPost (model X.prog X.w) X.A X.xe none (EP X pins σ Q) acc C) hc ok' h1 h2 he hcn I2 T st2 f2 hR ?_
 intro D C s' H' m J' q hn hC cl' cs cc cp
 refine ⟨m,hn,λh' hsb=>⟨.ref D,H',?_,rfl,q⟩⟩
 exact J'.turned (t':=s'.toks) (it:=C) (λb o ne e=>hsb.extBut b o ne e) hC cl' (.inr cs) cc cp
def Rg (wi:TI) (ks:List (Str × Nat)) (tc:TT) (te:TE) (i:Nat):TS:=λD σ H=>KS wi ks tc te σ H λv H1=>D.nx (σ.set i (some v)) H1
theorem Bs {elt iter:Expr} {ifs:List Expr} {x y:Str} {px py:Pos} {sc:Scope} {pos spos:Pos} {wi:TI} {te:TE} {tc:TT} {i:Nat} (osc:Scope) (N:List Str) (ks:List (Str × Nat)) (hc:X.calm=true) (ho:X.env.scope=osc) (hN:X.N=N) (hnd:X.N.Nodup) (hy:X.N[i]?=some y) (hl:Loc X.env.scope y)
  (hi:PI X (.Name x px) iter wi) (he:∀cl C s₀ H₀ fp pins,PE (gx X sc cl C x ks s₀ H₀ fp pins) elt te) (hcn:∀cl C s₀ H₀ fp pins,IS (gx X sc cl C x ks s₀ H₀ fp pins) ifs tc) (ok:df sc osc N x ks:=by decide +kernel) (hs:∀x,foldedSetIterable iter X.env x=pure x:=by intro _;rfl)
  (hsw:swapsWith (.ListComp elt [⟨.Name x px,iter,ifs,0⟩] sc pos) (some (.Name y py)) spos.line X.env=pure true:=by rfl) (hf:X.fn y=true∨X.env.scope.names.lookup y=some .local:=by first | exact .inl rfl | exact .inr rfl | assumption) :
  PS X (.Assign [.Name y py] (.ListComp elt [⟨.Name x px,iter,ifs,0⟩] sc pos) spos) (Rg wi ks tc te i):=by
 intro pins s σ H Dn I hw
 obtain ⟨cl,hcl,h1,h2⟩:=mJ (sP ok I ho)
 have ok':df sc X.env.scope X.N x ks:=by rw [ho,hN];exact ok
 rw [exec_Assign_Name_used _ _ _ _ hsw]
 refine wpAny_bind (wpAny_standAt (wpAny_bind ?_))
 show wpAny _ X.A (do let _ ← comprehension (.ListComp elt [⟨.Name x px,iter,ifs,0⟩] sc pos) sc X.env _ (newList []) false (eval iter X.env) (some (assign (.Name y py) X.env))) _ _ s
 refine wpAny_bind (wpAny_mono (wpAny_comprehension_free (use:=some (assign (.Name y py) X.env)) (Q:=λ_ s'=>SP X pins Dn .next s') rfl hs hcl ok.1 ok.2.2.2.1
  (cG (hi pins s σ H _ I hw) λv s1 h3=>cG h3 λitv s2 h4=>?_)) (λ_ s' hq=>wpAny_pure (wpAny_pure hq)) λ_ _ e=>e)
 obtain ⟨it,fp,tn,J,H2,rfl,I2,T,st2,f2,hR⟩:=h4
 refine zA (Q:=λv H1=>Dn.nx (σ.set i (some v)) H1) (RR:=λacc C=>compPost (model X.prog X.w) X.A X.xe (some (assign (.Name y py) X.env)) (λ_ s'=>SP X pins Dn .next s') acc C) hc ok' h1 h2 he hcn I2 T st2 f2 hR ?_
 intro D C s' H' m J' q hn hC cl' cs cc cp
 show wpAny _ X.A (assign (.Name y py) X.env (.ref D)) _ _ _
 refine wpAny_assign_Name (vU J' hnd hy hl (v:=.ref D) rfl (λs'' J'' ⟨a,hsb,ha⟩=>?_) hf)
 refine ⟨m,hn.sameBut hsb (λz=>?_),λh' hsb'=>⟨_,H',?_,q⟩⟩
 ·rcases ha with e | e
  ·exact cl' (z.trans e)
  ·exact cc _ _ e z.symm
 ·exact J''.turned (t':=s''.toks) (it:=C) (λb o ne e=>hsb'.extBut b o ne e) hC cl' (.inr cs) cc cp
def RY (wi:TI) (ks:List (Str × Nat)) (te:TE):TE:=λσ H Q=>wi σ H λJ H1=>∀D,H1 D=none→∃W:Nat→Nat→Hp→Prop,(∃m,W 0 m (upd H1 D (.lst []))) ∧
 ∀i m H2,W i m H2→(J.stop i H2∧Q (.ref D) H2)∨(J.go i H2∧∀v H3,J.yld i H2 v H3→te (some v :: eK ks σ) H3 λy H4=>∃ys,H4 D=some (.lst ys)∧ys.length < sizeLine∧∃m',m' < m∧W (i + 1) m' (upd H4 D (.lst (ys ++ [y]))))
theorem LK {elt iter:Expr} {x:Str} {px:Pos} {sc:Scope} {pos:Pos} {wi:TI} {te:TE} (osc:Scope) (N:List Str) (ks:List (Str × Nat)) (hc:X.calm=true) (ho:X.env.scope=osc) (hN:X.N=N) (hi:PI X (.Name x px) iter wi)
  (he:∀cl C s₀ H₀ fp pins,PE (gx X sc cl C x ks s₀ H₀ fp pins) elt te) (ok:df sc osc N x ks:=by decide +kernel) (hs:∀x,foldedSetIterable iter X.env x=pure x:=by intro _;rfl) :
  PE X (.ListComp elt [⟨.Name x px,iter,[],0⟩] sc pos) (RY wi ks te):=λpins s σ H Q I hw=>NU osc N ks hc ho hN hi he (λ_ _ _ _ _ _=>xq) ok hs pins s σ H Q I hw
def Om (wi:TI) (ks:List (Str × Nat)) (te:TE) (i:Nat):TS:=λD σ H=>RY wi ks te σ H λv H1=>D.nx (σ.set i (some v)) H1
theorem LL {elt iter:Expr} {x y:Str} {px py:Pos} {sc:Scope} {pos spos:Pos} {wi:TI} {te:TE} {i:Nat} (osc:Scope) (N:List Str) (ks:List (Str × Nat)) (hc:X.calm=true) (ho:X.env.scope=osc) (hN:X.N=N) (hnd:X.N.Nodup) (hy:X.N[i]?=some y) (hl:Loc X.env.scope y)
  (hi:PI X (.Name x px) iter wi) (he:∀cl C s₀ H₀ fp pins,PE (gx X sc cl C x ks s₀ H₀ fp pins) elt te) (ok:df sc osc N x ks:=by decide +kernel) (hs:∀x,foldedSetIterable iter X.env x=pure x:=by intro _;rfl)
  (hsw:swapsWith (.ListComp elt [⟨.Name x px,iter,[],0⟩] sc pos) (some (.Name y py)) spos.line X.env=pure true:=by rfl) (hf:X.fn y=true∨X.env.scope.names.lookup y=some .local:=by first | exact .inl rfl | exact .inr rfl | assumption) :
  PS X (.Assign [.Name y py] (.ListComp elt [⟨.Name x px,iter,[],0⟩] sc pos) spos) (Om wi ks te i):=λpins s σ H D I hw=>Bs osc N ks hc ho hN hnd hy hl hi he (λ_ _ _ _ _ _=>xq) ok hs hsw hf pins s σ H D I hw
end
theorem Jt {K:PySem.W.Frag} {a D:Addr} {xs:List V} {H:Hp} {te:TE} {ks:List (Str × Nat)} {σ:L2.St} {q:Hp→Prop} (Pv:Nat→Hp→Prop) (h0:Pv 0 (upd H D (.lst []))) (hl:∀i H,i≤xs.length→Pv i H→dq K H a xs)
  (hs:∀i x H (R:VK),xs[i]?=some x→Pv i H→(∀y H4 ys,H4 D=some (.lst ys)→ys.length < sizeLine→Pv (i + 1) (upd H4 D (.lst (ys ++ [y])))→R y H4)→te (some x :: eK ks σ) H R) (hd:∀H,Pv xs.length H→q H) :
  ∃W:Nat→Nat→Hp→Prop,(∃m,W 0 m (upd H D (.lst [])))∧∀i m H2,W i m H2→((IG K a).stop i H2∧q H2) ∨
   ((IG K a).go i H2∧∀v H3,(IG K a).yld i H2 v H3→te (some v :: eK ks σ) H3 λy H4=>∃ys,H4 D=some (.lst ys)∧ys.length < sizeLine∧∃m',m' < m∧W (i + 1) m' (upd H4 D (.lst (ys ++ [y])))):=by
 refine ⟨λi m H=>m=xs.length - i∧i≤xs.length∧Pv i H,⟨xs.length,by simp,Vr _,h0⟩,?_⟩
 rintro i m H2 ⟨rfl,hi,p⟩
 have hq:=hl i H2 hi p
 by_cases hlt:i < xs.length
 ·refine .inr ⟨⟨xs,xs[i],hq,by simp [hlt]⟩,λv H3 y=>?_⟩
  obtain ⟨e,y⟩:=y
  subst e
  exact hs i v _ _ (y xs hq) p λy H4 ys e1 e2 e3=>⟨ys,e1,e2,xs.length - (i + 1),by omega,rfl,hlt,e3⟩
 ·have e:i=xs.length:=by omega
  subst e
  exact .inl ⟨⟨xs,hq,U4 _⟩,hd H2 p⟩
theorem Gf {lo:Int} {n:Nat} {D:Addr} {H:Hp} {te:TE} {ks:List (Str × Nat)} {σ:L2.St} {q:Hp→Prop} (Pv:Nat→Hp→Prop) (h0:Pv 0 (upd H D (.lst [])))
  (hs:∀i H (R:VK),i < n→Pv i H→(∀y H4 ys,H4 D=some (.lst ys)→ys.length < sizeLine→Pv (i + 1) (upd H4 D (.lst (ys ++ [y])))→R y H4)→te (some (.int (lo + i)) :: eK ks σ) H R) (hd:∀H,Pv n H→q H) :
  ∃W:Nat→Nat→Hp→Prop,(∃m,W 0 m (upd H D (.lst [])))∧∀i m H2,W i m H2→((E_ lo n).stop i H2∧q H2) ∨
   ((E_ lo n).go i H2∧∀v H3,(E_ lo n).yld i H2 v H3→te (some v :: eK ks σ) H3 λy H4=>∃ys,H4 D=some (.lst ys)∧ys.length < sizeLine∧∃m',m' < m∧W (i + 1) m' (upd H4 D (.lst (ys ++ [y])))):=by
 refine ⟨λi m H=>m=n - i∧i≤n∧Pv i H,⟨n,by simp,Vr _,h0⟩,?_⟩
 rintro i m H2 ⟨rfl,hi,p⟩
 by_cases hlt:i < n
 ·refine .inr ⟨hlt,λv H3 y=>?_⟩
  obtain ⟨e,y⟩:=y
  subst e y
  exact hs i _ _ hlt p λy H4 ys e1 e2 e3=>⟨ys,e1,e2,n - (i + 1),by omega,rfl,hlt,e3⟩
 ·have e:i=n:=by omega
  subst e
  exact .inl ⟨U4 _,hd H2 p⟩
def one (c:Nat):Str:=⟨#[c]⟩
theorem vG:∀(cs:List Nat) (acc:Array Nat),(cs.map one).foldl (λacc (p:Str)=>acc ++ (Str.ofString "").cps ++ p.cps) acc=acc ++ cs.toArray
 | [],acc=>by simp
 | c :: cs,acc=>by
  have e:(Str.ofString "").cps=#[]:=by decide +kernel
  rw [U6,List.foldl_cons,vG cs]
  rw [e]
  show (acc ++ #[] ++ #[c]) ++ cs.toArray=_
  simp
theorem join_ones (cs:List Nat):Txt.join (Str.ofString "") (cs.map one)=⟨cs.toArray⟩:=by
 unfold Txt.join Builtin.Str.glued
 cases cs with
 | nil=>rfl
 | cons c cs =>
  simp only [U6,List.drop_succ_cons,Wu,List.headD_cons]
  rw [vG]
  show (⟨#[c] ++ cs.toArray⟩:Str)=_
  simp
theorem jY:∀{ys:List Str} {us:List Value},Vals (ys.map V.str) us→StrsAre us ys
 | [],_,.nil=>.nil
 | y :: ys,_,.cons r rr=>by
  obtain ⟨t,rfl⟩:=r
  exact .cons y t (jY rr)
section
variable {X:Cx}
def rJoin (K:PySem.W.Frag):V→List V→Hp→VK→Prop:=λx vs H Q=>∃z p ys,x=.str z∧vs=[.ref p]∧dq K H p (ys.map V.str)∧(ys.map (·.length)).sum + ys.length * z.length≤16777216∧Q (.str (Txt.join z ys)) H
theorem JC:qL X "str.join" (rJoin X.K):=by
 intro pins s σ H x vs v us Q I rx rv h
 obtain ⟨z,p,ys,rfl,rfl,hp,hz,q⟩:=h
 obtain ⟨t,rfl⟩:=rx
 obtain ⟨u,rfl,ru⟩:=vals1 rv
 cases ru
 obtain ⟨its,r,pl,_⟩:=I.list hp
 exact join_list pl.isList (by simpa using jY r) hz λt' k=>⟨.str _,H,I.tok _,⟨_,rfl⟩,q⟩
end
def wy:Expr→Option V
 | .Constant (.int i) _ _=>some (.int i)
 | .Constant (.str x) _ _=>some (.str x)
 | .Constant (.bool b) _ _=>some (.bl b)
 | _=>none
theorem sQ {X:Cx}:∀{es:List Expr} (vs:List V),es.map wy=vs.map some→PA X es (λ_ H Q=>Q vs H)
 | [],[],_=>λ_ _ _ _ H Q I h=>Calls.spliced_nil ⟨[],H,I,.nil,h⟩
 | [],_ :: _,h=>by cases h
 | _ :: _,[],h=>by cases h
 | e :: es,v :: vs,h=>by
  rw [U6,U6] at h
  injection h with h1 h2
  have ih:=sQ (X:=X) (es:=es) vs h2
  have hs:starEach (e :: es) X.env=(false,eval e X.env) :: starEach es X.env:=by
   cases e <;> first | rfl | cases h1
  have he:PE X e (tC v):=by
   cases e with
   | Constant c j pos =>
    cases c with
    | int i=>cases h1;exact aT
    | str x=>cases h1;exact pI
    | bool b=>cases h1;exact zk
    | _=>cases h1
   | _=>cases h1
  exact λpos pins s σ H Q I hq=>aA he ih hs pos pins s σ H Q I hq
end Ov
namespace Ov
open PySem PySem.Spec PyProof.Rows
open L2 (V HO Hp Inv Cx St VK TE TT TA TS TG rS TI TO l7 Ends yv Loc Gl Rd RelV Vals fI Ab cq rK vj qL l6 R2 BU tC HU R0 Dp tB HM Ri KU Dh KW Dk RX K1 EI yb fo KQ t4 RV z_ KY qd Jh Cg Jk Jj KR yc Ol Cm Sq Cn Li KZ Dm Di HP Oj Dj K0 BS rp Dl RZ upd E0 b9 dZ)
structure QE (X:Cx) (e:Expr) (t:TE):Prop where
 run:L2.PE X e t
structure QT (X:Cx) (e:Expr) (t:TT):Prop where
 run:L2.PT X e t
structure QW (X:Cx) (e:Expr) (t:TT):Prop where
 run:L2.PW X e t
structure QA (X:Cx) (es:List Expr) (t:TA):Prop where
 run:L2.PA X es t
structure QS (X:Cx) (st:Stmt) (t:TS):Prop where
 run:L2.PS X st t
structure QB (X:Cx) (st:List Stmt) (t:TS):Prop where
 run:L2.t_ X st t
structure QG (X:Cx) (e:Expr) (t:TG):Prop where
 run:L2.PG X e t
structure RD (X:Cx) (es:List Expr) (t:rS):Prop where
 run:L2.La X es t
structure QI (X:Cx) (tg e:Expr) (t:TI):Prop where
 run:L2.PI X tg e t
structure QO (X:Cx) (e:Option Expr) (t:TO):Prop where
 run:L2.PO X e t
section
variable {X:Cx} {a b c e o:Expr} {es rest:List Expr} {ta tb te tc to:TE} {tA tB':TT} {t:TA} {pos px p p2 apos cpos:Pos} {x:Str} {i j:Nat}
theorem pv (i:Nat) {x:Str} {pos:Pos} (hN:X.N[i]?=some x:=by rfl) (hv:yv X.env.scope x:=by first | exact Or.inl rfl | exact Or.inr (Or.inl rfl) | exact Or.inr (Or.inr rfl)) (hd:(x == ("__debug__":Str))=false:=by decide)
  (hcd:(x == ("__classdict__":Str))=false:=by decide):QE X (.Name x pos) (BU i):=⟨L2.Bp hN hv hd hcd⟩
theorem aT {i:Int} {j pos}:QE X (.Constant (.int i) j pos) (tC (.int i)):=⟨L2.aT⟩
theorem zk {b:Bool} {j pos}:QE X (.Constant (.bool b) j pos) (tC (.bl b)):=⟨L2.zk⟩
theorem Bl {j pos}:QE X (.Constant .none j pos) (tC .non):=⟨L2.Bl⟩
theorem pI {x:Str} {j pos}:QE X (.Constant (.str x) j pos) (tC (.str x)):=⟨L2.pI⟩
theorem dH {v:V} {u:Value} (hg:Gl X x) (hm:X.mg x=some u) (r:RelV v u) (hd:(x == ("__debug__":Str))=false:=by decide):QE X (.Name x pos) (tC v):=⟨L2.dH hg hm r hd⟩
theorem qW {v:V} {u:Value} (hg:Gl X x) (hm:X.mg x=none) (hv:bootBuiltins x=some u) (r:RelV v u) (hn:x≠"__name__":=by decide) (hd:(x == ("__debug__":Str))=false:=by decide):QE X (.Name x pos) (tC v):=⟨L2.qW hg hm hv r hn hd⟩
theorem bH {op:Operator} {r:R2} (ho:fI X (binaryOp op) r) (ha:QE X a ta) (hb:QE X b tb):QE X (.BinOp a op b pos) (HU r ta tb):=⟨L2.bH ho ha.run hb.run⟩
theorem CC {op:UnaryOp} {r:V→Hp→VK→Prop} (ho:Ab X (unaryOp op) r) (ha:QE X a ta):QE X (.UnaryOp op a pos) (R0 r ta):=⟨L2.CC ho ha.run⟩
theorem qX {op:CmpOp} {r:R2} (ho:fI X (compareOp op) r) (ha:QE X a ta) (hb:QE X b tb) (hm:behindInMarks op b=false):QE X (.Compare a [op] [b] pos) (HU r ta tb):=⟨L2.qX ho ha.run hb.run hm⟩
theorem d7 {op:CmpOp} {r:R2} (ho:fI X (compareOp op) r) (ha:QE X a ta) (hb:QE X b tb) (hm:behindInMarks op b=false):QT X (.Compare a [op] [b] pos) (Dp (HU r ta tb)):=⟨L2.d7 ho ha.run hb.run hm⟩
theorem Bo {op} (h:QE X a ta):QE X (.BoolOp op [a] pos) ta:=⟨L2.Bo h.run⟩
theorem Bk (ha:QE X a ta) (hb:QE X (.BoolOp .And (b :: rest) pos) tb):QE X (.BoolOp .And (a :: b :: rest) pos) (Dh ta tb):=⟨L2.Bk ha.run hb.run⟩
theorem GY (ha:QE X a ta) (hb:QE X (.BoolOp .Or (b :: rest) pos) tb):QE X (.BoolOp .Or (a :: b :: rest) pos) (KW ta tb):=⟨L2.GY ha.run hb.run⟩
theorem Bn (ha:QE X a ta):QE X (.UnaryOp .Not a pos) (Dk ta):=⟨L2.Bn ha.run⟩
theorem Bt (ha:QT X a tA):QT X (.UnaryOp .Not a pos) (KU tA):=⟨L2.Bt ha.run⟩
theorem q9 (ha:QT X a tA):QW X (.BoolOp .And [a] pos) tA:=⟨L2.q9 ha.run⟩
theorem xw (ha:QT X a tA):QW X (.BoolOp .Or [a] pos) tA:=⟨L2.xw ha.run⟩
theorem xu (ha:QT X a tA) (hb:QW X (.BoolOp .And (b :: rest) pos) tB'):QW X (.BoolOp .And (a :: b :: rest) pos) (HM tA tB'):=⟨L2.xu ha.run hb.run⟩
theorem CH (ha:QT X a tA) (hb:QW X (.BoolOp .Or (b :: rest) pos) tB'):QW X (.BoolOp .Or (a :: b :: rest) pos) (Ri tA tB'):=⟨L2.CH ha.run hb.run⟩
theorem LN (h:QW X e tA):QT X e tA:=⟨h.run.pt⟩
theorem Bu (h:QE X e te) (he:∀whole,isTrue e X.env whole=(do let v ← whole;standAt e.pos;holding [v] (truthy v)):=by intro _;rfl):QT X e (tB te):=⟨L2.Bu h.run he⟩
theorem sT (hc:QT X c tA) (ha:QE X a ta) (hb:QE X b tb):QE X (.IfExp c a b pos) (RX tA ta tb):=⟨L2.sT hc.run ha.run hb.run⟩
theorem bj:QA X [] yb:=⟨L2.bj⟩
theorem aA (ha:QE X e te) (hr:QA X es t) (hs:starEach (e :: es) X.env=(false,eval e X.env) :: starEach es X.env:=by rfl):QA X (e :: es) (fo te t):=⟨L2.aA ha.run hr.run hs⟩
theorem GR {es:List Expr} (vs:List V) (h:es.map wy=vs.map some):QA X es (λ_ H Q=>Q vs H):=⟨sQ vs h⟩
theorem sU {x1} (h:QA X es t):QE X (.Tuple es x1 pos) (K1 t):=⟨L2.sU h.run⟩
theorem jG (h:QA X es t):QE X (.List es pos) (EI t):=⟨L2.jG h.run⟩
theorem cD {r:R2} (hr:rK X r) (ha:QE X a ta) (hb:QE X b tb) (hs:dZ b):QE X (.Subscript a b pos) (HU r ta tb):=⟨L2.cD hr ha.run hb.run hs⟩
theorem qY:QO X none rp:=⟨L2.qY⟩
theorem lT (h:QE X e te):QO X (some e) (Dl te):=⟨L2.lT h.run⟩
theorem kO {lo hi:Option Expr} {tl th:TO} {r:V→Option Int→Option Int→Hp→VK→Prop} (hr:vj X r) (he:QE X e te) (hl:QO X lo tl) (hu:QO X hi th):QE X (.Subscript e (.Slice lo hi none p2) pos) (RZ r te tl th):=⟨L2.kO hr he.run hl.run hu.run⟩
theorem bM {id:String} {r:List V→Hp→VK→Prop} (hc:cq X (.builtin id) r) (hg:Gl X x) (hm:X.mg x=none) (hv:bootBuiltins x=some (.builtin id)) (ha:QA X (e :: es) t) (hn:x≠"__name__":=by decide) (hdb:(x == ("__debug__":Str))=false:=by decide)
  (he:starEach (e :: es) X.env=(false,eval e X.env) :: starEach es X.env:=by rfl) (hpl:(backTo pos (starEach es X.env)).any (·.1)=false:=by rfl):QE X (.Call (.Name x p) (e :: es) [] pos) (KQ r t):=⟨L2.bM hc hg hm hv ha.run hn hdb he hpl⟩
theorem pH {T:String} {r:List V→Hp→VK→Prop} (hc:cq X (.type T) r) (hg:Gl X x) (hm:X.mg x=none) (hv:bootBuiltins x=some (.type T)) (ha:QA X (e :: es) t) (hn:x≠"__name__":=by decide) (hdb:(x == ("__debug__":Str))=false:=by decide)
  (he:starEach (e :: es) X.env=(false,eval e X.env) :: starEach es X.env:=by rfl) (hpl:(backTo pos (starEach es X.env)).any (·.1)=false:=by rfl):QE X (.Call (.Name x p) (e :: es) [] pos) (KQ r t):=⟨L2.pH hc hg hm hv ha.run hn hdb he hpl⟩
theorem zl {k k':Nat} {ps:List Str} {sp:L2.Sp} (C:t9 X.prog X.w X.K X.mg X.base k x ps sp) (hr:b9 k' X.A) (hk:k≤k') (hg:Gl X x) (ha:QA X (e :: es) t)
  (hdb:(x == ("__debug__":Str))=false:=by decide) (he:starEach (e :: es) X.env=(false,eval e X.env) :: starEach es X.env:=by rfl) (hpl:(backTo pos (starEach es X.env)).any (·.1)=false:=by rfl) :
  QE X (.Call (.Name x p) (e :: es) [] pos) (t4 sp [] E0 t):=⟨NS C hr hk hg ha.run hdb he hpl⟩
theorem sS {name:Str} {T id:String} {r:V→List V→Hp→VK→Prop} (pa:PlainAttrs T) (slot:Slot T name id) (hty:typeOf (.builtin id)=pure (.type "method_descriptor")) (hm:qL X id r) (ho:QE X o to) (ha:QA X (e :: es) t)
  (hbase:attributeBase o name X.env (eval o X.env)=eval o X.env:=by rfl)
  (hfew:((backTo cpos (starEach (e :: es) X.env)).all (λx=>!x.1) && (backToKw cpos (keywordEach [] X.env)).all (λx=>x.1.isSome)
   && decide ((e :: es).length + ([]:List Keyword).length + (if ([]:List Keyword).isEmpty then 0 else 1) < 30))=true:=by rfl)
  (hline:(apos.endLine == cpos.line)=true:=by rfl) (hs:starEach (e :: es) X.env=(false,eval e X.env) :: starEach es X.env:=by rfl) (hplain:(backTo cpos (starEach es X.env)).any (·.1)=false:=by rfl) :
  QE X (.Call (.Attribute o name apos) (e :: es) [] cpos) (RV X.K T r to t):=⟨L2.sS pa slot hty hm ho.run ha.run hbase hfew hline hs hplain⟩
end
section
variable {X:Cx} {st:Stmt} {rest:List Stmt} {t u:TS} {e tg:Expr} {es:List Expr} {te:TE} {pos:Pos} {g:TG}
theorem f':QB X [] Dj:=⟨L2.f'⟩
theorem ba (h1:QS X st t) (h2:QB X rest u):QB X (st :: rest) (K0 t u):=⟨L2.ba h1.run h2.run⟩
theorem bS (h1:QS X st t):QB X [st] t:=⟨L2.bS h1.run⟩
theorem zp (h1:QS X st t) (h2:QB X rest u):QB X (st :: rest) (Rf t u):=⟨Kg h1.run h2.run⟩
theorem pL {sts:List Stmt}:QB X sts BS:=⟨L2.pL⟩
theorem kS:QS X (.Continue pos) HP:=⟨L2.kS⟩
theorem lU (he:QE X e te) (hs:swapsWith e none pos.line X.env=pure false:=by rfl):QS X (.Expr e pos) (Di te):=⟨L2.lU he.run hs⟩
theorem er (he:QE X e te):QS X (.Return (some e) pos) (KZ te):=⟨L2.er he.run⟩
theorem xp:QS X (.Return none pos) Dm:=⟨L2.xp⟩
theorem oA {c:Expr} {a b:List Stmt} {tc:TT} (hc:QT X c tc) (ha:QB X a t) (hb:QB X b u):QS X (.If c a b pos) (KR tc t u):=⟨L2.oA hc.run ha.run hb.run⟩
theorem kY {c:Expr} {body:List Stmt} {tc:TT} {tb:TS} (hp:PassesOwn (model X.prog X.w) X.A X.env X.xe) (hc:QT X c tc) (hb:QB X body tb):QS X (.While c body [] pos) (yc tc tb):=⟨L2.kY hp hc.run hb.run⟩
theorem lS {i:Nat} {x:Str} (hN:X.N.Nodup) (hi:X.N[i]?=some x) (hx:Loc X.env.scope x) (hf:X.fn x=true∨X.env.scope.names.lookup x=some .local:=by first | exact .inl rfl | exact .inr rfl | assumption):QG X (.Name x pos) (qd i):=⟨L2.lS hN hi hx hf⟩
theorem xk:RD X [] Jh:=⟨L2.xk⟩
theorem sV {e:Expr} {es:List Expr} {t:TG} {u:rS} (h1:QG X e t) (h2:RD X es u)
  (hs:(assignEach (e :: es) X.env).map (·.2)=assign e X.env :: (assignEach es X.env).map (·.2):=by rfl):RD X (e :: es) (Cg t u):=⟨L2.sV h1.run h2.run hs⟩
theorem Bq {k:Nat} {t:rS} {n:Nat} (hc:X.calm=true) (h:RD X es t)
  (hn:(assignEach es X.env).length=n:=by rfl) (hst:(assignEach es X.env).findIdx? (·.1)=none:=by rfl):QG X (.Tuple es k pos) (Jk X.K n t):=⟨L2.Bq hc h.run hn hst⟩
theorem xj {o i:Expr} {to ti:TE} {t:l7} (ho:QE X o to) (hi:QE X i ti) (hs:l6 X t)
  (ha:∀v,assign (.Subscript o i pos) X.env v=(do
   let ov ← holding [v] (eval o X.env)
   let iv ← holding [v,ov] (eval i X.env)
   standAt pos
   holding [v,ov,iv] (setItem ov iv v)
   release [v,ov,iv] []):=by intro _;rfl):QG X (.Subscript o i pos) (Jj to ti t):=⟨L2.xj ho.run hi.run hs ha⟩
theorem xo {tg e:Expr} (he:QE X e te) (hg:QG X tg g) (hs:swapsWithSole [tg] e pos.line X.env=pure false:=by rfl) (hw:swappedStores [tg] e X.env=pure none:=by rfl)
  (h1:(assignEach [tg] X.env).map (·.2)=[assign tg X.env]:=by rfl):QS X (.Assign [tg] e pos) (z_ te g):=⟨L2.xo he.run hg.run hs hw h1⟩
theorem c_ {i:Nat} {x:Str} {pos':Pos} (hN:X.N.Nodup) (hi:X.N[i]?=some x) (hx:Loc X.env.scope x) (he:QE X e te) (hs:swapsWith e (some (.Name x pos')) pos.line X.env=pure false:=by rfl) (hf:X.fn x=true∨X.env.scope.names.lookup x=some .local:=by first | exact .inl rfl | exact .inr rfl | assumption) :
  QS X (.Assign [.Name x pos'] e pos) (z_ te (qd i)):=⟨L2.c_ hN hi hx he.run hs hf⟩
theorem pK {i j:Nat} {x y:Str} {a b:Expr} {ta:TA} {px py pt:Pos} {kt k2 pt2} (hc:X.calm=true) (hN:X.N.Nodup) (hi:X.N[i]?=some x) (hj:X.N[j]?=some y) (hij:i≠j)
  (hx:X.env.scope.names.lookup x=some .local) (hy:X.env.scope.names.lookup y=some .local) (ha:QA X [a,b] ta)
  (hw:swappedStores [.Tuple [.Name x px,.Name y py] kt pt] (.Tuple [a,b] k2 pt2) X.env=pure (some [x,y]))
  (hs:swapsWithSole [.Tuple [.Name x px,.Name y py] kt pt] (.Tuple [a,b] k2 pt2) pos.line X.env=pure false:=by rfl) :
  QS X (.Assign [.Tuple [.Name x px,.Name y py] kt pt] (.Tuple [a,b] k2 pt2) pos) (KY i j ta):=⟨L2.pK hc hN hi hj hij hx hy ha.run hw hs⟩
theorem n9 {l:Expr} {tl:TE} (hl:QE X l tl):QI X tg l (Cm X.K tl):=⟨L2.n9 hl.run⟩
theorem gj {a:Expr} {ta:TA} {p pos:Pos} (hg:Gl X "range") (hm:X.mg "range"=none) (ha:QA X [a] ta) (hs:starEach [a] X.env=[(false,eval a X.env)]:=by rfl):QI X tg (.Call (.Name "range" p) [a] [] pos) (Cn ta):=⟨L2.gj hg hm ha.run hs⟩
theorem pJ {iter:Expr} {body:List Stmt} {wi:TI} {g:TG} {tb:TS} {pos:Pos} (hp:PassesOwn (model X.prog X.w) X.A X.env X.xe) (hc:X.calm=true) (hi:QI X tg iter wi) (hg:QG X tg g) (hb:QB X body tb)
  (hs:∀x,foldedSetIterable iter X.env x=pure x:=by intro _;rfl):QS X (.For tg iter body [] pos) (Ol wi g tb):=⟨L2.pJ hp hc hi.run hg.run hb.run hs⟩
theorem JW {elt iter:Expr} {x:Str} {px:Pos} {sc:Scope} {pos:Pos} {wi:TI} (osc:Scope) (N:List Str) (ks:List (Str × Nat)) (hc:X.calm=true) (ho:X.env.scope=osc) (hN:X.N=N) (hi:QI X (.Name x px) iter wi)
  (he:∀cl C s₀ H₀ fp pins,QE (gx X sc cl C x ks s₀ H₀ fp pins) elt te) (ok:df sc osc N x ks:=by decide +kernel) (hs:∀x,foldedSetIterable iter X.env x=pure x:=by intro _;rfl) :
  QE X (.ListComp elt [⟨.Name x px,iter,[],0⟩] sc pos) (RY wi ks te):=⟨LK osc N ks hc ho hN hi.run (λcl C s₀ H₀ fp pins=>(he cl C s₀ H₀ fp pins).run) ok hs⟩
theorem Ke {elt iter:Expr} {x y:Str} {px py:Pos} {sc:Scope} {pos spos:Pos} {wi:TI} {i:Nat} (osc:Scope) (N:List Str) (ks:List (Str × Nat)) (hc:X.calm=true) (ho:X.env.scope=osc) (hN:X.N=N) (hnd:X.N.Nodup) (hy:X.N[i]?=some y) (hl:Loc X.env.scope y)
  (hi:QI X (.Name x px) iter wi) (he:∀cl C s₀ H₀ fp pins,QE (gx X sc cl C x ks s₀ H₀ fp pins) elt te) (ok:df sc osc N x ks:=by decide +kernel) (hs:∀x,foldedSetIterable iter X.env x=pure x:=by intro _;rfl)
  (hsw:swapsWith (.ListComp elt [⟨.Name x px,iter,[],0⟩] sc pos) (some (.Name y py)) spos.line X.env=pure true:=by rfl) (hf:X.fn y=true∨X.env.scope.names.lookup y=some .local:=by first | exact .inl rfl | exact .inr rfl | assumption) :
  QS X (.Assign [.Name y py] (.ListComp elt [⟨.Name x px,iter,[],0⟩] sc pos) spos) (Om wi ks te i):=⟨LL osc N ks hc ho hN hnd hy hl hi.run (λcl C s₀ H₀ fp pins=>(he cl C s₀ H₀ fp pins).run) ok hs hsw hf⟩
end
end Ov
namespace Ov
open PySem PySem.Spec PyProof.Rows
open L2 (V HO Hp Inv Cx VK TE TA Vals RelV fI cq dq R2 upd EP vals1 intsAre_of Gl)
section
variable {X:Cx}
end
end Ov
namespace Ov
open PySem PySem.Spec PyProof.Rows
open L2 (V HO Hp Inv Cx VK TE TA Vals RelV fI cq dq g8 R2 upd bL)
inductive Py where
 | non | bl (b:Bool) | int (i:Int) | str (x:Str) | tup (xs:List Py) | lst (xs:List Py)
mutual
def At (K:PySem.W.Frag) (H:Hp):Py→V→Prop
 | .non,v=>v=.non
 | .bl b,v=>v=.bl b
 | .int i,v=>v=.int i
 | .str x,v=>v=.str x
 | .tup xs,v=>∃a vs,v=.ref a∧g8 K H a vs∧ua K H xs vs
 | .lst xs,v=>∃a vs,v=.ref a∧dq K H a vs∧ua K H xs vs
def ua (K:PySem.W.Frag) (H:Hp):List Py→List V→Prop
 | [],vs=>vs=[]
 | x :: xs,vs=>∃v us,vs=v :: us∧At K H x v∧ua K H xs us
end
mutual
def lP:Py→Py→Bool
 | .non,.non=>true
 | .bl a,.bl b=>a == b
 | .int a,.int b=>a == b
 | .bl a,.int b=>(if a then 1 else 0) == b
 | .int a,.bl b=>a == (if b then 1 else 0)
 | .str a,.str b=>a == b
 | .tup xs,.tup ys=>kA xs ys
 | .lst xs,.lst ys=>kA xs ys
 | _,_=>false
def kA:List Py→List Py→Bool
 | [],[]=>true
 | x :: xs,y :: ys=>lP x y && kA xs ys
 | _,_=>false
end
mutual
def dep:Py→Nat
 | .tup xs=>eg xs + 1
 | .lst xs=>eg xs + 1
 | _=>0
def eg:List Py→Nat
 | []=>0
 | x :: xs=>max (dep x) (eg xs)
end
mutual
theorem yG:∀x:Py,lP x x=true
 | .non=>rfl
 | .bl b=>by simp [lP]
 | .int b=>by simp [lP]
 | .str b=>by simp [lP]
 | .tup xs=>by simpa [lP] using pe xs
 | .lst xs=>by simpa [lP] using pe xs
theorem pe:∀xs:List Py,kA xs xs=true
 | []=>rfl
 | x :: xs=>by simp [kA,yG x,pe xs]
end
mutual
theorem At.same {K:PySem.W.Frag} {H H':Hp} (e:bL H H'):∀{x:Py} {v:V},At K H x v→At K H' x v
 | .non,_,h=>h
 | .bl _,_,h=>h
 | .int _,_,h=>h
 | .str _,_,h=>h
 | .tup xs,_,⟨a,vs,e1,h,k⟩=>⟨a,vs,e1,e.tup h,ua.same e k⟩
 | .lst xs,_,⟨a,vs,e1,h,k⟩=>⟨a,vs,e1,e.seq h,ua.same e k⟩
theorem ua.same {K:PySem.W.Frag} {H H':Hp} (e:bL H H'):∀{xs:List Py} {vs:List V},ua K H xs vs→ua K H' xs vs
 | [],_,h=>h
 | _ :: _,_,⟨v,us,e1,h,k⟩=>⟨v,us,e1,At.same e h,ua.same e k⟩
end
theorem ua.length {K:PySem.W.Frag} {H:Hp}:∀{xs:List Py} {vs:List V},ua K H xs vs→xs.length=vs.length
 | [],_,h=>by cases h;rfl
 | _ :: xs,_,⟨v,us,e1,_,k⟩=>by subst e1;simp [ua.length k]
def DP (xs ys:List Py) (j:Nat):Bool:=match xs[j]?,ys[j]? with
 | some x,some y=>lP x y
 | _,_=>false
theorem jt:∀(xs ys:List Py),((VA (min xs.length ys.length)).all (DP xs ys) && (xs.length == ys.length))=kA xs ys
 | [],[]=>rfl
 | [],_ :: _=>by simp [kA]
 | _ :: _,[]=>by simp [kA]
 | x :: xs,y :: ys=>by
  have ih:=jt xs ys
  rw [Vk,Vk,Nat.succ_min_succ,List.range_succ_eq_map,W4,List.all_map]
  have e1:(DP (x :: xs) (y :: ys) ∘ Nat.succ)=DP xs ys:=by
   funext j
   simp [DP]
  have e2:(xs.length + 1 == ys.length + 1)=(xs.length == ys.length):=by
   rw [VX]
   simp
  rw [e1,e2,Bool.and_assoc,ih]
  simp [DP,kA]
section
variable {X:Cx} {pins:List (Addr × Obj)} {σ:L2.St} {H:Hp} {s:Shared}
mutual
theorem At.one (I:Inv X pins σ H s):∀{x y:Py} {v:V},At X.K H x v→At X.K H y v→lP x y=true
 | .non,y,v,h,k=>by cases h;cases y <;> simp_all [At,lP]
 | .bl b,y,v,h,k=>by cases h;cases y <;> simp_all [At,lP]
 | .int b,y,v,h,k=>by cases h;cases y <;> simp_all [At,lP]
 | .str b,y,v,h,k=>by cases h;cases y <;> simp_all [At,lP]
 | .tup xs,y,v,h,k=>by
  obtain ⟨a,vs,rfl,h1,h2⟩:=h
  cases y with
  | tup ys =>
   obtain ⟨b,us,e,k1,k2⟩:=k
   cases e
   cases I.EJ h1 k1
   simpa [lP] using ua.one I h2 k2
  | lst ys =>
   obtain ⟨b,us,e,k1,k2⟩:=k
   cases e
   obtain ⟨_,_,⟨o,e1,c1,_⟩,_⟩:=I.tuple h1
   obtain ⟨_,_,⟨o',n,e2,c2,_⟩,_⟩:=I.list k1
   rw [e1] at e2;cases e2;exact absurd (Value.type.inj (c1.symm.trans c2)) (by decide)
  | _=>cases k
 | .lst xs,y,v,h,k=>by
  obtain ⟨a,vs,rfl,h1,h2⟩:=h
  cases y with
  | lst ys =>
   obtain ⟨b,us,e,k1,k2⟩:=k
   cases e
   cases I.kE h1 k1
   simpa [lP] using ua.one I h2 k2
  | tup ys =>
   obtain ⟨b,us,e,k1,k2⟩:=k
   cases e
   obtain ⟨_,_,⟨o,e1,c1,_⟩,_⟩:=I.tuple k1
   obtain ⟨_,_,⟨o',n,e2,c2,_⟩,_⟩:=I.list h1
   rw [e1] at e2;cases e2;exact absurd (Value.type.inj (c1.symm.trans c2)) (by decide)
  | _=>cases k
theorem ua.one (I:Inv X pins σ H s):∀{xs ys:List Py} {vs:List V},ua X.K H xs vs→ua X.K H ys vs→kA xs ys=true
 | [],ys,vs,h,k=>by
  cases h
  cases ys with
  | nil=>rfl
  | cons y ys=>obtain ⟨_,_,e,_⟩:=k;cases e
 | x :: xs,ys,vs,h,k=>by
  obtain ⟨v,us,rfl,h1,h2⟩:=h
  cases ys with
  | nil=>cases k
  | cons y ys =>
   obtain ⟨v',us',e,k1,k2⟩:=k
   cases e
   simp [kA,At.one I h1 k1,ua.one I h2 k2]
end
mutual
theorem Sk (I:Inv X pins σ H s):∀(x y:Py) {v v':V} {u u':Value} {A:Around},At X.K H x v→At X.K H y v'→RelV v u→RelV v' u'→A.units + dep x < cLine→SeqAt.EqAt A s u u' (lP x y)
 | .non,y,v,v',u,u',A,h,k,r,r',hu=>by
  cases h;cases r
  cases y with
  | non=>cases k;cases r';exact SeqAt.EqAt.same _
  | bl b=>cases k;cases r';exact SeqAt.EqAt.none_bool _
  | int b=>cases k;obtain ⟨t,rfl⟩:=r';exact SeqAt.EqAt.none_int _ _
  | str b=>cases k;obtain ⟨t,rfl⟩:=r';exact SeqAt.EqAt.none_str _ _
  | tup ys=>obtain ⟨a,vs,rfl,h1,h2⟩:=k;cases r';obtain ⟨_,_,p,_⟩:=I.tuple h1;exact SeqAt.EqAt.none_tuple p (by simpa [dep] using hu)
  | lst ys=>obtain ⟨a,vs,rfl,h1,h2⟩:=k;cases r';obtain ⟨_,_,p,_⟩:=I.list h1;exact SeqAt.EqAt.none_list p.isList (by simpa [dep] using hu)
 | .bl x,y,v,v',u,u',A,h,k,r,r',hu=>by
  cases h;cases r
  cases y with
  | non=>cases k;cases r';exact SeqAt.EqAt.bool_none _
  | bl b=>cases k;cases r';exact SeqAt.EqAt.bool_bool _ _
  | int b=>cases k;obtain ⟨t,rfl⟩:=r';exact SeqAt.EqAt.bool_int _ _ _
  | str b=>cases k;obtain ⟨t,rfl⟩:=r';exact SeqAt.EqAt.bool_str _ _ _
  | tup ys=>obtain ⟨a,vs,rfl,h1,h2⟩:=k;cases r';obtain ⟨_,_,p,_⟩:=I.tuple h1;exact SeqAt.EqAt.bool_tuple _ p (by simpa [dep] using hu)
  | lst ys=>obtain ⟨a,vs,rfl,h1,h2⟩:=k;cases r';obtain ⟨_,_,p,_⟩:=I.list h1;exact SeqAt.EqAt.bool_list _ p.isList (by simpa [dep] using hu)
 | .int x,y,v,v',u,u',A,h,k,r,r',hu=>by
  cases h;obtain ⟨t0,rfl⟩:=r
  cases y with
  | non=>cases k;cases r';exact SeqAt.EqAt.int_none _ _
  | bl b=>cases k;cases r';exact SeqAt.EqAt.int_bool _ _ _
  | int b=>cases k;obtain ⟨t,rfl⟩:=r';exact SeqAt.EqAt.int_int _ _ _ _
  | str b=>cases k;obtain ⟨t,rfl⟩:=r';exact SeqAt.EqAt.int_str _ _ _ _
  | tup ys=>obtain ⟨a,vs,rfl,h1,h2⟩:=k;cases r';obtain ⟨_,_,p,_⟩:=I.tuple h1;exact SeqAt.EqAt.int_tuple _ _ p (by simpa [dep] using hu)
  | lst ys=>obtain ⟨a,vs,rfl,h1,h2⟩:=k;cases r';obtain ⟨_,_,p,_⟩:=I.list h1;exact SeqAt.EqAt.int_list _ _ p.isList (by simpa [dep] using hu)
 | .str x,y,v,v',u,u',A,h,k,r,r',hu=>by
  cases h;obtain ⟨t0,rfl⟩:=r
  cases y with
  | non=>cases k;cases r';exact SeqAt.EqAt.str_none _ _
  | bl b=>cases k;cases r';exact SeqAt.EqAt.str_bool _ _ _
  | int b=>cases k;obtain ⟨t,rfl⟩:=r';exact SeqAt.EqAt.str_int _ _ _ _
  | str b=>cases k;obtain ⟨t,rfl⟩:=r';exact SeqAt.EqAt.str_str _ _ _ _
  | tup ys=>obtain ⟨a,vs,rfl,h1,h2⟩:=k;cases r';obtain ⟨_,_,p,_⟩:=I.tuple h1;exact SeqAt.EqAt.str_tuple _ _ p (by simpa [dep] using hu)
  | lst ys=>obtain ⟨a,vs,rfl,h1,h2⟩:=k;cases r';obtain ⟨_,_,p,_⟩:=I.list h1;exact SeqAt.EqAt.str_list _ _ p.isList (by simpa [dep] using hu)
 | .tup xs,y,v,v',u,u',A,h,k,r,r',hu=>by
  have h0:=h
  obtain ⟨a,vs,rfl,h1,h2⟩:=h
  cases r
  obtain ⟨is,r1,p1,_⟩:=I.tuple h1
  have hu0:A.units < cLine:=by omega
  have hu1:A.in1.units + eg xs < cLine:=by
   have e:dep (.tup xs)=eg xs + 1:=by rw [dep]
   rw [e] at hu
   show A.units + 1 + eg xs < cLine
   omega
  cases y with
  | non=>cases k;cases r';exact SeqAt.EqAt.tuple_none p1 hu0
  | bl b=>cases k;cases r';exact SeqAt.EqAt.tuple_bool _ p1 hu0
  | int b=>cases k;obtain ⟨t,rfl⟩:=r';exact SeqAt.EqAt.tuple_int _ _ p1 hu0
  | str b=>cases k;obtain ⟨t,rfl⟩:=r';exact SeqAt.EqAt.tuple_str _ _ p1 hu0
  | lst ys=>obtain ⟨b,us,rfl,k1,k2⟩:=k;cases r';obtain ⟨_,_,p,_⟩:=I.list k1;exact SeqAt.EqAt.tuple_list p1 p.isList hu0
  | tup ys =>
   have k0:=k
   obtain ⟨b,us,rfl,k1,k2⟩:=k
   cases r'
   by_cases hab:a=b
   ·subst hab
    rw [At.one I h0 k0]
    exact SeqAt.EqAt.same _
   ·obtain ⟨js,r2,p2,_⟩:=I.tuple k1
    refine SeqAt.EqAt.of_refs hab ?_
    have key:=SeqAt.RcAt.tuples (e:=DP xs ys) p1 p2 hu0 λj q1 q2=>r_ I xs ys h2 k2 r1 r2 hu1 j (by simpa using q1) (by simpa using q2)
    have e1:is.length=xs.length:=by rw [← r1.length,h2.length]
    have e2:js.length=ys.length:=by rw [← r2.length,k2.length]
    simp only [U5] at key
    rw [e1,e2,jt] at key
    simpa [lP] using key
 | .lst xs,y,v,v',u,u',A,h,k,r,r',hu=>by
  have h0:=h
  obtain ⟨a,vs,rfl,h1,h2⟩:=h
  cases r
  obtain ⟨is,r1,p1,_⟩:=I.list h1
  have hu0:A.units < cLine:=by omega
  have hu1:A.in1.units + eg xs < cLine:=by
   have e:dep (.lst xs)=eg xs + 1:=by rw [dep]
   rw [e] at hu
   show A.units + 1 + eg xs < cLine
   omega
  cases y with
  | non=>cases k;cases r';exact SeqAt.EqAt.list_none p1.isList hu0
  | bl b=>cases k;cases r';exact SeqAt.EqAt.list_bool _ p1.isList hu0
  | int b=>cases k;obtain ⟨t,rfl⟩:=r';exact SeqAt.EqAt.list_int _ _ p1.isList hu0
  | str b=>cases k;obtain ⟨t,rfl⟩:=r';exact SeqAt.EqAt.list_str _ _ p1.isList hu0
  | tup ys=>obtain ⟨b,us,rfl,k1,k2⟩:=k;cases r';obtain ⟨_,_,p,_⟩:=I.tuple k1;exact SeqAt.EqAt.list_tuple p1.isList p hu0
  | lst ys =>
   have k0:=k
   obtain ⟨b,us,rfl,k1,k2⟩:=k
   cases r'
   by_cases hab:a=b
   ·subst hab
    rw [At.one I h0 k0]
    exact SeqAt.EqAt.same _
   ·obtain ⟨js,r2,p2,_⟩:=I.list k1
    refine SeqAt.EqAt.of_refs hab ?_
    have e1:is.length=xs.length:=by rw [← r1.length,h2.length]
    have e2:js.length=ys.length:=by rw [← r2.length,k2.length]
    have ae:=jt xs ys
    by_cases hl:xs.length=ys.length
    ·have key:=SeqAt.RcAt.lists (e:=DP xs ys) p1.isList p2.isList (by simp only [U5];omega) hu0 λj q1 q2=>r_ I xs ys h2 k2 r1 r2 hu1 j (by simpa using q1) (by simpa using q2)
     simp only [U5] at key
     rw [hl,W9] at ae
     have e3:(ys.length == ys.length)=true:=by simp
     rw [e3,V1] at ae
     rw [e1,hl,ae] at key
     simpa [lP] using key
    ·have key:=SeqAt.RcAt.lists_lengths p1.isList p2.isList (A:=A) (by simp only [U5];rw [e1,e2];simpa using hl) hu0
     have e3:kA xs ys=false:=by
      rw [← ae]
      have:(xs.length == ys.length)=false:=by simpa using hl
      rw [this,Wa]
     simpa [lP,e3] using key
theorem r_ (I:Inv X pins σ H s):∀(xs ys:List Py) {vs us:List V} {is js:List Value} {A:Around},ua X.K H xs vs→ua X.K H ys us→Vals vs is→Vals us js→A.units + eg xs < cLine→∀j (h1:j < is.length) (h2:j < js.length),SeqAt.EqAt A s is[j] js[j] (DP xs ys j)
 | [],ys,vs,us,is,js,A,h,k,r,r',hu,j,h1,h2=>by
  cases h;cases r;exact absurd h1 (Wz _)
 | x :: xs,[],vs,us,is,js,A,h,k,r,r',hu,j,h1,h2=>by
  cases k;cases r';exact absurd h2 (Wz _)
 | x :: xs,y :: ys,vs,us,is,js,A,h,k,r,r',hu,j,h1,h2=>by
  obtain ⟨v,vs',rfl,a1,a2⟩:=h
  obtain ⟨v',us',rfl,b1,b2⟩:=k
  cases r with
  | cons q1 q2 =>
   cases r' with
   | cons z1 z2 =>
    have e:eg (x :: xs)=max (dep x) (eg xs):=by rw [eg]
    rw [e] at hu
    cases j with
    | zero=>exact Sk I x y a1 b1 q1 z1 (by omega)
    | succ j =>
     have:=r_ I xs ys a2 b2 q2 z2 (A:=A) (by omega) j (by simpa using h1) (by simpa using h2)
     simpa [DP] using this
end
theorem To (I:Inv X pins σ H s) (x y:Py) {v v':V} {u u':Value} {A:Around} (h:At X.K H x v) (k:At X.K H y v') (r:RelV v u) (r':RelV v' u') (hu:A.units + dep x < cLine):SeqAt.RcAt A s u u' (lP x y):=by
 have hu0:A.units < cLine:=by omega
 cases x with
 | non =>
  cases h;cases r
  cases y with
  | non=>cases k;cases r';exact SeqAt.RcAt.none_none
  | bl b=>cases k;cases r';exact SeqAt.RcAt.none_bool _
  | int b=>cases k;obtain ⟨t,rfl⟩:=r';exact SeqAt.RcAt.none_int _ _
  | str b=>cases k;obtain ⟨t,rfl⟩:=r';exact SeqAt.RcAt.none_str _ _
  | tup ys=>obtain ⟨b,us,rfl,k1,k2⟩:=k;cases r';obtain ⟨js,r2,p2,_⟩:=I.tuple k1;exact SeqAt.RcAt.none_tuple p2 hu0
  | lst ys=>obtain ⟨b,us,rfl,k1,k2⟩:=k;cases r';obtain ⟨js,r2,p2,_⟩:=I.list k1;exact SeqAt.RcAt.none_list p2.isList hu0
 | bl i =>
  cases h;cases r
  cases y with
  | non=>cases k;cases r';exact SeqAt.RcAt.bool_none _
  | bl b=>cases k;cases r';exact SeqAt.RcAt.bool_bool _ _
  | int b=>cases k;obtain ⟨t,rfl⟩:=r';exact SeqAt.RcAt.bool_int _ _ _
  | str b=>cases k;obtain ⟨t,rfl⟩:=r';exact SeqAt.RcAt.bool_str _ _ _
  | tup ys=>obtain ⟨b,us,rfl,k1,k2⟩:=k;cases r';obtain ⟨js,r2,p2,_⟩:=I.tuple k1;exact SeqAt.RcAt.bool_tuple _ p2 hu0
  | lst ys=>obtain ⟨b,us,rfl,k1,k2⟩:=k;cases r';obtain ⟨js,r2,p2,_⟩:=I.list k1;exact SeqAt.RcAt.bool_list _ p2.isList hu0
 | int i =>
  cases h;obtain ⟨t0,rfl⟩:=r
  cases y with
  | non=>cases k;cases r';exact SeqAt.RcAt.int_none _ _
  | bl b=>cases k;cases r';exact SeqAt.RcAt.int_bool _ _ _
  | int b=>cases k;obtain ⟨t,rfl⟩:=r';exact SeqAt.RcAt.int_int _ _ _ _
  | str b=>cases k;obtain ⟨t,rfl⟩:=r';exact SeqAt.RcAt.int_str _ _ _ _
  | tup ys=>obtain ⟨b,us,rfl,k1,k2⟩:=k;cases r';obtain ⟨js,r2,p2,_⟩:=I.tuple k1;exact SeqAt.RcAt.int_tuple _ _ p2 hu0
  | lst ys=>obtain ⟨b,us,rfl,k1,k2⟩:=k;cases r';obtain ⟨js,r2,p2,_⟩:=I.list k1;exact SeqAt.RcAt.int_list _ _ p2.isList hu0
 | str i =>
  cases h;obtain ⟨t0,rfl⟩:=r
  cases y with
  | non=>cases k;cases r';exact SeqAt.RcAt.str_none _ _
  | bl b=>cases k;cases r';exact SeqAt.RcAt.str_bool _ _ _
  | int b=>cases k;obtain ⟨t,rfl⟩:=r';exact SeqAt.RcAt.str_int _ _ _ _
  | str b=>cases k;obtain ⟨t,rfl⟩:=r';exact SeqAt.RcAt.str_str _ _ _ _
  | tup ys=>obtain ⟨b,us,rfl,k1,k2⟩:=k;cases r';obtain ⟨js,r2,p2,_⟩:=I.tuple k1;exact SeqAt.RcAt.str_tuple _ _ p2 hu0
  | lst ys=>obtain ⟨b,us,rfl,k1,k2⟩:=k;cases r';obtain ⟨js,r2,p2,_⟩:=I.list k1;exact SeqAt.RcAt.str_list _ _ p2.isList hu0
 | tup xs =>
  obtain ⟨a,vs,rfl,h1,h2⟩:=h
  cases r
  obtain ⟨is,r1,p1,_⟩:=I.tuple h1
  have hu1:A.in1.units + eg xs < cLine:=by
   have e:dep (.tup xs)=eg xs + 1:=by rw [dep]
   rw [e] at hu
   show A.units + 1 + eg xs < cLine
   omega
  cases y with
  | non=>cases k;cases r';exact SeqAt.RcAt.tuple_none p1 hu0
  | bl b=>cases k;cases r';exact SeqAt.RcAt.tuple_bool _ p1 hu0
  | int b=>cases k;obtain ⟨t,rfl⟩:=r';exact SeqAt.RcAt.tuple_int _ _ p1 hu0
  | str b=>cases k;obtain ⟨t,rfl⟩:=r';exact SeqAt.RcAt.tuple_str _ _ p1 hu0
  | tup ys =>
   obtain ⟨b,us,rfl,k1,k2⟩:=k;cases r';obtain ⟨js,r2,p2,_⟩:=I.tuple k1
   have e1:is.length=xs.length:=by rw [← r1.length,h2.length]
   have e2:js.length=ys.length:=by rw [← r2.length,k2.length]
   have ae:=jt xs ys
   have key:=SeqAt.RcAt.tuples (e:=DP xs ys) p1 p2 hu0 λj q1 q2=>r_ I xs ys h2 k2 r1 r2 hu1 j (by simpa using q1) (by simpa using q2)
   simp only [U5] at key
   rw [e1,e2,ae] at key
   simpa [lP] using key
  | lst ys=>obtain ⟨b,us,rfl,k1,k2⟩:=k;cases r';obtain ⟨js,r2,p2,_⟩:=I.list k1;exact SeqAt.RcAt.tuple_list p1 p2.isList hu0
 | lst xs =>
  obtain ⟨a,vs,rfl,h1,h2⟩:=h
  cases r
  obtain ⟨is,r1,p1,_⟩:=I.list h1
  have hu1:A.in1.units + eg xs < cLine:=by
   have e:dep (.lst xs)=eg xs + 1:=by rw [dep]
   rw [e] at hu
   show A.units + 1 + eg xs < cLine
   omega
  cases y with
  | non=>cases k;cases r';exact SeqAt.RcAt.list_none p1.isList hu0
  | bl b=>cases k;cases r';exact SeqAt.RcAt.list_bool _ p1.isList hu0
  | int b=>cases k;obtain ⟨t,rfl⟩:=r';exact SeqAt.RcAt.list_int _ _ p1.isList hu0
  | str b=>cases k;obtain ⟨t,rfl⟩:=r';exact SeqAt.RcAt.list_str _ _ p1.isList hu0
  | tup ys=>obtain ⟨b,us,rfl,k1,k2⟩:=k;cases r';obtain ⟨js,r2,p2,_⟩:=I.tuple k1;exact SeqAt.RcAt.list_tuple p1.isList p2 hu0
  | lst ys =>
   obtain ⟨b,us,rfl,k1,k2⟩:=k;cases r';obtain ⟨js,r2,p2,_⟩:=I.list k1
   have e1:is.length=xs.length:=by rw [← r1.length,h2.length]
   have e2:js.length=ys.length:=by rw [← r2.length,k2.length]
   have ae:=jt xs ys
   by_cases hl:xs.length=ys.length
   ·have key:=SeqAt.RcAt.lists (e:=DP xs ys) p1.isList p2.isList (by simp only [U5];omega) hu0 λj q1 q2=>r_ I xs ys h2 k2 r1 r2 hu1 j (by simpa using q1) (by simpa using q2)
    simp only [U5] at key
    rw [hl,W9] at ae
    have e3:(ys.length == ys.length)=true:=by simp
    rw [e3,V1] at ae
    rw [e1,hl,ae] at key
    simpa [lP] using key
   ·have key:=SeqAt.RcAt.lists_lengths p1.isList p2.isList (A:=A) (by simp only [U5];rw [e1,e2];simpa using hl) hu0
    have e3:kA xs ys=false:=by
     rw [← ae]
     have:(xs.length == ys.length)=false:=by simpa using hl
     rw [this,Wa]
    simpa [lP,e3] using key
theorem Q_ (I:Inv X pins σ H s) (x y:Py) {v v':V} {u u':Value} {A:Around} (h:At X.K H x v) (k:At X.K H y v') (r:RelV v u) (r':RelV v' u') (hu:A.units + dep x < cLine):SeqAt.RcNeAt A s u u' (!lP x y):=by
 have hu0:A.units < cLine:=by omega
 cases x with
 | non =>
  cases h;cases r
  cases y with
  | non=>cases k;cases r';exact SeqAt.RcNeAt.none_none
  | bl b=>cases k;cases r';exact SeqAt.RcNeAt.none_bool _
  | int b=>cases k;obtain ⟨t,rfl⟩:=r';exact SeqAt.RcNeAt.none_int _ _
  | str b=>cases k;obtain ⟨t,rfl⟩:=r';exact SeqAt.RcNeAt.none_str _ _
  | tup ys=>obtain ⟨b,us,rfl,k1,k2⟩:=k;cases r';obtain ⟨js,r2,p2,_⟩:=I.tuple k1;exact SeqAt.RcNeAt.none_tuple p2 hu0
  | lst ys=>obtain ⟨b,us,rfl,k1,k2⟩:=k;cases r';obtain ⟨js,r2,p2,_⟩:=I.list k1;exact SeqAt.RcNeAt.none_list p2.isList hu0
 | bl i =>
  cases h;cases r
  cases y with
  | non=>cases k;cases r';exact SeqAt.RcNeAt.bool_none _
  | bl b=>cases k;cases r';exact SeqAt.RcNeAt.bool_bool _ _
  | int b=>cases k;obtain ⟨t,rfl⟩:=r';exact SeqAt.RcNeAt.bool_int _ _ _
  | str b=>cases k;obtain ⟨t,rfl⟩:=r';exact SeqAt.RcNeAt.bool_str _ _ _
  | tup ys=>obtain ⟨b,us,rfl,k1,k2⟩:=k;cases r';obtain ⟨js,r2,p2,_⟩:=I.tuple k1;exact SeqAt.RcNeAt.bool_tuple _ p2 hu0
  | lst ys=>obtain ⟨b,us,rfl,k1,k2⟩:=k;cases r';obtain ⟨js,r2,p2,_⟩:=I.list k1;exact SeqAt.RcNeAt.bool_list _ p2.isList hu0
 | int i =>
  cases h;obtain ⟨t0,rfl⟩:=r
  cases y with
  | non=>cases k;cases r';exact SeqAt.RcNeAt.int_none _ _
  | bl b=>cases k;cases r';exact SeqAt.RcNeAt.int_bool _ _ _
  | int b=>cases k;obtain ⟨t,rfl⟩:=r';exact SeqAt.RcNeAt.int_int _ _ _ _
  | str b=>cases k;obtain ⟨t,rfl⟩:=r';exact SeqAt.RcNeAt.int_str _ _ _ _
  | tup ys=>obtain ⟨b,us,rfl,k1,k2⟩:=k;cases r';obtain ⟨js,r2,p2,_⟩:=I.tuple k1;exact SeqAt.RcNeAt.int_tuple _ _ p2 hu0
  | lst ys=>obtain ⟨b,us,rfl,k1,k2⟩:=k;cases r';obtain ⟨js,r2,p2,_⟩:=I.list k1;exact SeqAt.RcNeAt.int_list _ _ p2.isList hu0
 | str i =>
  cases h;obtain ⟨t0,rfl⟩:=r
  cases y with
  | non=>cases k;cases r';exact SeqAt.RcNeAt.str_none _ _
  | bl b=>cases k;cases r';exact SeqAt.RcNeAt.str_bool _ _ _
  | int b=>cases k;obtain ⟨t,rfl⟩:=r';exact SeqAt.RcNeAt.str_int _ _ _ _
  | str b=>cases k;obtain ⟨t,rfl⟩:=r';exact SeqAt.RcNeAt.str_str _ _ _ _
  | tup ys=>obtain ⟨b,us,rfl,k1,k2⟩:=k;cases r';obtain ⟨js,r2,p2,_⟩:=I.tuple k1;exact SeqAt.RcNeAt.str_tuple _ _ p2 hu0
  | lst ys=>obtain ⟨b,us,rfl,k1,k2⟩:=k;cases r';obtain ⟨js,r2,p2,_⟩:=I.list k1;exact SeqAt.RcNeAt.str_list _ _ p2.isList hu0
 | tup xs =>
  obtain ⟨a,vs,rfl,h1,h2⟩:=h
  cases r
  obtain ⟨is,r1,p1,_⟩:=I.tuple h1
  have hu1:A.in1.units + eg xs < cLine:=by
   have e:dep (.tup xs)=eg xs + 1:=by rw [dep]
   rw [e] at hu
   show A.units + 1 + eg xs < cLine
   omega
  cases y with
  | non=>cases k;cases r';exact SeqAt.RcNeAt.tuple_none p1 hu0
  | bl b=>cases k;cases r';exact SeqAt.RcNeAt.tuple_bool _ p1 hu0
  | int b=>cases k;obtain ⟨t,rfl⟩:=r';exact SeqAt.RcNeAt.tuple_int _ _ p1 hu0
  | str b=>cases k;obtain ⟨t,rfl⟩:=r';exact SeqAt.RcNeAt.tuple_str _ _ p1 hu0
  | tup ys =>
   obtain ⟨b,us,rfl,k1,k2⟩:=k;cases r';obtain ⟨js,r2,p2,_⟩:=I.tuple k1
   have e1:is.length=xs.length:=by rw [← r1.length,h2.length]
   have e2:js.length=ys.length:=by rw [← r2.length,k2.length]
   have ae:=jt xs ys
   have key:=SeqAt.RcNeAt.tuples (e:=DP xs ys) p1 p2 hu0 λj q1 q2=>r_ I xs ys h2 k2 r1 r2 hu1 j (by simpa using q1) (by simpa using q2)
   simp only [U5] at key
   rw [e1,e2,ae] at key
   simpa [lP] using key
  | lst ys=>obtain ⟨b,us,rfl,k1,k2⟩:=k;cases r';obtain ⟨js,r2,p2,_⟩:=I.list k1;exact SeqAt.RcNeAt.tuple_list p1 p2.isList hu0
 | lst xs =>
  obtain ⟨a,vs,rfl,h1,h2⟩:=h
  cases r
  obtain ⟨is,r1,p1,_⟩:=I.list h1
  have hu1:A.in1.units + eg xs < cLine:=by
   have e:dep (.lst xs)=eg xs + 1:=by rw [dep]
   rw [e] at hu
   show A.units + 1 + eg xs < cLine
   omega
  cases y with
  | non=>cases k;cases r';exact SeqAt.RcNeAt.list_none p1.isList hu0
  | bl b=>cases k;cases r';exact SeqAt.RcNeAt.list_bool _ p1.isList hu0
  | int b=>cases k;obtain ⟨t,rfl⟩:=r';exact SeqAt.RcNeAt.list_int _ _ p1.isList hu0
  | str b=>cases k;obtain ⟨t,rfl⟩:=r';exact SeqAt.RcNeAt.list_str _ _ p1.isList hu0
  | tup ys=>obtain ⟨b,us,rfl,k1,k2⟩:=k;cases r';obtain ⟨js,r2,p2,_⟩:=I.tuple k1;exact SeqAt.RcNeAt.list_tuple p1.isList p2 hu0
  | lst ys =>
   obtain ⟨b,us,rfl,k1,k2⟩:=k;cases r';obtain ⟨js,r2,p2,_⟩:=I.list k1
   have e1:is.length=xs.length:=by rw [← r1.length,h2.length]
   have e2:js.length=ys.length:=by rw [← r2.length,k2.length]
   have ae:=jt xs ys
   by_cases hl:xs.length=ys.length
   ·have key:=SeqAt.RcNeAt.lists (e:=DP xs ys) p1.isList p2.isList (by simp only [U5];omega) hu0 λj q1 q2=>r_ I xs ys h2 k2 r1 r2 hu1 j (by simpa using q1) (by simpa using q2)
    simp only [U5] at key
    rw [hl,W9] at ae
    have e3:(ys.length == ys.length)=true:=by simp
    rw [e3,V1] at ae
    rw [e1,hl,ae] at key
    simpa [lP] using key
   ·have key:=SeqAt.RcNeAt.lists_lengths p1.isList p2.isList (A:=A) (by simp only [U5];rw [e1,e2];simpa using hl) hu0
    have e3:kA xs ys=false:=by
     rw [← ae]
     have:(xs.length == ys.length)=false:=by simpa using hl
     rw [this,Wa]
    simpa [lP,e3] using key
def rP (K:PySem.W.Frag) (f:Bool→Bool):R2:=λv v' H Q=>∃x y:Py,At K H x v∧At K H y v'∧dep x≤60∧Q (.bl (f (lP x y))) H
theorem NM (hu:X.A.units + 61 < cLine):fI X (compareOp .Eq) (rP X.K id):=by
 intro pins s σ H x y v u Q I rx ry h
 obtain ⟨a,b,h1,h2,d,q⟩:=h
 exact To I a b h1 h2 rx ry (by omega) X.prog X.w X.xe _ ⟨.bl _,H,I,rfl,q⟩
theorem NP (hu:X.A.units + 61 < cLine):fI X (compareOp .NotEq) (rP X.K not):=by
 intro pins s σ H x y v u Q I rx ry h
 obtain ⟨a,b,h1,h2,d,q⟩:=h
 exact Q_ I a b h1 h2 rx ry (by omega) X.prog X.w X.xe _ ⟨.bl _,H,I,rfl,q⟩
end
end Ov
namespace Ov
open PySem PySem.Spec PySem.Calls PyProof.Rows PySem.W Builtin.Getset_descriptor
def ExcAt (x D:Addr) (h:Heap):Prop:=∃ox,h.get? x=some ox∧ox.cls=.ref D
theorem ExcAt.ty {M:Model} {h:Heap} {x D:Addr} (I:ExcAt x D h):Looks M h (typeOf (.ref x)) (.ref D):=by
 obtain ⟨ox,a,b⟩:=I
 rw [← b]
 exact (Looks.ld a).andThen .now
section
variable {prog:Program} {w:World} {A:Around} {E:Value→Shared→Prop} {s:Shared} {K:Frag} {x D:Addr}
structure qy (K:Frag) (D:Addr):Prop where
 cls:(clsIn K D).isSome=true
 ga:findIn K (.ref D) "__getattribute__"=some (some (.builtin "BaseException.__getattribute__"))
 gt:findIn K (.ref D) "__getattr__"=some none
 ca:findIn K (.ref D) "__class__"=some (some (.builtin "object.__class__"))
 get:specialIn K (.builtin "object.__class__") "__get__"=some (some (.builtin "getset_descriptor.__get__"))
 tk:takesIn K (.builtin "object.__class__")=some true
 obj:mroIn K D (.type "object")=some true
 bex:subIn K (.ref D) (.type "BaseException")=some true
theorem K8 {M:Model} {h:Heap} (X:K.In h) (Z:qy K D):Looks M h (Builtin.ObjectAttr.find (.ref x) (.ref D) "__class__") (.bind (.builtin "getset_descriptor.__get__") (.builtin "object.__class__")) :=
 (looks_findIn X Z.ca).andThen ((show Looks M h (Builtin.ObjectAttr.getOf (some (.builtin "object.__class__"))) _ from looks_specialIn X Z.get).andThen
  ((show Looks M h (Builtin.ObjectAttr.dataDescriptor? (some (.builtin "object.__class__")) (some (.builtin "getset_descriptor.__get__"))) (some (.builtin "getset_descriptor.__get__",.builtin "object.__class__")) from (looks_takesIn X Z.tk).andThen .now).andThen (Looks.tag .now)))
theorem OA {tp:Value} {R:Result→Shared→Prop} (X:K.In s.heap) (Z:qy K D) (I:ExcAt x D s.heap) (h:R (.ok (.ret (.ref D))) s) :
  codeAny (model prog w) A (.call (.builtin "getset_descriptor.__get__") ⟨[.builtin "object.__class__",.ref x,tp],[]⟩) R s:=by
 obtain ⟨hh,g,dr,t,os⟩:=s
 have L0:=I.ty (M:=model prog w)
 have L1:=looks_mroIn (M:=model prog w) X Z.obj
 refine codeAny_call_builtin KF.slot_gs.plain KF.entry_gs ?_
 refine KF.slot_gs.check _ _ _ _ _ _ _ _ KF.type_class (KF.args_gs _ _ _) ?_
 unfold Builtin.«getset_descriptor.__get__» descrGet;rw [dga_obj]
 refine wpAny_bind (wpAny_pure ?_)
 unfold descrGetter descrCheckInstance descrNameAndClass isInstance;simp only [KF.owner_class]
 repeat lk
 refine ⟨Code.quiet_builtin _ (by decide +kernel),?_⟩
 refine codeAny_builtin KF.entry_class ?_
 unfold Builtin.«object.__class__» shownTypeOf;repeat lk
 exact h
theorem Ic {tk:Tok} {Q:Fin→Shared→Prop} (X:K.In s.heap) (Z:qy K D) (I:ExcAt x D s.heap) (h:Q (.done (.ret (.ref D))) s) :
  wpAny (model prog w) A (Builtin.«object.__getattribute__» ⟨[.ref x,.str "__class__" tk],[]⟩) Q E s:=by
 obtain ⟨hh,gg,d,t,os⟩:=s
 have L0:=I.ty (M:=model prog w)
 have L1:=K8 (x:=x) (M:=model prog w) X Z
 unfold Builtin.«object.__getattribute__»
 refine wpAny_bind (wpAny_pure (wpAny_bind (wpAny_pure (wpAny_bind (L0.at (wpAny_bind (L1.at ?_)))))))
 show wpAny _ _ (holding [.builtin "object.__class__"] (call (.builtin "getset_descriptor.__get__") [.builtin "object.__class__",.ref x,.ref D]) >>= ret) _ _ _
 exact wpAny_bind (wpAny_holding (wpAny_call (OA (tp:=.ref D) X Z I (wpAny_pure h))))
theorem Ia {M:Model} {nameV:Value} {Q:Unit→Shared→Prop} (X:K.In s.heap) (Z:qy K D) (I:ExcAt x D s.heap) (hq:Q () s) :
  wpAny M A (checkBuiltinCall "BaseException.__getattribute__" ⟨[.ref x,nameV],[]⟩) Q E s:=by
 have k:builtinKind "BaseException.__getattribute__"=some .slot:=by decide +kernel
 have sp:splitId "BaseException.__getattribute__"=some ("BaseException","__getattribute__"):=by decide +kernel
 have ok:=F.args_bexc_ga (.ref x) nameV
 have L1:Looks M s.heap (isInstance (.ref x) (.type "BaseException")) true:=I.ty.andThen (looks_subIn X Z.bex)
 obtain ⟨hh,gg,d,t,os⟩:=s
 simp only [checkBuiltinCall,k,sp]
 refine wpAny_bind (L1.at ?_)
 simp only [Bool.not_true,Vd,if_false]
 cases sg:Manifest.signature? "BaseException.__getattribute__" with
 | none=>exact wpAny_pure hq
 | some z =>
  unfold argsOk at ok
  rw [sg] at ok
  show wpAny _ _ (Bind.checkArgs _ z _) _ _ _
  rw [show Bind.checkArgs "BaseException.__getattribute__" z ⟨[.ref x,nameV],[]⟩=pure () from ok]
  exact wpAny_pure hq
theorem Ib {Q:Option Value→Shared→Prop} (X:K.In s.heap) (Z:qy K D) (I:ExcAt x D s.heap) (h:Q (some (.ref D)) { s with toks:=s.toks + 1 }):wpAny (model prog w) A (getAttr? (.ref x) "__class__") Q E s:=by
 obtain ⟨hh,gg,d,t,os⟩:=s
 have L0:=I.ty (M:=model prog w)
 have L1:=looks_findIn (M:=model prog w) X Z.ga
 have L2:=looks_findIn (M:=model prog w) X Z.gt
 unfold getAttr? getAttrBy? getAttrBy
 refine wpAny_bind (wpAny_mkText (wpAny_bind (wpAny_attempt (wpAny_holding ?_))))
 refine wpAny_bind (L0.at (wpAny_bind (L1.at ?_)))
 have no:(Value.builtin "BaseException.__getattribute__" == Value.builtin "object.__getattribute__")=false:=by decide +kernel
 show wpAny _ _ (if onTheHeap (.ref D) && Value.builtin "BaseException.__getattribute__" == Value.builtin "object.__getattribute__" then _ else _) _ _ _
 rw [no,Wa]
 simp only [Vd,if_false]
 unfold getAttrByItsOwn hookBefore callGetattribute boundAndCalled
 have f3:=PySem.F.attr_ValueError.ga.bind (.ref x)
 refine wpAny_bind ((show wpAny _ _ (typeLookup (Value.ref D) "__getattr__") _ _ _ from L2.at ?_))
 refine wpAny_bind (wpAny_attempt (wpAny_holding ?_))
 show wpAny _ _ (bindSpecial (Value.builtin "BaseException.__getattribute__") (Value.ref x) >>= _) _ _ _
 rw [f3]
 refine wpAny_bind (wpAny_pure ?_)
 refine wpAny_call (codeAny_call_builtin PySem.F.attr_ValueError.ga.plain PySem.F.entry_bexc_ga (Ia (s:=⟨hh,gg,d,t + 1,os⟩) X Z I (Ic (s:=⟨hh,gg,d,t + 1,os⟩) X Z I ?_)))
 exact handed_on rfl (wpAny_pure h)
theorem qy.at {h:Heap} (Z:qy K D) (X:K.In h):∃c d cd sl,h.get? D=some ⟨c,d,.cls cd,sl⟩:=by
 obtain ⟨cd,q⟩:=WI.mp Z.cls
 unfold clsIn at q
 split at q
 ·exact ⟨_,_,_,_,X _ _ (by assumption)⟩
 ·cases q
theorem F9 (Z:qy K D):KitX K (.ref x) (.ref D) (ExcAt x D) where
 ty:=λ_ _ _ I=>I.ty
 it:=λ_ _ X _=>by
  obtain ⟨c,d,cd,sl,o⟩:=Z.at X
  intro A' Q' E' s' k q
  unfold isType loadHead
  exact wpAny_bind (wpAny_loadPart (k _ _ o) (wpAny_pure q))
 ne:=λh tp dd its n sl X htp=>Wr.mpr λq=>by
  obtain ⟨c,d,cd,sl',o⟩:=Z.at X
  rw [Value.ref.inj (beq_iff_eq.mp q)] at o
  cases o.symm.trans htp
 ca:=λX I k=>Ib X Z I k
end
end Ov
namespace Ov
open PySem PySem.Spec PyProof.Rows L2
structure l_ (P:Program) (w:World) (outer:List Env) (H:Hp) (s:Shared) (ea:Addr) (cls:Value) (H':Hp) (s':Shared):Prop where
 os:s'.os=s.os
 bare:AllBare s'.gens
 un:Un (kb outer) [] H H' s.heap s'.heap
 hok:nt P w H' s'.heap
 fl:∃B t,Heap.FlyingW B outer ea cls (.ref t) s'.heap∧∀b o,s'.heap.get? b=some o→(H' b≠none∨∃o₀,s.heap.get? b=some o₀)→b ∉ kb outer→B.get? b=some o
def cK (P:Program) (w:World):uc:=λouter H s E e s'=>∃ea cls H',e=.ref ea∧l_ P w outer H s ea cls H' s'∧E cls none H'
theorem JH {P:Program} {w:World} {H:Hp} {h:Heap} {a:Addr} {o:HO} (x:dP P w H h a o):∃ob,h.get? a=VJ ob:=by
 have lt:=x.lt
 cases o with
 | lst xs=>obtain ⟨_,_,_,_,e⟩:=x;exact ⟨_,e⟩
 | tup xs=>obtain ⟨_,_,_,ob,e,_⟩:=x;exact ⟨_,e⟩
 | dK kvs=>obtain ⟨_,_,_,_,o,_,_,e,_⟩:=x;exact ⟨_,e⟩
 | dE kvs ep=>obtain ⟨_,_,_,_,o,_,e,_⟩:=x;exact ⟨_,e⟩
 | set S n=>obtain ⟨o,_,_,_,e,_⟩:=x;exact ⟨_,e⟩
 | ins C dx fs=>obtain ⟨_,_,_,e,_⟩:=x;exact ⟨_,e⟩
 | own y=>exact x
 | xd fs=>obtain ⟨_,⟨_,_,_,e,_⟩,_⟩:=x;exact ⟨_,e⟩
 | OR lo hi=>obtain ⟨_,_,_,e⟩:=x;exact ⟨_,e⟩
 | qO ob u=>obtain ⟨e,_⟩:=x;exact ⟨_,e⟩
 | tbl ps=>exact ⟨_,x⟩
 | met f y=>exact ⟨_,x⟩
 | ext φ=>obtain ⟨_,e,_⟩:=x;exact e
section
variable {X:Cx} {pins:List (Addr × Obj)} {σ:L2.St} {H H':Hp} {s:Shared} {ea t:Addr} {cls:Value} {B h1 h2:Heap}
theorem kB (I:Inv X pins σ H s) (un:Un (kb X.stack) [] H H' s.heap h1) {b:Addr} (hb:b∈kb X.stack):H' b=none∧∃o,h1.get? b=some o∧∀vs,o.data≠.fields vs:=by
 obtain ⟨_,o,ho,hn⟩:=I.stack.mem hb
 have n:=I.x_ b hb
 obtain ⟨sl,e⟩:=un.any ho n (by simp)
 exact ⟨un.free b o ho n (by simp),_,e,hn⟩
theorem wF (I:Inv X pins σ H s) (un:Un (kb X.stack) [] H H' s.heap h1) (cov:∀b o,h1.get? b=some o→(H' b≠none∨∃o₀,s.heap.get? b=some o₀)→b ∉ kb X.stack→B.get? b=some o)
  (hB:B.StaysIn h2) (up:h1.UpToSlots h2):Un (kb X.stack) [] H H' s.heap h2 where
 keep:=λb o e n hb hx=>hB b o (cov b o (un.keep b o e n hb hx) (.inr ⟨o,e⟩) hb)
 slot:=λb o e n hb hx=>by
  obtain ⟨sl,e1⟩:=un.slot b o e n hb hx
  obtain ⟨_,o',e2,hn⟩:=kB I un hb
  rw [e1] at e2;cases e2
  obtain ⟨sl',e3⟩:=up b _ e1 hn
  exact ⟨sl',e3⟩
 free:=un.free
 there:=λb o e hx=>by
  obtain ⟨o',e1⟩:=un.there b o e hx
  by_cases hb:b∈kb X.stack
  ·obtain ⟨_,o2,e2,hn⟩:=kB I un hb
   obtain ⟨sl',e3⟩:=up b _ e2 hn
   exact ⟨_,e3⟩
  ·exact ⟨o',hB b o' (cov b o' e1 (.inr ⟨o,e⟩) hb)⟩
 tups:=un.tups
 frzs:=un.frzs
 tbls:=un.tbls
theorem wD (I:Inv X pins σ H s) (un:Un (kb X.stack) [] H H' s.heap h1) (cov:∀b o,h1.get? b=some o→(H' b≠none∨∃o₀,s.heap.get? b=some o₀)→b ∉ kb X.stack→B.get? b=some o)
  (hB:B.StaysIn h2) (ok:nt X.prog X.w H' h1):nt X.prog X.w H' h2:=λa o e=>by
 have nf:∀b u,H' b=some u→b ∉ kb X.stack:=λb u q hb=>by
  have:=(kB I un hb).1
  rw [q] at this;cases this
 refine (ok a o e).p7 (λb u hb q=>?_) (λ_ q=>q) λ_ _ q=>q
 rcases hb with rfl | hb
 ·exact hB _ _ (cov _ _ q (.inl (by rw [e];exact λz=>nomatch z)) (nf _ _ e))
 ·exact hB _ _ (cov _ _ q (.inl (by rw [hb];exact λz=>nomatch z)) (nf _ _ hb))
theorem AM (un:Un (kb X.stack) [] H H' s.heap h1) (ok:nt X.prog X.w H' h1) (cov:∀b o,h1.get? b=some o→(H' b≠none∨∃o₀,s.heap.get? b=some o₀)→b ∉ kb X.stack→B.get? b=some o) (hB:B.StaysIn h2) :
  ∀b o,h2.get? b=some o→(H' b≠none∨∃o₀,s.heap.get? b=some o₀)→b ∉ kb X.stack→B.get? b=some o:=λb o e hb nb=>by
 have:∃o1,h1.get? b=some o1:=by
  rcases hb with z | ⟨o₀,z⟩
  ·cases q:H' b with
   | none=>exact absurd q z
   | some u=>exact JH (ok b u q)
  ·exact un.there b o₀ z (by simp)
 obtain ⟨o1,e1⟩:=this
 have c:=cov b o1 e1 hb nb
 have:=hB b o1 c
 rw [e] at this;cases this
 exact c
theorem l_.on {s':Shared} (I:Inv X pins σ H s) (F:l_ X.prog X.w X.stack H s ea cls H' s'):∃B t,Heap.FlyingW B X.stack ea cls (.ref t) s'.heap ∧
  ∀h2,Heap.FlyingW B X.stack ea cls (.ref t) h2→s'.heap.UpToSlots h2→l_ X.prog X.w X.stack H s ea cls H' { s' with heap:=h2 }:=by
 obtain ⟨B,t,fl,cov⟩:=F.fl
 exact ⟨B,t,fl,λh2 fl2 up=>⟨F.os,F.bare,wF I F.un cov fl2.1 up,wD I F.un cov fl2.1 F.hok,B,t,fl2,AM F.un F.hok cov fl2.1⟩⟩
theorem Cd {s2:Shared} (I:Inv X pins σ H s) (hst:X.stack=X.env :: X.outer) (hfr:X.env.frame=some X.env.locals) (hex:X.ex=[]) (os:s2.os=s.os) (bare:AllBare s2.gens) (un:Un (kb X.stack) [] H H' s.heap s2.heap)
  (ok:nt X.prog X.w H' s2.heap) (cov:∀b o,s2.heap.get? b=some o→(H' b≠none∨∃o₀,s.heap.get? b=some o₀)→b ∉ kb X.stack→B.get? b=some o) (fl:Heap.FlyingW B X.outer ea cls (.ref t) s2.heap) :
  l_ X.prog X.w X.outer X.H₀ X.s₀ ea cls H' s2:=by
 have nst:∀b o,X.s₀.heap.get? b=some o→b ∉ X.fs→b ∉ kb X.stack:=λb o e nb hb=>by
  rcases Vb.mp (I.p8 b hb) with z | z
  ·have:=Vf (Heap.lt_size e) I.ok.above
   rw [z] at this
   exact VU _ this
  ·exact nb z
 have sub:∀b,b∈X.fs→b∈kb X.stack:=λb hb=>by rw [hst];unfold kb;rw [Wd,hfr];exact Vo _ hb
 have nx:∀b:Addr,b ∉ X.ex:=λb=>by rw [hex];simp
 refine ⟨os.trans I.os,bare,⟨λb o e n hb _=>?_,λb o e n hb _=>?_,λb o e n _=>?_,λb o e _=>?_,λb xs q=>un.tups b xs (I.base.tups b xs q),λb o xs q=>un.frzs b o xs (I.base.frzs b o xs q),λb ps q=>?_⟩,ok,B,t,fl,λb o e hb nb=>?_⟩
 ·exact un.keep b o (I.base.keep b o e n hb (nx b)) (I.base.free b o e n (nx b)) (nst b o e hb) (by simp)
 ·obtain ⟨sl,e1⟩:=I.base.slot b o e n hb (nx b)
  obtain ⟨sl',e2⟩:=un.slot b _ e1 (I.base.free b o e n (nx b)) (sub b hb) (by simp)
  exact ⟨sl',e2⟩
 ·obtain ⟨o',e1⟩:=I.base.there b o e (nx b)
  exact un.free b o' e1 (I.base.free b o e n (nx b)) (by simp)
 ·obtain ⟨o',e1⟩:=I.base.there b o e (nx b)
  exact un.there b o' e1 (by simp)
 ·obtain ⟨m1,e1⟩:=I.base.tbls b ps q
  obtain ⟨m2,e2⟩:=un.tbls b _ e1
  exact ⟨m1 ++ m2,by rw [e2,Array.append_assoc]⟩
 ·rcases hb with z | ⟨o₀,z⟩
  ·exact cov b o e (.inl z) λhb=>z (kB I un hb).1
  ·obtain ⟨o1,e1⟩:=I.base.there b o₀ z (nx b)
   exact cov b o e (.inr ⟨o1,e1⟩) (nst b o₀ z nb)
theorem D3 {E:XK} {e:Value} {s':Shared} {R:Value→Shared→Prop} (I:Inv X pins σ H s) (hst:X.stack=X.env :: X.outer) (hfr:X.env.frame=some X.env.locals) (hex:X.ex=[]) (h:cK X.prog X.w X.stack H s E e s') :
  wpAny (model X.prog X.w) X.A (leaving X.env e) (λ_ s''=>cK X.prog X.w X.outer X.H₀ X.s₀ E e s'') R s':=by
 obtain ⟨ea,cls,H',rfl,F,q⟩:=h
 obtain ⟨B,t,fl,cov⟩:=F.fl
 refine wpAny_leaves_onW (by rw [I.ok.frames,hst]) hfr (hst ▸ fl) λh2 fl2 up=>?_
 exact ⟨ea,cls,H',rfl,Cd (s2:={ s' with heap:=h2 }) I hst hfr hex F.os F.bare (wF I F.un cov fl2.1 up) (wD I F.un cov fl2.1 F.hok) (AM F.un F.hok cov fl2.1) fl2,q⟩
theorem leave_new {E:XK} {e C:Addr} {args:List Value} {h':Heap} {R:Value→Shared→Prop} (I:Inv X pins σ H s) (hst:X.stack=X.env :: X.outer) (hfr:X.env.frame=some X.env.locals) (hex:X.ex=[])
  (hx:Heap.MadeExcOf s.heap h' e (.ref C) args) (q:E (.ref C) none H) :
  wpAny (model X.prog X.w) X.A (leaving X.env (.ref e)) (λ_ s''=>cK X.prog X.w X.outer X.H₀ X.s₀ E (.ref e) s'') R { s with heap:=h' }:=by
 have hin:∀env∈X.env :: X.outer,∀a,env.frame=some a→a∈kb X.stack:=λenv he a ha=>by rw [hst];exact WE.mpr ⟨env,he,ha⟩
 have cov:∀b o,s.heap.get? b=some o→(H b≠none∨∃o₀,s.heap.get? b=some o₀)→b ∉ kb X.stack→(PySem.W.hideAll s.heap (kb X.stack)).get? b=some o:=λb o e _ nb=>PySem.W.hideAll_get _ e nb
 refine wpAny_leaves_madeW (base:=PySem.W.hideAll s.heap (kb X.stack)) (by rw [I.ok.frames,hst]) hfr (λb o z=>PySem.W.of_hideAll _ z) (PySem.W.funFrames_hide (hst ▸ I.stack) hin) hx λh2 t fl _ _ up=>?_
 have up2:s.heap.UpToSlots h2:=(Heap.UpToSlots.of_keeps hx.keeps).trans up
 exact ⟨e,.ref C,H,rfl,Cd (s2:={ s with heap:=h2 }) I hst hfr hex rfl I.bare (wF I Un.refl cov fl.1 up2) (wD I Un.refl cov fl.1 I.hok) (AM Un.refl I.hok cov fl.1) fl,q⟩
end
abbrev Sg:List Value:=[.type "ValueError",.type "Exception",.type "BaseException",.type "object"]
structure Own (K:PySem.W.Frag) (mg:Str→Option Value) (x:Str) (C:Addr):Prop where
 mg:mg x=some (.ref C)
 own:PySem.W.excIn K C Sg "ValueError.__new__"=true
 xc:qy K C
theorem JU {K:PySem.W.Frag} {h:Heap} {C:Addr} {bmB:List Value} {newId:String} (X:K.In h) (q:PySem.W.excIn K C bmB newId=true) :
  ∃bm N nm qn bs hd sn sub ab col dd k0 k1 k2 k3 k5 mN,h.get? C=some (excClassObj nm qn C N bs bm hd sn sub ab col dd k0 k1 k2 k3 k5 newId)∧h.Ns N mN∧mN "__init__"=none∧OwnTail h bmB bm:=by
 unfold PySem.W.excIn at q
 split at q
 ·next dd cd sl ho =>
  split at q
  ·next C' bm k0 k1 k2 k3 n k5 hm hs =>
   simp only [beq_iff_eq,Vq,Ws] at q
   obtain ⟨⟨⟨⟨⟨rfl,rfl⟩,e3⟩,e4⟩,e5⟩,e6⟩:=q
   cases cd with
   | mk nm bs mro ns qn hd sn sub ab col del =>
    have hm:mro=.ref C' :: bm:=hm
    have e3:del=false:=e3
    subst hm;subst e3
    have hsl:sl=#[k0,k1,k2,k3,some (.builtin n),k5]:=Array.toList_inj.mp hs
    subst hsl
    exact ⟨bm,ns,nm,qn,bs,hd,sn,sub,ab,col,dd,k0,k1,k2,k3,k5,_,X _ _ ho,.of_isNs (PySem.W.isNs_of_in X e5),PySem.W.nsMap_none_of_in X e5 e6,PySem.W.tail_of_in X e4⟩
  ·cases q
 ·cases q
def Oo (C:Addr) (E:XK) (t:TA):TS:=λ_ σ H=>t σ H λvs H1=>vs.length≤sizeLine∧E (.ref C) none H1
def Throws (X:Cx) (E:XK):Prop:=∀(pins:List (Addr × Obj)) (σ:L2.St) (H:Hp) (s:Shared) (e C:Addr) (args:List Value) (h':Heap),Inv X pins σ H s→Heap.MadeExcOf s.heap h' e (.ref C) args→E (.ref C) none H→X.xe (.ref e) { s with heap:=h' }
theorem EB {X:Cx} {E:XK} {x:Str} {C:Addr} {e:Expr} {es:List Expr} {np cpos pos:Pos} {t:TA} (O:Own X.K X.mg x C) (hc:X.calm=true) (hx:Throws X E) (hg:Gl X x) (ha:PA X (e :: es) t)
  (hd:(x == ("__debug__":Str))=false:=by decide) (he:starEach (e :: es) X.env=(false,eval e X.env) :: starEach es X.env:=by rfl) (hpl:(backTo cpos (starEach es X.env)).any (·.1)=false:=by rfl) :
  PS X (.Raise (some (.Call (.Name x np) (e :: es) [] cpos)) none pos) (Oo C E t):=by
 intro pins s σ H D I h
 obtain ⟨bm,N,nm,qn,bs,hd',sn,sub,ab,col,dd,k0,k1,k2,k3,k5,mN,hC,hN,hni,T⟩:=JU I.mod.kin O.own
 have hplain:(backTo cpos (starEach (e :: es) X.env)).any (·.1)=false:=by
  rw [he]
  show (false || (backTo cpos (starEach es X.env)).any (·.1))=false
  rw [hpl];rfl
 refine wpAny_Raise_call_subT (C:=C) (N:=N) (nm:=nm) (q:=qn) (bs:=bs) (hdct:=hd') (sn:=sn) (sub:=sub) (ab:=ab) (col:=col) (dd:=dd) (k0:=k0) (k1:=k1) (k2:=k2) (k3:=k3) (k5:=k5) PySem.F.excBase_ValueError (T.hasType (by decide +kernel)) (I.ok.hd hc) hplain hni ?_
 refine lQ I hg O.mg ⟨rfl,?_⟩ hd
 have key:=cG (ha cpos pins s σ H _ I h) (Q':=λus s1=>us.length≤sizeLine∧s1.heap.get? C=some (excClassObj nm qn C N bs bm hd' sn sub ab col dd k0 k1 k2 k3 k5 "ValueError.__new__")∧s1.heap.Ns N mN∧OwnTail s1.heap Sg bm ∧
  ∀h' e,Heap.MadeExcOf s1.heap h' e (.ref C) us→X.xe (.ref e) { s1 with heap:=h' }) λus s1 ⟨vs,H1,I1,r,z,q⟩ =>
   ⟨by rw [← r.length];exact z,I1.bk _ _ hC,hN.keeps I1.bk,T.keeps I1.bk,λh' ea hm=>hx pins σ H1 s1 ea C us h' I1 hm q⟩
 rw [he] at key ⊢
 exact PySem.Calls.evalArgs_plain (cG key λ_ _ z=>⟨rfl,z⟩)
section
variable {P:Program} {w:World} {K:PySem.W.Frag} {mg:Str→Option Value} {base:Heap} {N:List Str} {qual:Str} {scope:Scope} {f:Addr} {cd:Value} {A:Around} {outer:List Env} {s:Shared} {H:Hp} {E:XK}
abbrev Ad (P:Program) (w:World) (K:PySem.W.Frag) (mg:Str→Option Value) (base:Heap) (N:List Str) (qual:Str) (scope:Scope) (f:Addr) (cd:Value) (A:Around) (outer:List Env) (s:Shared) (H:Hp) (E:XK):Cx:=wz (cK P w) P w K mg base N qual scope f cd A outer s H E
theorem cA:Throws (Ad P w K mg base N qual scope f cd A outer s H E) E:=λpins σ H1 s1 e C args h' I hm q =>
 leave_new (X:=Ad P w K mg base N qual scope f cd A outer s H E) I rfl rfl rfl hm q
theorem AN:Passes (cK P w) (Ad P w K mg base N qual scope f cd A outer s H E) E:=λpins σ H1 s1 e s' I h =>
 D3 (X:=Ad P w K mg base N qual scope f cd A outer s H E) I rfl rfl rfl h
theorem b_:PassesOwn (model P w) (Ad P w K mg base N qual scope f cd A outer s H E).A (Ad P w K mg base N qual scope f cd A outer s H E).env (Ad P w K mg base N qual scope f cd A outer s H E).xe:=PassesOwn.leaving
theorem UT {x qual:Str} {st:Stmt} {f:Addr} {fd:FuncData} {N ps:List Str} {k:Nat} {sp:Sp} (F:cg K x qual st f fd) (S:av N ps (aj st)) (len:∀vs H Q E,sp vs H Q E→vs.length=ps.length)
  (hbody:∀(cdv:Value) (A:Around) (outer:List Env) (s:Shared) (H:Hp) (vs:List V) (Q:VK) (E:XK),b9 k (A.deeper (envOfC qual (aj st) s.heap.objs.size f cdv))→sp vs H Q E →
   ∃t,QB (Ad P w K mg base N qual (aj st) f cdv A outer s H E) (cb st) t∧t { nx:=λ_ H'=>Q .non H',rt:=Q } (start N vs) H):aO P w K mg base (cK P w) (k + 1) f fd ps sp:=by
 obtain ⟨oc,od,kV,doc,pm,an,cdv,ct,osl,rfl,lk,hcd⟩:=F.ex
 refine FG lk hcd S len λA outer s H vs Q E hr hsp=>?_
 obtain ⟨t,h,q⟩:=hbody cdv A outer s H vs Q E hr hsp
 exact ⟨t,h.run,q⟩
end
def E1 (P:Program) (w:World) (K:PySem.W.Frag) (mg:Str→Option Value) (base:Heap) (k:Nat) (x:Str) (ps:List Str) (sp:Sp):Prop :=
 ∃f fd,aO P w K mg base (cK P w) k f fd ps sp∧Binds K fd ps []∧PySem.W.keepIn K (.ref f)=true∧mg x=some (.ref f)
theorem JV {X:Cx} {k k':Nat} {x:Str} {ps:List Str} {sp:Sp} {p pos:Pos} {e:Expr} {es:List Expr} {t:TA} {E:XK} (C:E1 X.prog X.w X.K X.mg X.base k x ps sp) (hx:Passes (cK X.prog X.w) X E) (hr:b9 k' X.A) (hk:k≤k') (hg:Gl X x) (ha:PA X (e :: es) t)
  (hdb:(x == ("__debug__":Str))=false:=by decide) (he:starEach (e :: es) X.env=(false,eval e X.env) :: starEach es X.env:=by rfl) (hpl:(backTo pos (starEach es X.env)).any (·.1)=false:=by rfl) :
  PE X (.Call (.Name x p) (e :: es) [] pos) (t4 sp [] E t):=by
 obtain ⟨f,fd,F,b,kp,m⟩:=C
 exact CB F (hr.mono hk) hg m kp b .nil hx ha hdb he hpl
theorem Def.Si {P:Program} {w:World} {K:PySem.W.Frag} {mg:Str→Option Value} {base:Heap} {x:Str} {st:Stmt} {k:Nat} {ps:List Str} {sp:Sp} (D:Def K mg x st)
  (h:∀f fd,cg K x x st f fd→aO P w K mg base (cK P w) k f fd ps sp)
  (hb:∀(kV doc pm:Value) (an:Option Addr) (cdv ct:Value) (us:List Value),us.length=ps.length→bindArgs (PySem.W.fnOf x x (dG st) (cb st) (aj st) .none kV doc pm an cdv ct) ⟨us,[]⟩=pure (ps.zip us)) :
  E1 P w K mg base k x ps sp:=by
 obtain ⟨f,fd,F,m⟩:=D
 exact ⟨f,fd,h f fd F,F.binds hb,F.kp,m⟩
section
variable {X:Cx} {pins pn:List (Addr × Obj)} {σ:L2.St} {H H':Hp} {s:Shared}
abbrev MV (X:Cx) (pn:List (Addr × Obj)) (xe:Value→Shared→Prop):Cx:={ X with pn:=pn,xe:=xe }
abbrev OJ (X:Cx) (pn:List (Addr × Obj)) (e:Addr):Cx:={ X with A:=X.A.mark (some (.ref e)),calm:=false,pn:=pn,xe:=λ_ _=>False }
theorem S5 {X:Cx} (ok:X.Ok) (pn:List (Addr × Obj)) (xe:Value→Shared→Prop):(MV X pn xe).Ok :=
 ⟨ok.mod,ok.kind,ok.glob,ok.blt,ok.above,ok.inj,ok.has,ok.cab,ok.hd,ok.frames,ok.stk,ok.exf,ok.bs,ok.bsz,ok.noex,ok.exfs,ok.mM,ok.frf⟩
theorem S4 {X:Cx} (ok:X.Ok) (pn:List (Addr × Obj)) (e:Addr):(OJ X pn e).Ok :=
 ⟨ok.mod,ok.kind,ok.glob,ok.blt,ok.above,ok.inj,ok.has,ok.cab,(λz=>nomatch z),ok.frames,ok.stk,ok.exf,ok.bs,ok.bsz,ok.noex,ok.exfs,ok.mM,ok.frf⟩
theorem Pn (I:Inv X pins σ H s) (xe:Value→Shared→Prop):Inv (MV X (X.pn ++ pins) xe) [] σ H s :=
 ⟨S5 I.ok _ xe,I.os,I.bare,I.base,I.loc,I.cell,I.free,I.freeC,λp hp=>I.pin p (by simpa using hp),I.hok,I.len⟩
theorem nW {pins1:List (Addr × Obj)} {xe:Value→Shared→Prop} (ok:X.Ok) (I:Inv (MV X (X.pn ++ pins) xe) pins1 σ H s):Inv X pins σ H s :=
 ⟨ok,I.os,I.bare,I.base,I.loc,I.cell,I.free,I.freeC,λp hp=>I.pin p (V' _ hp),I.hok,I.len⟩
theorem Lj (I:Inv X pins σ H s) (e:Addr):Inv (OJ X (X.pn ++ pins) e) [] σ H s :=
 ⟨S4 I.ok _ e,I.os,I.bare,I.base,I.loc,I.cell,I.free,I.freeC,λp hp=>I.pin p (by simpa using hp),I.hok,I.len⟩
theorem qQ {pins1:List (Addr × Obj)} {e:Addr} (ok:X.Ok) (I:Inv (OJ X (X.pn ++ pins) e) pins1 σ H s):Inv X pins σ H s :=
 ⟨ok,I.os,I.bare,I.base,I.loc,I.cell,I.free,I.freeC,λp hp=>I.pin p (V' _ hp),I.hok,I.len⟩
theorem oU {M:Model} {A:Around} {E:Value→Shared→Prop} {i:Nat} {n:Str} {pos:Pos} {Q:Unit→Shared→Prop} (I:Inv X pins σ H s) (hN:X.N.Nodup) (hi:X.N[i]?=some n) (hk:X.env.kindOf n=some .local)
  (h:∀s',Inv X pins (σ.set i none) H s'→Q () s'):wpAny M A (do bindName X.env n .none;unbindBehindTheSuite X.env n pos) Q E s:=by
 obtain ⟨m,hn,hl⟩:=id I.loc
 have hcl:(X.env.scope.kind == .class || (X.env.scope.kind == .module && X.env.locals != X.env.globals))=false:=by rw [I.ok.kind];rfl
 have ne:∀b o,X.s₀.heap.get? b=some o→b≠X.env.locals:=λb o e=>Vj (Vf (Heap.lt_size e) I.ok.above)
 have hiσ:i < σ.length:=by rw [I.len];exact (U1.mp hi).1
 refine wpAny_nameGoes_keeps hk hn hcl λh' v hn' hs=>?_
 refine h _ ⟨I.ok,I.os,I.bare,⟨λb o e n hb hx=>(hs.2 b (ne b o e)).trans (I.base.keep b o e n hb hx),λb o e n hb hx=>?_,I.base.free,λb o e hx=>?_,I.base.tups,I.base.frzs,I.base.tbls⟩,
  ⟨_,hn',λj y v' e1 e2 e3=>?_⟩,λy c e=>?_,I.free,I.freeC,λp hp=>?_,λb ob e=>?_,by simpa using I.len⟩
 ·obtain ⟨sl,e1⟩:=I.base.slot b o e n hb hx
  exact ⟨sl,(hs.2 b (ne b o e)).trans e1⟩
 ·obtain ⟨o',e1⟩:=I.base.there b o e hx
  exact ⟨o',(hs.2 b (ne b o e)).trans e1⟩
 ·by_cases hj:j=i
  ·subst hj
   rw [Vn hiσ] at e2
   cases e2
  ·rw [VC (Ne.symm hj)] at e2
   obtain ⟨u',r',q⟩:=hl j y v' e1 e2 e3
   refine ⟨u',r',?_⟩
   rcases q with ⟨k,e⟩ | ⟨k,c,e,z⟩
   ·refine .inl ⟨k,?_⟩
    have hy:y≠n:=λe=>hj (sF hN e1 (e ▸ hi))
    simp [hy,e]
   ·exact .inr ⟨k,c,e,z.sameBut hs (I.IX y c e)⟩
 ·obtain ⟨w',z⟩:=I.cell y c e
  exact ⟨w',z.sameBut hs (I.IX y c e)⟩
 ·obtain ⟨e,n,nl,nf,d⟩:=I.pin p hp
  exact ⟨(hs.2 p.1 nl).trans e,n,nl,nf,d⟩
 ·refine (I.hok b ob e).p7 (λc w' hc q=>(hs.2 c ?_).trans q) (λ_ q=>q) λ_ _ q=>q
  rintro rfl
  rcases hc with z | hc
  ·rw [← z,I.free] at e;cases e
  ·rw [I.free] at hc;cases hc
theorem AX {ea D:Addr} {oe:Obj} {vs:Array Value} (I:Inv X pins σ H s) (he:s.heap.get? ea=some oe) (hc:oe.cls=.ref D) (hd:oe.data=.fields vs) (hn:H ea=none) (h0:X.s₀.heap.get? ea=none) (hp:∀p∈X.pn ++ pins,p.1≠ea) :
  Inv X pins σ (upd H ea (.ext (ExcAt ea D))) s:=by
 have nl:X.env.locals≠ea:=λz=>by
  obtain ⟨m,⟨o,es,ep,ho,hd',_⟩,_⟩:=I.loc
  rw [z,he] at ho;cases ho;rw [hd] at hd';cases hd'
 refine ⟨I.ok,I.os,I.bare,⟨I.base.keep,I.base.slot,λb o e n hx=>?_,I.base.there,λb xs q=>?_,λb o xs q=>?_,λb ps q=>?_⟩,I.loc,I.cell,?_,λx c e=>?_,λp hq=>?_,λb u q=>?_,I.len⟩
 ·rw [aM (λz=>by rw [z,h0] at e;cases e)]
  exact I.base.free b o e n hx
 ·have:=I.base.tups b xs q
  rw [aM (bJ this hn)];exact this
 ·have:=I.base.frzs b o xs q
  rw [aM (bJ this hn)];exact this
 ·obtain ⟨m,z⟩:=I.base.tbls b ps q
  exact ⟨m,by rw [aM (bJ z hn)];exact z⟩
 ·rw [aM nl];exact I.free
 ·rw [aM]
  ·exact I.freeC x c e
  ·rintro rfl
   obtain ⟨v,o,ho,hd'⟩:=I.cell x c e
   rw [he] at ho;cases ho;rw [hd] at hd';cases hd'
 ·obtain ⟨e,n,r⟩:=I.pin p hq
  exact ⟨e,by rw [aM (hp p hq)];exact n,r⟩
 ·by_cases hb:b=ea
  ·subst hb
   rw [aH] at q;cases q
   exact ⟨⟨oe,he,hc⟩,⟨oe,he⟩,λh1 h2 ⟨o,a,c⟩ k=>⟨o,k o a,c⟩⟩
  ·rw [aM hb] at q
   exact (I.hok b u q).p7 (λ_ _ _ z=>z) (λc z=>by rw [aM (bJ z hn)];exact z) λc xs z=>by rw [aM (bJ z hn)];exact z
theorem l_.new {ea:Addr} {cls:Value} {s':Shared} (I:Inv X pins σ H s) (F:l_ X.prog X.w X.stack H s ea cls H' s'):H' ea=none∧s.heap.get? ea=none:=by
 obtain ⟨B,t,fl,cov⟩:=F.fl
 obtain ⟨oe,vs,he,_,hd,_⟩:=fl.first
 have nf:ea ∉ kb X.stack:=λhb=>by
  obtain ⟨_,o,ho,hn⟩:=kB I F.un hb
  rw [he] at ho;cases ho
  exact hn vs hd
 have no:¬ (H' ea≠none∨∃o₀,s.heap.get? ea=some o₀):=λz=>by
  have:=cov ea oe he z nf
  rw [fl.2.1] at this;cases this
 refine ⟨?_,?_⟩
 ·cases q:H' ea with
  | none=>rfl
  | some u=>exact absurd (.inl (by rw [q];exact λz=>nomatch z)) no
 ·cases q:s.heap.get? ea with
  | none=>rfl
  | some u=>exact absurd (.inr ⟨u,q⟩) no
def Tu (K:PySem.W.Frag) (N:Nat) (CW:Addr) (i:Nat) (tb:XK→TS) (ts:TS):TS:=λD σ H=>tb (λcls _ H'=>∃C,cls=.ref C∧PySem.W.exmOne K (.ref C) (.ref CW)=some true ∧
 ∀ea,H' ea=none→ts { nx:=λσ' H2=>D.nx (σ'.set i none) H2,rt:=D.rt,bk:=λσ' H2=>D.bk (σ'.set i none) H2,ct:=λσ' H2=>D.ct (σ'.set i none) H2 } ((VP N none).set i (some (.ref ea))) (upd H' ea (.ext (ExcAt ea C)))) D σ H
theorem Kf {body suite:List Stmt} {b₀:Stmt} {x n:Str} {i:Nat} {CW:Addr} {tb:XK→TS} {ts:TS} {np hpos pos:Pos} (hst:X.stack=X.env :: X.outer) (hfr:X.env.frame=some X.env.locals) (hex:X.ex=[]) (hg:Gl X x) (hm:X.mg x=some (.ref CW))
  (hN:X.N.Nodup) (hi:X.N[i]?=some n) (hk:X.env.kindOf n=some .local) (hb:∀pn xe E,Passes (cK X.prog X.w) (MV X pn xe) E→t_ (MV X pn xe) body (tb E)) (hs:∀pn ea,t_ (OJ X pn ea) (b₀ :: suite) ts) (hd:(x == ("__debug__":Str))=false:=by decide) :
  PS X (.Try body [.ExceptHandler (some (.Name x np)) (some n) (b₀ :: suite) hpos] [] [] pos) (Tu X.K X.N.length CW i tb ts):=by
 intro pins s σ H D I h
 refine wpAny_Try_except ?_
 refine wpAny_mono (hb (X.pn ++ pins) (λe s₁=>wpAny (model X.prog X.w) X.A (noteFrame e X.env) (λ_ s₂=>wpAny (model X.prog X.w) X.A (setFlight e none) (λ_ s₃ =>
  wpAny (model X.prog X.w) X.A (handleBy e X.env [.ExceptHandler (some (.Name x np)) (some n) (b₀ :: suite) hpos]) (SP X pins D) X.xe s₃) X.xe s₂) X.xe s₁) _ ?pass [] s σ H D (Pn I _) h) (λf s1 q=>?_) (λ_ _ z=>z)
 case pass =>
  intro pins1 σ1 H1 s1 e s' I1 hf
  obtain ⟨ea,cls,H2,rfl,F,C,rfl,em,k⟩:=hf
  have J1:Inv X pins σ1 H1 s1:=nW I.ok I1
  have F:l_ X.prog X.w X.stack H1 s1 ea (.ref C) H2 s':=F
  obtain ⟨hn,hnew⟩:=l_.new J1 F
  obtain ⟨B,t,fl,on⟩:=l_.on J1 F
  have h0:X.s₀.heap.get? ea=none:=by
   cases q:X.s₀.heap.get? ea with
   | none=>rfl
   | some o =>
    obtain ⟨o',e1⟩:=J1.base.there ea o q (by rw [hex];simp)
    rw [hnew] at e1;cases e1
  refine wpAny_looks_onW (by rw [I.ok.frames,hst]) hfr (hst ▸ fl) λh4 held4 up4=>?_
  refine wpAny_landsW held4 λh5 fl5 up5=>?_
  have F5:=on h5 (hst ▸ fl5) (up4.trans up5)
  have J5:Inv X pins σ1 H2 { s' with heap:=h5 }:=J1.Fu F5.os F5.un F5.hok F5.bare (λb z=>absurd z (by simp))
  have Y5:=Lj J5 ea
  refine wpAny_handleBy_cons (codeAny_handlers_test (lQ Y5 hg hm ?_ hd)) (by intro q;cases q)
  obtain ⟨ob,hob,hobc⟩:=fl5.there
  have LT:PySem.W.Looks (model X.prog X.w) h5 (typeOf (.ref ea)) (.ref C):=ExcAt.ty ⟨ob,hob,hobc⟩
  refine (PySem.W.exm_one Y5.mO LT em).here ?_
  refine codeAny_handlers_suite_as ?_
  refine lands_againW fl5 λh6 fl6 up6=>?_
  have F6:=on h6 (hst ▸ fl6) ((up4.trans up5).trans up6)
  have J6:Inv X pins σ1 H2 { s' with heap:=h6 }:=J1.Fu F6.os F6.un F6.hok F6.bare (λb z=>absurd z (by simp))
  obtain ⟨oe,vs,hoe,hoec,hoed,_⟩:=fl6.first
  have J7:=AX J6 hoe hoec hoed hn h0 λp hp z=>by
   have:=(J1.pin p hp).1
   rw [z,hnew] at this;cases this
  have Y7:=Lj (J7.weak (σ':=VP X.N.length none) (by rw [WT,J7.len]) λj v z=>by
   rw [WK] at z
   split at z <;> cases z) ea
  refine fM (X:=OJ X (X.pn ++ pins) ea) Y7 hN hi (Or.inl hk) (v:=.ref ea) rfl (λs8 I8=>?_) (Or.inr hk)
  refine wpAny_noRaise (cG (hs (X.pn ++ pins) ea [] s8 _ _ _ I8 (k ea hn)) λf s9 q=>?_)
  cases f with
  | next=>obtain ⟨σ',H',I',q⟩:=q;exact oU (qQ I.ok I') hN hi hk λ_ I9=>⟨_,_,I9,q⟩
  | brk=>obtain ⟨σ',H',I',q⟩:=q;exact oU (qQ I.ok I') hN hi hk λ_ I9=>⟨_,_,I9,q⟩
  | cont=>obtain ⟨σ',H',I',q⟩:=q;exact oU (qQ I.ok I') hN hi hk λ_ I9=>⟨_,_,I9,q⟩
  | ret u=>obtain ⟨v,σ',H',I',r,q⟩:=q;exact oU (qQ I.ok I') hN hi hk λ_ I9=>⟨v,_,_,I9,r,q⟩
 ·cases f with
  | next=>obtain ⟨σ',H',I',q⟩:=q;exact wpAny_execs_nil ⟨_,_,nW I.ok I',q⟩
  | brk=>obtain ⟨σ',H',I',q⟩:=q;exact ⟨_,_,nW I.ok I',q⟩
  | cont=>obtain ⟨σ',H',I',q⟩:=q;exact ⟨_,_,nW I.ok I',q⟩
  | ret u=>obtain ⟨v,σ',H',I',r,q⟩:=q;exact ⟨v,_,_,nW I.ok I',r,q⟩
def Pb:V→Option Value
 | .ref a=>some (.ref a)
 | .ty n=>some (.type n)
 | _=>none
def QK (K:PySem.W.Frag):List V→Hp→VK→Prop:=λxs H Q=>∃a D c cv b,xs=[.ref a,c]∧H a=some (.ext (ExcAt a D))∧qy K D∧Pb c=some cv∧PySem.W.kitOne K (.ref D) cv=some b∧Q (.bl b) H
theorem cW {X:Cx} {K:PySem.W.Frag} (hK:X.K=K):cq X (.builtin "isinstance") (QK K):=by
 subst hK
 intro pins s σ H xs us Q I r h
 obtain ⟨a,D,c,cv,b,rfl,ha,xc,rc,e,q⟩:=h
 obtain ⟨u,w',rfl,rx,ry⟩:=vals2 r
 obtain rfl:u=Value.ref a:=rx
 have:w'=cv:=by
  cases c with
  | ref z=>exact (show w'=Value.ref z from ry).trans (Option.some.inj rc)
  | ty z=>exact (show w'=Value.type z from ry).trans (Option.some.inj rc)
  | _=>cases rc
 subst this
 exact PySem.W.kia_one (F9 xc) I.mO (I.hok a _ ha).1 e (by intro z;cases z) λtk=>⟨.bl b,H,I.tok _,rfl,q⟩
end
end Ov
namespace Ov
open PySem PySem.Spec PyProof.Rows
open L2 (V HO Hp Inv Cx St VK TE TT TA TS Ends Loc Gl RelV Vals fI cq t4 upd E0 b9 XK Passes)
section
variable {X:Cx} {e:Expr} {es:List Expr} {t:TA} {x:Str} {np cpos pos p:Pos}
end
def hW (i:Nat):Str:=(["BadName","Taken","Full","NoCraft","TooFar","BadMoment","Past","NotThere","NoWatch","NoTale"]:List Str).getD i ""
structure DD (K:PySem.W.Frag) (mg:Str→Option Value) (W:Addr) (c:Nat→Addr):Prop where
 nV:mg "ValueError"=none
 mW:mg "WaterError"=some (.ref W)
 own:∀i,i < 10→Own K mg (hW i) (c i)
 val:∀i,i < 10→PySem.W.kitOne K (.ref (c i)) (.type "ValueError")=some true
 wat:∀i,i < 10→PySem.W.exmOne K (.ref (c i)) (.ref W)=some true
 kit:∀i,i < 10→∀j,j < 10→PySem.W.kitOne K (.ref (c i)) (.ref (c j))=some (decide (i=j))
open PySem.W in
def Ie (K:Frag) (D:Addr):Bool:=(clsIn K D).isSome && findIn K (.ref D) "__getattribute__" == some (some (.builtin "BaseException.__getattribute__")) && findIn K (.ref D) "__getattr__" == some none &&
 findIn K (.ref D) "__class__" == some (some (.builtin "object.__class__")) && specialIn K (.builtin "object.__class__") "__get__" == some (some (.builtin "getset_descriptor.__get__")) && takesIn K (.builtin "object.__class__") == some true &&
 mroIn K D (.type "object") == some true && subIn K (.ref D) (.type "BaseException") == some true
theorem K9 {K:PySem.W.Frag} {D:Addr} (h:Ie K D=true):qy K D:=by
 simp only [Ie,Vq,beq_iff_eq] at h
 obtain ⟨⟨⟨⟨⟨⟨⟨a,b⟩,c⟩,d⟩,e⟩,f⟩,g⟩,i⟩:=h
 exact ⟨a,b,c,d,e,f,g,i⟩
open PySem.W in
def Pg (K:Frag) (W:Addr) (cs:List Addr):Bool:=cs.length == 10 && (VA 10).all λi=>excIn K (cs.getD i 0) Sg "ValueError.__new__" && Ie K (cs.getD i 0) && kitOne K (.ref (cs.getD i 0)) (.type "ValueError") == some true &&
 exmOne K (.ref (cs.getD i 0)) (.ref W) == some true && (VA 10).all λj=>kitOne K (.ref (cs.getD i 0)) (.ref (cs.getD j 0)) == some (decide (i=j))
theorem Jg {K:PySem.W.Frag} {h:Heap} {mg:Str→Option Value} (X:K.In h) (G:h.Ns mainGlobals mg) {W c0 c1 c2 c3 c4 c5 c6 c7 c8 c9:Addr} (v:PySem.W.nsIn K mainGlobals "ValueError"=some none) (w:PySem.W.nsIn K mainGlobals "WaterError"=some (some (.ref W)))
  (a0:PySem.W.nsIn K mainGlobals "BadName"=some (some (.ref c0))) (a1:PySem.W.nsIn K mainGlobals "Taken"=some (some (.ref c1))) (a2:PySem.W.nsIn K mainGlobals "Full"=some (some (.ref c2))) (a3:PySem.W.nsIn K mainGlobals "NoCraft"=some (some (.ref c3)))
  (a4:PySem.W.nsIn K mainGlobals "TooFar"=some (some (.ref c4))) (a5:PySem.W.nsIn K mainGlobals "BadMoment"=some (some (.ref c5))) (a6:PySem.W.nsIn K mainGlobals "Past"=some (some (.ref c6))) (a7:PySem.W.nsIn K mainGlobals "NotThere"=some (some (.ref c7)))
  (a8:PySem.W.nsIn K mainGlobals "NoWatch"=some (some (.ref c8))) (a9:PySem.W.nsIn K mainGlobals "NoTale"=some (some (.ref c9))) (b:Pg K W [c0,c1,c2,c3,c4,c5,c6,c7,c8,c9]=true):∃W c,DD K mg W c:=by
 have m:∀i,i < 10→mg (hW i)=some (.ref ([c0,c1,c2,c3,c4,c5,c6,c7,c8,c9].getD i 0)):=λi hi=>by
  match i,hi with
  | 0,_=>exact PySem.W.mg_of X G a0
  | 1,_=>exact PySem.W.mg_of X G a1
  | 2,_=>exact PySem.W.mg_of X G a2
  | 3,_=>exact PySem.W.mg_of X G a3
  | 4,_=>exact PySem.W.mg_of X G a4
  | 5,_=>exact PySem.W.mg_of X G a5
  | 6,_=>exact PySem.W.mg_of X G a6
  | 7,_=>exact PySem.W.mg_of X G a7
  | 8,_=>exact PySem.W.mg_of X G a8
  | 9,_=>exact PySem.W.mg_of X G a9
 unfold Pg at b
 have b:=(Bool.and_eq_true_iff.mp b).2
 have k:∀i,i < 10→_:=λi hi=>V4.mp b i (V6.mpr hi)
 simp only [Vq,beq_iff_eq,V4,V6] at k
 exact ⟨W,λi=>[c0,c1,c2,c3,c4,c5,c6,c7,c8,c9].getD i 0,PySem.W.mg_none_of X G v,PySem.W.mg_of X G w,λi hi=>⟨m i hi,(k i hi).1.1.1.1,K9 (k i hi).1.1.1.2⟩,λi hi=>(k i hi).1.1.2,λi hi=>(k i hi).1.2,λi hi j hj=>(k i hi).2 j hj⟩
open L2 (z_ EI fo yb BU tC KQ qd)
def wC (i:Nat):List V:=.bl true :: (VA 10).map λj=>.bl (decide (i=j))
abbrev tI (K:PySem.W.Frag) (m:Nat) (v:V):TE:=KQ (QK K) (fo (BU m) (fo (tC v) yb))
theorem lE {K:PySem.W.Frag} {m ea:Nat} {D:Addr} {v:V} {cv:Value} {b:Bool} {σ:L2.St} {H:Hp} {Q:VK} (hσ:σ[m]?=some (some (.ref ea))) (hH:H ea=some (.ext (ExcAt ea D))) (xc:qy K D) (hv:Pb v=some cv) (hk:PySem.W.kitOne K (.ref D) cv=some b) (q:Q (.bl b) H) :
  tI K m v σ H Q:=⟨_,hσ,ea,D,v,cv,b,rfl,hH,xc,hv,hk,q⟩
theorem HJ {K:PySem.W.Frag} {mg:Str→Option Value} {W:Addr} {c:Nat→Addr} (Er:DD K mg W c) {i m n:Nat} {ea:Addr} (hi:i < 10) {σ:L2.St} {H:Hp} {D:Ends} (hσ:σ[m]?=some (some (.ref ea))) (hH:H ea=some (.ext (ExcAt ea (c i))))
  (q:∀l,H l=none→D.nx (σ.set n (some (.ref l))) (upd H l (.lst (wC i)))) :
  z_ (EI (fo (tI K m (.ty "ValueError")) (fo (tI K m (.ref (c 0))) (fo (tI K m (.ref (c 1))) (fo (tI K m (.ref (c 2))) (fo (tI K m (.ref (c 3))) (fo (tI K m (.ref (c 4))) (fo (tI K m (.ref (c 5))) (fo (tI K m (.ref (c 6))) (fo (tI K m (.ref (c 7)))
   (fo (tI K m (.ref (c 8))) (fo (tI K m (.ref (c 9))) yb)))))))))))) (qd n) D σ H:=by
 have xc:=(Er.own i hi).xc
 have k:=Er.kit i hi
 refine lE hσ hH xc rfl (Er.val i hi) (lE hσ hH xc rfl (k 0 (by decide)) (lE hσ hH xc rfl (k 1 (by decide)) (lE hσ hH xc rfl (k 2 (by decide)) (lE hσ hH xc rfl (k 3 (by decide)) (lE hσ hH xc rfl (k 4 (by decide))
  (lE hσ hH xc rfl (k 5 (by decide)) (lE hσ hH xc rfl (k 6 (by decide)) (lE hσ hH xc rfl (k 7 (by decide)) (lE hσ hH xc rfl (k 8 (by decide)) (lE hσ hH xc rfl (k 9 (by decide)) ?_))))))))))
 exact ⟨(by show 11≤sizeLine;decide),λl hl=>q l hl⟩
theorem _root_.L2.b9.aL {k:Nat} {A:Around} (r:b9 k A):A.units + 61 < cLine:=by have:=r.un;omega
end Ov
namespace Ov
open PySem PySem.Spec PyProof.Rows L2
def e_ (P:Addr) (h:Heap):Prop:=∃ps:Array Value,h.get? P=some { cls:=.none,data:=.fields ps }∧TriplesOk ps.toList
def vh (K:PySem.W.Frag) (c P:Addr):Prop:=c≠P∧∃(o:Obj) (vs:Array Value) (file:Str) (tf:Tok) (flags:Int) (tg:Tok) (inF:Bool) (text:Int) (tt:Tok),
 K.lookup c=some o∧o.cls=.type "code"∧o.data=.fields vs∧vs[11]?=some (.ref P)∧vs.getD 18 .none=.str file tf∧vs.getD 7 .none=.int flags tg∧vs.getD 9 .none=.bool inF∧vs.getD 10 .none=.int text tt
def BMain (mg:Str→Option Value) (h:Heap):Prop:=∃bm ob,mg "__builtins__"=some (.ref bm)∧bm≠builtinsNs∧h.get? bm=some ob∧ob.cls=.type "module"∧ob.dict=some builtinsNs∧ob.data=.plain
theorem vh.at {K:PySem.W.Frag} {h:Heap} {c P:Addr} {ps:Array Value} (Z:vh K c P) (X:K.In h) (hp:h.get? P=some { cls:=.none,data:=.fields ps }) (tr:TriplesOk ps.toList):h.IsCode c P ps∧h.TableAt c P ps:=by
 obtain ⟨ne,o,vs,file,tf,flags,tg,inF,text,tt,lk,hc,hd,h11,h18,h7,h9,h10⟩:=Z
 have e11:vs.getD 11 .none=.ref P:=by
  rw [Array.getD_eq_getD_getElem?,h11];rfl
 exact ⟨⟨o,vs,file,tf,flags,tg,inF,text,tt,_,X _ _ lk,hd,e11,h18,h7,h9,h10,hp,rfl,tr,ne⟩,⟨o,vs,X _ _ lk,hc,hd,h11⟩,hp⟩
section
variable {X:Cx} {pins:List (Addr × Obj)} {σ:L2.St} {H:Hp} {s:Shared} {c P:Addr}
theorem Jp {s':Shared} (I:Inv X pins σ H s) (hP:H P=some (.ext (e_ P))) (os:s'.os=s.os) (bare:AllBare s'.gens) (k:∀b o,b≠P→s.heap.get? b=some o→s'.heap.get? b=some o) (t:e_ P s'.heap):Inv X pins σ H s':=by
 have nP:∀b,H b=none→b≠P:=λb n z=>by rw [z,hP] at n;cases n
 have hok:nt X.prog X.w H s'.heap:=λb u e=>by
  by_cases hb:b=P
  ·subst hb
   rw [hP] at e;cases e
   obtain ⟨ps,hp,_⟩:=id t
   exact ⟨t,⟨_,hp⟩,((I.hok b _ hP)).2.2⟩
  ·refine (I.hok b u e).p7 (λd v hd q=>k d v ?_ q) (λ_ q=>q) λ_ _ q=>q
   rcases hd with rfl | hd
   ·exact hb
   ·intro z
    rw [z,hP] at hd;cases hd
 have un:Un (kb X.stack) [] H H s.heap s'.heap:=⟨λb o e n _ _=>k b o (nP b n) e,λb o e n _ _=>⟨o.slots,k b o (nP b n) e⟩,λ_ _ _ n _=>n,λb o e _=>by
  by_cases hb:b=P
  ·subst hb
   obtain ⟨ps,hp,_⟩:=t
   exact ⟨_,hp⟩
  ·exact ⟨o,k b o hb e⟩,λ_ _ q=>q,λ_ _ _ q=>q,λ_ ps q=>⟨#[],by rw [q];simp⟩⟩
 exact I.Fu os un hok bare λb z=>absurd z (by simp)
theorem FN {M:Model} {A:Around} {E:Value→Shared→Prop} {env:Env} {pos:Pos} {q:Str} {sc:Scope} {Q:Value→Shared→Prop} {s:Shared} (hc:env.code=.ref c) (Z:vh X.K c P) (kin:X.K.In s.heap) (t:e_ P s.heap)
  (h:∀code h' tk,(∀b o,b≠P→s.heap.get? b=some o→h'.get? b=some o)→s.heap.objs.size≤h'.objs.size→e_ P h'→Q code { s with heap:=h',toks:=tk }):wpAny M A (genexprCode env pos q sc) Q E s:=by
 obtain ⟨ps,hp,tr⟩:=t
 obtain ⟨ic,ta⟩:=Z.at kin hp tr
 cases hf:codeAmong pos ps.toList with
 | some c'=>exact wpAny_genexprCode_hit hc ic hf (h c' s.heap s.toks (λ_ _ _ e=>e) (U4 _) ⟨ps,hp,tr⟩)
 | none =>
  refine wpAny_genexprCodeX hc ic ta hf λc' h' tk ext l1 l2 ic' _ ta' _=>h _ h' tk (λb o nb e=>ext b o nb e) (WD (VN l1 l2)) ⟨_,ta'.2,?_⟩
  obtain ⟨_,_,_,_,_,_,_,_,_,_,_,_,_,_,_,_,_,hop,hpd,tr',_⟩:=ic'
  exact tr'
theorem Fn {α:Type} (B:List α) (q:α→Bool):((VA B.length).all λj=>(B[j]?).elim true q)=B.all q:=by
 rw [VX,V4,V4]
 refine ⟨λh b hb=>?_,λh j hj=>?_⟩
 ·obtain ⟨j,hj,rfl⟩:=Vy hb
  have:=h j (V6.mpr hj)
  rwa [U2 hj] at this
 ·have hj:=V6.mp hj
  rw [U2 hj]
  exact h _ (VG hj)
def eS (tx:Str) (ch:Nat):Bool:=!(Builtin.Str.occurrences tx ⟨#[ch]⟩ 0 tx.length 1).isEmpty
def HL (P:Addr) (tx:Str) (ti:TE):TE:=λσ H Q=>ti σ H λv H1=>∃y:Str,v=.str y∧H1 P=some (.ext (e_ P))∧Q (.bl (y.cps.toList.all (eS tx))) H1
theorem Hb {prog:Program} {w:World} {env:Env} {scope:Scope} {x g:Str} {tx y:Str} {tt:Tok} {C:Addr} {code:Value} {fp wr:List Addr} {href:Heap} {D U:Nat} {p1 p2 p3:Pos} {mg:Str→Option Value} (sck:scope.kind=.function) (hx:scope.names.lookup x=some .local) (hg:scope.names.lookup g=some .globalImplicit)
  (ns:href.Ns env.globals mg) (hm:mg g=some (.str tx tt)) (h1:env.globals∈fp) (h2:env.globals ∉ wr) (hmk:behindInMarks .In (.Name g p2)=false) (hdx:(x == ("__debug__":Str))=false) (hdg:(g == ("__debug__":Str))=false) :
  QuietGenD prog w (genEnv scope [] C code builtinsNs env) x [] (.Compare (.Name x p1) [.In] [.Name g p2] p3) fp wr (SignAt y) (λ_=>true) (λi v=>∃ch,y.cps[i]?=some ch∧v=.bool (eS tx ch)) href D U where
 tests:=λA' E' i v s₂ m₂ _ _ _ _ _ _ _=>wpAny_pure ⟨rfl,_,_,rfl,λ_ _ e=>e⟩
 elt:=λA' E' i v s₂ m₂ _ _ _ hP _ hn hmx hk=>by
  obtain ⟨ch,u,hch,rfl⟩:=hP
  refine wpAny_Compare1 (wpAny_Name (wpAny_loadName_local (show (genEnv scope [] C code builtinsNs env).scope.kind=.function from sck) (show (genEnv scope [] C code builtinsNs env).kindOf x=some .local from hx) hn hmx ?_) hdx) hmk
  refine Calls.Name_function_global (show (genEnv scope [] C code builtinsNs env).scope.kind=.function from sck) (show (genEnv scope [] C code builtinsNs env).kindOf g=some .globalImplicit from hg) (Calls.loadGlobal_global (ns.at' λo e=>hk _ h1 h2 o e) hm ?_) hdg
  exact in_str ⟨⟨ch,hch,rfl⟩,_,_,rfl,λ_ _ e=>e⟩
theorem Ey {x g:Str} {p px p1 p2 p3 gpos cpos:Pos} {iter:Expr} {ti:TE} {scope:Scope} {tx:Str} {tt:Tok} (hcalm:X.calm=true) (Bm:BMain X.mg X.base) (hcode:X.env.code=.ref c) (Z:vh X.K c P) (hdep:X.A.depth < recursionLimit)
  (hgl:Gl X "all") (hma:X.mg "all"=none) (hsg:X.mg g=some (.str tx tt)) (hi:PE X iter ti) (sck:scope.kind=.function) (hco:scope.isCoroutine=false) (hclos:closureFor scope X.env=pure []) (hcell:∀y∈scope.names,y.2≠.cell)
  (h0:scope.names.lookup (".0":Str)=some NameKind.local) (hx:scope.names.lookup x=some .local) (hsc:scope.names.lookup g=some .globalImplicit) (hmk:behindInMarks .In (.Name g p2)=false) (hs:∀x,genFold iter X.env x=pure x)
  (hst:starEach [.GeneratorExp (.Compare (.Name x p1) [.In] [.Name g p2] p3) [⟨.Name x px,iter,[],0⟩] scope gpos] X.env=[(false,eval (.GeneratorExp (.Compare (.Name x p1) [.In] [.Name g p2] p3) [⟨.Name x px,iter,[],0⟩] scope gpos) X.env)])
  (hdx:(x == ("__debug__":Str))=false) (hdg:(g == ("__debug__":Str))=false) :
  PE X (.Call (.Name "all" p) [.GeneratorExp (.Compare (.Name x p1) [.In] [.Name g p2] p3) [⟨.Name x px,iter,[],0⟩] scope gpos] [] cpos) (HL P tx ti):=by
 intro pins s σ H Q I h
 refine wpAny_Call_Name_kw (mP I hgl hma PyProof.Rows.Boot.«all» ?_)
 refine PyProof.Rows.callWith_builtin1 ?_ hst rfl
 rw [hst]
 show wpAny _ _ (spliced ((false,eval (.GeneratorExp (.Compare (.Name x p1) [.In] [.Name g p2] p3) [⟨.Name x px,iter,[],0⟩] scope gpos) X.env) :: [])) _ _ s
 refine Calls.spliced_cons ?_
 refine wpAny_GeneratorExp_walksQD (I.ok.hd hcalm) hco hclos hcell h0 hx sck hdep ?_ hs
 refine cG (hi pins s σ H _ I h) λxv s1 ⟨v,H1,I1,r1,y,ev,hP,q⟩=>?_
 subst ev
 obtain ⟨ty,rfl⟩:=r1
 have t1:e_ P s1.heap:=(I1.hok P _ hP).1
 have ltP:P < s1.heap.objs.size:=I1.hok.lt hP
 refine wpAny_pyIter_str λo St W st0=>?_
 have k1:∀b ob,s1.heap.get? b=some ob→(s1.heap.push o).get? b=some ob:=λb ob e=>Heap.get?_push_of_some _ e
 refine ⟨I1.nolimit.keeps k1,?_⟩
 have t2:e_ P (s1.heap.push o):=let ⟨ps,hp,tr⟩:=t1;⟨ps,k1 _ _ hp,tr⟩
 refine FN (X:=X) (s:={ s1 with heap:=s1.heap.push o }) hcode Z (I1.mO.keeps k1) t2 λcode h' tk k sz t'=>?_
 have kk:∀b ob,b≠P→s1.heap.get? b=some ob→h'.get? b=some ob:=λb ob nb e=>k b ob nb (k1 b ob e)
 have nsP:∀(b:Addr) (m:Str→Option Value),s1.heap.Ns b m→b≠P:=λb m hn z=>by
  obtain ⟨ob,es,ep,ho,hd,_⟩:=hn
  obtain ⟨ps,hp,_⟩:=t1
  rw [z,hp] at ho;cases ho;cases hd
 have nsK:∀(b:Addr) (m:Str→Option Value),s1.heap.Ns b m→h'.Ns b m:=λb m hn=>hn.at' λob e=>kk b ob (nsP b m hn) e
 have nsG:s1.heap.Ns X.env.globals X.mg:=by rw [I1.ok.glob];exact I1.mod.glob.keeps I1.bk
 have nl:h'.NoLimit:=let ⟨mc,h1,h2⟩:=I1.nolimit;⟨mc,nsK _ _ h1,h2⟩
 have ltC:cStatics < s1.heap.objs.size:=let ⟨mc,h1,_⟩:=I1.nolimit;h1.lt
 have szI:s1.heap.objs.size < h'.objs.size:=Vf (by rw [Heap.size_push];exact Wc _) sz
 obtain ⟨bm,ob,b1,b2,b3,b4,b5,b6⟩:=Bm
 have b3':=I1.bk _ _ b3
 have nbm:bm≠P:=λz=>by
  obtain ⟨ps,hp,_⟩:=t1
  rw [z,hp] at b3'
  rw [← Option.some.inj b3'] at b6;cases b6
 refine wpAny_builtinsFor (nsK _ _ nsG) b1 b2 (kk _ _ nbm b3') b4 b5 b6 ?_
 refine ⟨s1.heap.objs.size,[s1.heap.objs.size],[s1.heap.objs.size],y.cps.size,SignAt y,St,λ_=>true,λi v=>∃ch,y.cps[i]?=some ch∧v=.bool (eS tx ch),rfl,W,
  (W X.A (I.ok.hd hcalm)).frame _ _ _ st0 λb hb o' e=>k b o' (by rw [Vc.mp hb];exact WQ ltP) e,λb hb=>by rw [Vc.mp hb];exact szI,nl,
  λhb=>Vj ltC (Vc.mp hb),λhref kh=>Hb sck hx hsc ((nsK _ _ nsG).keeps kh) hsg (V6.mpr (nsK _ _ nsG).lt) (λhb=>Vj nsG.lt (Vc.mp hb)) hmk hdx hdg,λa h5 tk5 gs hgs ltA szA k5 WS G=>?_⟩
 refine Calls.spliced_nil ?_
 have pall:passing (λ_=>true) y.cps.size 0=VA y.cps.size:=by simp [passing]
 have WS:=WS.in4_1
 refine call_all_walkS (WS.self 0 _ _ _ G ⟨a,_,_,_,_,_,_,(λj=>(y.cps.toList[j]?).elim true (eS tx)),rfl,WS,G,λj v s Q E hv hQ=>?_,λs' hm=>?_⟩)
 ·obtain ⟨i,hi,ch,hch,rfl⟩:=hv
  rw [pall] at hi
  have hji:i=j:=by
   obtain ⟨hj,e⟩:=U1.mp hi
   simpa using e.symm
  subst hji
  have e:y.cps.toList[i]?=some ch:=by simpa using hch
  simp only [e,Option.elim] at hQ
  exact wpAny_truthy_bool hQ
 ·have nwr:∀b,b < s1.heap.objs.size→b ∉ h'.objs.size :: [s1.heap.objs.size]:=λb hb hm=>by
   rcases Vb.mp hm with z | z
   ·omega
   ·have:=Vc.mp z
    omega
  refine ⟨.bl _,H1,Jp I1 hP hm.os ((I1.bare.push hgs).movedS hm) (λb o' nb e=>hm.heap b o' (nwr b (Heap.lt_size e)) (k5 b o' (kk b o' nb e))) ?_,rfl,?_⟩
  ·obtain ⟨ps,hp,tr⟩:=t'
   exact ⟨ps,hm.heap P _ (nwr P ltP) (k5 P _ hp),tr⟩
  ·rw [pall]
   have e:y.cps.size=y.cps.toList.length:=by simp
   have z:=Fn y.cps.toList (eS tx)
   rw [Wt,e,z]
   exact q
end
section
variable {X:Cx} {c P:Addr}
theorem GU {x g:Str} {p px p1 p2 p3 gpos cpos:Pos} {iter:Expr} {ti:TE} {scope:Scope} {tx:Str} {tt:Tok} {k:Nat} (hcalm:X.calm=true) (Bm:BMain X.mg X.base) (hcode:X.env.code=.ref c) (Z:vh X.K c P) (hr:b9 k X.A)
  (hgl:Gl X "all") (hma:X.mg "all"=none) (hsg:X.mg g=some (.str tx tt)) (hi:QE X iter ti) (sck:scope.kind=.function:=by rfl) (hco:scope.isCoroutine=false:=by rfl) (hclos:closureFor scope X.env=pure []:=by rfl) (hcell:∀y∈scope.names,y.2≠.cell:=by decide)
  (h0:scope.names.lookup (".0":Str)=some NameKind.local:=by rfl) (hx:scope.names.lookup x=some .local:=by rfl) (hsc:scope.names.lookup g=some .globalImplicit:=by rfl) (hmk:behindInMarks .In (.Name g p2)=false:=by with_unfolding_all rfl) (hs:∀x,genFold iter X.env x=pure x:=by intro _;rfl)
  (hst:starEach [.GeneratorExp (.Compare (.Name x p1) [.In] [.Name g p2] p3) [⟨.Name x px,iter,[],0⟩] scope gpos] X.env=[(false,eval (.GeneratorExp (.Compare (.Name x p1) [.In] [.Name g p2] p3) [⟨.Name x px,iter,[],0⟩] scope gpos) X.env)]:=by rfl)
  (hdx:(x == ("__debug__":Str))=false:=by decide) (hdg:(g == ("__debug__":Str))=false:=by decide) :
  QE X (.Call (.Name "all" p) [.GeneratorExp (.Compare (.Name x p1) [.In] [.Name g p2] p3) [⟨.Name x px,iter,[],0⟩] scope gpos] [] cpos) (HL P tx ti) :=
 ⟨Ey hcalm Bm hcode Z (by have:=hr.dp;omega) hgl hma hsg hi.run sck hco hclos hcell h0 hx hsc hmk hs hst hdx hdg⟩
end
structure IF (K:PySem.W.Frag) (mg:Str→Option Value) (x:Str) (st:Stmt) (P:Addr) (f:Addr) (fd:FuncData) (c:Addr):Prop where
 fn:cg K x x st f fd
 mg:mg x=some (.ref f)
 code:fd.code=.ref c
 tab:vh K c P
 out:K.lookup P=none
def Ap (K:PySem.W.Frag) (mg:Str→Option Value) (x:Str) (st:Stmt) (P:Addr):Prop:=∃f fd c,IF K mg x st P f fd c
section
variable {P:Program} {w:World} {K:PySem.W.Frag} {mg:Str→Option Value} {base:Heap}
theorem UR {x:Str} {st:Stmt} {T f c:Addr} {fd:FuncData} {N ps:List Str} {k:Nat} {sp:Sp} (F:IF K mg x st T f fd c) (S:av N ps (aj st)) (len:∀vs H Q E,sp vs H Q E→vs.length=ps.length)
  (hbody:∀(A:Around) (outer:List Env) (s:Shared) (H:Hp) (vs:List V) (Q:VK) (E:XK),b9 k (A.deeper (envOfC x (aj st) s.heap.objs.size f (.ref c)))→sp vs H Q E →
   ∃t,QB (wz rF P w K mg base N x (aj st) f (.ref c) A outer s H E).Nx (cb st) t∧t { nx:=λ_ H'=>Q .non H',rt:=Q } (start N vs) H):aO P w K mg base rF (k + 1) f fd ps sp:=by
 obtain ⟨oc,od,kV,doc,pm,an,cdv,ct,osl,rfl,lk,hcd⟩:=F.fn.ex
 obtain rfl:cdv=.ref c:=F.code
 refine FG lk hcd S len λA outer s H vs Q E hr hsp=>?_
 obtain ⟨t,h,q⟩:=hbody A outer s H vs Q E hr hsp
 exact ⟨t,h.run.Nx,q⟩
theorem Ap.Fv {x:Str} {st:Stmt} {T:Addr} {k:Nat} {ps:List Str} {sp:Sp} (D:Ap K mg x st T)
  (h:∀f fd c,IF K mg x st T f fd c→aO P w K mg base rF k f fd ps sp)
  (hb:∀(kV doc pm:Value) (an:Option Addr) (cdv ct:Value) (us:List Value),us.length=ps.length→bindArgs (PySem.W.fnOf x x (dG st) (cb st) (aj st) .none kV doc pm an cdv ct) ⟨us,[]⟩=pure (ps.zip us)) :
  t9 P w K mg base k x ps sp:=by
 obtain ⟨f,fd,c,F⟩:=D
 exact ⟨f,fd,h f fd c F,F.fn.binds hb,F.fn.kp,F.mg⟩
end
def codeB (vs:Array Value):Bool:=(match vs.getD 18 .none with | .str _ _=>true | _=>false) && (match vs.getD 7 .none with | .int _ _=>true | _=>false) && (match vs.getD 9 .none with | .bool _=>true | _=>false) && (match vs.getD 10 .none with | .int _ _=>true | _=>false)
theorem I_ {K:PySem.W.Frag} {h:Heap} {mg:Str→Option Value} {x:Str} {st:Stmt} (X:K.In h) (G:h.Ns mainGlobals mg) {f c T:Addr} {od an od':Option Addr} {sl sl':Array (Option Value)} {vs:Array Value} {oc kV dc pm ct:Value}
  (a:PySem.W.nsIn K mainGlobals x=some (some (.ref f))) (l:K.lookup f=some ⟨oc,od,.func (PySem.W.fnOf x x (dG st) (cb st) (aj st) .none kV dc pm an (.ref c) ct),sl⟩) (cc:PySem.W.codeIn K (.ref c) x=true) (k:PySem.W.keepIn K (.ref f)=true)
  (t:K.lookup c=some ⟨.type "code",od',.fields vs,sl'⟩) (p:vs[11]?=some (.ref T)) (b:codeB vs=true) (ne:c≠T) (out:K.lookup T=none):Ap K mg x st T:=by
 refine ⟨f,_,c,AU l cc k,PySem.W.mg_of X G a,rfl,⟨ne,?_⟩,out⟩
 simp only [codeB,Vq] at b
 obtain ⟨⟨⟨b1,b2⟩,b3⟩,b4⟩:=b
 cases e1:vs.getD 18 .none with
 | str file tf =>
  cases e2:vs.getD 7 .none with
  | int fl tg =>
   cases e3:vs.getD 9 .none with
   | bool inF =>
    cases e4:vs.getD 10 .none with
    | int text tt=>exact ⟨_,vs,file,tf,fl,tg,inF,text,tt,t,rfl,rfl,p,e1,e2,e3,e4⟩
    | _=>rw [e4] at b4;cases b4
   | _=>rw [e3] at b3;cases b3
  | _=>rw [e2] at b2;cases b2
 | _=>rw [e1] at b1;cases b1
def O0 (K:PySem.W.Frag) (mg:Str→Option Value) (names:List Str) (T:Addr):Prop:=∃x∈names,∃st,Ap K mg x st T
theorem D0 {P:Program} {w:World} {K:PySem.W.Frag} {mg mb:Str→Option Value} {k:Nat} {fa a:Addr} {fd:FuncData} {x:Str} {sp:Sp} {s₁:Shared} {vs:List Value} {ns:List Int} {tabs:List Addr}
  (KX:K.In s₁.heap) (hns:s₁.heap.Ns mainGlobals mg) (hb:s₁.heap.Ns builtinsNs mb) (hbb:∀x:Str,x≠"__name__"→mb x=bootBuiltins x) (hlim:s₁.heap.NoLimit) (hg:s₁.gens=#[])
  (ha:s₁.heap.get? a=some { cls:=.type "list",data:=.seq vs.toArray }) (hi:IntsAre vs ns) (hl:ns.length≤sizeLine) (hr:b9 k callerA) (hbm:BMain mg s₁.heap)
  (htab:∀T∈tabs,isCodeTable s₁.heap T∧s₁.heap.get? T=some { cls:=.none,data:=.fields #[] }∧K.lookup T=none)
  (F:∀base:Heap,K.In base→base.Ns mainGlobals mg→BMain mg base→aO P w K mg base rF k fa fd [x] sp) (hbind:∀(s:Shared) (u:Value),BindsTo s fd ⟨[u],[]⟩ [(x,u)])
  (hsp:∀H:Hp,(∀T∈tabs,H T=some (.ext (e_ T)))→dq K H a (ns.map V.int)→(∀b,H b≠none→b=a∨b∈tabs)→(∀u,H a=some u→∃o xs,u=.qO o (.lst xs))→sp [.ref a] H (λv H'=>v=.bl true∧bL H H') λ_ _ _=>False) :
  codeAny (model P w) callerA (.call (.ref fa) ⟨[.ref a],[]⟩) (λr s'=>r=.ok (.ret (.bool true))∧OldK s₁.heap s'.heap∧s'.os=s₁.os∧AllBare s'.gens) s₁:=by
 have rv:=v3 hi
 have lenV:=hi.length
 have naT:∀T∈tabs,T≠a:=λT hT z=>by
  have:=(htab T hT).2.1
  rw [z,ha] at this
  have h1:=congrArg Obj.cls (Option.some.inj this)
  cases h1
 have core:∀H:Hp,(∀T∈tabs,H T=some (.ext (e_ T)))→dq K H a (ns.map V.int)→nt P w H s₁.heap→(∀b,H b≠none→b=a∨b∈tabs)→(∀u,H a=some u→K.lookup a=none∧∃o xs,u=.qO o (.lst xs)) →
   codeAny (model P w) callerA (.call (.ref fa) ⟨[.ref a],[]⟩) (λr s'=>r=.ok (.ret (.bool true))∧OldK s₁.heap s'.heap∧s'.os=s₁.os∧AllBare s'.gens) s₁:=by
  intro H hT hS hok hA hK
  have base_of:∀{b:Addr} {o:Obj},s₁.heap.get? b=some o→H b=none→(uE s₁.heap H).get? b=some o:=λe n=>FT e n
  have no:∀{b:Addr} {o:Obj},s₁.heap.get? b=some o→(∀xs n,o.data≠.seq xs n)→(∀xs,o.data≠.fields xs)→H b=none:=λ{b o} e d1 d2=>by
   cases q:H b with
   | none=>rfl
   | some u =>
    rcases hA b (by rw [q];simp) with rfl | hb
    ·rw [ha] at e;cases e;exact absurd rfl (d1 _ _)
    ·rw [(htab b hb).2.1] at e;cases e;exact absurd rfl (d2 _)
  have nsK:∀{b:Addr} {m:Str→Option Value},s₁.heap.Ns b m→(uE s₁.heap H).Ns b m:=λ{b m} ⟨o,es,ep,e,d,r⟩=>⟨o,es,ep,base_of e (no e (λ_ _ z=>by rw [d] at z;cases z) λ_ z=>by rw [d] at z;cases z),d,r⟩
  have hKb:K.In (uE s₁.heap H):=λb o e=>base_of (KX b o e) (by
   cases q:H b with
   | none=>rfl
   | some u =>
    rcases hA b (by rw [q];simp) with rfl | hb
    ·have:=(hK u q).1
     exact absurd (this.symm.trans e) (λz=>nomatch z)
    ·have:=(htab b hb).2.2
     exact absurd (this.symm.trans e) (λz=>nomatch z))
  have hM:Mod K mg (uE s₁.heap H):=⟨hKb,nsK hns,⟨mb,nsK hb,hbb⟩,let ⟨mc,h1,h2⟩:=hlim;⟨mc,nsK h1,h2⟩⟩
  have hbm':BMain mg (uE s₁.heap H):=by
   obtain ⟨bm,ob,b1,b2,b3,b4,b5,b6⟩:=hbm
   exact ⟨bm,ob,b1,b2,base_of b3 (no b3 (λ_ _ z=>by rw [b6] at z;cases z) λ_ z=>by rw [b6] at z;cases z),b4,b5,b6⟩
  have e0:Aq P w K mg (uE s₁.heap H) callerA [] s₁ H:=⟨rfl,hM,λb o e=>JI e,Nat.le_of_eq (DV _ _),trivial,λb hb=>absurd (show b∈([]:List Addr) from hb) (by simp),hok,.of_eq hg⟩
  refine codeAny_mono ((F _ hKb (nsK hns) hbm').run callerA [] s₁ H ⟨[.ref a],[]⟩ [.ref a] [.ref a] _ _ hr e0 (hbind s₁ (.ref a)) (.cons rfl .nil) (hsp H hT hS hA λu z=>(hK u z).2)) λr s' h=>?_
  cases r with
  | error e=>exact False.elim h
  | ok fl =>
   cases fl with
   | next=>exact False.elim h
   | brk=>exact False.elim h
   | cont=>exact False.elim h
   | ret u =>
    obtain ⟨v,H',os,bare,un,hok',r',rfl,same⟩:=h
    obtain rfl:u=Value.bool true:=r'
    refine ⟨rfl,⟨λb o e=>?_,λb o e=>?_⟩,os,bare⟩
    ·cases q:H b with
     | none=>exact .inl (un.keep b o e q (by intro z;exact absurd (show b∈([]:List Addr) from z) (by simp)) (by simp))
     | some u =>
      have q':=same b u q
      rcases hA b (by rw [q];simp) with rfl | hb'
      ·obtain ⟨_,ob,xs,rfl⟩:=hK u q
       obtain ⟨e1,_⟩:=hok _ _ q
       obtain ⟨e2,_⟩:=hok' _ _ q'
       rw [e] at e1;cases e1
       exact .inl e2
      ·have hz:=hT b hb'
       rw [q] at hz;cases hz
       obtain ⟨⟨ps,hp,_⟩,_⟩:=hok' _ _ q'
       obtain ⟨t1,t2,_⟩:=htab b hb'
       rw [t2] at e;cases e
       exact .inr (.inl ⟨t1,rfl,#[],ps,rfl,by rw [hp];simp⟩)
    ·exact un.there b o e (by simp)
 have hTt:∀T∈tabs,∀H:Hp,dP P w H s₁.heap T (.ext (e_ T)):=λT hT H=>by
  have:=(htab T hT).2.1
  exact ⟨⟨#[],this,trivial⟩,⟨_,this⟩,λh1 h2 ⟨ps,hp,tr⟩ kk=>⟨ps,kk _ hp,tr⟩⟩
 cases hk:K.lookup a with
 | some o =>
  have e:=KX a o hk
  rw [ha] at e
  cases e
  refine core (λb=>if b∈tabs then some (.ext (e_ b)) else none) (λT hT=>if_pos hT) (.inr ⟨_,vs.toArray,_,hk,rfl,rfl,rfl,by rw [U5,lenV];exact hl,by simpa using rv⟩) (λb u z=>?_) (λb z=>?_) λu z=>?_
  ·by_cases hb:b∈tabs
   ·have z':=(if_pos hb).symm.trans z
    cases z'
    exact hTt b hb _
   ·have z':=(if_neg hb).symm.trans z
    cases z'
  ·by_cases hb:b∈tabs
   ·exact .inr hb
   ·exact absurd (if_neg hb) z
  ·have hb:a ∉ tabs:=λhb=>naT a hb rfl
   have z':=(if_neg hb).symm.trans z
   cases z'
 | none =>
  refine core (λb=>if b=a then some (.qO { cls:=.type "list",data:=.seq vs.toArray } (.lst (ns.map V.int))) else if b∈tabs then some (.ext (e_ b)) else none) (λT hT=>?_) (.inl (.inr ⟨{ cls:=.type "list",data:=.seq vs.toArray },if_pos rfl⟩)) (λb u z=>?_) (λb z=>?_) λu z=>?_
  ·show (if T=a then _ else _)=_
   rw [if_neg (naT T hT),if_pos hT]
  ·by_cases hb:b=a
   ·have z':=(if_pos hb).symm.trans z
    cases z'
    subst hb
    exact ⟨ha,by rw [UZ];exact hl,vs,_,rv,ha⟩
   ·have z:=(if_neg hb).symm.trans z
    by_cases hb:b∈tabs
    ·have z':=(if_pos hb).symm.trans z
     cases z'
     exact hTt b hb _
    ·have z':=(if_neg hb).symm.trans z
     cases z'
  ·by_cases hb:b=a
   ·exact .inl hb
   ·by_cases hb':b∈tabs
    ·exact .inr hb'
    ·exact absurd ((if_neg hb).trans (if_neg hb')) z
  ·have z':=(if_pos rfl).symm.trans z
   cases z'
   exact ⟨hk,_,_,rfl⟩
theorem Oq {p:Program} {loose:List Str} {mean:ExcName→Option Value} {mg mb:Str→Option Value} {h:Heap} {K:PySem.W.Frag} {x:Str} {st:Stmt} {T:Addr} (Tp:Top p loose mean mg mb h) (KX:K.In h) (hx:∃d∈recsOf p,d.name=x) (D:Ap K mg x st T) :
  isCodeTable h T∧h.get? T=some { cls:=.none,data:=.fields #[] }∧K.lookup T=none:=by
 obtain ⟨f,fd,c,F⟩:=D
 obtain ⟨d,hd,rfl⟩:=hx
 obtain ⟨a',o',fd',c',P',h1,h2,h3,h4,h5,h6⟩:=Tp.tab d hd
 rw [F.mg] at h1;cases h1
 obtain ⟨oc,od,kV,doc,pm,an,cdv,ct,osl,rfl,lk,_⟩:=F.fn.ex
 have:=KX _ _ lk
 rw [h2] at this;cases this
 have e3:fd'=_:=(Data.func.inj h3).symm
 subst e3
 have e4:=F.code.symm.trans h4
 cases e4
 obtain ⟨_,oo,vs,_,_,_,_,_,_,_,lk',_,hd',h11,_⟩:=F.tab
 obtain ⟨⟨o2,vs2,g1,g2,g3,g4⟩,g5⟩:=id h6
 rw [KX _ _ lk'] at g1;cases g1
 rw [hd'] at g3;cases g3
 rw [h11] at g4;cases g4
 exact ⟨h6.isCodeTable,g5,F.out⟩
theorem H_ {l:PySem.W.OpenLaw} {n k:Nat} {q:Program} {loose:List Str} {XP:(Str→Option Value)→Heap→Prop} {YP:World→Heap→Prop} {d:DefRec} {K:Params→PySem.W.Frag} {sp:List Addr→PySem.W.Frag→Sp} {x:Str} (names:List Str)
  (hn:l.most=some n) (hn2:n≤sizeLine) (hdf:d.params.defaults=[]) (hr:b9 k callerA) (hY:∀(w:World) (h:Heap),YP w h→(K w.params).In h) (hnm:∀x∈names,∃d∈recsOf q,d.name=x)
  (F:∀(w:World) (mg:Str→Option Value) (fa:Addr) (h:Heap),(K w.params).In h→h.Ns mainGlobals mg→mg d.name=some (.ref fa) →
   ∃(fd:FuncData) (tabs:List Addr),(∀(s:Shared) (u:Value),BindsTo s fd ⟨[u],[]⟩ [(x,u)])∧(∀T∈tabs,O0 (K w.params) mg names T) ∧
    ∀base:Heap,(K w.params).In base→base.Ns mainGlobals mg→BMain mg base→aO l.prog w (K w.params) mg base rF k fa fd [x] (sp tabs (K w.params)))
  (hsp:∀(tabs:List Addr) (K:PySem.W.Frag) (H:Hp) (a:Addr) (ns:List Int),ns.length≤n→(∀T∈tabs,H T=some (.ext (e_ T)))→dq K H a (ns.map V.int)→(∀b,H b≠none→b=a∨b∈tabs)→(∀u,H a=some u→∃o xs,u=.qO o (.lst xs))→sp tabs K [.ref a] H (λv H'=>v=.bl true∧bL H H') λ_ _ _=>False) :
  PySem.W.WalkO q loose XP YP l.row.toRowW d [] (λf vs=>PySem.call f vs):=by
 refine Att.yy hn hdf λw s₀ s₁ mg mb fa o pm cd doc a vs ns G Y ho hd hcd hmg hobj hints hlen hg=>?_
 have KX:=hY w _ Y
 obtain ⟨fd,tabs,hb,ht,hF⟩:=F w mg fa _ KX G.T.g hmg
 refine D0 KX G.T.g G.T.b G.T.builtins G.T.nolimit hg hobj hints (Vh hlen hn2) hr G.T.bmain (λT hT=>?_) hF hb (λH hT hS hA hK=>hsp tabs _ H a ns hlen hT hS hA hK)
 obtain ⟨x,hx,st,D⟩:=ht T hT
 exact Oq G.T KX (hnm x hx) D
def F0 (s:Str):Value→Bool
 | .str y _=>y == s
 | _=>false
def FY (i:Int):Value→Bool
 | .int j _=>j == i
 | _=>false
theorem DN {K:PySem.W.Frag} {h:Heap} {mg:Str→Option Value} {x s:Str} {u:Value} (X:K.In h) (G:h.Ns mainGlobals mg) (e:PySem.W.nsIn K mainGlobals x=some (some u)) (hu:F0 s u=true):∃t,mg x=some (.str s t):=by
 cases u with
 | str y t =>
  have:y=s:=by simpa [F0] using hu
  subst this
  exact ⟨t,PySem.W.mg_of X G e⟩
 | _=>cases hu
theorem const_int {K:PySem.W.Frag} {h:Heap} {mg:Str→Option Value} {x:Str} {i:Int} {u:Value} (X:K.In h) (G:h.Ns mainGlobals mg) (e:PySem.W.nsIn K mainGlobals x=some (some u)) (hu:FY i u=true):∃t,mg x=some (.int i t):=by
 cases u with
 | int y t =>
  have:y=i:=by simpa [FY] using hu
  subst this
  exact ⟨t,PySem.W.mg_of X G e⟩
 | _=>cases hu
section
variable {X:Cx} {tg:Expr}
end
end Ov
namespace Ov
open PySem PySem.Spec PyProof.Rows
open L2 (V HO Hp Inv Cx VK XK TE TT TA TS TG rS TI TO l7 Ends yv Loc Gl Rd RelV Vals fI Ab cq rK vj qL l6 R2 upd aH aM dq g8 Sp uc It bL)
inductive PV where
 | non | bl (b:Bool) | int (i:Int) | str (x:Str) | ref (a:Addr) | ty (n:String) | tup (xs:List PV) | fl (xs:List PV)
inductive HQ where
 | lst (xs:List PV) | ins (C:Addr) (fs:List (Str × PV)) | dct (kvs:List (Str × PV)) (ep:Nat) | tab | dtp (hs:List Str→Int) (ks:List (List Str))
def R6 (hs:List Str→Int) (a:Addr) (xs:List (List Str × Addr × Value)) (h:Heap):Prop:=(a == sysModules)=false∧xs.length≤sizeLine∧(xs.map (·.1)).Nodup∧∃o es ep,h.get? a=some o∧o.ExactDict∧o.data=.dict es ep∧es.toList=xs.map λx=>(⟨hs x.1,.ref x.2.1,x.2.2⟩:DictEntry)
abbrev Hq:=Addr→Option HQ
def put (J:Hq) (a:Addr) (o:HQ):Hq:=λb=>if b=a then some o else J b
theorem ax {J:Hq} {a:Addr} {o:HQ}:put J a o a=some o:=by unfold put;rw [if_pos rfl]
theorem aw {J:Hq} {a b:Addr} {o:HQ} (h:b≠a):put J a o b=J b:=by unfold put;rw [if_neg h]
theorem fh {J:Hq} {a:Addr} {o u:HQ}:put (put J a o) a u=put J a u:=by
 funext b;unfold put;split <;> rfl
theorem G6 {J:Hq} {a b:Addr} {o u:HQ} (h:a≠b):put (put J a o) b u=put (put J b u) a o:=by
 funext c;unfold put
 by_cases h1:c=b <;> by_cases h2:c=a <;> simp [h1,h2]
 ·exact absurd (h2.symm.trans h1) h
 ·intro z;exact absurd z.symm h
 ·intro z;exact absurd z h
theorem Bx {J:Hq} {a:Addr} {o:HQ} (h:J a=some o):put J a o=J:=by
 funext b;unfold put
 by_cases e:b=a
 ·subst e;rw [if_pos rfl,h]
 ·rw [if_neg e]
def E9 (K:PySem.W.Frag) (J:Hq) (H:Hp) (a:Addr) (vs:List V):Prop:=(J a=none∧Rd H a (.lst vs))∨∃(o:Obj) (its:Array Value) (n:Nat),K.lookup a=some o∧o.cls=.type "list"∧o.dict=none∧o.data=.seq its n∧its.size≤sizeLine∧Vals vs its.toList
theorem E9.sq {K:PySem.W.Frag} {J:Hq} {H:Hp} {a:Addr} {vs:List V} (h:E9 K J H a vs):dq K H a vs:=by
 rcases h with h | h
 ·exact .inl h.2
 ·exact .inr h
section
variable (K:PySem.W.Frag)
mutual
def cH (J:Hq) (H:Hp):PV→V→Prop
 | .non,v=>v=.non
 | .bl b,v=>v=.bl b
 | .int i,v=>v=.int i
 | .str x,v=>v=.str x
 | .ref a,v=>v=.ref a
 | .ty n,v=>v=.ty n
 | .tup xs,v=>∃a vs,v=.ref a∧g8 K H a vs∧aU J H xs vs
 | .fl xs,v=>∃a vs,v=.ref a∧E9 K J H a vs∧aU J H xs vs
def aU (J:Hq) (H:Hp):List PV→List V→Prop
 | [],vs=>vs=[]
 | x :: xs,vs=>∃v us,vs=v :: us∧cH J H x v∧aU J H xs us
end
def mG {κ:Type} (J:Hq) (H:Hp) (fs:List (κ × PV)) (gs:List (κ × V)):Prop:=fs.map (·.1)=gs.map (·.1)∧aU K J H (fs.map (·.2)) (gs.map (·.2))
def Fj (J:Hq) (H:Hp) (a:Addr):HQ→Prop
 | .lst xs=>∃vs,H a=some (.lst vs)∧aU K J H xs vs
 | .ins C fs=>∃dx gs,H a=some (.ins C dx gs)∧mG K J H fs gs
 | .dct kvs ep=>∃gs,H a=some (.dE gs ep)∧mG K J H kvs gs
 | .tab=>H a=some (.ext (e_ a))
 | .dtp hs ks=>∃xs:List (List Str × Addr × Value),xs.map (·.1)=ks∧H a=some (.ext (R6 hs a xs))∧∀x∈xs,g8 K H x.2.1 (x.1.map V.str)
def Rep (J:Hq) (H:Hp):Prop:=∀a o,J a=some o→Fj K J H a o
structure Ext (J:Hq) (H:Hp) (J':Hq) (H':Hp):Prop where
 tup:∀a vs,g8 K H a vs→g8 K H' a vs
 ll:∀a o,J a=none→H a=some o→((∃vs,o=.lst vs)∨∃ob vs,o=.qO ob (.lst vs))→J' a=none∧H' a=some o
end
section
variable {K:PySem.W.Frag} {J J' J'':Hq} {H H' H'':Hp}
theorem Ext.fl (e:Ext K J H J' H') (a:Addr) (vs:List V) (n:J a=none) (h:Rd H a (.lst vs)):J' a=none∧Rd H' a (.lst vs):=by
 rcases h with h | ⟨o,h⟩
 ·obtain ⟨a,b⟩:=e.ll a _ n h (.inl ⟨_,rfl⟩);exact ⟨a,.inl b⟩
 ·obtain ⟨a,b⟩:=e.ll a _ n h (.inr ⟨_,_,rfl⟩);exact ⟨a,.inr ⟨o,b⟩⟩
theorem Ext.flat (e:Ext K J H J' H') {a:Addr} {vs:List V} (h:E9 K J H a vs):E9 K J' H' a vs:=by
 rcases h with h | h
 ·exact .inl (e.fl a vs h.1 h.2)
 ·exact .inr h
mutual
theorem Ext.rep (e:Ext K J H J' H'):∀{x:PV} {v:V},cH K J H x v→cH K J' H' x v
 | .non,_,h=>h
 | .bl _,_,h=>h
 | .int _,_,h=>h
 | .str _,_,h=>h
 | .ref _,_,h=>h
 | .ty _,_,h=>h
 | .tup xs,_,⟨a,vs,e1,h,k⟩=>⟨a,vs,e1,e.tup _ _ h,Ext.jM e k⟩
 | .fl xs,_,⟨a,vs,e1,h,k⟩=>⟨a,vs,e1,e.flat h,Ext.jM e k⟩
theorem Ext.jM (e:Ext K J H J' H'):∀{xs:List PV} {vs:List V},aU K J H xs vs→aU K J' H' xs vs
 | [],_,h=>h
 | _ :: _,_,⟨v,us,e1,h,k⟩=>⟨v,us,e1,Ext.rep e h,Ext.jM e k⟩
end
theorem Ext.refl:Ext K J H J H:=⟨λ_ _ h=>h,λ_ _ n h _=>⟨n,h⟩⟩
theorem Ext.trans (a:Ext K J H J' H') (b:Ext K J' H' J'' H''):Ext K J H J'' H'' :=
 ⟨λc vs h=>b.tup c vs (a.tup c vs h),λc o n h z=>b.ll c o (a.ll c o n h z).1 (a.ll c o n h z).2 z⟩
theorem Ext.zx {κ:Type} (e:Ext K J H J' H') {fs:List (κ × PV)} {gs:List (κ × V)} (h:mG K J H fs gs):mG K J' H' fs gs:=⟨h.1,e.jM h.2⟩
theorem Ext.same (s:bL H H'):Ext K J H J H':=⟨λa vs h=>s.tup h,λa o n h _=>⟨n,s _ _ h⟩⟩
theorem Fj.same (s:bL H H') {a:Addr} {o:HQ} (h:Fj K J H a o):Fj K J H' a o:=by
 have e:=Ext.same (K:=K) (J:=J) s
 cases o with
 | lst xs=>obtain ⟨vs,h1,h2⟩:=h;exact ⟨vs,s _ _ h1,e.jM h2⟩
 | ins C fs=>obtain ⟨dx,gs,h1,h2⟩:=h;exact ⟨dx,gs,s _ _ h1,e.zx h2⟩
 | dct kvs ep=>obtain ⟨gs,h1,h2⟩:=h;exact ⟨gs,s _ _ h1,e.zx h2⟩
 | tab=>exact s _ _ (show H a=some (.ext (e_ a)) from h)
 | dtp hs ks=>obtain ⟨xs,h0,h1,h2⟩:=h;exact ⟨xs,h0,s _ _ h1,λx hx=>s.tup (h2 x hx)⟩
theorem Rep.same (s:bL H H') (h:Rep K J H):Rep K J H':=λa o q=>(h a o q).same s
theorem Ext.less (h:∀a,J' a=J a∨J' a=none):Ext K J H J' H:=⟨λ_ _ h=>h,λa o n z _=>⟨(h a).elim (λe=>e.trans n) (λe=>e),z⟩⟩
theorem Rep.less (h:∀a,J' a=J a∨J' a=none) (r:Rep K J H):Rep K J' H:=λa o q=>by
 have e:J a=some o:=by
  rcases h a with e | e
  ·rw [← e];exact q
  ·rw [e] at q;cases q
 have x:=Ext.less (K:=K) (H:=H) h
 have z:=r a o e
 cases o with
 | lst xs=>obtain ⟨vs,h1,h2⟩:=z;exact ⟨vs,h1,x.jM h2⟩
 | ins C fs=>obtain ⟨dx,gs,h1,h2⟩:=z;exact ⟨dx,gs,h1,x.zx h2⟩
 | dct kvs ep=>obtain ⟨gs,h1,h2⟩:=z;exact ⟨gs,h1,x.zx h2⟩
 | tab=>exact z
 | dtp hs ks=>exact z
theorem aU.length:∀{xs:List PV} {vs:List V},aU K J H xs vs→xs.length=vs.length
 | [],_,h=>by cases h;rfl
 | _ :: xs,_,⟨v,us,e1,_,k⟩=>by subst e1;simp [aU.length k]
theorem aU.get:∀{xs:List PV} {vs:List V} {i:Nat} {x:PV},aU K J H xs vs→xs[i]?=some x→∃v,vs[i]?=some v∧cH K J H x v
 | [],_,i,x,h,e=>by simp at e
 | y :: xs,_,0,x,⟨v,us,e1,h,k⟩,e=>by subst e1;simp at e;subst e;exact ⟨v,rfl,h⟩
 | y :: xs,_,i + 1,x,⟨v,us,e1,h,k⟩,e=>by
  subst e1
  obtain ⟨w,h1,h2⟩:=aU.get (i:=i) (x:=x) k (by simpa using e)
  exact ⟨w,by simpa using h1,h2⟩
theorem aU.get':∀{xs:List PV} {vs:List V} {i:Nat} {v:V},aU K J H xs vs→vs[i]?=some v→∃x,xs[i]?=some x∧cH K J H x v
 | [],_,i,x,h,e=>by cases h;simp at e
 | y :: xs,_,0,x,⟨v,us,e1,h,k⟩,e=>by subst e1;simp at e;subst e;exact ⟨y,rfl,h⟩
 | y :: xs,_,i + 1,x,⟨v,us,e1,h,k⟩,e=>by
  subst e1
  obtain ⟨w,h1,h2⟩:=aU.get' (i:=i) (v:=x) k (by simpa using e)
  exact ⟨w,by simpa using h1,h2⟩
theorem aU.append:∀{xs ys:List PV} {vs us:List V},aU K J H xs vs→aU K J H ys us→aU K J H (xs ++ ys) (vs ++ us)
 | [],_,_,_,h,k=>by cases h;exact k
 | x :: xs,ys,_,us,⟨v,ws,e1,h,h'⟩,k=>by subst e1;exact ⟨v,ws ++ us,rfl,h,aU.append h' k⟩
theorem aU.drop:∀(n:Nat) {xs:List PV} {vs:List V},aU K J H xs vs→aU K J H (xs.drop n) (vs.drop n)
 | 0,_,_,h=>h
 | n + 1,[],_,h=>by cases h;rfl
 | n + 1,x :: xs,_,⟨v,ws,e1,h,h'⟩=>by subst e1;exact aU.drop n h'
theorem aU.take:∀(n:Nat) {xs:List PV} {vs:List V},aU K J H xs vs→aU K J H (xs.take n) (vs.take n)
 | 0,_,_,h=>rfl
 | n + 1,[],_,h=>by cases h;rfl
 | n + 1,x :: xs,_,⟨v,ws,e1,h,h'⟩=>by subst e1;exact ⟨v,_,rfl,h,aU.take n h'⟩
theorem mG.look {κ:Type} [BEq κ] [LawfulBEq κ] {f:κ}:∀{fs:List (κ × PV)} {gs:List (κ × V)} {x:PV},mG K J H fs gs→fs.lookup f=some x→∃v,gs.lookup f=some v∧cH K J H x v
 | [],_,_,_,e=>by cases e
 | (k,y) :: fs,[],x,h,e=>by cases h.1
 | (k,y) :: fs,(k',w) :: gs,x,h,e=>by
  obtain ⟨h1,v,us,h2,h3,h4⟩:=h
  simp only [U6,List.cons.injEq] at h1 h2
  obtain ⟨rfl,h1⟩:=h1
  obtain ⟨rfl,rfl⟩:=h2
  rw [Vs] at e ⊢
  cases hk:f == k with
  | true=>rw [hk] at e;cases e;exact ⟨w,rfl,h3⟩
  | false=>rw [hk] at e;exact mG.look ⟨h1,h4⟩ e
theorem mG.none {κ:Type} [BEq κ] [LawfulBEq κ] {f:κ}:∀{fs:List (κ × PV)} {gs:List (κ × V)},mG K J H fs gs→fs.lookup f=none→gs.lookup f=none
 | [],[],_,_=>rfl
 | [],_ :: _,h,e=>by cases h.1
 | (k,y) :: fs,[],h,e=>by cases h.1
 | (k,y) :: fs,(k',w) :: gs,h,e=>by
  obtain ⟨h1,v,us,h2,h3,h4⟩:=h
  simp only [U6,List.cons.injEq] at h1 h2
  obtain ⟨rfl,h1⟩:=h1
  obtain ⟨rfl,rfl⟩:=h2
  rw [Vs] at e ⊢
  cases hk:f == k with
  | true=>rw [hk] at e;cases e
  | false=>rw [hk] at e;exact mG.none ⟨h1,h4⟩ e
end
section
variable {K:PySem.W.Frag} {J J':Hq} {H H':Hp} {p:Addr}
theorem JF {a p:Addr} {o:HQ} (r:Rep K J H) (h:J a=some o) (n:H p=none):a≠p:=by
 intro e;subst e
 have:=r _ _ h
 cases o with
 | lst xs=>obtain ⟨vs,h1,_⟩:=this;rw [n] at h1;cases h1
 | ins C fs=>obtain ⟨dx,gs,h1,_⟩:=this;rw [n] at h1;cases h1
 | dct kvs ep=>obtain ⟨gs,h1,_⟩:=this;rw [n] at h1;cases h1
 | tab=>have h1:H a=some (.ext (e_ a)):=this;rw [n] at h1;cases h1
 | dtp hs ks=>obtain ⟨xs,_,h1,_⟩:=this;rw [n] at h1;cases h1
theorem Rep.free (r:Rep K J H) (n:H p=none):J p=none:=by
 cases e:J p with
 | none=>rfl
 | some o=>exact absurd rfl (JF r e n)
theorem Ext.laid {o:HO} {u:HQ} (n:H p=none):Ext K J H (put J p u) (upd H p o):=by
 refine ⟨λa vs h=>(bL.new n o).tup h,λa o' z h _=>⟨?_,bL.new n o _ _ h⟩⟩
 have ne:a≠p:=by intro e;subst e;rw [n] at h;cases h
 rw [aw ne];exact z
theorem Rep.EN {J':Hq} {H':Hp} (e:Ext K J H J' H') (r:Rep K J H) (p:Addr) (q:∀a,a≠p→J' a=J a) (s:∀a o,a≠p→J a≠none→H a=some o→H' a=some o) (h:∀u,J' p=some u→Fj K J' H' p u):Rep K J' H':=λa o z=>by
 by_cases ep:a=p
 ·subst ep;exact h o z
 ·rw [q a ep] at z
  have t:=r a o z
  have jn:J a≠none:=by rw [z];exact λy=>nomatch y
  cases o with
  | lst xs=>obtain ⟨vs,h1,h2⟩:=t;exact ⟨vs,s _ _ ep jn h1,e.jM h2⟩
  | ins C fs=>obtain ⟨dx,gs,h1,h2⟩:=t;exact ⟨dx,gs,s _ _ ep jn h1,e.zx h2⟩
  | dct kvs eq=>obtain ⟨gs,h1,h2⟩:=t;exact ⟨gs,s _ _ ep jn h1,e.zx h2⟩
  | tab=>exact s _ _ ep jn (show H a=some (.ext (e_ a)) from t)
  | dtp hs ks=>obtain ⟨xs,h0,h1,h2⟩:=t;exact ⟨xs,h0,s _ _ ep jn h1,λx hx=>e.tup _ _ (h2 x hx)⟩
theorem Rep.F_ {xs:List PV} {vs:List V} (r:Rep K J H) (n:H p=none) (h:aU K J H xs vs):Rep K (put J p (.lst xs)) (upd H p (.lst vs)):=by
 have e:=Ext.laid (K:=K) (J:=J) (o:=.lst vs) (u:=.lst xs) n
 refine r.EN e p (λa ne=>aw ne) (λa o ne _ z=>by rw [aM ne];exact z) λu z=>?_
 rw [ax] at z;cases z
 exact ⟨vs,aH,e.jM h⟩
theorem Ext.wrote {xs ys:List PV} {ws vs:List V} (h:J p=some (.lst xs)) (k:H p=some (.lst ws)):Ext K J H (put J p (.lst ys)) (upd H p (.lst vs)):=by
 have sm:∀a u,(∀l,u≠HO.lst l)∨a≠p→Rd H a u→Rd (upd H p (.lst vs)) a u:=λa u d z=>by
  have ne:a≠p:=by
   rcases d with d | d
   ·intro e;subst e
    rcases z with z | ⟨o,z⟩
    ·rw [k] at z;cases z;exact d _ rfl
    ·rw [k] at z;cases z
   ·exact d
  rcases z with z | ⟨o,z⟩
  ·exact .inl (by rw [aM ne];exact z)
  ·exact .inr ⟨o,by rw [aM ne];exact z⟩
 refine ⟨λa vs' z=>?_,λa o z q _=>?_⟩
 ·rcases z with z | z
  ·exact .inl (sm a _ (.inl λl e=>nomatch e) z)
  ·exact .inr z
 ·have ne:a≠p:=by intro e;subst e;rw [h] at z;cases z
  exact ⟨by rw [aw ne];exact z,by rw [aM ne];exact q⟩
theorem Rep.wrote {xs ys:List PV} {ws vs:List V} (r:Rep K J H) (h:J p=some (.lst xs)) (k:H p=some (.lst ws)) (q:aU K J H ys vs):Rep K (put J p (.lst ys)) (upd H p (.lst vs)):=by
 have e:=Ext.wrote (K:=K) (ys:=ys) (vs:=vs) h k
 refine r.EN e p (λa ne=>aw ne) (λa o ne _ z=>by rw [aM ne];exact z) λu z=>?_
 rw [ax] at z;cases z
 exact ⟨vs,aH,e.jM q⟩
end
abbrev Sr:=List (Option PV)
abbrev dN:=Sr→Hq→(PV→Hq→Prop)→Prop
abbrev mI:=Sr→Hq→(Bool→Hq→Prop)→Prop
abbrev p_:=Sr→Hq→(List PV→Hq→Prop)→Prop
structure En where
 nx:Sr→Hq→Prop
 rt:PV→Hq→Prop
 bk:Sr→Hq→Prop:=λ_ _=>False
 ct:Sr→Hq→Prop:=λ_ _=>False
abbrev iQ:=En→Sr→Hq→Prop
structure mH (K:PySem.W.Frag) (J:Hq) (H:Hp) (τ:Sr) (σ:L2.St):Prop where
 len:τ.length=σ.length
 get:∀(i:Nat) (x:PV),τ[i]?=some (some x)→∃v,σ[i]?=some (some v)∧cH K J H x v
theorem mH.ext {K:PySem.W.Frag} {J J':Hq} {H H':Hp} {τ:Sr} {σ:L2.St} (r:mH K J H τ σ) (e:Ext K J H J' H'):mH K J' H' τ σ :=
 ⟨r.len,λi x h=>let ⟨v,a,b⟩:=r.get i x h;⟨v,a,e.rep b⟩⟩
theorem mH.set {K:PySem.W.Frag} {J:Hq} {H:Hp} {τ:Sr} {σ:L2.St} (r:mH K J H τ σ) {x:PV} {v:V} (i:Nat) (h:cH K J H x v):mH K J H (τ.set i (some x)) (σ.set i (some v)):=by
 refine ⟨by rw [We,We,r.len],λj y e=>?_⟩
 by_cases hj:i=j
 ·subst hj
  by_cases hl:i < τ.length
  ·rw [Vn hl] at e
   cases e
   exact ⟨v,Vn (by rw [← r.len];exact hl),h⟩
  ·rw [Vz (by rw [We];omega)] at e
   cases e
 ·rw [VC hj] at e ⊢
  exact r.get j y e
abbrev G2:=Hq × Hp
structure yg (K:PySem.W.Frag) (G:G2) (τ:Sr) (J:Hq) (σ:L2.St) (H:Hp):Prop where
 sl:mH K J H τ σ
 hp:Rep K J H
 ext:Ext K G.1 G.2 J H
section
variable (K:PySem.W.Frag) (G:G2)
def LE (t:dN):TE:=λσ H Q=>∃τ J Q2,yg K G τ J σ H∧t τ J Q2∧∀x J' v H',cH K J' H' x v→Rep K J' H'→Ext K J H J' H'→Q2 x J'→Q v H'
def LT (t:mI):TT:=λσ H Q=>∃τ J Q2,yg K G τ J σ H∧t τ J Q2∧∀b J' H',Rep K J' H'→Ext K J H J' H'→Q2 b J'→Q b H'
def LA (t:p_):TA:=λσ H Q=>∃τ J Q2,yg K G τ J σ H∧t τ J Q2∧∀xs J' vs H',aU K J' H' xs vs→Rep K J' H'→Ext K J H J' H'→Q2 xs J'→Q vs H'
structure Goes (J:Hq) (H:Hp) (D2:En) (D:Ends):Prop where
 nx:∀τ J' σ H',mH K J' H' τ σ→Rep K J' H'→Ext K J H J' H'→D2.nx τ J'→D.nx σ H'
 rt:∀x J' v H',cH K J' H' x v→Rep K J' H'→Ext K J H J' H'→D2.rt x J'→D.rt v H'
 bk:∀τ J' σ H',mH K J' H' τ σ→Rep K J' H'→Ext K J H J' H'→D2.bk τ J'→D.bk σ H'
 ct:∀τ J' σ H',mH K J' H' τ σ→Rep K J' H'→Ext K J H J' H'→D2.ct τ J'→D.ct σ H'
def LS (t:iQ):TS:=λD σ H=>∃τ J D2,yg K G τ J σ H∧t D2 τ J∧Goes K J H D2 D
end
theorem Goes.ext {K:PySem.W.Frag} {J J':Hq} {H H':Hp} {D2:En} {D:Ends} (g:Goes K J H D2 D) (e:Ext K J H J' H'):Goes K J' H' D2 D :=
 ⟨λτ J1 σ H1 a b c=>g.nx τ J1 σ H1 a b (e.trans c),λx J1 v H1 a b c=>g.rt x J1 v H1 a b (e.trans c),λτ J1 σ H1 a b c=>g.bk τ J1 σ H1 a b (e.trans c),λτ J1 σ H1 a b c=>g.ct τ J1 σ H1 a b (e.trans c)⟩
theorem yg.go {K:PySem.W.Frag} {G:G2} {τ:Sr} {J J':Hq} {σ:L2.St} {H H':Hp} (a:yg K G τ J σ H) (r:Rep K J' H') (e:Ext K J H J' H'):yg K G τ J' σ H':=⟨a.sl.ext e,r,a.ext.trans e⟩
structure RE (X:Cx) (G:G2) (e:Expr) (t:dN):Prop where
 run:L2.PE X e (LE X.K G t)
structure RT (X:Cx) (G:G2) (e:Expr) (t:mI):Prop where
 run:L2.PT X e (LT X.K G t)
structure RW (X:Cx) (G:G2) (e:Expr) (t:mI):Prop where
 run:L2.PW X e (LT X.K G t)
structure RA (X:Cx) (G:G2) (es:List Expr) (t:p_):Prop where
 run:L2.PA X es (LA X.K G t)
structure RS (X:Cx) (G:G2) (st:Stmt) (t:iQ):Prop where
 run:L2.PS X st (LS X.K G t)
structure RB (X:Cx) (G:G2) (st:List Stmt) (t:iQ):Prop where
 run:L2.t_ X st (LS X.K G t)
theorem l9 {X:Cx} {e:Expr} {t t':TE} (h:L2.PE X e t) (k:∀σ H Q,t' σ H Q→t σ H Q):L2.PE X e t':=λpins s σ H Q I q=>h pins s σ H Q I (k _ _ _ q)
theorem RU {X:Cx} {e:Expr} {t t':TT} (h:L2.PT X e t) (k:∀σ H Q,t' σ H Q→t σ H Q):L2.PT X e t':=λpins s σ H Q I q=>h pins s σ H Q I (k _ _ _ q)
theorem Ur {X:Cx} {e:Expr} {t t':TT} (h:L2.PW X e t) (k:∀σ H Q,t' σ H Q→t σ H Q):L2.PW X e t':=λwh pins s σ H Q I q=>h wh pins s σ H Q I (k _ _ _ q)
theorem S8 {X:Cx} {e:List Expr} {t t':TA} (h:L2.PA X e t) (k:∀σ H Q,t' σ H Q→t σ H Q):L2.PA X e t':=λpos pins s σ H Q I q=>h pos pins s σ H Q I (k _ _ _ q)
theorem zo {X:Cx} {e:Stmt} {t t':TS} (h:L2.PS X e t) (k:∀D σ H,t' D σ H→t D σ H):L2.PS X e t':=λpins s σ H D I q=>h pins s σ H D I (k _ _ _ q)
theorem S9 {X:Cx} {e:List Stmt} {t t':TS} (h:L2.t_ X e t) (k:∀D σ H,t' D σ H→t D σ H):L2.t_ X e t':=λpins s σ H D I q=>h pins s σ H D I (k _ _ _ q)
end Ov
namespace Ov
open PySem PySem.Spec PyProof.Rows
open L2 (V HO Hp Inv Cx VK XK TE TT TA TS TG rS TI TO l7 Ends yv Loc Gl Rd RelV Vals fI Ab cq rK vj qL l6 R2 upd aH aM dq g8 Sp uc It bL dZ b9 Passes qK aK Meth Mk Binds aO cg av dF g6)
def gZ {α:Sort _} (_:α):Type:=Unit
def dp {α:Sort _} {k:α}:gZ k:=()
def xf {α:Type} (o:Option α) (k:α→Prop) (_:gZ k:=dp):Prop:=match o with | some x=>k x | none=>False
def OO (o:Option (Option PV)) (k:PV→Prop) (_:gZ k:=dp):Prop:=match o with | some (some x)=>k x | _=>False
def EW (x:PV) (k:Int→Prop) (_:gZ k:=dp):Prop:=match x with | .int i=>k i | _=>False
def Lz (x:PV) (k:Bool→Prop) (_:gZ k:=dp):Prop:=match x with | .bl i=>k i | _=>False
def LC (x:PV) (k:Str→Prop) (_:gZ k:=dp):Prop:=match x with | .str i=>k i | _=>False
def Ep (x:PV) (k:Addr→Prop) (_:gZ k:=dp):Prop:=match x with | .ref a=>k a | _=>False
def OP (x:PV) (k:List PV→Prop) (_:gZ k:=dp):Prop:=match x with | .tup a=>k a | _=>False
def Eo (xs:List PV) (k:PV→Prop) (_:gZ k:=dp):Prop:=match xs with | [x]=>k x | _=>False
def RP (o:Option HQ) (k:List PV→Prop) (_:gZ k:=dp):Prop:=match o with | some (.lst xs)=>k xs | _=>False
def Ij (o:Option HQ) (k:List (Str × PV)→Nat→Prop) (_:gZ k:=dp):Prop:=match o with | some (.dct xs e)=>k xs e | _=>False
def ND (C:Addr) (o:Option HQ) (k:List (Str × PV)→Prop) (_:gZ k:=dp):Prop:=match o with | some (.ins C' fs)=>if C'=C then k fs else False | _=>False
def S6 (xs:List PV) (k:Prop) (_:gZ k:=dp):Prop:=match xs with | []=>k | _=>False
def NF (xs:List PV) (k:PV→List PV→Prop) (_:gZ k:=dp):Prop:=match xs with | x :: r=>k x r | []=>False
def NJ (xs:List PV) (k:PV→PV→Prop) (_:gZ k:=dp):Prop:=match xs with | [x,y]=>k x y | _=>False
theorem Qa {k:Prop} {d:gZ k}:S6 [] k d=k:=rfl
theorem NG {x:PV} {r:List PV} {k:PV→List PV→Prop} {d:gZ k}:NF (x :: r) k d=k x r:=rfl
theorem Qb {x y:PV} {k:PV→PV→Prop} {d:gZ k}:NJ [x,y] k d=k x y:=rfl
theorem NI {xs:List PV} {k:Prop} {d:gZ k} (h:S6 xs k d):xs=[]∧k:=by cases xs with | nil=>exact ⟨rfl,h⟩ | cons x r=>exact h.elim
theorem JN {xs:List PV} {k:PV→List PV→Prop} {d:gZ k} (h:NF xs k d):∃x r,xs=x :: r∧k x r:=by cases xs with | nil=>exact h.elim | cons x r=>exact ⟨_,_,rfl,h⟩
theorem Bg {xs:List PV} {k:PV→PV→Prop} {d:gZ k} (h:NJ xs k d):∃x y,xs=[x,y]∧k x y:=by
 unfold NJ at h
 split at h
 ·exact ⟨_,_,rfl,h⟩
 ·exact h.elim
theorem Qd {α:Type} {x:α} {k:α→Prop} {d:gZ k}:xf (some x) k d=k x:=rfl
theorem P6 {x:PV} {k:PV→Prop} {d:gZ k}:OO (some (some x)) k d=k x:=rfl
theorem P9 {x:Int} {k:Int→Prop} {d:gZ k}:EW (.int x) k d=k x:=rfl
theorem P7 {x:Bool} {k:Bool→Prop} {d:gZ k}:Lz (.bl x) k d=k x:=rfl
theorem Qe {x:Str} {k:Str→Prop} {d:gZ k}:LC (.str x) k d=k x:=rfl
theorem Qc {x:Addr} {k:Addr→Prop} {d:gZ k}:Ep (.ref x) k d=k x:=rfl
theorem Qf {x:List PV} {k:List PV→Prop} {d:gZ k}:OP (.tup x) k d=k x:=rfl
theorem P5 {x:PV} {k:PV→Prop} {d:gZ k}:Eo [x] k d=k x:=rfl
theorem P_ {x:List PV} {k:List PV→Prop} {d:gZ k}:RP (some (.lst x)) k d=k x:=rfl
theorem P8 {x:List (Str × PV)} {e:Nat} {k:List (Str × PV)→Nat→Prop} {d:gZ k}:Ij (some (.dct x e)) k d=k x e:=rfl
theorem LB {C:Addr} {x:List (Str × PV)} {k:List (Str × PV)→Prop} {d:gZ k}:ND C (some (.ins C x)) k d=k x:=if_pos rfl
theorem fe {α:Type} {o:Option α} {k:α→Prop} {d:gZ k} (h:xf o k d):∃x,o=some x∧k x:=by cases o with | none=>exact h.elim | some x=>exact ⟨x,rfl,h⟩
theorem kM {α:Type} {o:Option α} {x:α} {k:α→Prop} (e:o=some x) (h:k x):xf o k:=by rw [e];exact h
theorem GI {o:Option (Option PV)} {k:PV→Prop} {d:gZ k} (h:OO o k d):∃x,o=some (some x)∧k x:=by
 unfold OO at h
 split at h
 ·exact ⟨_,rfl,h⟩
 ·exact h.elim
theorem NC {o:Option (Option PV)} {x:PV} {k:PV→Prop} (e:o=some (some x)) (h:k x):OO o k:=by rw [e];exact h
theorem ip {x:PV} {k:Int→Prop} {d:gZ k} (h:EW x k d):∃i,x=.int i∧k i:=by cases x <;> first | exact ⟨_,rfl,h⟩ | exact False.elim h
theorem pF {x:PV} {k:Bool→Prop} {d:gZ k} (h:Lz x k d):∃i,x=.bl i∧k i:=by cases x <;> first | exact ⟨_,rfl,h⟩ | exact False.elim h
theorem pG {x:PV} {k:Str→Prop} {d:gZ k} (h:LC x k d):∃i,x=.str i∧k i:=by cases x <;> first | exact ⟨_,rfl,h⟩ | exact False.elim h
theorem gI {x:PV} {k:Addr→Prop} {d:gZ k} (h:Ep x k d):∃i,x=.ref i∧k i:=by cases x <;> first | exact ⟨_,rfl,h⟩ | exact False.elim h
theorem GJ {x:PV} {k:List PV→Prop} {d:gZ k} (h:OP x k d):∃i,x=.tup i∧k i:=by cases x <;> first | exact ⟨_,rfl,h⟩ | exact False.elim h
theorem jE {xs:List PV} {k:PV→Prop} {d:gZ k} (h:Eo xs k d):∃x,xs=[x]∧k x:=by
 unfold Eo at h
 split at h
 ·exact ⟨_,rfl,h⟩
 ·exact h.elim
theorem NH {o:Option HQ} {k:List PV→Prop} {d:gZ k} (h:RP o k d):∃x,o=some (.lst x)∧k x:=by
 unfold RP at h
 split at h
 ·exact ⟨_,rfl,h⟩
 ·exact h.elim
theorem mY {o:Option HQ} {k:List (Str × PV)→Nat→Prop} {d:gZ k} (h:Ij o k d):∃x e,o=some (.dct x e)∧k x e:=by
 unfold Ij at h
 split at h
 ·exact ⟨_,_,rfl,h⟩
 ·exact h.elim
theorem Bf {C:Addr} {o:Option HQ} {k:List (Str × PV)→Prop} {d:gZ k} (h:ND C o k d):∃x,o=some (.ins C x)∧k x:=by
 unfold ND at h
 split at h
 ·split at h
  ·rename_i e;subst e;exact ⟨_,rfl,h⟩
  ·exact h.elim
 ·exact h.elim
theorem Bh {x:PV} {xs:List PV} {k:List PV→Prop} (e:x=.tup xs) (h:k xs):OP x k:=by rw [e];exact h
theorem mU {x:PV} {b:Bool} {k:Bool→Prop} (e:x=.bl b) (h:k b):Lz x k:=by rw [e];exact h
theorem mV {C:Addr} {o:Option HQ} {x:List (Str × PV)} {k:List (Str × PV)→Prop} (e:o=some (.ins C x)) (h:k x):ND C o k:=by rw [e,LB];exact h
section
variable {X:Cx} {G:G2} {a b c e o:Expr} {es rest:List Expr} {ta tb te tc to:dN} {tA tB':mI} {t:p_} {pos px p p2 apos cpos:Pos} {x:Str} {i j:Nat}
def jL (i:Nat):dN:=λτ J Q=>OO τ[i]? λx=>Q x J
theorem rv (i:Nat) {x:Str} {pos:Pos} (hN:X.N[i]?=some x:=by rfl) (hv:yv X.env.scope x:=by first | exact Or.inl rfl | exact Or.inr (Or.inl rfl) | exact Or.inr (Or.inr rfl)) (hd:(x == ("__debug__":Str))=false:=by decide)
  (hcd:(x == ("__classdict__":Str))=false:=by decide):RE X G (.Name x pos) (jL i) :=
 ⟨l9 (L2.Bp hN hv hd hcd) λσ H Q ⟨τ,J,Q2,a2,hq,k⟩=>let ⟨y,ey,q⟩:=GI hq;let ⟨v,e1,r⟩:=a2.sl.get i y ey;⟨v,e1,k y J v H r a2.hp .refl q⟩⟩
def rC (x:PV):dN:=λ_ J Q=>Q x J
theorem ag {i:Int} {j pos}:RE X G (.Constant (.int i) j pos) (rC (.int i)):=⟨l9 L2.aT λσ H Q ⟨τ,J,Q2,a2,q,k⟩=>k (.int i) J _ H rfl a2.hp .refl q⟩
theorem ed {b:Bool} {j pos}:RE X G (.Constant (.bool b) j pos) (rC (.bl b)):=⟨l9 L2.zk λσ H Q ⟨τ,J,Q2,a2,q,k⟩=>k (.bl b) J _ H rfl a2.hp .refl q⟩
theorem k4 {j pos}:RE X G (.Constant .none j pos) (rC .non):=⟨l9 L2.Bl λσ H Q ⟨τ,J,Q2,a2,q,k⟩=>k .non J _ H rfl a2.hp .refl q⟩
theorem bF {x:Str} {j pos}:RE X G (.Constant (.str x) j pos) (rC (.str x)):=⟨l9 L2.pI λσ H Q ⟨τ,J,Q2,a2,q,k⟩=>k (.str x) J _ H rfl a2.hp .refl q⟩
theorem gd {v:V} {u:Value} (y:PV) (hg:Gl X x) (hm:X.mg x=some u) (r:RelV v u) (hr:∀J H,cH X.K J H y v) (hd:(x == ("__debug__":Str))=false:=by decide):RE X G (.Name x pos) (rC y) :=
 ⟨l9 (L2.dH hg hm r hd) λσ H Q ⟨τ,J,Q2,a2,q,k⟩=>k y J v H (hr J H) a2.hp .refl q⟩
theorem oC {n:String} (hg:Gl X x) (hm:X.mg x=none) (hv:bootBuiltins x=some (.type n)) (hn:x≠"__name__":=by decide) (hd:(x == ("__debug__":Str))=false:=by decide):RE X G (.Name x pos) (rC (.ty n)) :=
 ⟨l9 (L2.qW (v:=.ty n) hg hm hv rfl hn hd) λσ H Q ⟨τ,J,Q2,a2,q,k⟩=>k (.ty n) J _ H rfl a2.hp .refl q⟩
abbrev nG:=PV→PV→Hq→(PV→Hq→Prop)→Prop
abbrev OY:=PV→Hq→(PV→Hq→Prop)→Prop
abbrev AD:=List PV→Hq→(PV→Hq→Prop)→Prop
def Kn (K:PySem.W.Frag) (J:Hq) (H:Hp) (Q2:PV→Hq→Prop) (Q:VK):Prop:=∀z J' u H',cH K J' H' z u→Rep K J' H'→Ext K J H J' H'→Q2 z J'→Q u H'
def LR (K:PySem.W.Frag) (r:R2) (q:nG):Prop:=∀J H x y v w Q2 Q,cH K J H x v→cH K J H y w→Rep K J H→q x y J Q2→Kn K J H Q2 Q→r v w H Q
def UG (K:PySem.W.Frag) (r:V→Hp→VK→Prop) (q:OY):Prop:=∀J H x v Q2 Q,cH K J H x v→Rep K J H→q x J Q2→Kn K J H Q2 Q→r v H Q
def T6 (K:PySem.W.Frag) (r:List V→Hp→VK→Prop) (q:AD):Prop:=∀J H xs vs Q2 Q,aU K J H xs vs→Rep K J H→q xs J Q2→Kn K J H Q2 Q→r vs H Q
def nu (X:Cx) (f:Value→Value→Sem Value) (q:nG):Prop:=∃r,fI X f r∧LR X.K r q
def T9 (X:Cx) (f:Value→Sem Value) (q:OY):Prop:=∃r,Ab X f r∧UG X.K r q
def R7 (X:Cx) (q:nG):Prop:=∃r,rK X r∧LR X.K r q
def Ir (X:Cx) (f:Value) (q:AD):Prop:=∃r,cq X f r∧T6 X.K r q
def yh (q:nG) (ta tb:dN):dN:=λτ J Q=>ta τ J λx J1=>tb τ J1 λy J2=>q x y J2 Q
def Uz (q:OY) (ta:dN):dN:=λτ J Q=>ta τ J λx J1=>q x J1 Q
theorem qS {r:R2} {q:nG} (lr:LR X.K r q):∀σ H Q,LE X.K G (yh q ta tb) σ H Q→L2.HU r (LE X.K G ta) (LE X.K G tb) σ H Q:=λσ H Q ⟨τ,J,Q2,a2,h,k⟩ =>
 ⟨τ,J,_,a2,h,λx J1 v H1 rx r1 e1 q1=>⟨τ,J1,_,a2.go r1 e1,q1,λy J2 w H2 ry r2 e2 q2 =>
  lr J2 H2 x y v w Q2 Q (e2.rep rx) ry r2 q2 λz J' u H' rz rr ee qq=>k z J' u H' rz rr ((e1.trans e2).trans ee) qq⟩⟩
theorem aG {op:Operator} {q:nG} (ho:nu X (binaryOp op) q) (ha:RE X G a ta) (hb:RE X G b tb):RE X G (.BinOp a op b pos) (yh q ta tb):=by
 obtain ⟨r,h,lr⟩:=ho
 exact ⟨l9 (L2.bH h ha.run hb.run) (qS lr)⟩
theorem vM {op:UnaryOp} {q:OY} (ho:T9 X (unaryOp op) q) (ha:RE X G a ta):RE X G (.UnaryOp op a pos) (Uz q ta):=by
 obtain ⟨r,h,lr⟩:=ho
 exact ⟨l9 (L2.CC h ha.run) λσ H Q ⟨τ,J,Q2,a2,h,k⟩=>⟨τ,J,_,a2,h,λx J1 v H1 rx r1 e1 q1 =>
  lr J1 H1 x v Q2 Q rx r1 q1 λz J' u H' rz rr ee qq=>k z J' u H' rz rr (e1.trans ee) qq⟩⟩
theorem aq {q:nG} (hr:R7 X q) (ha:RE X G a ta) (hb:RE X G b tb) (hs:dZ b:=by exact λ_ _=>rfl):RE X G (.Subscript a b pos) (yh q ta tb):=by
 obtain ⟨r,h,lr⟩:=hr
 exact ⟨l9 (L2.cD h ha.run hb.run hs) (qS lr)⟩
theorem eQ {op:CmpOp} {q:nG} (ho:nu X (compareOp op) q) (ha:RE X G a ta) (hb:RE X G b tb) (hm:behindInMarks op b=false:=by first | exact L2.fw _ | with_unfolding_all rfl):RE X G (.Compare a [op] [b] pos) (yh q ta tb):=by
 obtain ⟨r,h,lr⟩:=ho
 exact ⟨l9 (L2.qX h ha.run hb.run hm) (qS lr)⟩
def rB (t:dN):mI:=λτ J Q=>t τ J λx J1=>Lz x λk=>Q k J1
theorem aB {op:CmpOp} {q:nG} (ho:nu X (compareOp op) q) (ha:RE X G a ta) (hb:RE X G b tb) (hm:behindInMarks op b=false:=by first | exact L2.fw _ | with_unfolding_all rfl):RT X G (.Compare a [op] [b] pos) (rB (yh q ta tb)):=by
 obtain ⟨r,h,lr⟩:=ho
 refine ⟨RU (L2.d7 h ha.run hb.run hm) λσ H Q ⟨τ,J,Q2,a2,h,k⟩=>?_⟩
 refine qS lr σ H _ ⟨τ,J,_,a2,h,λz J' u H' rz rr ee qq=>?_⟩
 obtain ⟨b,rfl,q⟩:=pF qq
 exact ⟨b,rz,k b J' H' rr ee q⟩
theorem bX (h:RE X G e te) (he:∀whole,isTrue e X.env whole=(do let v ← whole;standAt e.pos;holding [v] (truthy v)):=by intro _;rfl):RT X G e (rB te) :=
 ⟨RU (L2.Bu h.run he) λσ H Q ⟨τ,J,Q2,a2,h,k⟩=>⟨τ,J,_,a2,h,λz J' u H' rz rr ee qq=>by obtain ⟨b,eb,q⟩:=pF qq;subst eb;exact ⟨b,rz,k b J' H' rr ee q⟩⟩⟩
def ye (J:Hq):PV→Option Bool
 | .non=>some false
 | .bl b=>some b
 | .int i=>some (i != 0)
 | .tup xs=>some (!xs.isEmpty)
 | .fl xs=>some (!xs.isEmpty)
 | .ref a=>match J a with
  | some (.lst xs)=>some (!xs.isEmpty)
  | some (.dct kvs _)=>some (!kvs.isEmpty)
  | _=>none
 | _=>none
theorem hZ {α β:Type} {xs:List α} {ys:List β} (h:xs.length=ys.length):xs.isEmpty=ys.isEmpty:=by cases xs <;> cases ys <;> simp_all
theorem K2 {K:PySem.W.Frag} {J:Hq} {H:Hp} {x:PV} {v:V} {k:Bool} (r:cH K J H x v) (hp:Rep K J H) (h:ye J x=some k):L2.MG K v H k:=by
 cases x with
 | non=>cases r;cases h;rfl
 | bl b=>cases r;cases h;rfl
 | int i=>cases r;cases h;rfl
 | str s=>cases h
 | ty n=>cases h
 | tup xs=>obtain ⟨a,vs,rfl,h1,h2⟩:=r;cases h;exact .inr (.inl ⟨vs,h1,by rw [hZ h2.length]⟩)
 | fl xs=>obtain ⟨a,vs,rfl,h1,h2⟩:=r;cases h;exact .inl ⟨vs,h1.sq,by rw [hZ h2.length]⟩
 | ref a =>
  cases r
  unfold ye at h
  dsimp only at h
  cases e:J a with
  | none=>rw [e] at h;cases h
  | some o =>
   rw [e] at h
   have z:=hp a o e
   cases o with
   | lst xs=>obtain ⟨vs,h1,h2⟩:=z;cases h;exact .inl ⟨vs,.inl (.inl h1),by rw [hZ h2.length]⟩
   | ins C fs=>cases h
   | tab=>cases h
   | dtp hs ks=>cases h
   | dct kvs ep =>
    obtain ⟨gs,h1,h2⟩:=z;cases h
    refine .inr (.inr ⟨gs,ep,h1,?_⟩)
    have:=congrArg V0 h2.1
    simp only [UZ] at this
    rw [hZ this]
def Q4 (te:dN):mI:=λτ J Q=>te τ J λx J1=>xf (ye J1 x) λk=>Q k J1
theorem Hk (h:RE X G e te) (he:∀whole,isTrue e X.env whole=(do let v ← whole;standAt e.pos;holding [v] (truthy v)):=by intro _;rfl):RT X G e (Q4 te) :=
 ⟨RU (L2.G1 h.run he) λσ H Q ⟨τ,J,Q2,a2,h,k⟩=>⟨τ,J,_,a2,h,λz J' u H' rz rr ee qq=>let ⟨b,eb,q⟩:=fe qq;⟨b,K2 rz rr eb,k b J' H' rr ee q⟩⟩⟩
def Km (t u:mI):mI:=λτ J Q=>t τ J λc J1=>if c=true then u τ J1 Q else Q false J1
def Ti (t u:mI):mI:=λτ J Q=>t τ J λc J1=>if c=true then Q true J1 else u τ J1 Q
def QU (t:mI):mI:=λτ J Q=>t τ J λc J1=>Q (!c) J1
theorem dj (ha:RT X G a tA):RT X G (.UnaryOp .Not a pos) (QU tA):=⟨RU (L2.Bt ha.run) λσ H Q ⟨τ,J,Q2,a2,h,k⟩=>⟨τ,J,_,a2,h,λb J' H' rr ee q=>k _ J' H' rr ee q⟩⟩
theorem cF (ha:RT X G a tA):RW X G (.BoolOp .And [a] pos) tA:=⟨L2.q9 ha.run⟩
theorem gQ (ha:RT X G a tA):RW X G (.BoolOp .Or [a] pos) tA:=⟨L2.xw ha.run⟩
theorem Fq {σ:L2.St} {H:Hp} {Q:Bool→Hp→Prop}:LT X.K G (Km tA tB') σ H Q→L2.HM (LT X.K G tA) (LT X.K G tB') σ H Q:=λ⟨τ,J,Q2,a2,h,k⟩ =>
 ⟨τ,J,_,a2,h,λb J' H' rr ee q=>by
  cases b with
  | true=>simp only [if_true] at q ⊢;exact ⟨τ,J',Q2,a2.go rr ee,q,λb J2 H2 r2 e2 q2=>k b J2 H2 r2 (ee.trans e2) q2⟩
  | false=>simp only [Vd,if_false] at q ⊢;exact k _ J' H' rr ee q⟩
theorem JT {σ:L2.St} {H:Hp} {Q:Bool→Hp→Prop}:LT X.K G (Ti tA tB') σ H Q→L2.Ri (LT X.K G tA) (LT X.K G tB') σ H Q:=λ⟨τ,J,Q2,a2,h,k⟩ =>
 ⟨τ,J,_,a2,h,λb J' H' rr ee q=>by
  cases b with
  | false=>simp only [Vd,if_false] at q ⊢;exact ⟨τ,J',Q2,a2.go rr ee,q,λb J2 H2 r2 e2 q2=>k b J2 H2 r2 (ee.trans e2) q2⟩
  | true=>simp only [if_true] at q ⊢;exact k _ J' H' rr ee q⟩
theorem dk (ha:RT X G a tA) (hb:RW X G (.BoolOp .And (b :: rest) pos) tB'):RW X G (.BoolOp .And (a :: b :: rest) pos) (Km tA tB'):=⟨Ur (L2.xu ha.run hb.run) λσ H Q h=>Fq h⟩
theorem k8 (ha:RT X G a tA) (hb:RW X G (.BoolOp .Or (b :: rest) pos) tB'):RW X G (.BoolOp .Or (a :: b :: rest) pos) (Ti tA tB'):=⟨Ur (L2.CH ha.run hb.run) λσ H Q h=>JT h⟩
theorem cP (h:RW X G e tA):RT X G e tA:=⟨h.run.pt⟩
def LZ (ta tb:dN):dN:=λτ J Q=>ta τ J λx J1=>Lz x λc=>if c=true then tb τ J1 Q else Q (.bl false) J1
def QV (ta tb:dN):dN:=λτ J Q=>ta τ J λx J1=>Lz x λc=>if c=true then Q (.bl true) J1 else tb τ J1 Q
def L7 (ta:dN):dN:=λτ J Q=>ta τ J λx J1=>Lz x λc=>Q (.bl (!c)) J1
theorem xA {op} (h:RE X G a ta):RE X G (.BoolOp op [a] pos) ta:=⟨L2.Bo h.run⟩
theorem Bz (ha:RE X G a ta) (hb:RE X G (.BoolOp .And (b :: rest) pos) tb):RE X G (.BoolOp .And (a :: b :: rest) pos) (LZ ta tb):=⟨l9 (L2.Bk ha.run hb.run) λσ H Q ⟨τ,J,Q2,a2,h,k⟩ =>
 ⟨τ,J,_,a2,h,λx J' v H' rx rr ee qq=>by
  obtain ⟨c,ec,q⟩:=pF qq
  subst ec
  refine ⟨c,rx,?_⟩
  cases c with
  | true=>simp only [if_true] at q ⊢;exact ⟨τ,J',Q2,a2.go rr ee,q,λz J2 u H2 rz r2 e2 q2=>k z J2 u H2 rz r2 (ee.trans e2) q2⟩
  | false=>simp only [Vd,if_false] at q ⊢;exact k (.bl false) J' _ H' rfl rr ee q⟩⟩
theorem Q9 (ha:RE X G a ta) (hb:RE X G (.BoolOp .Or (b :: rest) pos) tb):RE X G (.BoolOp .Or (a :: b :: rest) pos) (QV ta tb):=⟨l9 (L2.GY ha.run hb.run) λσ H Q ⟨τ,J,Q2,a2,h,k⟩ =>
 ⟨τ,J,_,a2,h,λx J' v H' rx rr ee qq=>by
  obtain ⟨c,ec,q⟩:=pF qq
  subst ec
  refine ⟨c,rx,?_⟩
  cases c with
  | false=>simp only [Vd,if_false] at q ⊢;exact ⟨τ,J',Q2,a2.go rr ee,q,λz J2 u H2 rz r2 e2 q2=>k z J2 u H2 rz r2 (ee.trans e2) q2⟩
  | true=>simp only [if_true] at q ⊢;exact k (.bl true) J' _ H' rfl rr ee q⟩⟩
theorem N7 (ha:RE X G a ta):RE X G (.UnaryOp .Not a pos) (L7 ta):=⟨l9 (L2.Bn ha.run) λσ H Q ⟨τ,J,Q2,a2,h,k⟩ =>
 ⟨τ,J,_,a2,h,λx J' v H' rx rr ee qq=>by obtain ⟨c,ec,q⟩:=pF qq;subst ec;exact ⟨c,rx,k (.bl (!c)) J' _ H' rfl rr ee q⟩⟩⟩
def Uv (t:mI) (ta tb:dN):dN:=λτ J Q=>t τ J λc J1=>if c=true then ta τ J1 Q else tb τ J1 Q
theorem Q8 (hc:RT X G c tA) (ha:RE X G a ta) (hb:RE X G b tb):RE X G (.IfExp c a b pos) (Uv tA ta tb):=⟨l9 (L2.sT hc.run ha.run hb.run) λσ H Q ⟨τ,J,Q2,a2,h,k⟩ =>
 ⟨τ,J,_,a2,h,λc J' H' rr ee q=>by
  cases c with
  | true=>simp only [if_true] at q ⊢;exact ⟨τ,J',Q2,a2.go rr ee,q,λz J2 u H2 rz r2 e2 q2=>k z J2 u H2 rz r2 (ee.trans e2) q2⟩
  | false=>simp only [Vd,if_false] at q ⊢;exact ⟨τ,J',Q2,a2.go rr ee,q,λz J2 u H2 rz r2 e2 q2=>k z J2 u H2 rz r2 (ee.trans e2) q2⟩⟩⟩
def uX:p_:=λ_ J Q=>Q [] J
def kZ (ta:dN) (tr:p_):p_:=λτ J Q=>ta τ J λx J1=>tr τ J1 λxs J2=>Q (x :: xs) J2
theorem ah:RA X G [] uX:=⟨S8 L2.bj λσ H Q ⟨τ,J,Q2,a2,h,k⟩=>k [] J [] H rfl a2.hp .refl h⟩
theorem af (ha:RE X G e te) (hr:RA X G es t) (hs:starEach (e :: es) X.env=(false,eval e X.env) :: starEach es X.env:=by rfl):RA X G (e :: es) (kZ te t) :=
 ⟨S8 (L2.aA ha.run hr.run hs) λσ H Q ⟨τ,J,Q2,a2,h,k⟩=>⟨τ,J,_,a2,h,λx J' v H' rx rr ee q=>⟨τ,J',_,a2.go rr ee,q,λxs J2 vs H2 rs r2 e2 q2=>k (x :: xs) J2 (v :: vs) H2 ⟨v,vs,rfl,e2.rep rx,rs⟩ r2 (ee.trans e2) q2⟩⟩⟩
def vP:V→PV
 | .non=>.non | .bl b=>.bl b | .int i=>.int i | .str x=>.str x | _=>.non
theorem tm {K:PySem.W.Frag} {J:Hq} {H:Hp}:∀{es:List Expr} {vs:List V},es.map wy=vs.map some→aU K J H (vs.map vP) vs
 | [],[],_=>rfl
 | [],_ :: _,h=>by cases h
 | _ :: _,[],h=>by cases h
 | e :: es,v :: vs,h=>by
  rw [U6,U6] at h
  injection h with h1 h2
  refine ⟨v,vs,rfl,?_,tm h2⟩
  cases e with
  | Constant c j pos =>
   cases c with
   | int i=>cases h1;rfl
   | str x=>cases h1;rfl
   | bool b=>cases h1;rfl
   | _=>cases h1
  | _=>cases h1
theorem sZ {es:List Expr} (vs:List V) (h:es.map wy=vs.map some) (xs:List PV) (hx:vs.map vP=xs):RA X G es (λ_ J Q=>Q xs J) :=
 ⟨S8 (sQ vs h) λσ H Q ⟨τ,J,Q2,a2,q,k⟩=>k _ J _ H (by rw [← hx];exact tm h) a2.hp .refl q⟩
def Q6 (t:p_):dN:=λτ J Q=>t τ J λxs J1=>xs.length≤sizeLine∧Q (.tup xs) J1
theorem cE {x1} (h:RA X G es t):RE X G (.Tuple es x1 pos) (Q6 t):=⟨l9 (L2.sU h.run) λσ H Q ⟨τ,J,Q2,a2,h,k⟩=>⟨τ,J,_,a2,h,λxs J' vs H' rs rr ee ⟨hl,q⟩ =>
 ⟨by rw [← rs.length];exact hl,λp hp=>by
  have sm:=bL.new hp (.tup vs)
  have e2:=Ext.same (K:=X.K) (J:=J') sm
  exact k (.tup xs) J' (.ref p) _ ⟨p,vs,rfl,.inl (.inl aH),e2.jM rs⟩ (rr.same sm) (ee.trans e2) q⟩⟩⟩
def QR (t:p_):dN:=λτ J Q=>t τ J λxs J1=>xs.length≤sizeLine∧∀p,J1 p=none→Q (.ref p) (put J1 p (.lst xs))
theorem mZ (h:RA X G es t):RE X G (.List es pos) (QR t):=⟨l9 (L2.jG h.run) λσ H Q ⟨τ,J,Q2,a2,h,k⟩=>⟨τ,J,_,a2,h,λxs J' vs H' rs rr ee ⟨hl,q⟩ =>
 ⟨by rw [← rs.length];exact hl,λp hp=>k (.ref p) _ (.ref p) _ rfl (rr.F_ hp rs) (ee.trans (.laid hp)) (q p (rr.free hp))⟩⟩⟩
def Uu (t:p_):dN:=λτ J Q=>t τ J λxs J1=>xs.length≤sizeLine∧Q (.fl xs) J1
theorem sE {K:PySem.W.Frag} {J:Hq} {H:Hp} {xs:List PV} {vs:List V} {p:Addr} (rr:Rep K J H) (rs:aU K J H xs vs) (hp:H p=none):cH K J (upd H p (.lst vs)) (.fl xs) (.ref p)∧Rep K J (upd H p (.lst vs))∧Ext K J H J (upd H p (.lst vs)):=by
 have sm:=bL.new hp (.lst vs)
 have e2:=Ext.same (K:=K) (J:=J) sm
 exact ⟨⟨p,vs,rfl,.inl ⟨rr.free hp,.inl aH⟩,e2.jM rs⟩,rr.same sm,e2⟩
theorem j8 (h:RA X G es t):RE X G (.List es pos) (Uu t):=⟨l9 (L2.jG h.run) λσ H Q ⟨τ,J,Q2,a2,h,k⟩=>⟨τ,J,_,a2,h,λxs J' vs H' rs rr ee ⟨hl,q⟩ =>
 ⟨by rw [← rs.length];exact hl,λp hp=>let ⟨x1,x2,x3⟩:=sE rr rs hp;k (.fl xs) _ (.ref p) _ x1 x2 (ee.trans x3) q⟩⟩⟩
abbrev OI:=Sr→Hq→(Option Int→Hq→Prop)→Prop
def LO (K:PySem.W.Frag) (G:G2) (t:OI):TO:=λσ H Q=>∃τ J Q2,yg K G τ J σ H∧t τ J Q2∧∀b J' H',Rep K J' H'→Ext K J H J' H'→Q2 b J'→Q b H'
structure RO (X:Cx) (G:G2) (e:Option Expr) (t:OI):Prop where
 run:L2.PO X e (LO X.K G t)
theorem Up {X:Cx} {e:Option Expr} {t t':TO} (h:L2.PO X e t) (k:∀σ H Q,t' σ H Q→t σ H Q):L2.PO X e t':=λpins s σ H Q I q=>h pins s σ H Q I (k _ _ _ q)
def CN:OI:=λ_ J Q=>Q none J
def L8 (t:dN):OI:=λτ J Q=>t τ J λx J1=>EW x λi=>Q (some i) J1
theorem lV:RO X G none CN:=⟨Up L2.qY λσ H Q ⟨τ,J,Q2,a2,h,k⟩=>k none J H a2.hp .refl h⟩
theorem lW (h:RE X G e te):RO X G (some e) (L8 te):=⟨Up (L2.lT h.run) λσ H Q ⟨τ,J,Q2,a2,h,k⟩=>⟨τ,J,_,a2,h,λx J' v H' rx rr ee qq=>by obtain ⟨i,ei,q⟩:=ip qq;subst ei;exact ⟨i,rx,k _ J' H' rr ee q⟩⟩⟩
abbrev DI:=PV→Option Int→Option Int→Hq→(PV→Hq→Prop)→Prop
def R_ (X:Cx) (q:DI):Prop:=∃r,vj X r∧∀J H x lo hi v Q2 Q,cH X.K J H x v→Rep X.K J H→q x lo hi J Q2→Kn X.K J H Q2 Q→r v lo hi H Q
def Uy (q:DI) (te:dN) (tl th:OI):dN:=λτ J Q=>te τ J λx J1=>tl τ J1 λl J2=>th τ J2 λu J3=>q x l u J3 Q
theorem jh {lo hi:Option Expr} {tl th:OI} {q:DI} (hr:R_ X q) (he:RE X G e te) (hl:RO X G lo tl) (hu:RO X G hi th):RE X G (.Subscript e (.Slice lo hi none p2) pos) (Uy q te tl th):=by
 obtain ⟨r,h,lr⟩:=hr
 exact ⟨l9 (L2.kO h he.run hl.run hu.run) λσ H Q ⟨τ,J,Q2,a2,h,k⟩=>⟨τ,J,_,a2,h,λx J' v H' rx rr ee q1=>⟨τ,J',_,a2.go rr ee,q1,λl J2 H2 r2 e2 q2 =>
  ⟨τ,J2,_,a2.go r2 (ee.trans e2),q2,λu J3 H3 r3 e3 q3=>lr J3 H3 x l u v Q2 Q ((e2.trans e3).rep rx) r3 q3 λz J4 w H4 rz r4 e4 q4=>k z J4 w H4 rz r4 (((ee.trans e2).trans e3).trans e4) q4⟩⟩⟩⟩
def QD (q:AD) (t:p_):dN:=λτ J Q=>t τ J λxs J1=>q xs J1 Q
theorem B4 {r:List V→Hp→VK→Prop} {q:AD} (lr:T6 X.K r q):∀σ H Q,LE X.K G (QD q t) σ H Q→L2.KQ r (LA X.K G t) σ H Q:=λσ H Q ⟨τ,J,Q2,a2,h,k⟩ =>
 ⟨τ,J,_,a2,h,λxs J1 vs H1 rs r1 e1 q1=>lr J1 H1 xs vs Q2 Q rs r1 q1 λz J' u H' rz rr ee qq=>k z J' u H' rz rr (e1.trans ee) qq⟩
theorem aI {id:String} {q:AD} (hc:Ir X (.builtin id) q) (hg:Gl X x) (hm:X.mg x=none) (hv:bootBuiltins x=some (.builtin id)) (ha:RA X G (e :: es) t) (hn:x≠"__name__":=by decide) (hdb:(x == ("__debug__":Str))=false:=by decide)
  (he:starEach (e :: es) X.env=(false,eval e X.env) :: starEach es X.env:=by rfl) (hpl:(backTo pos (starEach es X.env)).any (·.1)=false:=by rfl):RE X G (.Call (.Name x p) (e :: es) [] pos) (QD q t):=by
 obtain ⟨r,h,lr⟩:=hc
 exact ⟨l9 (L2.bM h hg hm hv ha.run hn hdb he hpl) (B4 lr)⟩
theorem fC {T:String} {q:AD} (hc:Ir X (.type T) q) (hg:Gl X x) (hm:X.mg x=none) (hv:bootBuiltins x=some (.type T)) (ha:RA X G (e :: es) t) (hn:x≠"__name__":=by decide) (hdb:(x == ("__debug__":Str))=false:=by decide)
  (he:starEach (e :: es) X.env=(false,eval e X.env) :: starEach es X.env:=by rfl) (hpl:(backTo pos (starEach es X.env)).any (·.1)=false:=by rfl):RE X G (.Call (.Name x p) (e :: es) [] pos) (QD q t):=by
 obtain ⟨r,h,lr⟩:=hc
 exact ⟨l9 (L2.pH h hg hm hv ha.run hn hdb he hpl) (B4 lr)⟩
abbrev EU:=PV→List PV→Hq→(PV→Hq→Prop)→Prop
def K' (X:Cx) (T id:String) (q:EU):Prop:=∃r,qL X id r∧∀J H x xs v vs Q2 Q,cH X.K J H x v→aU X.K J H xs vs→Rep X.K J H→q x xs J Q2→Kn X.K J H Q2 Q→r v vs H Q
def OS (T:String) (J:Hq):PV→Prop
 | .str _=>T="str"
 | .fl _=>T="list"
 | .ref a=>(T="list"∧∃xs,J a=some (.lst xs))∨(T="dict"∧∃kvs ep,J a=some (.dct kvs ep))
 | _=>False
theorem Dr {K:PySem.W.Frag} {T:String} {J:Hq} {H:Hp} {x:PV} {v:V} (r:cH K J H x v) (hp:Rep K J H) (h:OS T J x):L2.R3 K T v H:=by
 cases x with
 | str s=>cases r;exact h
 | fl xs=>obtain ⟨a,vs,rfl,h1,h2⟩:=r;exact .inl ⟨h,vs,h1.sq⟩
 | ref a =>
  cases r
  rcases h with ⟨h,xs,e⟩ | ⟨h,kvs,ep,e⟩
  ·obtain ⟨vs,h1,_⟩:=hp _ _ e;exact .inl ⟨h,vs,.inl (.inl h1)⟩
  ·obtain ⟨gs,h1,_⟩:=hp _ _ e;exact .inr (.inr (.inl ⟨h,.inr ⟨gs,ep,h1⟩⟩))
 | _=>cases h
def Te (T:String) (q:EU) (to:dN) (t:p_):dN:=λτ J Q=>to τ J λx J1=>OS T J1 x∧t τ J1 λxs J2=>q x xs J2 Q
def QC (T:String) (q:EU) (to:dN):dN:=λτ J Q=>to τ J λx J1=>OS T J1 x∧q x [] J1 Q
theorem mC {name:Str} {T id:String} {q:EU} (pa:PlainAttrs T) (slot:Slot T name id) (hty:typeOf (.builtin id)=pure (.type "method_descriptor")) (hm:K' X T id q) (ho:RE X G o to) (ha:RA X G (e :: es) t)
  (hbase:attributeBase o name X.env (eval o X.env)=eval o X.env:=by rfl)
  (hfew:((backTo cpos (starEach (e :: es) X.env)).all (λx=>!x.1) && (backToKw cpos (keywordEach [] X.env)).all (λx=>x.1.isSome)
   && decide ((e :: es).length + ([]:List Keyword).length + (if ([]:List Keyword).isEmpty then 0 else 1) < 30))=true:=by rfl)
  (hline:(apos.endLine == cpos.line)=true:=by rfl) (hs:starEach (e :: es) X.env=(false,eval e X.env) :: starEach es X.env:=by rfl) (hplain:(backTo cpos (starEach es X.env)).any (·.1)=false:=by rfl) :
  RE X G (.Call (.Attribute o name apos) (e :: es) [] cpos) (Te T q to t):=by
 obtain ⟨r,h,lr⟩:=hm
 exact ⟨l9 (L2.sS pa slot hty h ho.run ha.run hbase hfew hline hs hplain) λσ H Q ⟨τ,J,Q2,a2,h,k⟩=>⟨τ,J,_,a2,h,λx J1 v H1 rx r1 e1 ⟨ty,q1⟩=>⟨Dr rx r1 ty,τ,J1,_,a2.go r1 e1,q1,λxs J2 vs H2 rs r2 e2 q2 =>
  lr J2 H2 x xs v vs Q2 Q (e2.rep rx) rs r2 q2 λz J' u H' rz rr ee qq=>k z J' u H' rz rr ((e1.trans e2).trans ee) qq⟩⟩⟩
theorem N6 {name:Str} {T id:String} {q:EU} (pa:PlainAttrs T) (slot:Slot T name id) (hty:typeOf (.builtin id)=pure (.type "method_descriptor")) (hm:K' X T id q) (ho:RE X G o to)
  (hbase:attributeBase o name X.env (eval o X.env)=eval o X.env:=by rfl) (hline:(apos.endLine == cpos.line)=true:=by rfl):RE X G (.Call (.Attribute o name apos) [] [] cpos) (QC T q to):=by
 obtain ⟨r,h,lr⟩:=hm
 exact ⟨l9 (L2.NR pa slot hty h ho.run hbase hline) λσ H Q ⟨τ,J,Q2,a2,h,k⟩=>⟨τ,J,_,a2,h,λx J1 v H1 rx r1 e1 ⟨ty,q1⟩=>⟨Dr rx r1 ty,
  lr J1 H1 x [] v [] Q2 Q rx rfl r1 q1 λz J' u H' rz rr ee qq=>k z J' u H' rz rr (e1.trans ee) qq⟩⟩⟩
end
end Ov
namespace Ov
open PySem PySem.Spec PyProof.Rows
open L2 (V HO Hp Inv Cx VK XK TE TT TA TS TG rS TI TO l7 Ends yv Loc Gl Rd RelV Vals fI Ab cq rK vj qL l6 R2 upd aH aM dq g8 Sp uc It bL dZ b9 Passes qK aK Meth Mk Binds aO cg av dF g6 fA)
abbrev cu:=List PV→Hq→(PV→Hq→Prop)→(Addr→Hq→Prop)→Prop
def K_ (K:PySem.W.Frag) (J:Hq) (H:Hp) (E2:Addr→Hq→Prop) (E:XK):Prop:=∀c J' H',Rep K J' H'→Ext K J H J' H'→E2 c J'→E (.ref c) none H'
def dg (K:PySem.W.Frag) (sp:cu):Sp:=λvs H Q E=>∃xs J Q2 E2,aU K J H xs vs∧Rep K J H∧sp xs J Q2 E2∧Kn K J H Q2 Q∧K_ K J H E2 E
theorem K_.ext {K:PySem.W.Frag} {J J':Hq} {H H':Hp} {E2:Addr→Hq→Prop} {E:XK} (k:K_ K J H E2 E) (e:Ext K J H J' H'):K_ K J' H' E2 E:=λc J1 H1 r x q=>k c J1 H1 r (e.trans x) q
theorem _root_.L2.aO.UK {P:Program} {w:World} {K:PySem.W.Frag} {mg:Str→Option Value} {base:Heap} {k:Nat} {f:Addr} {fd:FuncData} {ps:List Str} {sp:Sp} (F:aO P w K mg base L2.rF k f fd ps sp):aO P w K mg base (cK P w) k f fd ps sp :=
 ⟨F.len,λA outer s H args us vs Q E hr he hb hv hs=>codeAny_mono (F.run A outer s H args us vs Q E hr he hb hv hs) λr s' q=>by
  cases r with
  | error e=>exact False.elim q
  | ok fl=>cases fl <;> exact q⟩
theorem _root_.L2.aO.Rx {P:Program} {w:World} {K:PySem.W.Frag} {mg:Str→Option Value} {base:Heap} {k:Nat} {f:Addr} {fd:FuncData} {ps:List Str} {sp:Sp} (F:aO P w K mg base (cK P w) k f fd ps sp):aO P w K mg base L2.rF k f fd ps (λvs H Q _=>sp vs H Q L2.E0) :=
 ⟨λvs H Q E q=>F.len vs H Q _ q,λA outer s H args us vs Q E hr he hb hv hs=>codeAny_mono (F.run A outer s H args us vs Q _ hr he hb hv hs) λr s' q=>by
  cases r with
  | error e=>obtain ⟨_,_,_,_,_,z⟩:=q;exact z.elim
  | ok fl=>cases fl <;> exact q⟩
def bx (P:Program) (w:World) (K:PySem.W.Frag) (mg:Str→Option Value) (base:Heap) (k:Nat) (x:Str) (ps:List Str) (sp:cu):Prop:=E1 P w K mg base k x ps (dg K sp)
theorem _root_.Ov.t9.lift {P:Program} {w:World} {K:PySem.W.Frag} {mg:Str→Option Value} {base:Heap} {k:Nat} {x:Str} {ps:List Str} {sp:Sp} (C:t9 P w K mg base k x ps sp) {sp':cu}
  (h:∀xs J vs H Q2 E2 Q E,aU K J H xs vs→Rep K J H→sp' xs J Q2 E2→Kn K J H Q2 Q→sp vs H Q E):bx P w K mg base k x ps sp':=by
 obtain ⟨f,fd,F,r⟩:=C
 exact ⟨f,fd,(F.UK).imp λvs H Q E ⟨xs,J,Q2,E2,a,b,c,d,_⟩=>h xs J vs H Q2 E2 Q E a b c d,r⟩
theorem E1.lift {P:Program} {w:World} {K:PySem.W.Frag} {mg:Str→Option Value} {base:Heap} {k:Nat} {x:Str} {ps:List Str} {sp:Sp} (C:E1 P w K mg base k x ps sp) {sp':cu}
  (h:∀xs J vs H Q2 E2 Q E,aU K J H xs vs→Rep K J H→sp' xs J Q2 E2→Kn K J H Q2 Q→K_ K J H E2 E→sp vs H Q E):bx P w K mg base k x ps sp':=by
 obtain ⟨f,fd,F,r⟩:=C
 exact ⟨f,fd,F.imp λvs H Q E ⟨xs,J,Q2,E2,a,b,c,d,e⟩=>h xs J vs H Q2 E2 Q E a b c d e,r⟩
section
variable {X:Cx} {G:G2} {a b c e o value:Expr} {es rest:List Expr} {ta tb te tc to tv:dN} {tA tB':mI} {t:p_} {pos px p p2 apos cpos pos':Pos} {x:Str} {i j:Nat} {E:XK} {E2:Addr→Hq→Prop}
structure DC (X:Cx) (G:G2) (E2:Addr→Hq→Prop) (E:XK):Prop where
 pass:Passes (cK X.prog X.w) X E
 kn:K_ X.K G.1 G.2 E2 E
def zu (sp:cu) (E2:Addr→Hq→Prop) (t:p_):dN:=λτ J Q=>t τ J λxs J1=>sp xs J1 Q E2
theorem aQ {k k':Nat} {ps:List Str} {sp:cu} (C:bx X.prog X.w X.K X.mg X.base k x ps sp) (B:DC X G E2 E) (hr:b9 k' X.A) (ha:RA X G (e :: es) t) (hk:k≤k':=by decide) (hg:Gl X x:=by rfl)
  (hdb:(x == ("__debug__":Str))=false:=by decide) (he:starEach (e :: es) X.env=(false,eval e X.env) :: starEach es X.env:=by rfl) (hpl:(backTo pos (starEach es X.env)).any (·.1)=false:=by rfl) :
  RE X G (.Call (.Name x p) (e :: es) [] pos) (zu sp E2 t) :=
 ⟨l9 (JV C B.pass hr hk hg ha.run hdb he hpl) λσ H Q ⟨τ,J,Q2,a2,h,k⟩=>⟨τ,J,_,a2,h,λxs J1 vs H1 rs r1 e1 q1=>by
  simp only [VQ]
  exact ⟨xs,J1,Q2,E2,rs,r1,q1,λz J' u H' rz rr ee qq=>k z J' u H' rz rr (e1.trans ee) qq,B.kn.ext (a2.ext.trans e1)⟩⟩⟩
def QH (C:Addr) (ta:dN) (f:Str):dN:=λτ J Q=>ta τ J λx J1=>Ep x λa=>ND C (J1 a) λfs=>xf (fs.lookup f) λv=>Q v J1
theorem aW {C:Addr} {f:Str} (cl:qK X.K C) (na:aK X.K C f) (he:RE X G e ta) (hb:attributeBase e f X.env (eval e X.env)=eval e X.env:=by rfl):RE X G (.Attribute e f pos) (QH C ta f) :=
 ⟨l9 (L2.NT he.run hb) λσ H Q ⟨τ,J,Q2,a2,h,k⟩=>⟨τ,J,_,a2,h,λx J1 v H1 rx r1 e1 hh=>by
  obtain ⟨a,ex,hh⟩:=gI hh;obtain ⟨fs,ja,hh⟩:=Bf hh;obtain ⟨y,lk,q⟩:=fe hh
  subst ex;cases rx
  obtain ⟨dx,gs,ha,rf⟩:=r1 _ _ ja
  obtain ⟨w,lw,rw'⟩:=rf.look lk
  exact ⟨a,C,dx,gs,w,rfl,ha,cl,na,lw,k y J1 w H1 rw' r1 e1 q⟩⟩⟩
structure bU (P:Program) (w:World) (K:PySem.W.Frag) (mg:Str→Option Value) (base:Heap) (C:Addr) (k:Nat) (m:Str) (ps:List Str) (sp:cu):Prop where
 cl:qK K C
 ex:∃f fd,Meth K C m f∧aO P w K mg base (cK P w) k f fd ps (dg K sp)∧Binds K fd ps []
theorem bU.imp {P:Program} {w:World} {K:PySem.W.Frag} {mg:Str→Option Value} {base:Heap} {C:Addr} {k:Nat} {m:Str} {ps:List Str} {sp sp':cu} (M:bU P w K mg base C k m ps sp) (h:∀xs J Q E,sp' xs J Q E→sp xs J Q E):bU P w K mg base C k m ps sp':=by
 obtain ⟨cl,f,fd,hm,F,r⟩:=M
 exact ⟨cl,f,fd,hm,F.imp λvs H Q E ⟨xs,J,Q2,E2,a,b,c,d⟩=>⟨xs,J,Q2,E2,a,b,h _ _ _ _ c,d⟩,r⟩
def Ks (C:Addr) (m:Str) (sp:cu) (E2:Addr→Hq→Prop) (ta:dN) (t:p_):dN:=λτ J Q=>ta τ J λx J1=>Ep x λa=>ND C (J1 a) λfs=>fs.lookup m=none∧t τ J1 λxs J2=>sp (x :: xs) J2 Q E2
theorem yY {C:Addr} {m:Str} {sp:cu} (B:DC X G E2 E):∀σ H Q,LE X.K G (Ks C m sp E2 to t) σ H Q→L2.HS C m (dg X.K sp) [] E (LE X.K G to) (LA X.K G t) σ H Q:=λσ H Q ⟨τ,J,Q2,a2,h,k⟩ =>
 ⟨τ,J,_,a2,h,λx J1 v H1 rx r1 e1 hh=>by
  obtain ⟨a,ex,hh⟩:=gI hh;obtain ⟨fs,ja,lk,q⟩:=Bf hh
  subst ex;cases rx
  obtain ⟨dx,gs,ha,rf⟩:=r1 _ _ ja
  refine ⟨a,dx,gs,rfl,ha,rf.none lk,τ,J1,_,a2.go r1 e1,q,λxs J2 vs H2 rs r2 e2 q2=>?_⟩
  simp only [VQ]
  exact ⟨.ref a :: xs,J2,Q2,E2,⟨.ref a,vs,rfl,rfl,rs⟩,r2,q2,λz J' u H' rz rr ee qq=>k z J' u H' rz rr ((e1.trans e2).trans ee) qq,B.kn.ext ((a2.ext.trans e1).trans e2)⟩⟩
theorem aV {C:Addr} {m:Str} {k k':Nat} {ps:List Str} {sp:cu} {pl:Sem Bool} (M:bU X.prog X.w X.K X.mg X.base C k m ps sp) (B:DC X G E2 E) (hr:b9 k' X.A) (ho:RE X G o to) (ha:RA X G (e :: es) t) (hk:k≤k':=by decide)
  (hst:starEach (e :: es) X.env=(false,eval e X.env) :: starEach es X.env:=by rfl) (hpl:(backTo pos (starEach es X.env)).any (·.1)=false:=by rfl)
  (ht:eval (.Call (.Attribute o m apos) (e :: es) [] pos) X.env=(do
   let ov ← eval o X.env
   standAt apos.atName
   let (f,first) ← holding [ov] (getMethod ov m pl)
   callWith pos f first (backTo pos (starEach (e :: es) X.env)) (backToKw pos (keywordEach [] X.env))):=by rfl) :
  RE X G (.Call (.Attribute o m apos) (e :: es) [] pos) (Ks C m sp E2 to t):=by
 obtain ⟨cl,f,fd,hm,F,b⟩:=M
 exact ⟨l9 (L2.JY (pl:=pl) ho.run cl hm F (hr.mono hk) b .nil B.pass ha.run hst hpl ht) (yY B)⟩
theorem dw {C:Addr} {m:Str} {k k':Nat} {ps:List Str} {sp:cu} {pl:Sem Bool} (M:bU X.prog X.w X.K X.mg X.base C k m ps sp) (B:DC X G E2 E) (hr:b9 k' X.A) (ho:RE X G o to) (hk:k≤k':=by decide)
  (ht:eval (.Call (.Attribute o m apos) [] [] pos) X.env=(do
   let ov ← eval o X.env
   standAt apos.atName
   let (f,first) ← holding [ov] (getMethod ov m pl)
   callWith pos f first (backTo pos (starEach [] X.env)) (backToKw pos (keywordEach [] X.env))):=by rfl) :
  RE X G (.Call (.Attribute o m apos) [] [] pos) (Ks C m sp E2 to uX):=by
 obtain ⟨cl,f,fd,hm,F,b⟩:=M
 refine ⟨l9 (L2.GX (pl:=pl) ho.run cl hm F (hr.mono hk) b .nil B.pass ht) λσ H Q h=>?_⟩
 have z:=yY B σ H Q h
 obtain ⟨τ,J,Q2,a2,h1,k1⟩:=z
 refine ⟨τ,J,Q2,a2,h1,λx J1 v H1 rx r1 e1 q1=>?_⟩
 obtain ⟨a,dx,fs,h2,h3,h4,τ',J',Q',a2',h5,k5⟩:=k1 x J1 v H1 rx r1 e1 q1
 exact ⟨a,dx,fs,h2,h3,h4,k5 [] J' [] H1 rfl a2'.hp .refl h5⟩
structure Ay (P:Program) (w:World) (K:PySem.W.Frag) (mg:Str→Option Value) (base:Heap) (C:Addr) (k:Nat) (x:Str) (ps:List Str) (sp:cu):Prop where
 m:mg x=some (.ref C)
 ex:∃f fd,Mk K C f∧aO P w K mg base (cK P w) k f fd ps (dg K sp)∧Binds K fd ps []
def Kr (C:Addr) (sp:cu) (E2:Addr→Hq→Prop) (t:p_):dN:=λτ J Q=>t τ J λxs J1=>∀a,J1 a=none→sp (.ref a :: xs) (put J1 a (.ins C [])) (λv J2=>v=.non∧Q (.ref a) J2) E2
theorem yU {C:Addr} {sp:cu} (B:DC X G E2 E):∀σ H Q,LE X.K G (Kr C sp E2 t) σ H Q→L2.HR C (dg X.K sp) [] E (LA X.K G t) σ H Q:=λσ H Q ⟨τ,J,Q2,a2,h,k⟩ =>
 ⟨τ,J,_,a2,h,λxs J1 vs H1 rs r1 e1 q1 x dx hx hdx ne=>by
  have s1:=bL.new hdx (.own x)
  have hx':upd H1 dx (.own x) x=none:=by rw [aM (Ne.symm ne)];exact hx
  have r2:=r1.same s1
  have e2:Ext X.K J1 H1 (put J1 x (.ins C [])) (upd (upd H1 dx (.own x)) x (.ins C dx [])):=(Ext.same s1).trans (.laid hx')
  have r3:Rep X.K (put J1 x (.ins C [])) (upd (upd H1 dx (.own x)) x (.ins C dx [])):=r2.EN (.laid hx') x (λa ne=>aw ne) (λa o ne _ z=>by rw [aM ne];exact z) λu z=>by
   rw [ax] at z;cases z
   exact ⟨dx,[],aH,rfl,rfl⟩
  simp only [VQ]
  refine ⟨.ref x :: xs,_,_,E2,⟨.ref x,vs,rfl,rfl,e2.jM rs⟩,r3,q1 x (r1.free hx),λz J' u H' rz rr ee ⟨ez,qq⟩=>?_,B.kn.ext ((a2.ext.trans e1).trans e2)⟩
  subst ez
  exact ⟨rz,k (.ref x) J' (.ref x) H' rfl rr ((e1.trans e2).trans ee) qq⟩⟩
theorem Ku {C:Addr} {k k':Nat} {ps:List Str} {sp:cu} (M:Ay X.prog X.w X.K X.mg X.base C k x ps sp) (B:DC X G E2 E) (hr:b9 k' X.A) (ha:RA X G (e :: es) t) (hk:k + 1≤k':=by decide) (hg:Gl X x:=by rfl)
  (hdb:(x == ("__debug__":Str))=false:=by decide) (he:starEach (e :: es) X.env=(false,eval e X.env) :: starEach es X.env:=by rfl) (hpl:(backTo pos (starEach es X.env)).any (·.1)=false:=by rfl) :
  RE X G (.Call (.Name x p) (e :: es) [] pos) (Kr C sp E2 t):=by
 obtain ⟨hm,f,fd,mk,F,b⟩:=M
 exact ⟨l9 (L2.JX mk F (hr.mono hk) hg hm b .nil B.pass ha.run hdb he hpl) (yU B)⟩
theorem tj {C:Addr} {k k':Nat} {ps:List Str} {sp:cu} (M:Ay X.prog X.w X.K X.mg X.base C k x ps sp) (B:DC X G E2 E) (hr:b9 k' X.A) (hk:k + 1≤k':=by decide) (hg:Gl X x:=by rfl)
  (hdb:(x == ("__debug__":Str))=false:=by decide):RE X G (.Call (.Name x p) [] [] pos) (Kr C sp E2 uX):=by
 obtain ⟨hm,f,fd,mk,F,b⟩:=M
 refine ⟨l9 (L2.GW mk F (hr.mono hk) hg hm b .nil B.pass hdb) λσ H Q h=>?_⟩
 obtain ⟨τ,J,Q2,a2,h1,k1⟩:=yU (t:=uX) B σ H Q h
 exact k1 [] J [] H rfl a2.hp .refl h1
end
section
variable {X:Cx} {G:G2} {st:Stmt} {rest:List Stmt} {t u:iQ} {e tg o value:Expr} {es:List Expr} {te ta tv:dN} {tc:mI} {pos pos':Pos}
def sY:iQ:=λD τ J=>D.nx τ J
def bE (t u:iQ):iQ:=λD τ J=>t { D with nx:=u D } τ J
theorem aF:RB X G [] sY:=⟨S9 L2.f' λD σ H ⟨τ,J,D2,a2,h,g⟩=>g.nx τ J σ H a2.sl a2.hp .refl h⟩
theorem ai (h1:RS X G st t) (h2:RB X G rest u):RB X G (st :: rest) (bE t u):=⟨S9 (L2.ba h1.run h2.run) λD σ H ⟨τ,J,D2,a2,h,g⟩=>⟨τ,J,{ D2 with nx:=u D2 },a2,h,
 { nx:=λτ' J' σ' H' rs rr ee q=>⟨τ',J',D2,⟨rs,rr,a2.ext.trans ee⟩,q,g.ext ee⟩,rt:=g.rt,bk:=g.bk,ct:=g.ct }⟩⟩
theorem ak (h1:RS X G st t):RB X G [st] t:=⟨L2.bS h1.run⟩
def Hc (t u:iQ):iQ:=λD τ J=>∃M:Sr→Hq→Prop,t { D with nx:=M } τ J∧∀τ' J',M τ' J'→u D τ' J'
theorem fi (h1:RS X G st t) (h2:RB X G rest u):RB X G (st :: rest) (Hc t u):=⟨S9 (L2.ba h1.run h2.run) λD σ H ⟨τ,J,D2,a2,⟨M,h,hm⟩,g⟩=>⟨τ,J,{ D2 with nx:=M },a2,h,
 { nx:=λτ' J' σ' H' rs rr ee q=>⟨τ',J',D2,⟨rs,rr,a2.ext.trans ee⟩,hm _ _ q,g.ext ee⟩,rt:=g.rt,bk:=g.bk,ct:=g.ct }⟩⟩
def Tf:iQ:=λD τ J=>D.bk τ J
def QF:iQ:=λD τ J=>D.ct τ J
theorem zy:RS X G (.Continue pos) QF:=⟨zo L2.kS λD σ H ⟨τ,J,D2,a2,h,g⟩=>g.ct τ J σ H a2.sl a2.hp .refl h⟩
def CL (te:dN):iQ:=λD τ J=>te τ J λ_ J1=>D.nx τ J1
theorem aX (he:RE X G e te) (hs:swapsWith e none pos.line X.env=pure false:=by rfl):RS X G (.Expr e pos) (CL te):=⟨zo (L2.lU he.run hs) λD σ H ⟨τ,J,D2,a2,h,g⟩ =>
 ⟨τ,J,_,a2,h,λx J' v H' rx rr ee q=>g.nx τ J' σ H' (a2.sl.ext ee) rr ee q⟩⟩
def QZ (te:dN):iQ:=λD τ J=>te τ J D.rt
theorem ay (he:RE X G e te):RS X G (.Return (some e) pos) (QZ te):=⟨zo (L2.er he.run) λD σ H ⟨τ,J,D2,a2,h,g⟩=>⟨τ,J,_,a2,h,λx J' v H' rx rr ee q=>g.rt x J' v H' rx rr ee q⟩⟩
def L9:iQ:=λD _ J=>D.rt .non J
theorem Kz:RS X G (.Return none pos) L9:=⟨zo L2.xp λD σ H ⟨τ,J,D2,a2,h,g⟩=>g.rt .non J .non H rfl a2.hp .refl h⟩
def By (c:mI) (t u:iQ):iQ:=λD τ J=>c τ J λb J1=>if b=true then t D τ J1 else u D τ J1
theorem aR {c:Expr} {a b:List Stmt} (hc:RT X G c tc) (ha:RB X G a t) (hb:RB X G b u):RS X G (.If c a b pos) (By tc t u):=⟨zo (L2.oA hc.run ha.run hb.run) λD σ H ⟨τ,J,D2,a2,h,g⟩ =>
 ⟨τ,J,_,a2,h,λc J' H' rr ee q=>by
  cases c with
  | true=>simp only [if_true] at q ⊢;exact ⟨τ,J',D2,a2.go rr ee,q,g.ext ee⟩
  | false=>simp only [Vd,if_false] at q ⊢;exact ⟨τ,J',D2,a2.go rr ee,q,g.ext ee⟩⟩⟩
abbrev AE:=PV→Sr→Hq→(Sr→Hq→Prop)→Prop
abbrev yu:=List PV→Sr→Hq→(Sr→Hq→Prop)→Prop
def LG (K:PySem.W.Frag) (G:G2) (t:AE):TG:=λv σ H Q=>∃x τ J Q2,cH K J H x v∧yg K G τ J σ H∧t x τ J Q2∧∀τ' J' σ' H',mH K J' H' τ' σ'→Rep K J' H'→Ext K J H J' H'→Q2 τ' J'→Q σ' H'
def UD (K:PySem.W.Frag) (G:G2) (t:yu):rS:=λvs σ H Q=>∃xs τ J Q2,aU K J H xs vs∧yg K G τ J σ H∧t xs τ J Q2∧∀τ' J' σ' H',mH K J' H' τ' σ'→Rep K J' H'→Ext K J H J' H'→Q2 τ' J'→Q σ' H'
structure RG (X:Cx) (G:G2) (e:Expr) (t:AE):Prop where
 run:L2.PG X e (LG X.K G t)
structure RF (X:Cx) (G:G2) (es:List Expr) (t:yu):Prop where
 run:L2.La X es (UD X.K G t)
theorem S_ {X:Cx} {e:Expr} {t t':TG} (h:L2.PG X e t) (k:∀v σ H Q,t' v σ H Q→t v σ H Q):L2.PG X e t':=λpins s σ H v u Q I r q=>h pins s σ H v u Q I r (k _ _ _ _ q)
theorem Ql {X:Cx} {e:List Expr} {t t':rS} (h:L2.La X e t) (k:∀v σ H Q,t' v σ H Q→t v σ H Q):L2.La X e t':=λpins s σ H v u Q I r q=>h pins s σ H v u Q I r (k _ _ _ _ q)
def Ji (i:Nat):AE:=λx τ J Q=>Q (τ.set i (some x)) J
theorem bK {i:Nat} {x:Str} (hN:X.N.Nodup) (hi:X.N[i]?=some x:=by rfl) (hx:Loc X.env.scope x:=by first | exact .inl rfl | exact .inr rfl) (hf:X.fn x=true∨X.env.scope.names.lookup x=some .local:=by first | exact .inl rfl | exact .inr rfl | assumption):RG X G (.Name x pos) (Ji i) :=
 ⟨S_ (L2.lS hN hi hx hf) λv σ H Q ⟨x,τ,J,Q2,rx,a2,q,k⟩=>k _ J _ H (a2.sl.set i rx) a2.hp .refl q⟩
def Ub:yu:=λvs τ J Q=>S6 vs (Q τ J)
def Ua (t:AE) (u:yu):yu:=λvs τ J Q=>NF vs λv r=>t v τ J λτ' J'=>u r τ' J' Q
theorem oF:RF X G [] Ub:=⟨Ql L2.xk λvs σ H Q ⟨xs,τ,J,Q2,rs,a2,hh,k⟩=>by obtain ⟨e,q⟩:=NI hh;subst e;exact ⟨rs,k τ J σ H a2.sl a2.hp .refl q⟩⟩
theorem dy {e:Expr} {es:List Expr} {t:AE} {u:yu} (h1:RG X G e t) (h2:RF X G es u)
  (hs:(assignEach (e :: es) X.env).map (·.2)=assign e X.env :: (assignEach es X.env).map (·.2):=by rfl):RF X G (e :: es) (Ua t u):=⟨Ql (L2.sV h1.run h2.run hs) λvs σ H Q ⟨xs,τ,J,Q2,rs,a2,hh,k⟩=>by
 obtain ⟨y,r,e,q⟩:=JN hh
 subst e
 obtain ⟨v,us,rfl,rv,ru⟩:=rs
 exact ⟨v,us,rfl,y,τ,J,_,rv,a2,q,λτ' J' σ' H' rs' rr ee q'=>⟨r,τ',J',Q2,ee.jM ru,⟨rs',rr,a2.ext.trans ee⟩,q',λτ2 J2 σ2 H2 rs2 rr2 ee2 q2=>k τ2 J2 σ2 H2 rs2 rr2 (ee.trans ee2) q2⟩⟩⟩
def Uc (n:Nat) (t:yu):AE:=λx τ J Q=>OP x λxs=>xs.length=n∧t xs τ J Q
theorem tq {k:Nat} {t:yu} {n:Nat} (hc:X.calm=true) (h:RF X G es t)
  (hn:(assignEach es X.env).length=n:=by rfl) (hst:(assignEach es X.env).findIdx? (·.1)=none:=by rfl):RG X G (.Tuple es k pos) (Uc n t):=⟨S_ (L2.Bq hc h.run hn hst) λv σ H Q ⟨x,τ,J,Q2,rx,a2,hh,k⟩=>by
 obtain ⟨xs,e,l,q⟩:=GJ hh
 subst e
 obtain ⟨a,vs,rfl,h1,h2⟩:=rx
 exact ⟨a,vs,rfl,h1,by rw [← h2.length];exact l,xs,τ,J,Q2,h2,a2,q,k⟩⟩
def uV (te:dN) (g:AE):iQ:=λD τ J=>te τ J λx J1=>g x τ J1 D.nx
theorem xC {tg e:Expr} {g:AE} (he:RE X G e te) (hg:RG X G tg g) (hs:swapsWithSole [tg] e pos.line X.env=pure false:=by rfl) (hw:swappedStores [tg] e X.env=pure none:=by rfl)
  (h1:(assignEach [tg] X.env).map (·.2)=[assign tg X.env]:=by rfl):RS X G (.Assign [tg] e pos) (uV te g):=⟨zo (L2.xo he.run hg.run hs hw h1) λD σ H ⟨τ,J,D2,a2,h,g⟩ =>
 ⟨τ,J,_,a2,h,λx J' v H' rx rr ee q=>⟨x,τ,J',_,rx,a2.go rr ee,q,λτ' J2 σ' H2 rs r2 e2 q2=>g.nx τ' J2 σ' H2 rs r2 (ee.trans e2) q2⟩⟩⟩
theorem aE {i:Nat} {x:Str} {pos':Pos} (hN:X.N.Nodup) (he:RE X G e te) (hi:X.N[i]?=some x:=by rfl) (hx:Loc X.env.scope x:=by first | exact .inl rfl | exact .inr rfl) (hs:swapsWith e (some (.Name x pos')) pos.line X.env=pure false:=by rfl) (hf:X.fn x=true∨X.env.scope.names.lookup x=some .local:=by first | exact .inl rfl | exact .inr rfl | assumption) :
  RS X G (.Assign [.Name x pos'] e pos) (uV te (Ji i)):=⟨zo (L2.c_ hN hi hx he.run hs hf) λD σ H ⟨τ,J,D2,a2,h,g⟩ =>
 ⟨τ,J,_,a2,h,λx J' v H' rx rr ee q=>g.nx _ J' _ H' ((a2.sl.ext ee).set i rx) rr ee q⟩⟩
def QX (i j:Nat) (ta:p_):iQ:=λD τ J=>ta τ J λvs J1=>NJ vs λv w=>D.nx ((τ.set i (some v)).set j (some w)) J1
theorem N_ {i j:Nat} {x y:Str} {a b:Expr} {ta:p_} {px py pt:Pos} {kt k2 pt2} (hc:X.calm=true) (hN:X.N.Nodup) (hi:X.N[i]?=some x) (hj:X.N[j]?=some y) (hij:i≠j)
  (hx:X.env.scope.names.lookup x=some .local) (hy:X.env.scope.names.lookup y=some .local) (ha:RA X G [a,b] ta)
  (hw:swappedStores [.Tuple [.Name x px,.Name y py] kt pt] (.Tuple [a,b] k2 pt2) X.env=pure (some [x,y]))
  (hs:swapsWithSole [.Tuple [.Name x px,.Name y py] kt pt] (.Tuple [a,b] k2 pt2) pos.line X.env=pure false:=by rfl) :
  RS X G (.Assign [.Tuple [.Name x px,.Name y py] kt pt] (.Tuple [a,b] k2 pt2) pos) (QX i j ta):=⟨zo (L2.pK hc hN hi hj hij hx hy ha.run hw hs) λD σ H ⟨τ,J,D2,a2,h,g⟩ =>
 ⟨τ,J,_,a2,h,λxs J' vs H' rs rr ee hh=>by
  obtain ⟨v,w,e,q⟩:=Bg hh
  subst e
  obtain ⟨v',us,rfl,rv,w',us',rfl,rw',e'⟩:=rs
  cases e'
  exact ⟨v',w',rfl,g.nx _ J' _ H' (((a2.sl.ext ee).set i rv).set j rw') rr ee q⟩⟩⟩
def pN (f:Str) (v:PV):List (Str × PV)→List (Str × PV)
 | []=>[(f,v)]
 | (g,w) :: r=>if g=f then (g,v) :: r else (g,w) :: pN f v r
theorem zt {K:PySem.W.Frag} {J:Hq} {H:Hp} {f:Str} {y:PV} {v:V} (r:cH K J H y v):∀{fs:List (Str × PV)} {gs:List (Str × V)},mG K J H fs gs→mG K J H (pN f y fs) (fA f v gs)
 | [],[],_=>⟨rfl,v,[],rfl,r,rfl⟩
 | [],_ :: _,h=>by cases h.1
 | _ :: _,[],h=>by cases h.1
 | (k,y') :: fs,(k',w) :: gs,h=>by
  obtain ⟨h1,v',us,h2,h3,h4⟩:=h
  simp only [U6,List.cons.injEq] at h1 h2
  obtain ⟨rfl,h1⟩:=h1
  obtain ⟨rfl,rfl⟩:=h2
  unfold pN L2.fA
  by_cases hk:k=f
  ·rw [if_pos hk,if_pos hk]
   exact ⟨by simp only [U6,h1],v,_,rfl,r,h4⟩
  ·rw [if_neg hk,if_neg hk]
   obtain ⟨z1,z2⟩:=zt (f:=f) r (⟨h1,h4⟩:mG K J H fs gs)
   exact ⟨by simp only [U6,z1],w,_,rfl,h3,z2⟩
def L4 (C:Addr) (ta tv:dN) (f:Str):iQ:=λD τ J=>tv τ J λy J1=>ta τ J1 λx J2=>Ep x λa=>ND C (J2 a) λfs=>fs.length < 1000∧D.nx τ (put J2 a (.ins C (pN f y fs)))
theorem Ext.Oz {K:PySem.W.Frag} {J:Hq} {H:Hp} {p C dx:Addr} {fs gs:List (Str × PV)} {fs' gs':List (Str × V)} (h:J p=some (.ins C fs)) (k:H p=some (.ins C dx fs')):Ext K J H (put J p (.ins C gs)) (upd H p (.ins C dx gs')):=by
 have sm:∀a u,a≠p→Rd H a u→Rd (upd H p (.ins C dx gs')) a u:=λa u ne z=>by
  rcases z with z | ⟨o,z⟩
  ·exact .inl (by rw [aM ne];exact z)
  ·exact .inr ⟨o,by rw [aM ne];exact z⟩
 have nn:∀a u,(∀c d l,u≠HO.ins c d l)→Rd H a u→a≠p:=λa u d z e=>by
  subst e
  rcases z with z | ⟨o,z⟩
  ·rw [k] at z;cases z;exact d _ _ _ rfl
  ·rw [k] at z;cases z
 refine ⟨λa vs' z=>?_,λa o z q _=>?_⟩
 ·rcases z with z | z
  ·exact .inl (sm a _ (nn a (.tup vs') (λ_ _ _ e=>nomatch e) z) z)
  ·exact .inr z
 ·have ne:a≠p:=by intro e;subst e;rw [h] at z;cases z
  exact ⟨by rw [aw ne];exact z,by rw [aM ne];exact q⟩
theorem iE {C:Addr} {f:Str} (cl:qK X.K C) (na:aK X.K C f) (ha:RE X G o ta) (hv:RE X G value tv) (hs:swapsWith value (some (.Attribute o f pos')) pos.line X.env=pure false:=by rfl):RS X G (.Assign [.Attribute o f pos'] value pos) (L4 C ta tv f) :=
 ⟨zo (L2.NX ha.run hv.run hs) λD σ H ⟨τ,J,D2,a2,h,g⟩=>⟨τ,J,_,a2,h,λy J1 v H1 ry r1 e1 q1=>⟨τ,J1,_,a2.go r1 e1,q1,λx J2 w H2 rx r2 e2 hh=>by
  obtain ⟨a,ex,hh⟩:=gI hh;obtain ⟨fs,ja,hl,q2⟩:=Bf hh
  subst ex;cases rx
  obtain ⟨dx,gs,h2,rf⟩:=r2 _ _ ja
  have ll:gs.length=fs.length:=by have:=congrArg V0 rf.1;simpa using this.symm
  have e3:=Ext.Oz (K:=X.K) (gs:=pN f y fs) (gs':=fA f v gs) ja h2
  refine ⟨a,C,dx,gs,rfl,h2,cl,na,by omega,g.nx τ _ σ _ (((a2.sl.ext e1).ext e2).ext e3) ?_ ((e1.trans e2).trans e3) q2⟩
  refine r2.EN e3 a (λb ne=>aw ne) (λb o ne _ z=>by rw [aM ne];exact z) λu z=>?_
  rw [ax] at z;cases z
  exact ⟨dx,_,aH,e3.zx (zt (e2.rep ry) rf)⟩⟩⟩⟩
def He (c:mI) (tb:iQ):iQ:=λD τ J=>∃W:Nat→Sr→Hq→Prop,(∃m,W m τ J)∧∀m τ J,W m τ J →
 c τ J λb J1=>if b=true then ∃N:Sr→Hq→Prop,(∀τ' J',N τ' J'→∃m',m' < m∧W m' τ' J')∧tb { D with nx:=N,ct:=N,bk:=D.nx } τ J1 else D.nx τ J1
theorem k7 {c:Expr} {body:List Stmt} {tb:iQ} (hp:PassesOwn (model X.prog X.w) X.A X.env X.xe) (hc:RT X G c tc) (hb:RB X G body tb):RS X G (.While c body [] pos) (He tc tb):=⟨zo (L2.kY hp hc.run hb.run) λD σ H ⟨τ,J,D2,a2,⟨W,⟨m0,w0⟩,h⟩,g⟩=>by
 refine ⟨λm σ' H'=>∃τ' J',yg X.K G τ' J' σ' H'∧Ext X.K J H J' H'∧W m τ' J',⟨m0,τ,J,a2,.refl,w0⟩,λm σ1 H1 ⟨τ1,J1,a1,e1,w1⟩=>?_⟩
 refine ⟨τ1,J1,_,a1,h m τ1 J1 w1,λb J2 H2 r2 e2 q=>?_⟩
 cases b with
 | false=>simp only [Vd,if_false] at q ⊢;exact g.nx τ1 J2 σ1 H2 (a1.sl.ext e2) r2 (e1.trans e2) q
 | true =>
  simp only [if_true] at q ⊢
  obtain ⟨N,hN,q⟩:=q
  refine ⟨λσ' H'=>∃τ' J',yg X.K G τ' J' σ' H'∧Ext X.K J H J' H'∧N τ' J',λσ' H' ⟨τ',J',a',e',n'⟩=>let ⟨m',lt,w'⟩:=hN τ' J' n';⟨m',lt,τ',J',a',e',w'⟩,τ1,J2,{ D2 with nx:=N,ct:=N,bk:=D2.nx },a1.go r2 e2,q,?_⟩
  have ge:=g.ext (e1.trans e2)
  exact { nx:=λτ' J' σ' H' rs rr ee q=>⟨τ',J',⟨rs,rr,(a1.ext.trans e2).trans ee⟩,(e1.trans e2).trans ee,q⟩,rt:=ge.rt,bk:=ge.nx,ct:=λτ' J' σ' H' rs rr ee q=>⟨τ',J',⟨rs,rr,(a1.ext.trans e2).trans ee⟩,(e1.trans e2).trans ee,q⟩ }⟩
structure Ar where
 xs:List PV
 ok:Hq→Prop
structure vi (K:PySem.W.Frag) (it:Ar) (I:It) (J:Hq) (H:Hp):Prop where
 go:∀J' H',Ext K J H J' H'→Rep K J' H'→it.ok J'→∀i,i < it.xs.length→I.go i H'
 yl:∀J' H',Ext K J H J' H'→Rep K J' H'→it.ok J'→∀i,i < it.xs.length→∀v H2,I.yld i H' v H2→∃x,it.xs[i]?=some x∧cH K J' H2 x v∧Rep K J' H2∧Ext K J' H' J' H2
 stop:∀J' H',Ext K J H J' H'→Rep K J' H'→it.ok J'→I.stop it.xs.length H'
abbrev uD:=Sr→Hq→(Ar→Hq→Prop)→Prop
def LI (K:PySem.W.Frag) (G:G2) (t:uD):TI:=λσ H R=>∃τ J R2,yg K G τ J σ H∧t τ J R2∧∀it J' I H',vi K it I J' H'→Rep K J' H'→Ext K J H J' H'→R2 it J'→R I H'
structure RI (X:Cx) (G:G2) (tg e:Expr) (t:uD):Prop where
 run:L2.PI X tg e (LI X.K G t)
theorem Qm {X:Cx} {tg e:Expr} {t t':TI} (h:L2.PI X tg e t) (k:∀σ H Q,t' σ H Q→t σ H Q):L2.PI X tg e t':=λpins s σ H Q I q=>h pins s σ H Q I (k _ _ _ q)
def QJ (wi:uD) (g:AE) (tb:iQ):iQ:=λD τ J=>wi τ J λit J1=>∃Pv:Nat→Sr→Hq→Prop,Pv 0 τ J1∧(∀i τ J,Pv i τ J→it.ok J) ∧
 (∀i x τ J,it.xs[i]?=some x→Pv i τ J→g x τ J λτ2 J2=>tb { D with nx:=Pv (i + 1),ct:=Pv (i + 1),bk:=D.nx } τ2 J2)∧∀τ J,Pv it.xs.length τ J→D.nx τ J
theorem eu {iter:Expr} {body:List Stmt} {wi:uD} {g:AE} {tb:iQ} {pos:Pos} (hp:PassesOwn (model X.prog X.w) X.A X.env X.xe) (hc:X.calm=true) (hi:RI X G tg iter wi) (hg:RG X G tg g) (hb:RB X G body tb)
  (hs:∀x,foldedSetIterable iter X.env x=pure x:=by intro _;rfl):RS X G (.For tg iter body [] pos) (QJ wi g tb):=⟨zo (L2.pJ hp hc hi.run hg.run hb.run hs) λD σ H ⟨τ,J,D2,a2,h,g⟩=>by
 refine ⟨τ,J,_,a2,h,λit J1 I H1 ir r1 e1 ⟨Pv,p0,pok,step,fin⟩=>?_⟩
 refine ⟨λi m σ' H'=>m=it.xs.length - i∧i≤it.xs.length∧∃τ' J',yg X.K G τ' J' σ' H'∧Ext X.K J1 H1 J' H'∧Pv i τ' J',⟨_,rfl,Vr _,τ,J1,a2.go r1 e1,.refl,p0⟩,?_⟩
 rintro i m σ2 H2 ⟨rfl,hil,τ2,J2,a3,e3,p3⟩
 by_cases hlt:i < it.xs.length
 ·refine .inr ⟨ir.go J2 H2 e3 a3.hp (pok _ _ _ p3) i hlt,λσ' H'=>∃τ' J',yg X.K G τ' J' σ' H'∧Ext X.K J1 H1 J' H'∧Pv (i + 1) τ' J',λσ' H' z=>⟨_,by omega,rfl,hlt,z⟩,λv H4 y=>?_⟩
  obtain ⟨x,ex,rx,r4,e4⟩:=ir.yl J2 H2 e3 a3.hp (pok _ _ _ p3) i hlt v H4 y
  refine ⟨x,τ2,J2,_,rx,a3.go r4 e4,step i x τ2 J2 ex p3,λτ5 J5 σ5 H5 rs5 r5 e5 q5=>?_⟩
  have ae:=(a3.ext.trans e4).trans e5
  have ge:=g.ext (((e1.trans e3).trans e4).trans e5)
  refine ⟨τ5,J5,{ D2 with nx:=Pv (i + 1),ct:=Pv (i + 1),bk:=D2.nx },⟨rs5,r5,ae⟩,q5,?_⟩
  exact { nx:=λτ' J' σ' H' rs rr ee q=>⟨τ',J',⟨rs,rr,ae.trans ee⟩,((e3.trans e4).trans e5).trans ee,q⟩,rt:=ge.rt,bk:=ge.nx,ct:=λτ' J' σ' H' rs rr ee q=>⟨τ',J',⟨rs,rr,ae.trans ee⟩,((e3.trans e4).trans e5).trans ee,q⟩ }
 ·have ei:i=it.xs.length:=by omega
  subst ei
  exact .inl ⟨ir.stop J2 H2 e3 a3.hp (pok _ _ _ p3),g.nx τ2 J2 σ2 H2 a3.sl a3.hp (e1.trans e3) (fin _ _ p3)⟩⟩
def RM (J:Hq):PV→Option Ar
 | .fl xs=>some ⟨xs,λ_=>True⟩
 | .ref a=>match J a with
  | some (.lst xs)=>some ⟨xs,λJ'=>J' a=some (.lst xs)⟩
  | _=>none
 | _=>none
def Ug (te:dN):uD:=λτ J R=>te τ J λx J1=>xf (RM J1 x) λit=>R it J1
theorem vi.list {K:PySem.W.Frag} {it:Ar} {a:Addr} {J:Hq} {H:Hp} (h:∀J' H',Ext K J H J' H'→Rep K J' H'→it.ok J'→∃vs,dq K H' a vs∧aU K J' H' it.xs vs):vi K it (L2.IG K a) J H where
 go:=λJ' H' e r o i hi=>by
  obtain ⟨vs,s,rs⟩:=h J' H' e r o
  exact ⟨vs,vs[i]'(by rw [← rs.length];exact hi),s,by simp⟩
 yl:=λJ' H' e r o i hi v H2 y=>by
  obtain ⟨vs,s,rs⟩:=h J' H' e r o
  obtain ⟨e1,y⟩:=y
  subst e1
  obtain ⟨x,ex,rx⟩:=rs.get' (y vs s)
  exact ⟨x,ex,rx,r,.refl⟩
 stop:=λJ' H' e r o=>by
  obtain ⟨vs,s,rs⟩:=h J' H' e r o
  exact ⟨vs,s,by rw [rs.length];exact U4 _⟩
theorem fj {l:Expr} {tl:dN} (hl:RE X G l tl):RI X G tg l (Ug tl):=⟨Qm (L2.n9 hl.run) λσ H R ⟨τ,J,R2,a2,h,k⟩=>⟨τ,J,_,a2,h,λx J1 v H1 rx r1 e1 hh=>by
 obtain ⟨it,ei,q⟩:=fe hh
 cases x with
 | fl xs =>
  obtain ⟨a,vs,rfl,h1,h2⟩:=rx
  cases ei
  refine ⟨a,rfl,⟨vs,h1.sq⟩,k _ J1 _ H1 (.list λJ' H' e r _=>⟨vs,(e.flat h1).sq,e.jM h2⟩) r1 e1 q⟩
 | ref a =>
  cases rx
  unfold RM at ei
  dsimp only at ei
  cases ej:J1 a with
  | none=>rw [ej] at ei;cases ei
  | some o =>
   rw [ej] at ei
   cases o with
   | lst xs =>
    cases ei
    obtain ⟨vs,h1,h2⟩:=r1 _ _ ej
    refine ⟨a,rfl,⟨vs,.inl (.inl h1)⟩,k _ J1 _ H1 (.list λJ' H' e r o=>?_) r1 e1 q⟩
    obtain ⟨vs',h1',h2'⟩:=r _ _ o
    exact ⟨vs',.inl (.inl h1'),h2'⟩
   | _=>cases ei
 | _=>cases ei⟩⟩
def UM (te:dN):uD:=λτ J R=>te τ J λx J1=>OP x λxs=>R ⟨xs,λ_=>True⟩ J1
def sj (lo:Int) (n:Nat):List PV:=(VA n).map λ(i:Nat)=>PV.int (lo + (i:Int))
theorem iZ (lo:Int) (n:Nat):(sj lo n).length=n:=by simp [sj]
theorem sk (lo:Int) (n i:Nat) (x:PV):(sj lo n)[i]?=some x↔i < n∧x=.int (lo + i):=by
 unfold sj
 rw [U8]
 by_cases h:i < n
 ·rw [W3 h];simp [h,eq_comm]
 ·rw [Vz (by simpa using h)];simp [h]
theorem vi.OR {K:PySem.W.Frag} {J:Hq} {H:Hp} (lo:Int) (n:Nat):vi K ⟨sj lo n,λ_=>True⟩ (L2.E_ lo n) J H where
 go:=λJ' H' e r o i hi=>by
  show i < n
  simpa [iZ] using hi
 yl:=λJ' H' e r o i hi v H2 y=>by
  obtain ⟨e1,y⟩:=y
  subst e1 y
  exact ⟨.int (lo + i),(sk lo n i _).mpr ⟨by simpa [iZ] using hi,rfl⟩,rfl,r,.refl⟩
 stop:=λJ' H' e r o=>by
  show n≤(sj lo n).length
  rw [iZ];exact U4 _
def Uh (ta:p_):uD:=λτ J R=>ta τ J λvs J1=>Eo vs λx=>EW x λj=>-(2 ^ 62)≤j∧j < 2 ^ 62∧R ⟨sj 0 j.toNat,λ_=>True⟩ J1
def UL (ta:p_):uD:=λτ J R=>ta τ J λvs J1=>NJ vs λx y=>EW x λi=>EW y λj=>(-(2 ^ 62)≤i∧i < 2 ^ 62∧-(2 ^ 62)≤j∧j < 2 ^ 62)∧R ⟨sj i (j - i).toNat,λ_=>True⟩ J1
theorem gm {a:Expr} {ta:p_} {p pos:Pos} (hg:Gl X "range") (hm:X.mg "range"=none) (ha:RA X G [a] ta) (hs:starEach [a] X.env=[(false,eval a X.env)]:=by rfl):RI X G tg (.Call (.Name "range" p) [a] [] pos) (Uh ta) :=
 ⟨Qm (L2.gj hg hm ha.run hs) λσ H R ⟨τ,J,R2,a2,h,k⟩=>⟨τ,J,_,a2,h,λxs J1 vs H1 rs r1 e1 hh=>by
  obtain ⟨x,ex,hh⟩:=jE hh;obtain ⟨j,ej,l1,l2,q⟩:=ip hh;subst ej ex
  obtain ⟨v,us,rfl,rv,e'⟩:=rs
  cases rv;cases e'
  exact ⟨j,rfl,l1,l2,k _ J1 _ H1 (.OR 0 _) r1 e1 q⟩⟩⟩
def fB (C:Addr) (E2:Addr→Hq→Prop) (t:p_):iQ:=λ_ τ J=>t τ J λxs J1=>xs.length≤sizeLine∧E2 C J1
theorem dX {E:XK} {E2:Addr→Hq→Prop} {C:Addr} {x:Str} {t:p_} {np cpos:Pos} (O:Own X.K X.mg x C) (hc:X.calm=true) (hx:Throws X E) (kn:K_ X.K G.1 G.2 E2 E) (hg:Gl X x) (ha:RA X G (e :: es) t)
  (hd:(x == ("__debug__":Str))=false:=by decide) (he:starEach (e :: es) X.env=(false,eval e X.env) :: starEach es X.env:=by rfl) (hpl:(backTo cpos (starEach es X.env)).any (·.1)=false:=by rfl) :
  RS X G (.Raise (some (.Call (.Name x np) (e :: es) [] cpos)) none pos) (fB C E2 t):=⟨zo (EB O hc hx hg ha.run hd he hpl) λD σ H ⟨τ,J,D2,a2,h,g⟩ =>
 ⟨τ,J,_,a2,h,λxs J1 vs H1 rs r1 e1 ⟨hl,q⟩=>⟨by rw [← rs.length];exact hl,kn C J1 H1 r1 (a2.ext.trans e1) q⟩⟩⟩
end
section
variable {P:Program} {w:World} {K:PySem.W.Frag} {mg:Str→Option Value} {base:Heap}
section
variable {α β:Type} {a b:α} {l m:List α} {i:Nat} {f:α→β} {c:Bool}
theorem OF:Xt f (a :: l)=f a :: Xt f l:=rfl
theorem OG:Xt f []=[]:=rfl
theorem OD:(a :: l).length=l.length + 1:=rfl
theorem OE:([]:List α).length=0:=rfl
theorem OB:(a :: l) ++ m=a :: (l ++ m):=rfl
theorem OC:[] ++ m=m:=rfl
theorem TL:(a :: l)[0]?=some a:=rfl
theorem TM:(a :: l)[i + 1]?=l[i]?:=rfl
theorem TY:(a :: l).set 0 b=b :: l:=rfl
theorem TZ:(a :: l).set (i + 1) b=a :: l.set i b:=rfl
theorem TU:Option.map f (some a)=some (f a):=rfl
theorem TR:(some a).getD b=a:=rfl
theorem TQ:(!true)=false:=rfl
theorem TN:(!false)=true:=rfl
theorem T1:(true && c)=c:=rfl
theorem TK:(false && c)=false:=rfl
theorem TV:VP 0 a=[]:=rfl
theorem TX:VP (i + 1) a=a :: VP i a:=rfl
theorem Ry:(a :: l).isEmpty=false:=rfl
theorem Rz:([]:List α).isEmpty=true:=rfl
end
def ya (N:List Str) (xs:List PV):Sr:=xs.map some ++ VP (N.length - xs.length) none
theorem HH {J:Hq} {H:Hp} {N:List Str} {xs:List PV} {vs:List V} (r:aU K J H xs vs):mH K J H (ya N xs) (L2.start N vs):=by
 refine ⟨by simp [ya,L2.start,r.length],λi x e=>?_⟩
 unfold ya at e
 unfold L2.start
 by_cases hi:i < xs.length
 ·rw [VW (by simpa using hi),U8] at e
  cases ex:xs[i]? with
  | none=>rw [ex] at e;cases e
  | some y =>
   rw [ex] at e
   cases e
   obtain ⟨v,h1,h2⟩:=r.get ex
   exact ⟨v,by rw [VW (by rw [UZ,← r.length];exact hi),U8,h1];rfl,h2⟩
 ·rw [VS (by simpa using hi)] at e
  have:=U3 e
  rw [List.mem_replicate] at this
  cases this.2
theorem S3 {x qual:Str} {st:Stmt} {f:Addr} {fd:FuncData} {N ps:List Str} {k:Nat} {sp:cu} (F:cg K x qual st f fd) (S:av N ps (L2.aj st)) (len:∀xs J Q E,sp xs J Q E→xs.length=ps.length)
  (hbody:∀(cdv:Value) (A:Around) (outer:List Env) (s:Shared) (H:Hp) (E:XK) (G:G2) (xs:List PV) (J:Hq) (Q:PV→Hq→Prop) (E2:Addr→Hq→Prop),b9 k (A.deeper (envOfC qual (L2.aj st) s.heap.objs.size f cdv))→sp xs J Q E2 →
   DC (Ad P w K mg base N qual (L2.aj st) f cdv A outer s H E) G E2 E →
   ∃t,RB (Ad P w K mg base N qual (L2.aj st) f cdv A outer s H E) G (L2.cb st) t∧t { nx:=λ_ J'=>Q .non J',rt:=Q } (ya N xs) J):aO P w K mg base (cK P w) (k + 1) f fd ps (dg K sp):=by
 refine UT F S (λvs H Q E ⟨xs,J,Q2,E2,a,_,b,_⟩=>by rw [← a.length];exact len _ _ _ _ b) λcdv A outer s H vs Q E hr ⟨xs,J,Q2,E2,rs,rr,hs,kn,ke⟩=>?_
 obtain ⟨t,hb,q⟩:=hbody cdv A outer s H E (J,H) xs J Q2 E2 hr hs ⟨AN,ke⟩
 refine ⟨_,⟨hb.run⟩,ya N xs,J,_,⟨HH rs,rr,.refl⟩,q,?_⟩
 exact { nx:=λτ J' σ H' _ r e q=>kn .non J' .non H' rfl r e q,rt:=λx J' v H' rx r e q=>kn x J' v H' rx r e q,bk:=λ_ _ _ _ _ _ _ q=>q.elim,ct:=λ_ _ _ _ _ _ _ q=>q.elim }
theorem US {x qual:Str} {st:Stmt} {f:Addr} {fd:FuncData} {N ps:List Str} {k:Nat} {sp:cu} {t:(Addr→Hq→Prop)→iQ} (F:cg K x qual st f fd) (S:av N ps (L2.aj st)) (len:∀xs J Q E,sp xs J Q E→xs.length=ps.length)
  (rd:∀(cdv:Value) (A:Around) (outer:List Env) (s:Shared) (H:Hp) (E:XK) (G:G2) (E2:Addr→Hq→Prop),b9 k (A.deeper (envOfC qual (L2.aj st) s.heap.objs.size f cdv)) →
   DC (Ad P w K mg base N qual (L2.aj st) f cdv A outer s H E) G E2 E→RB (Ad P w K mg base N qual (L2.aj st) f cdv A outer s H E) G (L2.cb st) (t E2))
  (run:∀(xs:List PV) (J:Hq) (Q:PV→Hq→Prop) (E2:Addr→Hq→Prop),sp xs J Q E2→∀X:Prop,(t E2 { nx:=λ_ J'=>Q .non J',rt:=Q } (ya N xs) J→X)→X):aO P w K mg base (cK P w) (k + 1) f fd ps (dg K sp) :=
 S3 F S len λcdv A outer s H E G xs J Q E2 hr h B=>⟨_,rd cdv A outer s H E G E2 hr B,run xs J Q E2 h _ id⟩
theorem _root_.Ov.Def.eA {x:Str} {st:Stmt} {k:Nat} {ps:List Str} {sp:cu} (D:Def K mg x st)
  (h:∀f fd,cg K x x st f fd→aO P w K mg base (cK P w) k f fd ps (dg K sp))
  (hb:∀(kV doc pm:Value) (an:Option Addr) (cdv ct:Value) (us:List Value),us.length=ps.length→bindArgs (PySem.W.fnOf x x (L2.dG st) (L2.cb st) (L2.aj st) .none kV doc pm an cdv ct) ⟨us,[]⟩=pure (ps.zip us)) :
  bx P w K mg base k x ps sp:=D.Si h hb
end
section
variable {X:Cx} {K:PySem.W.Frag}
def G8 (g:Int→Int→PV):nG:=λx y J Q=>EW x λi=>EW y λj=>Q (g i j) J
def qI (C:Int→Int→Prop) (g:Int→Int→PV):nG:=λx y J Q=>EW x λi=>EW y λj=>C i j∧Q (g i j) J
theorem vI {g:Int→Int→V} {g':Int→Int→PV} (hg:∀J H i j,cH K J H (g' i j) (g i j)):LR K (L2.Ik g) (G8 g'):=λJ H x y v w Q2 Q rx ry r h k=>by
 obtain ⟨i,ex,h⟩:=ip h;obtain ⟨j,ey,q⟩:=ip h
 subst ex ey;exact ⟨i,j,rx,ry,k _ J _ H (hg _ _ _ _) r .refl q⟩
theorem Nn {C:Int→Int→Prop} {g:Int→Int→V} {g':Int→Int→PV} (hg:∀J H i j,cH K J H (g' i j) (g i j)):LR K (L2.rI C g) (qI C g'):=λJ H x y v w Q2 Q rx ry r h k=>by
 obtain ⟨i,ex,h⟩:=ip h;obtain ⟨j,ey,c,q⟩:=ip h
 subst ex ey;exact ⟨i,j,rx,ry,c,k _ J _ H (hg _ _ _ _) r .refl q⟩
theorem cX:nu X (binaryOp .Add) (G8 λi j=>.int (i + j)):=⟨_,L2.jF,vI λ_ _ _ _=>rfl⟩
theorem dD:nu X (binaryOp .Sub) (G8 λi j=>.int (i - j)):=⟨_,L2.Bi,vI λ_ _ _ _=>rfl⟩
theorem bP:nu X (binaryOp .Mult) (qI CM λi j=>.int (i * j)):=⟨_,cU,Nn λ_ _ _ _=>rfl⟩
theorem qT:nu X (binaryOp .FloorDiv) (qI CQ λi j=>.int (i.fdiv j)):=⟨_,gJ,Nn λ_ _ _ _=>rfl⟩
theorem eh:nu X (binaryOp .Mod) (qI (λ_ j=>0 < j) λi j=>.int (i % j)):=⟨_,L2.gK,Nn λ_ _ _ _=>rfl⟩
theorem gL:nu X (compareOp .Lt) (G8 λi j=>.bl (decide (i < j))):=⟨_,L2.Cz,vI λ_ _ _ _=>rfl⟩
theorem GP:nu X (compareOp .LtE) (G8 λi j=>.bl (decide (i≤j))):=⟨_,L2.LH,vI λ_ _ _ _=>rfl⟩
theorem j3:nu X (compareOp .Gt) (G8 λi j=>.bl (decide (j < i))):=⟨_,L2.LF,vI λ_ _ _ _=>rfl⟩
theorem CA:nu X (compareOp .GtE) (G8 λi j=>.bl (decide (j≤i))):=⟨_,L2.LD,vI λ_ _ _ _=>rfl⟩
def qU (g:Int→PV):OY:=λx J Q=>EW x λi=>Q (g i) J
theorem p9:T9 X (unaryOp .USub) (qU λi=>.int (-i)):=⟨_,L2.H0,λJ H x v Q2 Q rx r h k=>by obtain ⟨i,ex,q⟩:=ip h;subst ex;exact ⟨i,rx,k (.int (-i)) J _ H rfl r .refl q⟩⟩
def Qu:nG:=λx y J Q=>LC x λi=>LC y λj=>Q (.bl (decide (i.cps.toList < j.cps.toList))) J
theorem Bj:nu X (compareOp .Lt) Qu:=⟨_,L2.Et,λJ H x y v w Q2 Q rx ry r h k=>by obtain ⟨i,ex,h⟩:=pG h;obtain ⟨j,ey,q⟩:=pG h;subst ex ey;exact ⟨i,j,rx,ry,k (.bl _) J _ H rfl r .refl q⟩⟩
def FZ:PV→Bool
 | .non=>true
 | _=>false
theorem Cr {J:Hq} {H:Hp} {x:PV} {v:V} (r:cH K J H x v):decide (v=.non)=FZ x:=by
 cases x with
 | non=>cases r;rfl
 | tup xs=>obtain ⟨a,vs,rfl,_⟩:=r;rfl
 | fl xs=>obtain ⟨a,vs,rfl,_⟩:=r;rfl
 | _=>cases r;rfl
def Us:nG:=λx y J Q=>y=.non∧Q (.bl (FZ x)) J
def G_:nG:=λx y J Q=>y=.non∧Q (.bl (!FZ x)) J
theorem Qi:nu X (compareOp .Is) Us:=⟨_,L2.NO,λJ H x y v w Q2 Q rx ry r ⟨ey,q⟩ k=>by subst ey;cases ry;exact ⟨rfl,by rw [Cr rx];exact k (.bl _) J _ H rfl r .refl q⟩⟩
theorem sJ:nu X (compareOp .IsNot) G_:=⟨_,L2.JR,λJ H x y v w Q2 Q rx ry r ⟨ey,q⟩ k=>by subst ey;cases ry;exact ⟨rfl,by rw [Cr rx];exact k (.bl _) J _ H rfl r .refl q⟩⟩
mutual
def fS:PV→Py
 | .non=>.non | .bl b=>.bl b | .int i=>.int i | .str x=>.str x | .ref _=>.non | .ty _=>.non | .tup xs=>.tup (f6 xs) | .fl xs=>.lst (f6 xs)
def f6:List PV→List Py
 | []=>[]
 | x :: xs=>fS x :: f6 xs
end
mutual
def mB:PV→Bool
 | .ref _=>false | .ty _=>false | .tup xs=>jg xs | .fl xs=>jg xs | _=>true
def jg:List PV→Bool
 | []=>true
 | x :: xs=>mB x && jg xs
end
mutual
theorem wu {J:Hq} {H:Hp}:∀{x:PV} {v:V},mB x=true→cH K J H x v→At K H (fS x) v
 | .non,_,_,h=>h
 | .bl _,_,_,h=>h
 | .int _,_,_,h=>h
 | .str _,_,_,h=>h
 | .tup xs,_,p,⟨a,vs,e,h,k⟩=>⟨a,vs,e,h,rV (by simpa [mB] using p) k⟩
 | .fl xs,_,p,⟨a,vs,e,h,k⟩=>⟨a,vs,e,h.sq,rV (by simpa [mB] using p) k⟩
theorem rV {J:Hq} {H:Hp}:∀{xs:List PV} {vs:List V},jg xs=true→aU K J H xs vs→ua K H (f6 xs) vs
 | [],_,_,h=>h
 | x :: xs,_,p,⟨v,us,e,h,k⟩=>by
  have p':mB x=true∧jg xs=true:=by simpa [jg] using p
  exact ⟨v,us,e,wu p'.1 h,rV p'.2 k⟩
end
def eqQ (x y:PV):Bool:=lP (fS x) (fS y)
def Ig (x:PV):Prop:=mB x=true∧dep (fS x)≤60
def LQ (f:Bool→Bool):nG:=λx y J Q=>Ig x∧mB y=true∧Q (.bl (f (eqQ x y))) J
theorem Lu (f:Bool→Bool):LR K (rP K f) (LQ f):=λJ H x y v w Q2 Q rx ry r ⟨⟨px,d⟩,py,q⟩ k=>⟨fS x,fS y,wu px rx,wu py ry,d,k (.bl _) J _ H rfl r .refl q⟩
theorem bT (hu:X.A.units + 61 < cLine):nu X (compareOp .Eq) (LQ id):=⟨_,NM hu,Lu id⟩
theorem h_ (hu:X.A.units + 61 < cLine):nu X (compareOp .NotEq) (LQ not):=⟨_,NP hu,Lu not⟩
def fP (J:Hq):PV→PV→Option PV
 | .tup xs,.int i=>dF xs i
 | .fl xs,.int i=>dF xs i
 | .ref a,.int i=>match J a with
  | some (.lst xs)=>dF xs i
  | _=>none
 | _,_=>none
theorem aU.dF {J:Hq} {H:Hp} {xs:List PV} {vs:List V} {i:Int} {x:PV} (r:aU K J H xs vs) (h:L2.dF xs i=some x):∃v,L2.dF vs i=some v∧cH K J H x v:=by
 unfold L2.dF at h ⊢
 rw [← r.length]
 cases e:L2.EV xs.length i with
 | none=>rw [e] at h;cases h
 | some j =>
  rw [e] at h
  obtain ⟨v,h1,h2⟩:=r.get h
  exact ⟨v,h1,h2⟩
def LU:nG:=λx y J Q=>xf (fP J x y) λv=>Q v J
theorem ar:R7 X LU:=⟨_,L2.wH.or L2.dh,λJ H x y v w Q2 Q rx ry r h k=>by
 obtain ⟨z,ez,q⟩:=fe h
 cases y with
 | int i =>
  cases ry
  cases x with
  | tup xs =>
   obtain ⟨a,vs,rfl,h1,h2⟩:=rx
   obtain ⟨u,e1,e2⟩:=h2.dF (show L2.dF xs i=some z from ez)
   exact .inr ⟨a,vs,i,u,rfl,rfl,h1,e1,k z J u H e2 r .refl q⟩
  | fl xs =>
   obtain ⟨a,vs,rfl,h1,h2⟩:=rx
   obtain ⟨u,e1,e2⟩:=h2.dF (show L2.dF xs i=some z from ez)
   exact .inl ⟨a,vs,i,u,rfl,rfl,h1.sq,e1,k z J u H e2 r .refl q⟩
  | ref a =>
   cases rx
   unfold fP at ez
   dsimp only at ez
   cases ej:J a with
   | none=>rw [ej] at ez;cases ez
   | some o =>
    rw [ej] at ez
    cases o with
    | lst xs =>
     obtain ⟨vs,h1,h2⟩:=r _ _ ej
     obtain ⟨u,e1,e2⟩:=h2.dF (show L2.dF xs i=some z from ez)
     exact .inl ⟨a,vs,i,u,rfl,rfl,.inl (.inl h1),e1,k z J u H e2 r .refl q⟩
    | _=>cases ez
  | _=>cases ez
 | _=>cases x <;> cases ez⟩
def mL (xs:List PV) (lo hi:Option Int):List PV:=(xs.drop (HT.eR xs.length 0 lo)).take (HT.eR xs.length xs.length hi - HT.eR xs.length 0 lo)
theorem B7 {J:Hq} {H:Hp} {xs:List PV} {vs:List V} {lo hi:Option Int} (r:aU K J H xs vs):aU K J H (mL xs lo hi) (L2.o_ vs lo hi):=by
 unfold mL L2.o_
 rw [← r.length]
 exact (r.drop _).take _
def Qy:DI:=λx lo hi J Q=>OP x λxs=>¬ (HT.eR xs.length 0 lo=0∧HT.eR xs.length xs.length hi=xs.length)∧Q (.tup (mL xs lo hi)) J
theorem BR:R_ X Qy:=⟨_,L2.Og,λJ H x lo hi v Q2 Q rx r h k=>by
 obtain ⟨xs,ex,hn,q⟩:=GJ h
 subst ex
 obtain ⟨a,vs,rfl,h1,h2⟩:=rx
 refine ⟨a,vs,rfl,h1,by rw [← h2.length];exact hn,λp hp=>?_⟩
 have sm:=bL.new hp (.tup (L2.o_ vs lo hi))
 have e2:=Ext.same (K:=X.K) (J:=J) sm
 exact k (.tup (mL xs lo hi)) J (.ref p) _ ⟨p,_,rfl,.inl (.inl aH),e2.jM (B7 h2)⟩ (r.same sm) e2 q⟩
def me (J:Hq):PV→Option (List PV)
 | .fl xs=>some xs
 | .ref a=>match J a with
  | some (.lst xs)=>some xs
  | _=>none
 | _=>none
theorem nY {J:Hq} {H:Hp} {x:PV} {v:V} {xs:List PV} (rx:cH K J H x v) (r:Rep K J H) (h:me J x=some xs):∃a vs,v=.ref a∧dq K H a vs∧aU K J H xs vs:=by
 cases x with
 | fl ys=>obtain ⟨a,vs,rfl,h1,h2⟩:=rx;cases h;exact ⟨a,vs,rfl,h1.sq,h2⟩
 | ref a =>
  cases rx
  unfold me at h
  dsimp only at h
  cases ej:J a with
  | none=>rw [ej] at h;cases h
  | some o =>
   rw [ej] at h
   cases o with
   | lst ys=>cases h;obtain ⟨vs,h1,h2⟩:=r _ _ ej;exact ⟨a,vs,rfl,.inl (.inl h1),h2⟩
   | _=>cases h
 | _=>cases h
def Qx:DI:=λx lo hi J Q=>xf (me J x) λxs=>Q (.fl (mL xs lo hi)) J
theorem HF:R_ X Qx:=⟨_,L2.xV,λJ H x lo hi v Q2 Q rx r h k=>by
 obtain ⟨xs,ex,q⟩:=fe h
 obtain ⟨a,vs,rfl,h1,h2⟩:=nY rx r ex
 refine ⟨a,vs,rfl,h1,λp hp=>?_⟩
 obtain ⟨x1,x2,x3⟩:=sE r (B7 (lo:=lo) (hi:=hi) h2) hp
 exact k _ J _ _ x1 x2 x3 q⟩
def Td:DI:=λx lo hi J Q=>xf (me J x) λxs=>∀p,J p=none→Q (.ref p) (put J p (.lst (mL xs lo hi)))
def Qp:AD:=λxs J Q=>Eo xs λx=>EW x λi=>Q (.int (if i < 0 then -i else i)) J
theorem o8:Ir X (.builtin "abs") Qp:=⟨_,L2.nJ,λJ H xs vs Q2 Q rs r h k=>by
 obtain ⟨x,ex,h⟩:=jE h;obtain ⟨i,ei,q⟩:=ip h;subst ei
 subst ex;obtain ⟨v,us,rfl,rv,e⟩:=rs;cases rv;cases e
 exact ⟨i,rfl,k (.int _) J _ H rfl r .refl q⟩⟩
def yQ (J:Hq):PV→Option Nat
 | .tup xs=>some xs.length
 | x=>(me J x).map V0
def N1:AD:=λxs J Q=>Eo xs λx=>xf (yQ J x) λn=>Q (.int n) J
theorem bV:Ir X (.builtin "len") N1:=⟨_,L2.ju,λJ H xs vs Q2 Q rs r h k=>by
 obtain ⟨x,ex,h⟩:=jE h;obtain ⟨n,en,q⟩:=fe h
 subst ex;obtain ⟨v,us,rfl,rv,e⟩:=rs;cases e
 have go:∀ys,me J x=some ys→ys.length=n→∃p ws,([v]:List V)=[.ref p]∧(dq X.K H p ws∨g8 X.K H p ws)∧Q (.int ws.length) H:=λys h1 h2=>by
  obtain ⟨a,ws,rfl,h3,h4⟩:=nY rv r h1
  exact ⟨a,ws,rfl,.inl h3,by rw [← h4.length,h2];exact k (.int _) J _ H rfl r .refl q⟩
 cases x with
 | tup ys =>
  obtain ⟨a,ws,rfl,h1,h2⟩:=rv
  cases en
  exact ⟨a,ws,rfl,.inr h1,by rw [← h2.length];exact k (.int _) J _ H rfl r .refl q⟩
 | fl ys=>cases en;exact go _ rfl rfl
 | ref a =>
  unfold yQ at en
  cases el:me J (.ref a) with
  | none=>simp [el] at en
  | some ys=>simp [el] at en;exact go _ el en
 | _=>cases en⟩
def Dq (J:Hq):PV→Option String
 | .non=>some "NoneType" | .bl _=>some "bool" | .int _=>some "int" | .str _=>some "str" | .tup _=>some "tuple" | .fl _=>some "list"
 | .ref a=>match J a with
  | some (.lst _)=>some "list"
  | some (.dct _ _)=>some "dict"
  | _=>none
 | _=>none
def nk (t n:String):Option Bool :=
 if n∈["int","bool","str","tuple","list"] then some (t == n || (t == "bool" && n == "int")) else none
theorem Jr (K:PySem.W.Frag) {t n:String} {b:Bool} (ht:t∈["NoneType","bool","int","str","tuple","list","dict"]) (h:nk t n=some b):PySem.W.kitOne K (.type t) (.type n)=some b:=by
 unfold nk at h
 by_cases hn:n∈["int","bool","str","tuple","list"]
 ·rw [if_pos hn] at h
  simp only [Vb,Vm,or_false] at ht hn
  rcases ht with rfl | rfl | rfl | rfl | rfl | rfl | rfl <;> rcases hn with rfl | rfl | rfl | rfl | rfl <;> cases h <;> with_unfolding_all rfl
 ·rw [if_neg hn] at h;cases h
theorem K3 {J:Hq} {x:PV} {t:String} (h:Dq J x=some t):t∈["NoneType","bool","int","str","tuple","list","dict"]:=by
 cases x with
 | ref a =>
  unfold Dq at h
  dsimp only at h
  cases ej:J a with
  | none=>rw [ej] at h;cases h
  | some o=>rw [ej] at h;cases o <;> cases h <;> simp
 | ty n=>cases h
 | _=>cases h;simp
def S7 (x:PV) (k:String→Prop) (_:gZ k:=dp):Prop:=match x with | .ty n=>k n | _=>False
theorem Qg {x:String} {k:String→Prop} {d:gZ k}:S7 (.ty x) k d=k x:=rfl
theorem NK {x:PV} {k:String→Prop} {d:gZ k} (h:S7 x k d):∃n,x=.ty n∧k n:=by cases x <;> first | exact ⟨_,rfl,h⟩ | exact False.elim h
def Qs:AD:=λxs J Q=>NJ xs λx y=>S7 y λn=>xf (Dq J x) λt=>xf (nk t n) λb=>Q (.bl b) J
theorem DM:cq X (.builtin "isinstance") (λxs H Q=>∃x n t b,xs=[x,.ty n]∧(g6 X.K H x (.type t)∨(t="tuple"∧∃a vs,x=.ref a∧g8 X.K H a vs)∨(t="list"∧∃a vs,x=.ref a∧dq X.K H a vs))∧PySem.W.kitOne X.K (.type t) (.type n)=some b∧Q (.bl b) H):=by
 intro pins s σ H xs us Q I r h
 obtain ⟨x,n,t,b,rfl,ty,e,q⟩:=h
 obtain ⟨u,w',rfl,rx,ry⟩:=L2.vals2 r
 cases (show w'=Value.type n from ry)
 rcases ty with ty | ⟨rfl,a,vs,rfl,hs⟩ | ⟨rfl,a,vs,rfl,hs⟩
 ·exact L2.DX I rx ty e λtk=>⟨.bl b,H,I.tok _,rfl,q⟩
 ·cases rx
  obtain ⟨its,_,⟨o,h1,h2,_⟩,_⟩:=I.tuple hs
  exact PySem.W.kia_one PySem.W.kitx_tuple I.mO ⟨o,h1,h2⟩ e (λz=>nomatch z) λtk=>⟨.bl b,H,I.tok _,rfl,q⟩
 ·cases rx
  obtain ⟨its,_,⟨o,_,h1,h2,_⟩,_⟩:=I.list hs
  exact PySem.W.kia_one PySem.W.kitx_list I.mO ⟨o,h1,h2⟩ e (λz=>nomatch z) λtk=>⟨.bl b,H,I.tok _,rfl,q⟩
theorem jv:Ir X (.builtin "isinstance") Qs:=⟨_,DM,λJ H xs vs Q2 Q rs r h k=>by
 obtain ⟨x,y,ex,h⟩:=Bg h;obtain ⟨n,ey,h⟩:=NK h;obtain ⟨t,et,h⟩:=fe h;obtain ⟨b,es,q⟩:=fe h
 subst ey
 subst ex
 obtain ⟨v,us,rfl,rv,w,us',rfl,rw',e⟩:=rs
 cases rw';cases e
 refine ⟨v,n,t,b,rfl,?_,Jr X.K (K3 et) es,k (.bl _) J _ H rfl r .refl q⟩
 cases x with
 | non=>cases rv;cases et;exact .inl .non
 | bl i=>cases rv;cases et;exact .inl (.bl i)
 | int i=>cases rv;cases et;exact .inl (.int i)
 | str i=>cases rv;cases et;exact .inl (.str i)
 | tup xs=>obtain ⟨a,ws,rfl,h1,_⟩:=rv;cases et;exact .inr (.inl ⟨rfl,a,ws,rfl,h1⟩)
 | fl xs =>
  obtain ⟨a,ws,rfl,h1,_⟩:=rv;cases et
  exact .inr (.inr ⟨rfl,a,ws,rfl,h1.sq⟩)
 | ty n=>cases et
 | ref a =>
  cases rv
  unfold Dq at et
  dsimp only at et
  cases ej:J a with
  | none=>rw [ej] at et;cases et
  | some o =>
   rw [ej] at et
   have z:=r _ _ ej
   cases o with
   | lst xs=>obtain ⟨ws,h1,_⟩:=z;cases et;exact .inl (.lst h1)
   | dct kvs ep=>obtain ⟨gs,h1,_⟩:=z;cases et;exact .inl (.dE h1)
   | tab=>cases et
   | dtp hs ks=>cases et
   | ins C fs=>cases et⟩
def N0:AD:=λxs J Q=>Eo xs λx=>xf (me J x) λys=>Q (.fl ys) J
def G7:AD:=λxs J Q=>Eo xs λx=>xf (me J x) λys=>∀p,J p=none→Q (.ref p) (put J p (.lst ys))
theorem rX:Ir X (.type "list") G7:=⟨_,L2.wx,λJ H xs vs Q2 Q rs r h k=>by
 obtain ⟨x,ex,h⟩:=jE h;obtain ⟨ys,el,q⟩:=fe h
 subst ex;obtain ⟨v,us,rfl,rv,e⟩:=rs;cases e
 obtain ⟨a,ws,rfl,h3,h4⟩:=nY rv r el
 exact ⟨a,ws,rfl,.inl h3,λp hp=>k (.ref p) _ _ _ rfl (r.F_ hp h4) (.laid hp) (q p (r.free hp))⟩⟩
def Tc:AD:=λxs J Q=>∃i j,xs=[.int i,.int j]∧Q (.int (if j > i then j else i)) J
def xx:EU:=λx xs J Q=>Ep x λa=>Eo xs λy=>RP (J a) λys=>ys.length < sizeLine∧Q .non (put J a (.lst (ys ++ [y])))
theorem pA:K' X "list" "list.append" xx:=⟨_,L2.i5,λJ H x xs v vs Q2 Q rx rs r h k=>by
 obtain ⟨a,ex,h⟩:=gI h;obtain ⟨y,exs,h⟩:=jE h;obtain ⟨ys,ja,hl,q⟩:=NH h
 subst ex exs;cases rx;obtain ⟨w,us,rfl,rw',e⟩:=rs;cases e
 obtain ⟨ws,h1,h2⟩:=r _ _ ja
 exact ⟨a,ws,w,rfl,rfl,h1,by rw [← h2.length];exact hl,k .non _ _ _ rfl (r.wrote (ys:=ys ++ [y]) ja h1 (h2.append (show aU X.K J H [y] [w] from ⟨w,[],rfl,rw',rfl⟩))) (.wrote ja h1) q⟩⟩
def Qv:EU:=λx xs J Q=>∃a ys y,x=.ref a∧xs=[]∧J a=some (.lst ys)∧ys[ys.length - 1]?=some y∧Q y (put J a (.lst ys.dropLast))
theorem aU.dropLast {J:Hq} {H:Hp} {xs:List PV} {vs:List V} (r:aU K J H xs vs):aU K J H xs.dropLast vs.dropLast:=by
 rw [Wv,Wv,← r.length]
 exact r.take _
theorem Nv:K' X "list" "list.pop" Qv:=⟨_,L2.Nw,λJ H x xs v vs Q2 Q rx rs r ⟨a,ys,y,ex,exs,ja,hy,q⟩ k=>by
 subst ex exs;cases rx;cases rs
 obtain ⟨ws,h1,h2⟩:=r _ _ ja
 obtain ⟨w,e1,e2⟩:=h2.get hy
 have ex:=Ext.wrote (K:=X.K) (ys:=ys.dropLast) (vs:=ws.dropLast) ja h1
 exact ⟨a,ws,w,rfl,rfl,h1,by rw [← h2.length];exact e1,k y _ w _ (ex.rep e2) (r.wrote ja h1 h2.dropLast) ex q⟩⟩
def NZ:EU:=λx xs J Q=>∃a ys,x=.ref a∧xs=[]∧J a=some (.lst ys)∧Q .non (put J a (.lst []))
def Kq:V→List V→Hp→VK→Prop:=λx vs H Q=>∃l xs i y,x=.ref l∧vs=[.int (i:Nat),y]∧H l=some (.lst xs)∧i≤xs.length∧xs.length < sizeLine∧i < 2 ^ 62∧Q .non (upd H l (.lst (xs.take i ++ y :: xs.drop i)))
theorem AW (its:List Value) (i:Nat) (u:Value) (h:i≤its.length):((its.toArray.extract 0 (min ((i:Int)).toNat its.toArray.size)).push u ++ its.toArray.extract (min ((i:Int)).toNat its.toArray.size))=(its.take i ++ u :: its.drop i).toArray:=by
 have e:min ((i:Int)).toNat its.toArray.size=i:=by simp;omega
 rw [e]
 apply Array.ext'
 simp
 exact VR (by simp)
theorem Ea:qL X "list.insert" Kq:=by
 intro pins s σ H x vs v us Q I rx rv h
 obtain ⟨l,xs,i,y,rfl,rfl,hH,hi,hz,hb,q⟩:=h
 cases rx
 obtain ⟨u,w,rfl,ru,rw'⟩:=L2.vals2 rv
 obtain ⟨t,rfl⟩:=ru
 obtain ⟨z,its,n,r,hl,e⟩:=I.Gm hH
 have h63:((i:Nat):Int) < 2 ^ 63:=by
  have:((i:Nat):Int) < ((2 ^ 62:Nat):Int):=Int.ofNat_lt.mpr hb
  exact Int.lt_trans this (by decide)
 have hf:Builtin.List.listFitsIndex ((i:Nat):Int)=true:=fitsIndex_both (Int.le_trans (by decide) (Int.natCast_nonneg i)) h63
 have hs:its.toArray.size≤sizeLine:=by rw [U5,← hl];exact z
 have hn:¬(!Builtin.List.listFitsIndex ((i:Nat):Int))=true:=by rw [hf];exact λz=>nomatch z
 have hneg:¬ (((i:Nat):Int) < 0):=by omega
 have hins:=AW its i w (by omega)
 clear hb h63 hf
 generalize ((i:Nat):Int)=ii at *
 have mm:=PySem.AutoSeq1.list_insert_list_int_val_1 l its.toArray n ii t w hn hs
 refine call_meets PySem.F.slot_list_insert ⟨_,e,rfl⟩ PySem.F.entry_list_insert (PySem.F.args_list_insert_3 _ _ _) mm ⟨e,?_⟩
 refine ⟨.non,_,I.Jw (its':=its.take i ++ w :: its.drop i) hH e ?_ ((r.take i).append (.cons rw' (r.drop i))) ?_,rfl,q⟩
 ·simp only [if_neg hneg]
  exact hins
 ·rw [Vg,Vk,Vp,V3];omega
def CI:EU:=λx xs J Q=>∃a ys i y,x=.ref a∧xs=[.int (i:Nat),y]∧J a=some (.lst ys)∧i≤ys.length∧ys.length < sizeLine∧i < 2 ^ 62∧Q .non (put J a (.lst (ys.take i ++ y :: ys.drop i)))
theorem lR:K' X "list" "list.insert" CI:=⟨_,Ea,λJ H x xs v vs Q2 Q rx rs r ⟨a,ys,i,y,ex,exs,ja,hi,hl,hb,q⟩ k=>by
 subst ex exs;cases rx;obtain ⟨w0,us,rfl,rw0,w,us',rfl,rw',e⟩:=rs;cases e;cases rw0
 obtain ⟨ws,h1,h2⟩:=r _ _ ja
 exact ⟨a,ws,i,w,rfl,rfl,h1,by rw [← h2.length];exact hi,by rw [← h2.length];exact hl,hb,k .non _ _ _ rfl (r.wrote (ys:=ys.take i ++ y :: ys.drop i) ja h1 ((h2.take i).append (show aU X.K J H (y :: ys.drop i) (w :: ws.drop i) from ⟨w,_,rfl,rw',h2.drop i⟩))) (.wrote ja h1) q⟩⟩
end
def pX (ks:List (Str × Nat)) (τ:Sr):Sr:=ks.map λp=>(τ[p.2]?).getD none
theorem CS {K:PySem.W.Frag} {J:Hq} {H:Hp} {τ:Sr} {σ:L2.St} (r:mH K J H τ σ) {x:PV} {v:V} (rx:cH K J H x v) (ks:List (Str × Nat)):mH K J H (some x :: pX ks τ) (some v :: eK ks σ):=by
 refine ⟨by simp [pX,eK],λi y e=>?_⟩
 cases i with
 | zero=>rw [Wg] at e ⊢;cases e;exact ⟨v,rfl,rx⟩
 | succ i =>
  rw [VB] at e ⊢
  unfold pX at e
  unfold eK
  rw [U8] at e ⊢
  cases ep:ks[i]? with
  | none=>rw [ep] at e;cases e
  | some p =>
   rw [ep] at e
   have e':(τ[p.2]?).getD none=some y:=Option.some.inj e
   have e2:τ[p.2]?=some (some y):=by
    cases q:τ[p.2]? with
    | none=>rw [q] at e';cases e'
    | some w=>rw [q] at e';exact congrArg some e'
   obtain ⟨v',h1,h2⟩:=r.get _ _ e2
   exact ⟨v',by show some ((σ[p.2]?).getD none)=_;rw [h1];rfl,h2⟩
def Sub (J J':Hq):Prop:=∀a o,J a=some o→J' a=some o
theorem Sub.put {J:Hq} {D:Addr} {o:HQ} (h:J D=none):Sub J (put J D o):=λa u e=>by
 have ne:a≠D:=by intro z;subst z;rw [h] at e;cases e
 rw [aw ne];exact e
def R8 (it:Ar) (J1:Hq) (ks:List (Str × Nat)) (τ:Sr) (tc:mI) (te:dN) (c:PV→Bool) (g:PV→PV):Prop:=it.xs.length < sizeLine∧∀J',Sub J1 J'→it.ok J' ∧
 ∀x∈it.xs,tc (some x :: pX ks τ) J' (λb J2=>b=c x∧J2=J')∧(c x=true→te (some x :: pX ks τ) J' λy J2=>y=g x∧J2=J')
def uW (wi:uD) (ks:List (Str × Nat)) (tc:mI) (te:dN):dN:=λτ J Q=>wi τ J λit J1=>∃(c:PV→Bool) (g:PV→PV),R8 it J1 ks τ tc te c g∧Q (.fl ((it.xs.filter c).map g)) J1
def N4 (wi:uD) (ks:List (Str × Nat)) (tc:mI) (te:dN):dN:=λτ J Q=>wi τ J λit J1=>∃(c:PV→Bool) (g:PV→PV),R8 it J1 ks τ tc te c g∧∀p,J1 p=none→Q (.ref p) (put J1 p (.lst ((it.xs.filter c).map g)))
def zw:mI:=λ_ J Q=>Q true J
section
variable {X:Cx} {G:G2}
theorem qs {α:Type} (c:α→Bool) {xs:List α} {i:Nat} {x:α} (h:xs[i]?=some x):(xs.take (i + 1)).filter c=(xs.take i).filter c ++ (if c x=true then [x] else []):=by
 rw [Vv,h,Wh]
 congr 1
 simp only [Option.toList_some,Vt,WV]
theorem wL {K:PySem.W.Frag} {ks:List (Str × Nat)} {tc:mI} {te:dN} {σ:L2.St} {H:Hp} {Q:VK} {τ:Sr} {J:Hq} (a2:yg K G τ J σ H) {it:Ar} {J1:Hq} {I:It} {H1:Hp} (ir:vi K it I J1 H1) (r1:Rep K J1 H1) (e1:Ext K J H J1 H1) {c:PV→Bool} {g:PV→PV}
  (w:R8 it J1 ks τ tc te c g)
  (q:∀D H2,H1 D=none→J1 D=none→Rep K (put J1 D (.lst ((it.xs.filter c).map g))) H2→Ext K J1 H1 (put J1 D (.lst ((it.xs.filter c).map g))) H2→Q (.ref D) H2) :
  ∀D,H1 D=none→∃W:Nat→Nat→Hp→Prop,(∃m,W 0 m (upd H1 D (.lst [])))∧∀i m H2,W i m H2→(I.stop i H2∧Q (.ref D) H2) ∨
   (I.go i H2∧∀v H3,I.yld i H2 v H3→LT K G tc (some v :: eK ks σ) H3 λb H4=>if b=true then LE K G te (some v :: eK ks σ) H4 λy H5=>∃ys,H5 D=some (.lst ys)∧ys.length < sizeLine∧∃m',m' < m∧W (i + 1) m' (upd H5 D (.lst (ys ++ [y]))) else ∃m',m' < m∧W (i + 1) m' H4):=by
 intro D hD
 obtain ⟨hlen,w⟩:=w
 have jD:J1 D=none:=r1.free hD
 refine ⟨λi m H2=>m=it.xs.length - i∧i≤it.xs.length∧Rep K (put J1 D (.lst (((it.xs.take i).filter c).map g))) H2∧Ext K J1 H1 (put J1 D (.lst (((it.xs.take i).filter c).map g))) H2,⟨_,rfl,Vr _,r1.F_ (xs:=[]) (vs:=[]) hD rfl,.laid hD⟩,?_⟩
 rintro i m H2 ⟨rfl,hi,r2,e2⟩
 obtain ⟨ok,ww⟩:=w _ (Sub.put (o:=.lst (((it.xs.take i).filter c).map g)) jD)
 by_cases hlt:i < it.xs.length
 ·refine .inr ⟨ir.go _ H2 e2 r2 ok i hlt,λv H3 y=>?_⟩
  obtain ⟨x,ex,rx,r3,e3⟩:=ir.yl _ H2 e2 r2 ok i hlt v H3 y
  obtain ⟨hc,he⟩:=ww x (U3 ex)
  have a3:yg K G (some x :: pX ks τ) _ (some v :: eK ks σ) H3:=⟨CS (a2.sl.ext ((e1.trans e2).trans e3)) rx ks,r3,((a2.ext.trans e1).trans e2).trans e3⟩
  refine ⟨_,_,_,a3,hc,λb J4 H4 r4 e4 ⟨eb,ej⟩=>?_⟩
  subst ej
  cases hb:c x with
  | false =>
   rw [eb,hb]
   simp only [Vd,if_false]
   refine ⟨_,by omega,rfl,hlt,?_⟩
   rw [qs c ex,hb]
   simp only [Vd,if_false,VQ]
   exact ⟨r4,(e2.trans e3).trans e4⟩
  | true =>
   rw [eb,hb]
   simp only [if_true]
   refine ⟨_,_,_,a3.go r4 e4,he hb,λz J5 u H5 rz r5 e5 ⟨ez,ej⟩=>?_⟩
   subst ej ez
   obtain ⟨ys,h5,ry⟩:=r5 D _ ax
   have ll:ys.length≤i:=by
    rw [← ry.length,UZ]
    exact Vh (VM _ _) (by rw [Vp];omega)
   have r6:=r5.wrote (ys:=((it.xs.take i).filter c).map g ++ [g x]) (vs:=ys ++ [u]) ax h5 (ry.append (show aU K _ H5 [g x] [u] from ⟨u,[],rfl,rz,rfl⟩))
   have e6:=Ext.wrote (K:=K) (ys:=((it.xs.take i).filter c).map g ++ [g x]) (vs:=ys ++ [u]) (J:=put J1 D (.lst (((it.xs.take i).filter c).map g))) ax h5
   rw [fh] at r6 e6
   refine ⟨ys,h5,by omega,_,by omega,rfl,hlt,?_⟩
   rw [qs c ex,hb,if_pos rfl,U7]
   exact ⟨r6,(((e2.trans e3).trans e4).trans e5).trans e6⟩
 ·have ei:i=it.xs.length:=by omega
  subst ei
  rw [Vu] at r2 e2 ok
  exact .inl ⟨ir.stop _ H2 e2 r2 ok,q D H2 hD jD r2 e2⟩
theorem freeze {K:PySem.W.Frag} {J1:Hq} {H2:Hp} {D:Addr} {xs:List PV} (jD:J1 D=none) (r:Rep K (put J1 D (.lst xs)) H2):cH K J1 H2 (.fl xs) (.ref D)∧Rep K J1 H2∧Ext K (put J1 D (.lst xs)) H2 J1 H2:=by
 obtain ⟨ys,h,ry⟩:=r D _ ax
 have less:∀a,J1 a=put J1 D (.lst xs) a∨J1 a=none:=λa=>by
  by_cases e:a=D
  ·subst e;exact .inr jD
  ·rw [aw e];exact .inl rfl
 have e:=Ext.less (K:=K) (H:=H2) less
 exact ⟨⟨D,ys,rfl,.inl ⟨jD,.inl h⟩,e.jM ry⟩,r.less less,e⟩
theorem Gb {wi:uD} {ks:List (Str × Nat)} {tc:mI} {te:dN}:∀σ H Q,LE X.K G (uW wi ks tc te) σ H Q→KS (LI X.K G wi) ks (LT X.K G tc) (LE X.K G te) σ H Q:=λσ H Q ⟨τ,J,Q2,a2,h,k⟩ =>
 ⟨τ,J,_,a2,h,λit J1 I H1 ir r1 e1 ⟨c,g,w,q⟩=>wL (Q:=Q) a2 ir r1 e1 w λD H2 hD jD r2 e2=>let ⟨x1,x2,x3⟩:=freeze jD r2;k _ J1 _ H2 x1 x2 ((e1.trans e2).trans x3) q⟩
theorem Ge {wi:uD} {ks:List (Str × Nat)} {tc:mI} {te:dN}:∀σ H Q,LE X.K G (N4 wi ks tc te) σ H Q→KS (LI X.K G wi) ks (LT X.K G tc) (LE X.K G te) σ H Q:=λσ H Q ⟨τ,J,Q2,a2,h,k⟩ =>
 ⟨τ,J,_,a2,h,λit J1 I H1 ir r1 e1 ⟨c,g,w,q⟩=>wL (Q:=Q) a2 ir r1 e1 w λD H2 hD jD r2 e2=>k (.ref D) _ _ H2 rfl r2 (e1.trans e2) (q D jD)⟩
theorem yO {wi:uD} {ks:List (Str × Nat)} {te:dN}:∀σ H Q,LE X.K G (uW wi ks zw te) σ H Q→RY (LI X.K G wi) ks (LE X.K G te) σ H Q:=λσ H Q ⟨τ,J,Q2,a2,h,k⟩ =>
 ⟨τ,J,_,a2,h,λit J1 I H1 ir r1 e1 ⟨c,g,w,q⟩ D hD=>by
  obtain ⟨W,w0,turn⟩:=wL (Q:=Q) a2 ir r1 e1 w (λD H2 hD jD r2 e2=>let ⟨x1,x2,x3⟩:=freeze jD r2;k _ J1 _ H2 x1 x2 ((e1.trans e2).trans x3) q) D hD
  refine ⟨W,w0,λi m H2 hw=>?_⟩
  rcases turn i m H2 hw with z | ⟨go,z⟩
  ·exact .inl z
  ·refine .inr ⟨go,λv H3 y=>?_⟩
   obtain ⟨τ',J',Q',a',t',k'⟩:=z v H3 y
   have:=k' true J' H3 a'.hp .refl t'
   simpa using this⟩
variable {elt iter cnd:Expr} {x y:Str} {px py:Pos} {sc:Scope} {pos spos:Pos} {wi:uD} {te:dN} {tc:mI} {i:Nat}
theorem Ma (osc:Scope) (N:List Str) (ks:List (Str × Nat)) (hc:X.calm=true) (ho:X.env.scope=osc) (hN:X.N=N) (hi:RI X G (.Name x px) iter wi) (he:∀cl C s₀ H₀ fp pins,RE (gx X sc cl C x ks s₀ H₀ fp pins) G elt te)
  (ok:df sc osc N x ks:=by decide +kernel) (hs:∀x,foldedSetIterable iter X.env x=pure x:=by intro _;rfl):RE X G (.ListComp elt [⟨.Name x px,iter,[],0⟩] sc pos) (uW wi ks zw te) :=
 ⟨l9 (LK osc N ks hc ho hN hi.run (λcl C s₀ H₀ fp pins=>(he cl C s₀ H₀ fp pins).run) ok hs) yO⟩
theorem sv {t:dN} {u:TE} (h:∀σ H Q,LE X.K G t σ H Q→u σ H Q):∀D σ H,LS X.K G (uV t (Ji i)) D σ H→u σ H λv H1=>D.nx (σ.set i (some v)) H1:=λD σ H ⟨τ,J,D2,a2,q,g⟩ =>
 h σ H _ ⟨τ,J,_,a2,q,λx J' v H' rx rr ee q=>g.nx _ J' _ H' ((a2.sl.ext ee).set i rx) rr ee q⟩
theorem Hj (osc:Scope) (N:List Str) (ks:List (Str × Nat)) (hc:X.calm=true) (ho:X.env.scope=osc) (hN:X.N=N) (hnd:X.N.Nodup) (hy:X.N[i]?=some y) (hl:Loc X.env.scope y) (hi:RI X G (.Name x px) iter wi) (he:∀cl C s₀ H₀ fp pins,RE (gx X sc cl C x ks s₀ H₀ fp pins) G elt te) (hcn:∀cl C s₀ H₀ fp pins,RT (gx X sc cl C x ks s₀ H₀ fp pins) G cnd tc)
  (ok:df sc osc N x ks:=by decide +kernel) (hs:∀x,foldedSetIterable iter X.env x=pure x:=by intro _;rfl) (hsw:swapsWith (.ListComp elt [⟨.Name x px,iter,[cnd],0⟩] sc pos) (some (.Name y py)) spos.line X.env=pure true:=by rfl) (hf:X.fn y=true∨X.env.scope.names.lookup y=some .local:=by first | exact .inl rfl | exact .inr rfl | assumption) :
  RS X G (.Assign [.Name y py] (.ListComp elt [⟨.Name x px,iter,[cnd],0⟩] sc pos) spos) (uV (uW wi ks tc te) (Ji i)) :=
 ⟨zo (Bs osc N ks hc ho hN hnd hy hl hi.run (λcl C s₀ H₀ fp pins=>(he cl C s₀ H₀ fp pins).run) (λcl C s₀ H₀ fp pins=>CF (hcn cl C s₀ H₀ fp pins).run) ok hs hsw hf) (sv Gb)⟩
theorem Kx (osc:Scope) (N:List Str) (ks:List (Str × Nat)) (hc:X.calm=true) (ho:X.env.scope=osc) (hN:X.N=N) (hnd:X.N.Nodup) (hy:X.N[i]?=some y) (hl:Loc X.env.scope y) (hi:RI X G (.Name x px) iter wi) (he:∀cl C s₀ H₀ fp pins,RE (gx X sc cl C x ks s₀ H₀ fp pins) G elt te) (hcn:∀cl C s₀ H₀ fp pins,RT (gx X sc cl C x ks s₀ H₀ fp pins) G cnd tc)
  (ok:df sc osc N x ks:=by decide +kernel) (hs:∀x,foldedSetIterable iter X.env x=pure x:=by intro _;rfl) (hsw:swapsWith (.ListComp elt [⟨.Name x px,iter,[cnd],0⟩] sc pos) (some (.Name y py)) spos.line X.env=pure true:=by rfl) (hf:X.fn y=true∨X.env.scope.names.lookup y=some .local:=by first | exact .inl rfl | exact .inr rfl | assumption) :
  RS X G (.Assign [.Name y py] (.ListComp elt [⟨.Name x px,iter,[cnd],0⟩] sc pos) spos) (uV (N4 wi ks tc te) (Ji i)) :=
 ⟨zo (Bs osc N ks hc ho hN hnd hy hl hi.run (λcl C s₀ H₀ fp pins=>(he cl C s₀ H₀ fp pins).run) (λcl C s₀ H₀ fp pins=>CF (hcn cl C s₀ H₀ fp pins).run) ok hs hsw hf) (sv Ge)⟩
theorem Rb (osc:Scope) (N:List Str) (ks:List (Str × Nat)) (hc:X.calm=true) (ho:X.env.scope=osc) (hN:X.N=N) (hnd:X.N.Nodup) (hy:X.N[i]?=some y) (hl:Loc X.env.scope y) (hi:RI X G (.Name x px) iter wi) (he:∀cl C s₀ H₀ fp pins,RE (gx X sc cl C x ks s₀ H₀ fp pins) G elt te)
  (ok:df sc osc N x ks:=by decide +kernel) (hs:∀x,foldedSetIterable iter X.env x=pure x:=by intro _;rfl) (hsw:swapsWith (.ListComp elt [⟨.Name x px,iter,[],0⟩] sc pos) (some (.Name y py)) spos.line X.env=pure true:=by rfl) (hf:X.fn y=true∨X.env.scope.names.lookup y=some .local:=by first | exact .inl rfl | exact .inr rfl | assumption) :
  RS X G (.Assign [.Name y py] (.ListComp elt [⟨.Name x px,iter,[],0⟩] sc pos) spos) (uV (uW wi ks zw te) (Ji i)) :=
 ⟨zo (LL osc N ks hc ho hN hnd hy hl hi.run (λcl C s₀ H₀ fp pins=>(he cl C s₀ H₀ fp pins).run) ok hs hsw hf) (sv yO)⟩
end
end Ov
namespace Ov
open PySem PySem.Spec PyProof.Rows
section
open HT (lexLt)
def mQ:List Str→List Str→Bool
 | [],[]=>false
 | [],_ :: _=>true
 | _ :: _,[]=>false
 | x :: xs,y :: ys=>if x=y then mQ xs ys else decide (x.cps.toList < y.cps.toList)
theorem pw (x y:Str) (xs ys:List Str):mQ (x :: xs) (y :: ys)=if x=y then mQ xs ys else decide (x.cps.toList < y.cps.toList):=rfl
theorem nX:mQ [] []=false:=rfl
theorem uG (y:Str) (ys:List Str):mQ [] (y :: ys)=true:=rfl
theorem uF (x:Str) (xs:List Str):mQ (x :: xs) []=false:=rfl
theorem FD (A:Around) (s:Shared) (a:Str) (t:Tok) (c:Str) (u:Tok):∃e,SeqAt.EqAt A s (.str a t) (.str c u) e∧(e=true↔a=c) :=
 ⟨(a == c),SeqAt.EqAt.str_str a t c u,by simp⟩
theorem Hg (A:Around) (s:Shared) (a:Str) (t:Tok) (c:Str) (u:Tok) (prog:Program) (w:World) (E:Value→Shared→Prop) (Q:Value→Shared→Prop) (h:Q (.bool (decide (a.cps.toList < c.cps.toList))) s) :
  wpAny (model prog w) A (richCompare .Lt (.str a t) (.str c u)) Q E s :=
 (PyProof.Rows.lt_str h:wpAny (model prog w) A (compareOp .Lt (.str a t) (.str c u)) Q E s)
open PySem.SeqAt
open PySem.AutoSeq1 (wpAny_loadPart')
open PySem.MeetsSeq PySem.MeetsSeq2 PySem.MeetsSeq3
theorem vg (l b:Addr) (items items2:Array Value) (n n2:Nat) (dd dd2:Option Addr) (sl sl2:Array (Option Value)) (ns ms:List Str) (hi:StrsAre items.toList ns) (hj:StrsAre items2.toList ms) :
  Meets (Builtin.«tuple.__lt__» ⟨[.ref l,.ref b],[]⟩)
   (λ_ R s=>s.heap.get? l=some { cls:=.type "tuple",dict:=dd,data:=.seq items n,slots:=sl }∧s.heap.get? b=some { cls:=.type "tuple",dict:=dd2,data:=.seq items2 n2,slots:=sl2 } ∧
    R (.ok (.ret (.bool (mQ ns ms)))) s) :=
 .of_wp λprog w A R s h=>by
  obtain ⟨hp,g,d,tk,os⟩:=s;obtain ⟨hl,hb,h⟩:=h
  have f2:=AutoSeq1.sub_tuple_tuple
  have z1:items.size=ns.length:=by rw [← hi.length];simp
  have z2:items2.size=ms.length:=by rw [← hj.length];simp
  wp_walk using wpAny_loadPart' hl,wpAny_loadPart' hb,wpAny_forIn_list _ (λrest b s'=>b.1=none∧s'=⟨hp,g,d,tk,os⟩∧∃(vs ws:List Value) (ns' ms':List Str),rest=vs.zip ws ∧
   StrsAre vs ns'∧StrsAre ws ms'∧ns'.length + items2.size=ms'.length + items.size∧R (.ok (.ret (.bool (mQ ns' ms')))) ⟨hp,g,d,tk,os⟩) _
  case turn =>
   rintro ⟨y,x⟩ rest b s' ⟨hb',rfl,vs,ws,ns',ms',hz,hvi,hwi,hlen,hR⟩
   cases hvi with
   | nil=>rw [List.zip_nil_left] at hz;cases hz
   | cons a t hvi' =>
    cases hwi with
    | nil=>rw [List.zip_nil_right] at hz;cases hz
    | cons c u hwi' =>
     rw [W5] at hz
     injection hz with hyx hrest
     injection hyx with hy hx
     subst hy hx
     rw [pw] at hR
     simp only [Vk] at hlen
     obtain ⟨e,he,hiff⟩:=FD A.in1 ⟨hp,g,d,tk,os⟩ a t c u
     refine wpAny_bind (he prog w _ _ ?_)
     cases e with
     | true =>
      rw [if_pos (hiff.mp rfl)] at hR
      wp_walk
      exact ⟨rfl,rfl,_,_,_,_,hrest,hvi',hwi',by omega,hR⟩
     | false =>
      rw [if_neg (λq=>absurd (hiff.mpr q) Ve)] at hR
      have hri:=Hg A.in1 ⟨hp,g,d,tk,os⟩ a t c u prog w
      wp_walk using hri
      exact ⟨_,rfl,by simpa using hR⟩
  case fin =>
   rintro ⟨b1,b2⟩ s' ⟨hb',rfl,vs,ws,ns',ms',hz,hvi,hwi,hlen,hR⟩
   simp only at hb'
   subst hb'
   have hv:mQ ns' ms'=decide (items.size < items2.size):=by
    cases hvi with
    | nil =>
     cases hwi with
     | nil =>
      simp only [Wi] at hlen
      rw [nX]
      exact (decide_eq_false (by omega)).symm
     | cons c u hw =>
      simp only [Wi,Vk] at hlen
      rw [uG]
      exact (decide_eq_true (by omega)).symm
    | cons a t hv =>
     cases hwi with
     | nil =>
      simp only [Wi,Vk] at hlen
      rw [uF]
      exact (decide_eq_false (by omega)).symm
     | cons c u hw =>
      rw [W5] at hz
      cases hz
   rw [hv] at hR
   wp_walk
   exact ⟨_,rfl,by simpa [Builtin.Tuple.tupleCompareSizes] using hR⟩
  case h =>
   exact ⟨rfl,rfl,items.toList,items2.toList,ns,ms,rfl,hi,hj,by omega,h⟩
section
variable {prog:Program} {w:World} {A:Around} {E:Value→Shared→Prop} {s:Shared}
theorem A6 {l b:Addr} {items items2:Array Value} {ns ms:List Str} {Q:Value→Shared→Prop} (hl:IsTup s.heap l items) (hb:IsTup s.heap b items2) (hi:StrsAre items.toList ns) (hj:StrsAre items2.toList ms)
  (hu:A.units < cLine) (h:Q (.bool (mQ ns ms)) s):wpAny (model prog w) A (compareOp .Lt (.ref l) (.ref b)) Q E s:=by
 obtain ⟨⟨cls,dd,data,sl⟩,ho,hc,n,hd⟩:=id hl
 obtain ⟨⟨cls2,dd2,data2,sl2⟩,ho2,hc2,n2,hd2⟩:=id hb
 simp only at hc hd hc2 hd2
 subst hc hd hc2 hd2
 exact richCompare_meets_room (op:=.Lt) ⟨_,ho,rfl⟩ ⟨_,ho2,rfl⟩ PySem.F.slot_tuple_lt PySem.F.entry_tuple_lt (PySem.F.args_tuple_lt_2 _ _) (vg l b items items2 n n2 dd dd2 sl sl2 ns ms hi hj)
  ⟨ho,ho2,show Value.bool (mQ ns ms)≠Value.notImplemented∧Q (.bool (mQ ns ms)) s from ⟨(λx=>nomatch x),h⟩⟩ hu
end
end
open L2 (V HO Hp Inv Cx VK XK TE TT TA TS TG rS TI TO l7 Ends yv Loc Gl Rd RelV Vals fI Ab cq rK vj qL l6 R2 upd aH aM dq g8 Sp uc It bL dZ b9 Passes qK aK Meth Mk Binds aO cg av dF g6 fA)
section
variable {X:Cx} {K:PySem.W.Frag}
theorem JQ (hu:X.A.units < cLine):fI X (compareOp .Lt) (λx y H Q=>∃a b ns ms,x=.ref a∧y=.ref b∧g8 X.K H a (ns.map V.str)∧g8 X.K H b (ms.map V.str)∧Q (.bl (mQ ns ms)) H):=by
 intro pins s σ H x y v u Q I rx ry h
 obtain ⟨a,b,ns,ms,rfl,rfl,ha,hb,q⟩:=h
 cases rx;cases ry
 obtain ⟨is,r1,t1,_⟩:=I.tuple ha
 obtain ⟨js,r2,t2,_⟩:=I.tuple hb
 exact A6 t1 t2 (by simpa using jY r1) (by simpa using jY r2) hu ⟨.bl _,H,I,rfl,q⟩
theorem tZ {J:Hq} {H:Hp}:∀{ns:List Str} {vs:List V},aU K J H (ns.map PV.str) vs→vs=ns.map V.str
 | [],_,h=>h
 | n :: ns,_,⟨v,us,e,h,k⟩=>by subst e;cases h;rw [tZ k];rfl
def LW:nG:=λx y J Q=>∃ns ms,x=.tup (ns.map .str)∧y=.tup (ms.map .str)∧Q (.bl (mQ ns ms)) J
theorem JS (hu:X.A.units < cLine):nu X (compareOp .Lt) LW:=⟨_,JQ hu,λJ H x y v w Q2 Q rx ry r ⟨ns,ms,ex,ey,q⟩ k=>by
 subst ex ey
 obtain ⟨a,vs,rfl,h1,h2⟩:=rx
 obtain ⟨b,ws,rfl,h3,h4⟩:=ry
 cases tZ h2;cases tZ h4
 exact ⟨a,b,ns,ms,rfl,rfl,h1,h3,k (.bl _) J _ H rfl r .refl q⟩⟩
theorem JP:fI X (binaryOp .Add) (λx y H Q=>∃l b xs zs,x=.ref l∧y=.ref b∧dq X.K H l xs∧dq X.K H b zs∧xs.length + zs.length≤sizeLine∧∀p,H p=none→Q (.ref p) (upd H p (.lst (xs ++ zs)))):=by
 intro pins s σ H x y v u Q I rx ry h
 obtain ⟨l,b,xs,zs,rfl,rfl,hH,hB,hz,q⟩:=h
 cases rx;cases ry
 obtain ⟨its,r,pl,_⟩:=I.list hH
 obtain ⟨its2,r2,pl2,_⟩:=I.list hB
 have l1:=r.length
 have l2:=r2.length
 obtain ⟨⟨c1,d1,da1,sl1⟩,n,e,hc,hd,hda⟩:=pl
 obtain ⟨⟨c2,d2,da2,sl2⟩,n2,e2,hc2,hd2,hda2⟩:=pl2
 simp only at hc hd hda hc2 hd2 hda2
 subst hc hd hda hc2 hd2 hda2
 refine concat_meets ⟨_,e,rfl⟩ ⟨_,e2,rfl⟩ noFill_list_add seq_list_add PySem.F.slot_list_add PySem.F.entry_list_add (PySem.F.args_list_add_2 _ _) (list_addW l b its.toArray its2.toArray n n2 none none sl1 sl2 (by simp only [U5];omega)) ⟨e,e2,?_⟩
 have ea:its.toArray ++ its2.toArray=(its ++ its2).toArray:=by simp
 rw [ea]
 exact ⟨.ref _,_,I.SR (t':=s.toks) (r.append r2) (by rw [Vg];omega),rfl,q _ I.fresh⟩
def LP:nG:=λx y J Q=>∃xs ys,me J x=some xs∧me J y=some ys∧xs.length + ys.length≤sizeLine∧Q (.fl (xs ++ ys)) J
theorem xh:nu X (binaryOp .Add) LP:=⟨_,JP,λJ H x y v w Q2 Q rx ry r ⟨xs,ys,ex,ey,hl,q⟩ k=>by
 obtain ⟨a,vs,rfl,h1,h2⟩:=nY rx r ex
 obtain ⟨b,ws,rfl,h3,h4⟩:=nY ry r ey
 refine ⟨a,b,vs,ws,rfl,rfl,h1,h3,by rw [← h2.length,← h4.length];exact hl,λp hp=>?_⟩
 obtain ⟨x1,x2,x3⟩:=sE r (h2.append h4) hp
 exact k _ J _ _ x1 x2 x3 q⟩
end
def dA (K:PySem.W.Frag) (C:Addr) (m qual:Str) (st:Stmt):Prop:=∃f fd,Meth K C m f∧cg K m qual st f fd
structure dJ (K:PySem.W.Frag) (mg:Str→Option Value) (x:Str) (C:Addr):Prop where
 cl:qK K C
 m:mg x=some (.ref C)
 mkz:PySem.W.makesIn K C=true
 kp:PySem.W.keepIn K (.ref C)=true
theorem bq {K:PySem.W.Frag} {C f:Addr} {m qual:Str} {st:Stmt} {od an:Option Addr} {sl:Array (Option Value)} {oc kV dc pm cd ct:Value} (a:PySem.W.findIn K (.ref C) m=some (some (.ref f))) (i:PySem.W.isFn K (.ref f)=true)
  (l:K.lookup f=some ⟨oc,od,.func (PySem.W.fnOf m qual (L2.dG st) (L2.cb st) (L2.aj st) .none kV dc pm an cd ct),sl⟩) (c:PySem.W.codeIn K cd qual=true) (k:PySem.W.keepIn K (.ref f)=true):dA K C m qual st :=
 ⟨f,_,⟨a,i,k⟩,L2.AU l c k⟩
theorem wI {K:PySem.W.Frag} {h:Heap} {mg:Str→Option Value} {x:Str} {C:Addr} (X:K.In h) (G:h.Ns mainGlobals mg) (aC:PySem.W.nsIn K mainGlobals x=some (some (.ref C)))
  (pg:PySem.W.plainGet K C Str.empty=true) (hd:PySem.W.hasDictIn K C=true) (po:PySem.W.plainOver K C=true) (sa:PySem.W.findIn K (.ref C) "__setattr__"=some (some (.builtin "object.__setattr__"))) (mk:PySem.W.makesIn K C=true) (kc:PySem.W.keepIn K (.ref C)=true):dJ K mg x C :=
 ⟨⟨pg,hd,po,sa⟩,PySem.W.mg_of X G aC,mk,kc⟩
section
variable {P:Program} {w:World} {K:PySem.W.Frag} {mg:Str→Option Value} {base:Heap}
theorem dA.n6 {C:Addr} {m qual:Str} {st:Stmt} {k:Nat} {ps:List Str} {sp:cu} (D:dA K C m qual st) (cl:qK K C) (h:∀f fd,cg K m qual st f fd→aO P w K mg base (cK P w) k f fd ps (dg K sp))
  (hb:∀(kV doc pm:Value) (an:Option Addr) (cdv ct:Value) (us:List Value),us.length=ps.length→bindArgs (PySem.W.fnOf m qual (L2.dG st) (L2.cb st) (L2.aj st) .none kV doc pm an cdv ct) ⟨us,[]⟩=pure (ps.zip us)):bU P w K mg base C k m ps sp:=by
 obtain ⟨f,fd,hm,F⟩:=D
 exact ⟨cl,f,fd,hm,h f fd F,F.binds hb⟩
theorem dA.SV {x:Str} {C:Addr} {qual:Str} {st:Stmt} {k:Nat} {ps:List Str} {sp:cu} (D:dA K C "__init__" qual st) (kd:dJ K mg x C) (h:∀f fd,cg K "__init__" qual st f fd→aO P w K mg base (cK P w) k f fd ps (dg K sp))
  (hb:∀(kV doc pm:Value) (an:Option Addr) (cdv ct:Value) (us:List Value),us.length=ps.length→bindArgs (PySem.W.fnOf "__init__" qual (L2.dG st) (L2.cb st) (L2.aj st) .none kV doc pm an cdv ct) ⟨us,[]⟩=pure (ps.zip us)):Ay P w K mg base C k x ps sp:=by
 obtain ⟨f,fd,hm,F⟩:=D
 exact ⟨kd.m,f,fd,⟨kd.mkz,hm.at_,hm.fn,kd.kp⟩,h f fd F,F.binds hb⟩
end
theorem MJ {n:Nat} {F:List Value→Prop} (h:∀a us,us.length=n→F (a :: us)) (us:List Value) (hu:us.length=n + 1):F us:=by
 cases us with
 | nil=>cases hu
 | cons a us=>exact h a us (Nat.succ.inj hu)
theorem UH {F:List Value→Prop} (h:F []) (us:List Value) (hu:us.length=0):F us:=by
 cases us with
 | nil=>exact h
 | cons a us=>cases hu
theorem Ac {F:List Value→Prop} (h:∀a,F [a]):∀us:List Value,us.length=1→F us:=MJ λa=>UH (F:=λus=>F (a :: us)) (h a)
theorem iS {F:List Value→Prop} (h:∀a b,F [a,b]):∀us:List Value,us.length=2→F us:=MJ λa=>Ac (F:=λus=>F (a :: us)) (h a)
theorem IU {F:List Value→Prop} (h:∀a b c,F [a,b,c]):∀us:List Value,us.length=3→F us:=MJ λa=>iS (F:=λus=>F (a :: us)) (h a)
theorem MI {F:List Value→Prop} (h:∀a b c d,F [a,b,c,d]):∀us:List Value,us.length=4→F us:=MJ λa=>IU (F:=λus=>F (a :: us)) (h a)
theorem T_ {F:List Value→Prop} (h:∀a b c d e,F [a,b,c,d,e]):∀us:List Value,us.length=5→F us:=MJ λa=>MI (F:=λus=>F (a :: us)) (h a)
theorem RJ {F:List Value→Prop} (h:∀a b c d e f,F [a,b,c,d,e,f]):∀us:List Value,us.length=6→F us:=MJ λa=>T_ (F:=λus=>F (a :: us)) (h a)
end Ov
namespace Ov
open PySem PySem.Spec PyProof.Rows
open L2 (V HO Hp Inv Cx VK XK Rd dq g8 Sp bL b9 Passes aO cg av dF upd aH aM)
def fr (q:Rat):PV:=.tup [.int q.num,.int (q.den:Int)]
theorem M4 (a b:Rat):(fr a=fr b)=(a=b):=by
 apply propext
 constructor
 ·intro h
  unfold fr at h
  simp only [PV.tup.injEq,List.cons.injEq,PV.int.injEq,and_true] at h
  exact Rat.ext h.1 (by have:=h.2;omega)
 ·intro h;rw [h]
theorem Lg (a:Rat):fr a=.tup [.int a.num,.int (a.den:Int)]:=rfl
theorem M9 (J:Hq) (q:Rat):fP J (fr q) (.int 0)=some (.int q.num):=d_ _ _
theorem M_ (J:Hq) (q:Rat):fP J (fr q) (.int 1)=some (.int (q.den:Int)):=fZ _ _ _
theorem Ru (J:Hq) (q:Rat):Dq J (fr q)=some "tuple":=rfl
theorem Nh (J:Hq) (q:Rat):yQ J (fr q)=some 2:=rfl
theorem Bw (q:Rat):mB (fr q)=true:=by simp [fr,mB,jg]
theorem su (q:Rat):FZ (fr q)=false:=rfl
theorem MY (q:Rat):dep (fS (fr q))=1:=by simp [fr,fS,f6,dep,eg]
theorem Lc (q:Rat):Ig (fr q)=True:=eq_true ⟨Bw q,by rw [MY];decide⟩
theorem MQ (i:Int):Ig (.int i)=True:=eq_true ⟨by simp [mB],by simp [fS,dep]⟩
theorem MS (i:Str):Ig (.str i)=True:=eq_true ⟨by simp [mB],by simp [fS,dep]⟩
theorem Pc (i:Bool):Ig (.bl i)=True:=eq_true ⟨by simp [mB],by simp [fS,dep]⟩
theorem MR:Ig .non=True:=eq_true ⟨by simp [mB],by simp [fS,dep]⟩
theorem Kh (i:Int):mB (.int i)=true:=by simp [mB]
theorem xt (i:Str):mB (.str i)=true:=by simp [mB]
theorem Bv (i:Bool):mB (.bl i)=true:=by simp [mB]
theorem Ki:mB .non=true:=by simp [mB]
theorem Kj (xs:List PV):mB (.tup xs)=jg xs:=by simp [mB]
theorem G4 (xs:List PV):mB (.fl xs)=jg xs:=by simp [mB]
theorem pM (x:PV) (xs:List PV):jg (x :: xs)=(mB x && jg xs):=by simp [jg]
theorem zr:jg []=true:=by simp [jg]
theorem zq {α:Type} (g:α→PV) (h:∀a,mB (g a)=true):∀xs:List α,jg (xs.map g)=true
 | []=>by simp [jg]
 | x :: xs=>by simp [jg,h,zq g h xs]
theorem eq_int (a b:Int):eqQ (.int a) (.int b)=decide (a=b):=by unfold eqQ fS lP;rw [WW]
theorem eq_str (a b:Str):eqQ (.str a) (.str b)=decide (a=b):=by
 unfold eqQ fS lP
 cases h:a == b with
 | true=>simp at h;simp [h]
 | false=>simp at h;simp [h]
theorem Pf (a b:Bool):eqQ (.bl a) (.bl b)=decide (a=b):=by unfold eqQ fS lP;rw [WW]
def AO (xs ys:List PV):Bool:=kA (f6 xs) (f6 ys)
theorem wB (xs ys:List PV):eqQ (.tup xs) (.tup ys)=AO xs ys:=by unfold eqQ fS lP AO;rfl
theorem eE (x y:PV) (xs ys:List PV):AO (x :: xs) (y :: ys)=(eqQ x y && AO xs ys):=by unfold AO eqQ;simp [f6,kA]
theorem qN:AO [] []=true:=by unfold AO;simp [f6,kA]
theorem eq_self (x:PV):eqQ x x=true:=yG _
theorem Cb (a b:Rat):eqQ (fr a) (fr b)=decide (a=b):=by
 rw [Lg,Lg,wB,eE,eE,qN,eq_int,eq_int,V1,← V7]
 exact decide_eq_decide.mpr (by rw [Kt])
theorem UX (a b c:PV):mL [a,b,c] (some 1) none=[b,c]:=rfl
theorem Ou:nk "int" "int"=some true:=by simp [nk]
theorem K4:nk "int" "bool"=some false:=by simp [nk]
theorem Rw:nk "bool" "bool"=some true:=by simp [nk]
theorem Ow:nk "str" "str"=some true:=by simp [nk]
theorem Ox:nk "tuple" "tuple"=some true:=by simp [nk]
theorem K5:nk "list" "list"=some true:=by simp [nk]
theorem di {n:Nat} (h:n≤1000):n≤sizeLine:=WD (L2.bp h)
theorem Ls:(0≤sizeLine)=True:=eq_true (Vr _)
theorem PD:(1≤sizeLine)=True:=eq_true (di (by decide))
theorem PF:(2≤sizeLine)=True:=eq_true (di (by decide))
theorem PH:(3≤sizeLine)=True:=eq_true (di (by decide))
theorem PJ:(4≤sizeLine)=True:=eq_true (di (by decide))
section
variable (J:Hq) (xs:List PV) (a:Addr) (i:Int) (b:Bool) (z:Str) (T:String)
theorem SG:fP J (.tup xs) (.int i)=dF xs i:=rfl
theorem SF:fP J (.fl xs) (.int i)=dF xs i:=rfl
theorem Pu:fP J (.ref a) (.int i)=(match J a with | some (.lst xs)=>dF xs i | _=>none):=rfl
theorem SS:me J (.fl xs)=some xs:=rfl
theorem SU:me J (.ref a)=(match J a with | some (.lst xs)=>some xs | _=>none):=rfl
theorem PC:yQ J (.tup xs)=some xs.length:=rfl
theorem PB:yQ J (.fl xs)=some xs.length:=rfl
theorem Lq:yQ J (.ref a)=(match J a with | some (.lst xs)=>some xs | _=>none).map V0:=rfl
theorem TF:Dq J .non=some "NoneType":=rfl
theorem Rt:Dq J (.bl b)=some "bool":=rfl
theorem TC:Dq J (.int i)=some "int":=rfl
theorem TH:Dq J (.str z)=some "str":=rfl
theorem TJ:Dq J (.tup xs)=some "tuple":=rfl
theorem TB:Dq J (.fl xs)=some "list":=rfl
theorem Rv:Dq J (.ref a)=(match J a with | some (.lst _)=>some "list" | some (.dct _ _)=>some "dict" | _=>none):=rfl
theorem Ro:ye J .non=some false:=rfl
theorem Mh:ye J (.bl b)=some b:=rfl
theorem Rn:ye J (.int i)=some (i != 0):=rfl
theorem Rq:ye J (.tup xs)=some (!xs.isEmpty):=rfl
theorem Rm:ye J (.fl xs)=some (!xs.isEmpty):=rfl
theorem Rp:ye J (.ref a)=(match J a with | some (.lst xs)=>some (!xs.isEmpty) | some (.dct kvs _)=>some (!kvs.isEmpty) | _=>none):=rfl
theorem SD:RM J (.fl xs)=some ⟨xs,λ_=>True⟩:=rfl
theorem SE:RM J (.ref a)=(match J a with | some (.lst xs)=>some ⟨xs,λJ'=>J' a=some (.lst xs)⟩ | _=>none):=rfl
theorem Po:FZ .non=true:=rfl
theorem Su:FZ (.bl b)=false:=rfl
theorem Sw:FZ (.int i)=false:=rfl
theorem Sy:FZ (.str z)=false:=rfl
theorem SA:FZ (.tup xs)=false:=rfl
theorem Sv:FZ (.fl xs)=false:=rfl
theorem Sx:FZ (.ref a)=false:=rfl
theorem Tv:OS T J (.fl xs)=(T="list"):=rfl
theorem Tx:OS T J (.str z)=(T="str"):=rfl
theorem Tw:OS T J (.ref a)=((T="list"∧∃xs,J a=some (.lst xs))∨(T="dict"∧∃kvs ep,J a=some (.dct kvs ep))):=rfl
end
def Fo (it:Ar) (g:AE) (tb:iQ) (D:En) (τ:Sr) (J1:Hq):Prop:=∃Pv:Nat→Sr→Hq→Prop,Pv 0 τ J1∧(∀i τ J,Pv i τ J→it.ok J) ∧
 (∀i x τ J,it.xs[i]?=some x→Pv i τ J→g x τ J λτ2 J2=>tb { D with nx:=Pv (i + 1),ct:=Pv (i + 1),bk:=D.nx } τ2 J2)∧∀τ J,Pv it.xs.length τ J→D.nx τ J
theorem Ko (wi:uD) (g:AE) (tb:iQ) (D:En) (τ:Sr) (J:Hq):QJ wi g tb D τ J=wi τ J λit J1=>Fo it g tb D τ J1:=rfl
theorem nN {lo:Int} {n:Nat} {g:AE} {tb:iQ} {D:En} {τ:Sr} {J1:Hq} (Pv:Nat→Sr→Hq→Prop) (h0:Pv 0 τ J1)
  (hs:∀(i:Nat) τ J,i < n→Pv i τ J→g (.int (lo + (i:Int))) τ J λτ2 J2=>tb { D with nx:=Pv (i + 1),ct:=Pv (i + 1),bk:=D.nx } τ2 J2) (hd:∀τ J,Pv n τ J→D.nx τ J):Fo ⟨sj lo n,λ_=>True⟩ g tb D τ J1 :=
 ⟨Pv,h0,λ_ _ _ _=>trivial,λi x τ J e p=>by obtain ⟨a,b⟩:=(sk lo n i x).mp e;subst b;exact hs i τ J a p,λτ J p=>hd τ J (by simpa [iZ] using p)⟩
structure bN (mg:Str→Option Value):Prop extends ES mg where
 str:mg "str"=none
 dict:mg "dict"=none
 max:mg "max"=none
 zip:mg "zip"=none
 enumerate:mg "enumerate"=none
def oY (J' J:Hq):Prop:=∀a,J' a=J a∨J' a=none
def Fg (Q:PV→Hq→Prop) (v:PV) (J:Hq):Prop:=∃x J',oY J' J∧(x=v∨∃a xs,v=.ref a∧x=.fl xs∧J a=some (.lst xs)∧J' a=none)∧Q x J'
theorem Fg.same {Q:PV→Hq→Prop} {v:PV} {J:Hq} (h:Q v J):Fg Q v J:=⟨v,J,λ_=>.inl rfl,.inl rfl,h⟩
theorem Fg.less {Q:PV→Hq→Prop} {v:PV} {J J':Hq} (l:oY J' J) (h:Q v J'):Fg Q v J:=⟨v,J',l,.inl rfl,h⟩
theorem Fg.qO {Q:PV→Hq→Prop} {a:Addr} {xs:List PV} {J J':Hq} (l:oY J' J) (ha:J a=some (.lst xs)) (hn:J' a=none) (h:Q (.fl xs) J'):Fg Q (.ref a) J:=⟨.fl xs,J',l,.inr ⟨a,xs,rfl,rfl,ha,hn⟩,h⟩
section
variable {P:Program} {w:World} {K:PySem.W.Frag} {mg:Str→Option Value} {base:Heap}
theorem Fg.kn {J:Hq} {H:Hp} {Q2:PV→Hq→Prop} {Q:VK} (k:Kn K J H Q2 Q):Kn K J H (Fg Q2) Q:=λz J1 u H1 rz r1 e1 ⟨x,J',l,hx,q⟩=>by
 have el:=Ext.less (K:=K) (H:=H1) l
 rcases hx with rfl | ⟨a,xs,rfl,rfl,ha,hn⟩
 ·exact k x J' u H1 (el.rep rz) (r1.less l) (e1.trans el) q
 ·cases rz
  obtain ⟨vs,h1,h2⟩:=r1 _ _ ha
  exact k (.fl xs) J' _ H1 ⟨a,vs,rfl,.inl ⟨hn,.inl h1⟩,el.jM h2⟩ (r1.less l) (e1.trans el) q
theorem UQ {x qual:Str} {st:Stmt} {f:Addr} {fd:FuncData} {N ps:List Str} {k:Nat} {sp:cu} (F:cg K x qual st f fd) (S:av N ps (L2.aj st)) (len:∀xs J Q E,sp xs J Q E→xs.length=ps.length)
  (hbody:∀(cdv:Value) (A:Around) (outer:List Env) (s:Shared) (H:Hp) (E:XK) (G:G2) (xs:List PV) (J:Hq) (Q:PV→Hq→Prop) (E2:Addr→Hq→Prop),b9 k (A.deeper (envOfC qual (L2.aj st) s.heap.objs.size f cdv))→sp xs J Q E2 →
   DC (Ad P w K mg base N qual (L2.aj st) f cdv A outer s H E) G E2 E →
   ∃t,RB (Ad P w K mg base N qual (L2.aj st) f cdv A outer s H E) G (L2.cb st) t∧t { nx:=λ_ J'=>Fg Q .non J',rt:=Fg Q } (ya N xs) J):aO P w K mg base (cK P w) (k + 1) f fd ps (dg K sp):=by
 have:=S3 (sp:=λxs J Q E=>∃Q0,Q=Fg Q0∧sp xs J Q0 E) F S (λxs J Q E ⟨Q0,_,h⟩=>len xs J Q0 E h) (λcdv A outer s H E G xs J Q E2 hr ⟨Q0,eq,h⟩ B=>by subst eq;exact hbody cdv A outer s H E G xs J Q0 E2 hr h B)
 exact this.imp λvs H Q E ⟨xs,J,Q2,E2,a,b,c,d,e⟩=>⟨xs,J,Fg Q2,E2,a,b,⟨Q2,rfl,c⟩,Fg.kn d,e⟩
end
section
variable {P:Program} {w:World} {K:PySem.W.Frag} {mg:Str→Option Value} {base:Heap}
theorem S2 {x qual:Str} {st:Stmt} {f:Addr} {fd:FuncData} {N ps:List Str} {k:Nat} {sp:cu} {t:(Addr→Hq→Prop)→iQ} (F:cg K x qual st f fd) (S:av N ps (L2.aj st)) (len:∀xs J Q E,sp xs J Q E→xs.length=ps.length)
  (rd:∀(cdv:Value) (A:Around) (outer:List Env) (s:Shared) (H:Hp) (E:XK) (G:G2) (E2:Addr→Hq→Prop),b9 k (A.deeper (envOfC qual (L2.aj st) s.heap.objs.size f cdv)) →
   DC (Ad P w K mg base N qual (L2.aj st) f cdv A outer s H E) G E2 E→RB (Ad P w K mg base N qual (L2.aj st) f cdv A outer s H E) G (L2.cb st) (t E2))
  (run:∀(xs:List PV) (J:Hq) (Q:PV→Hq→Prop) (E2:Addr→Hq→Prop),sp xs J Q E2→∀X:Prop,(t E2 { nx:=λ_ J'=>Fg Q .non J',rt:=Fg Q } (ya N xs) J→X)→X):aO P w K mg base (cK P w) (k + 1) f fd ps (dg K sp) :=
 UQ F S len λcdv A outer s H E G xs J Q E2 hr h B=>⟨_,rd cdv A outer s H E G E2 hr B,run xs J Q E2 h _ id⟩
end
theorem Pd {X:Cx} {G:G2}:DC X G (λ_ _=>False) L2.E0:=⟨λ_ _ _ _ _ _ _ ⟨_,_,_,_,_,z⟩=>z.elim,λ_ _ _ _ _ z=>z.elim⟩
theorem pO {K:PySem.W.Frag} {J:Hq} {H:Hp}:∀ns:List Int,aU K J H (ns.map PV.int) (ns.map V.int)
 | []=>rfl
 | n :: ns=>⟨_,_,rfl,rfl,pO ns⟩
end Ov
namespace Ov
open PySem PySem.Spec PyProof.Rows L2
theorem O3 {α:Type} (a b c d e:α) (xs:List α):dF (a :: b :: c :: d :: e :: xs) 4=some e:=bA (j:=4) rfl
theorem O4 {α:Type} (a b c d e f:α) (xs:List α):dF (a :: b :: c :: d :: e :: f :: xs) 5=some f:=bA (j:=5) rfl
theorem O5 {α:Type} (a b c d e f g:α) (xs:List α):dF (a :: b :: c :: d :: e :: f :: g :: xs) 6=some g:=bA (j:=6) rfl
theorem O6 {α:Type} (a b c d e f g h:α) (xs:List α):dF (a :: b :: c :: d :: e :: f :: g :: h :: xs) 7=some h:=bA (j:=7) rfl
theorem O7 {α:Type} (a b c d e f g h i:α) (xs:List α):dF (a :: b :: c :: d :: e :: f :: g :: h :: i :: xs) 8=some i:=bA (j:=8) rfl
theorem O8 {α:Type} (a b c d e f g h i j:α) (xs:List α):dF (a :: b :: c :: d :: e :: f :: g :: h :: i :: j :: xs) 9=some j:=bA (j:=9) rfl
theorem MK {α:Type} (a b c d e f g h i j k:α) (xs:List α):dF (a :: b :: c :: d :: e :: f :: g :: h :: i :: j :: k :: xs) 10=some k:=bA (j:=10) rfl
theorem ML {α:Type} (a b c d e f g h i j k l:α) (xs:List α):dF (a :: b :: c :: d :: e :: f :: g :: h :: i :: j :: k :: l :: xs) 11=some l:=bA (j:=11) rfl
theorem PK:(5≤sizeLine)=True:=eq_true (di (by decide))
theorem PL:(6≤sizeLine)=True:=eq_true (di (by decide))
theorem PM:(7≤sizeLine)=True:=eq_true (di (by decide))
theorem PN:(8≤sizeLine)=True:=eq_true (di (by decide))
theorem PQ:(9≤sizeLine)=True:=eq_true (di (by decide))
theorem Ni:(10≤sizeLine)=True:=eq_true (di (by decide))
theorem Nj:(11≤sizeLine)=True:=eq_true (di (by decide))
theorem Nk:(12≤sizeLine)=True:=eq_true (di (by decide))
theorem oK {ss:List Int} (h:ss.all (λs=>decide (0 < s) && decide (s < 2 ^ 63))=true):∀s∈ss,0 < s∧Bd 9000 s:=λs hs=>by
 have:=V4.mp h s hs
 rw [Vq,decide_eq_true_eq,decide_eq_true_eq] at this
 exact ⟨this.1,(Bd.small (by omega) (by omega)).mono (by decide)⟩
theorem Sz.div {n:Nat} {t b:Int} (ht:Bd n t) (hb:Bd n b) (h:b≠0):Sz n (Rat.divInt t b):=⟨ht.le (Cw t b),hb.le (wA h)⟩
end Ov
namespace Ov
open PySem PySem.Spec PyProof.Rows
open L2 (V HO Hp Inv Cx VK XK TE TT TA TS TG rS TI TO l7 Ends yv Loc Gl Rd RelV Vals fI Ab cq rK vj qL l6 R2 upd aH aM dq g8 Sp uc It bL dZ b9 Passes qK aK Meth Mk Binds aO cg av dF g6 fA)
section
variable {X:Cx} {G:G2}
abbrev DJ:=PV→PV→PV→Hq→(Hq→Prop)→Prop
def R' (X:Cx) (q:DJ):Prop:=∃r,l6 X r∧∀J H o i y ov iv u R2 R,cH X.K J H o ov→cH X.K J H i iv→cH X.K J H y u→Rep X.K J H→q o i y J R2→(∀J' H',Rep X.K J' H'→Ext X.K J H J' H'→R2 J'→R H')→r ov iv u H R
def So (to ti:dN) (t:DJ):AE:=λy τ J R=>to τ J λo J1=>ti τ J1 λi J2=>t o i y J2 λJ3=>R τ J3
theorem N8 {o i:Expr} {to ti:dN} {t:DJ} {pos:Pos} (hs:R' X t) (ho:RE X G o to) (hi:RE X G i ti)
  (ha:∀v,assign (.Subscript o i pos) X.env v=(do
   let ov ← holding [v] (eval o X.env)
   let iv ← holding [v,ov] (eval i X.env)
   standAt pos
   holding [v,ov,iv] (setItem ov iv v)
   release [v,ov,iv] []):=by intro _;rfl):RG X G (.Subscript o i pos) (So to ti t):=by
 obtain ⟨r,hr,lf⟩:=hs
 exact ⟨S_ (L2.xj ho.run hi.run hr ha) λv σ H Q ⟨y,τ,J,Q2,ry,a2,h,k⟩ =>
  ⟨τ,J,_,a2,h,λx J1 ov H1 rx r1 e1 h1=>⟨τ,J1,_,a2.go r1 e1,h1,λz J2 iv H2 rz r2 e2 h2 =>
   lf J2 H2 x z y ov iv v _ _ (e2.rep rx) rz (e2.rep (e1.rep ry)) r2 h2 λJ3 H3 r3 e3 q=>k τ J3 σ H3 ((((a2.sl.ext e1).ext e2).ext e3)) r3 ((e1.trans e2).trans e3) q⟩⟩⟩
def Qw:DJ:=λo i y J R=>∃p xs k j,o=.ref p∧i=.int k∧J p=some (.lst xs)∧L2.EV xs.length k=some j∧R (put J p (.lst (xs.set j y)))
theorem tu {o i e:Expr} {to ti te:dN} {t:DJ} {pos pos':Pos} (hs:R' X t) (ho:RE X G o to) (hi:RE X G i ti) (he:RE X G e te)
  (ha:∀v,assign (.Subscript o i pos') X.env v=(do
   let ov ← holding [v] (eval o X.env)
   let iv ← holding [v,ov] (eval i X.env)
   standAt pos'
   holding [v,ov,iv] (setItem ov iv v)
   release [v,ov,iv] []):=by intro _;rfl)
  (hq:swapsWithSole [.Subscript o i pos'] e pos.line X.env=pure false:=by rfl) (hw:swappedStores [.Subscript o i pos'] e X.env=pure none:=by rfl)
  (h1:(assignEach [.Subscript o i pos'] X.env).map (·.2)=[assign (.Subscript o i pos') X.env]:=by rfl):RS X G (.Assign [.Subscript o i pos'] e pos) (uV te (So to ti t)):=xC he (N8 hs ho hi ha) hq hw h1
def T2 (X:Cx) (op:Operator) (q:nG):Prop:=∃r,L2.R9 X op r∧LR X.K r q
def Qz (i:Nat) (te:dN) (q:nG):iQ:=λD τ J=>OO τ[i]? λx=>te τ J λy J1=>q x y J1 λz J2=>D.nx (τ.set i (some z)) J2
theorem Hi {i:Nat} {x:Str} {e:Expr} {te:dN} {op:Operator} {q:nG} {pos pos':Pos} (hN:X.N.Nodup) (he:RE X G e te) (ho:T2 X op q) (hi:X.N[i]?=some x:=by rfl) (hx:Loc X.env.scope x:=by first | exact .inl rfl | exact .inr rfl) (hf:X.fn x=true∨X.env.scope.names.lookup x=some .local:=by first | exact .inl rfl | exact .inr rfl | assumption) :
  RS X G (.AugAssign (.Name x pos') op e pos) (Qz i te q):=by
 obtain ⟨r,hr,lf⟩:=ho
 exact ⟨zo (L2.NW hN hi hx he.run hr hf) λD σ H ⟨τ,J,D2,a2,hh,g⟩=>by
  obtain ⟨x,hx,h⟩:=GI hh
  obtain ⟨v,h1,h2⟩:=a2.sl.get _ _ hx
  exact ⟨v,h1,τ,J,_,a2,h,λy J1 u H1 ry r1 e1 q1=>lf J1 H1 x y v u _ _ (e1.rep h2) ry r1 q1 λz J2 u2 H2 rz r2 e2 q2=>g.nx _ J2 _ H2 (((a2.sl.ext e1).ext e2).set i rz) r2 (e1.trans e2) q2⟩⟩
theorem FX:T2 X .Sub (G8 λi j=>.int (i - j)):=⟨_,L2.M8,λJ H x y v w Q2 Q rx ry r h k=>by
 obtain ⟨i,ex,h⟩:=ip h;obtain ⟨j,ey,q⟩:=ip h
 subst ex ey;cases rx;cases ry;exact ⟨i,j,rfl,rfl,k (.int _) J _ H rfl r .refl q⟩⟩
end
theorem gA {xs:List PV} {ok:Hq→Prop} {g:AE} {tb:iQ} {D:En} {τ:Sr} {J1:Hq} (Pv:Nat→Sr→Hq→Prop) (h0:Pv 0 τ J1) (hk:∀i τ J,Pv i τ J→ok J)
  (hs:∀(i:Nat) x τ J,xs[i]?=some x→Pv i τ J→g x τ J λτ2 J2=>tb { D with nx:=Pv (i + 1),ct:=Pv (i + 1),bk:=D.nx } τ2 J2) (hd:∀τ J,Pv xs.length τ J→D.nx τ J):Fo ⟨xs,ok⟩ g tb D τ J1:=⟨Pv,h0,hk,hs,hd⟩
theorem B2 {α:Type} (xs:List α) (x:α):dF (xs ++ [x]) (-1)=some x:=by
 unfold L2.dF L2.EV
 rw [if_neg (by decide),if_pos (by simp;omega)]
 have e:(-1 + ((xs ++ [x]).length:Int)).toNat=xs.length:=by simp only [Vg,Vk,Wi];omega
 rw [e]
 simp
theorem nZ {J:Hq} {x:PV} {ys:List PV} (h:me J x=some ys):x=.fl ys∨∃a,x=.ref a∧J a=some (.lst ys):=by
 cases x with
 | fl xs=>cases h;exact .inl rfl
 | ref a =>
  right
  refine ⟨a,rfl,?_⟩
  unfold me at h
  simp only at h
  split at h
  ·rename_i e;cases h;exact e
  ·cases h
 | _=>cases h
theorem P0 {J:Hq} {x:PV} {ys:List PV} (h:me J x=some ys):Dq J x=some "list":=by
 rcases nZ h with rfl | ⟨a,rfl,ha⟩
 ·rfl
 ·rw [Rv,ha]
theorem Gk {J:Hq} {x:PV} {ys:List PV} (h:me J x=some ys):yQ J x=some ys.length:=by
 rcases nZ h with rfl | ⟨a,rfl,ha⟩
 ·rfl
 ·rw [Lq,ha];rfl
theorem Lv {J:Hq} {x:PV} {ys:List PV} (h:me J x=some ys) (i:Int):fP J x (.int i)=dF ys i:=by
 rcases nZ h with rfl | ⟨a,rfl,ha⟩
 ·rfl
 ·rw [Pu,ha]
def ik (j:Nat):List PV:=.bl true :: (VA 10).map λk=>.bl (decide (j=k))
theorem DQ {K:PySem.W.Frag} {J:Hq} {H:Hp} (j:Nat):aU K J H (ik j) (wC j):=by
 unfold ik wC
 refine ⟨_,_,rfl,rfl,?_⟩
 generalize VA 10=l
 induction l with
 | nil=>rfl
 | cons k l ih=>exact ⟨_,_,rfl,rfl,ih⟩
def Q5 (c:Nat→Addr) (N n:Nat) (t:(Addr→Hq→Prop)→iQ):iQ:=λD τ J =>
 t (λa J'=>∃j,j < 10∧a=c j∧D.nx ((VP N none).set n (some (.fl (ik j)))) J') D τ J
section
variable {X:Cx} {G:G2}
theorem N' {body suite:List Stmt} {b₀:Stmt} {x m:Str} {i n:Nat} {W:Addr} {c:Nat→Addr} {t:(Addr→Hq→Prop)→iQ} {ts:TS} {np hpos pos:Pos} (Er:DD X.K X.mg W c) (hg:Gl X x) (hm:X.mg x=some (.ref W))
  (hN:X.N.Nodup) (hi:X.N[i]?=some m) (hin:i≠n) (hk:X.env.kindOf m=some .local) (hb:∀pn xe E G' E2,DC (MV X pn xe) G' E2 E→RB (MV X pn xe) G' body (t E2)) (hs:∀pn ea,QB (OJ X pn ea) (b₀ :: suite) ts)
  (hq:∀(j:Nat),j < 10→∀(σ:L2.St) (H:Hp) (ea:Addr) (D:Ends),σ[i]?=some (some (.ref ea))→H ea=some (.ext (ExcAt ea (c j)))→(∀l,H l=none→D.nx (σ.set n (some (.ref l))) (upd H l (.lst (wC j))))→ts D σ H)
  (hst:X.stack=X.env :: X.outer:=by rfl) (hfr:X.env.frame=some X.env.locals:=by rfl) (hex:X.ex=[]:=by rfl) (hd:(x == ("__debug__":Str))=false:=by decide) :
  RS X G (.Try body [.ExceptHandler (some (.Name x np)) (some m) (b₀ :: suite) hpos] [] [] pos) (Q5 c X.N.length n t):=by
 have hiN:i < X.N.length:=by
  rcases WX i X.N.length with e | e
  ·exact e
  ·rw [Vz e] at hi;cases hi
 refine ⟨zo (Kf (tb:=λE D σ H=>∃(G':G2) (E2:Addr→Hq→Prop),K_ X.K G'.1 G'.2 E2 E∧LS X.K G' (t E2) D σ H) hst hfr hex hg hm hN hi hk (λpn xe E hp pins s σ H D I ⟨G',E2,kn,h⟩=>(hb pn xe E G' E2 ⟨hp,kn⟩).run pins s σ H D I h) (λpn ea=>(hs pn ea).run) hd) ?_⟩
 intro D σ H ⟨τ,J,D2,a2,h,g⟩
 refine ⟨(J,H),_,?_,τ,J,D2,⟨a2.sl,a2.hp,.refl⟩,h,g⟩
 intro C J' H' r e ⟨j,hj,hC,q⟩
 subst hC
 refine ⟨c j,rfl,Er.wat j hj,λea he=>?_⟩
 refine hq j hj _ _ ea _ (by rw [Vn (by simpa using hiN)]) aH λl hl=>?_
 have s1:bL H' (upd H' ea (.ext (ExcAt ea (c j)))):=bL.new he _
 have r1:=r.same s1
 obtain ⟨x1,x2,x3⟩:=sE (xs:=ik j) r1 (DQ j) hl
 refine g.nx _ J' _ _ ?_ x2 ((e.trans (.same s1)).trans x3) q
 refine ⟨by simp,λk y hy=>?_⟩
 have hkn:k=n:=by
  rcases WX k X.N.length with hlt | hge
  ·by_cases e:n=k
   ·exact e.symm
   ·rw [VC e,List.getElem?_replicate_of_lt hlt] at hy;cases hy
  ·rw [Vz (by simpa using hge)] at hy;cases hy
 subst hkn
 have hkN:k < X.N.length:=by
  rcases WX k X.N.length with e | e
  ·exact e
  ·rw [Vz (by simpa using e)] at hy;cases hy
 rw [Vn (by simpa using hkN)] at hy
 cases hy
 exact ⟨.ref l,by rw [VC hin,Vn (by simpa using hkN)],x1⟩
end
theorem Od {a b:iQ} {D:En} {τ:Sr} {J:Hq} (h:∀N:Sr→Hq→Prop,(∀τ' J',b D τ' J'→N τ' J')→a { D with nx:=N } τ J):bE a b D τ J:=h _ λ_ _ z=>z
def Oi (J:Hq):PV→Option (List PV)
 | .tup xs=>some xs
 | .fl xs=>some xs
 | .ref a=>match J a with
  | some (.lst xs)=>some xs
  | _=>none
 | _=>none
theorem HG {K:PySem.W.Frag} {J:Hq} {H:Hp} {y:PV} {u:V} {xs:List PV} (h:Oi J y=some xs) (r:cH K J H y u) (rr:Rep K J H):∃p vs,u=.ref p∧(dq K H p vs∨g8 K H p vs)∧aU K J H xs vs:=by
 cases y with
 | tup ys=>cases h;obtain ⟨a,vs,rfl,h1,h2⟩:=r;exact ⟨a,vs,rfl,.inr h1,h2⟩
 | fl ys=>cases h;obtain ⟨a,vs,rfl,h1,h2⟩:=r;exact ⟨a,vs,rfl,.inl h1.sq,h2⟩
 | ref a =>
  cases r
  unfold Oi at h
  simp only at h
  split at h
  ·rename_i e;cases h
   obtain ⟨vs,h1,h2⟩:=rr _ _ e
   exact ⟨a,vs,rfl,.inl (dq.of h1),h2⟩
  ·cases h
 | _=>cases h
theorem gf {K:PySem.W.Frag} {J:Hq} {H:Hp}:∀{ns:List Str} {vs:List V},aU K J H (ns.map PV.str) vs→vs=ns.map V.str
 | [],_,h=>h
 | n :: ns,_,⟨v,us,e,h,k⟩=>by subst e;cases h;rw [gf k];rfl
theorem oE {K:PySem.W.Frag} {J:Hq} {H:Hp}:∀{ns:List Int} {vs:List V},aU K J H (ns.map PV.int) vs→vs=ns.map V.int
 | [],_,h=>h
 | n :: ns,_,⟨v,us,e,h,k⟩=>by subst e;cases h;rw [oE k];rfl
theorem B3 {α:Type} [BEq α] [LawfulBEq α] [DecidableEq α] (x y:α):(x == y)=decide (x=y):=by by_cases h:x=y <;> simp [h]
theorem Jo (s:Str) (ss:List Str):L2.OL (.str s) (ss.map V.str)=decide (s∈ss):=by
 unfold L2.OL
 induction ss with
 | nil=>rfl
 | cons x ss ih =>
  rw [U6,Wf,ih,show L2.Ih (.str x) (.str s)=(x == s) from rfl,B3]
  by_cases h:x=s
  ·subst h;simp
  ·simp [h,show ¬ s=x from λe=>h e.symm]
theorem Jn (s:Int) (ss:List Int):L2.OL (.int s) (ss.map V.int)=decide (s∈ss):=by
 unfold L2.OL
 induction ss with
 | nil=>rfl
 | cons x ss ih =>
  rw [U6,Wf,ih,show L2.Ih (.int x) (.int s)=(x == s) from rfl,B3]
  by_cases h:x=s
  ·subst h;simp
  ·simp [h,show ¬ s=x from λe=>h e.symm]
section
variable {X:Cx} {G:G2}
def Qq (f:Bool→Bool):nG:=λx y J Q=>∃(s:Str) (ss:List Str),x=.str s∧Oi J y=some (ss.map .str)∧Q (.bl (f (decide (s∈ss)))) J
def Tb (f:Bool→Bool):nG:=λx y J Q=>∃(s:Int) (ss:List Int),x=.int s∧Oi J y=some (ss.map .int)∧Q (.bl (f (decide (s∈ss)))) J
theorem DS (ss:List Str):(ss.map V.str).all L2.j1=true:=by simp [L2.j1]
theorem DR (ss:List Int):(ss.map V.int).all L2.j1=true:=by simp [L2.j1]
theorem qV:nu X (compareOp .NotIn) (Qq not):=⟨_,L2.xg,λJ H x y v w Q2 Q rx ry r ⟨s,ss,ex,hy,q⟩ k=>by
 subst ex;cases rx
 obtain ⟨p,vs,rfl,hq,h2⟩:=HG hy ry r
 cases gf h2
 exact ⟨p,_,rfl,hq,rfl,DS ss,k (.bl _) J _ H (by rw [if_pos rfl,Jo];rfl) r .refl q⟩⟩
theorem GO:nu X (compareOp .In) (Tb id):=⟨_,L2.Es,λJ H x y v w Q2 Q rx ry r ⟨s,ss,ex,hy,q⟩ k=>by
 subst ex;cases rx
 obtain ⟨p,vs,rfl,hq,h2⟩:=HG hy ry r
 cases oE h2
 exact ⟨p,_,rfl,hq,rfl,DR ss,k (.bl _) J _ H (by rw [if_neg (by decide),Jn];rfl) r .refl q⟩⟩
end
end Ov
namespace L2
open PySem PySem.Spec PyProof.Rows
section
variable {X:Cx} {tg:Expr}
end
end L2
namespace Ov
open PySem PySem.Spec PyProof.Rows
open L2 (V HO Hp Inv Cx VK XK TE TT TA TS TG rS TI TO l7 Ends yv Loc Gl Rd RelV Vals fI Ab cq rK vj qL l6 R2 upd aH aM dq g8 Sp uc It bL dZ b9 Passes qK aK Meth Mk Binds aO cg av dF g6 fA)
section
variable {X:Cx} {G:G2} {tg:Expr}
theorem pz {K:PySem.W.Frag} {J:Hq} {H:Hp} {y:PV} {u:V} {xs:List PV} (h:me J y=some xs) (r:cH K J H y u) (rr:Rep K J H):∃p vs,u=.ref p∧dq K H p vs∧aU K J H xs vs:=by
 rcases nZ h with rfl | ⟨a,rfl,ha⟩
 ·obtain ⟨a,vs,rfl,h1,h2⟩:=r;exact ⟨a,vs,rfl,h1.sq,h2⟩
 ·cases r
  obtain ⟨vs,h1,h2⟩:=rr _ _ ha
  exact ⟨a,vs,rfl,dq.of h1,h2⟩
def Qr:AD:=λxs J Q=>∃k:Bool,xs=[.bl k]∧Q (.int (if k then 1 else 0)) J
theorem MT:Ir X (.type "int") Qr:=⟨_,L2.DL,λJ H xs vs Q2 Q rs r ⟨k,ex,q⟩ kk=>by
 subst ex;obtain ⟨v,us,rfl,rv,e⟩:=rs;cases e;cases rv
 exact .inr ⟨k,rfl,kk (.int _) J _ H rfl r .refl q⟩⟩
end
end Ov
namespace L2
open PySem PySem.Spec PyProof.Rows
section
variable {X:Cx} {pins:List (Addr × Obj)} {σ:St} {H:Hp} {s:Shared} {h':Heap}
theorem Inv.rD {t':Nat} {ch:List Addr} (I:Inv X pins σ H s) (k:∀b o,b ∉ ch→s.heap.get? b=some o→h'.get? b=some o) (hf:∀b∈ch,l5 X pins H b):Inv X pins σ H { s with heap:=h',toks:=t' }:=by
 have nit:∀b u,H b=some u→b ∉ ch:=λb u e z=>by rw [(hf b z).1] at e;cases e
 refine I.step (g':=s.gens) (d':=s.drawn) (ch:=ch) (λb hb=>?_) (λb o _ _ hc e _=>k b o hc e) (λb o _ _ hc e _=>⟨o.slots,k b o hc e⟩) (λ_ _ _ _ n=>n)
  (λb o hc e=>⟨o,k b o hc e⟩) (λ_ _ e=>e) (λ_ _ _ e=>e) (λb ps e=>⟨#[],by rw [e];simp⟩) (λm hm=>?_) (λb u e=>?_) I.bare
 ·obtain ⟨f0,f1,f2,f3,f4,f5⟩:=hf b hb
  exact ⟨f3,f1,f4,f5⟩
 ·obtain ⟨o,es,ep,ho,r⟩:=hm
  exact ⟨o,es,ep,k _ o (λz=>(hf _ z).2.1 rfl) ho,r⟩
 ·refine (I.hok b u e).p7 (λc v hc q=>k c v ?_ q) (λ_ q=>q) λ_ _ q=>q
  rcases hc with z | z
  ·rw [z];exact nit b u e
  ·exact nit c _ z
end
def T5 (K:PySem.W.Frag) (a b:Addr):It :=
 ⟨λi H=>∃xs ys x y,dq K H a xs∧dq K H b ys∧xs[i]?=some x∧ys[i]?=some y,
  λi H z H'=>∃T x y,H T=none∧z=.ref T∧H'=upd H T (.tup [x,y])∧(∀xs,dq K H a xs→xs[i]?=some x)∧∀ys,dq K H b ys→ys[i]?=some y,
  λi H=>∃xs ys,dq K H a xs∧dq K H b ys∧(xs.length≤i∨ys.length≤i)⟩
theorem HY {P:Program} {w:World} {K:PySem.W.Frag} {elts:List Expr} {x1} {pos:Pos} {z TI TO i1 i2 l1 l2:Addr} (D:ZipApart z TI TO i1 i2 l1 l2) :
  Turn P w K (.Tuple elts x1 pos) (T5 K l1 l2) [z,TI,TO,i1,i2] z (λi h=>IsZip h z TI TO .none∧IsPair h TI (.ref i1) (.ref i2)∧(∃a b,IsPair h TO a b)∧h.IsListIter i1 l1 i∧h.IsListIter i2 l2 i) where
 mem:=by simp
 obj:=λi h ⟨hz,hTI,⟨a,b,hTO⟩,h1,h2⟩ c hc=>by
  simp only [Vb,Vm,or_false] at hc
  rcases hc with rfl | rfl | rfl | rfl | rfl
  ·exact ⟨_,hz,λv z=>by cases z⟩
  ·exact ⟨_,hTI,λv z=>by cases z⟩
  ·exact ⟨_,hTO,λv z=>by cases z⟩
  ·obtain ⟨o,e,c,d⟩:=h1;exact ⟨o,e,λv z=>by rw [d] at z;cases z⟩
  ·obtain ⟨o,e,c,d⟩:=h2;exact ⟨o,e,λv z=>by rw [d] at z;cases z⟩
 keep:=λi h h' ⟨hz,hTI,⟨a,b,hTO⟩,h1,h2⟩ k=>⟨k z (by simp) _ hz,k TI (by simp) _ hTI,⟨a,b,k TO (by simp) _ hTO⟩,h1.at λo e=>k i1 (by simp) o e,h2.at λo e=>k i2 (by simp) o e⟩
 item:=by
  intro X hP hw hK hc i pins s σ H E I hf st hg
  subst hP hw hK
  obtain ⟨hz,hTI,⟨a,b,hTO⟩,h1,h2⟩:=st
  obtain ⟨xs,ys,x,y,hqx,hqy,hx,hy⟩:=hg
  obtain ⟨its,rv,p,hzx⟩:=I.list hqx
  obtain ⟨jts,ru,p',hzy⟩:=I.list hqy
  obtain ⟨u,hu,rx⟩:=rv.get hx
  obtain ⟨v,hv,ry⟩:=ru.get hy
  refine wpAny_pyNext_zip_item D hz hTI hTO h1 h2 p.isList p'.isList (x:=u) (y:=v) (by simpa using hu) (by simpa using hv) λh' a1 a2 a3 a4 a5 a6 hk=>?_
  refine ⟨_,rfl,wpAny_letOwnedTupleGo_zip a1 λh'' hz' hs'=>?_⟩
  have hT:H s.heap.objs.size=none:=I.hok.fresh (U4 _)
  have lt:∀{c o},s.heap.get? c=some o→c≠s.heap.objs.size:=λe=>Vj (Heap.lt_size e)
  have nz:s.heap.objs.size≠z:=Ne.symm (lt hz)
  have I0:Inv X pins σ (upd H s.heap.objs.size (.tup [x,y])) { s with heap:=s.heap.push { cls:=.type "tuple",data:=.seq #[u,v] },toks:=s.toks }:=I.laid (t':=s.toks) (λb u e=>Heap.get?_push_of_some _ e) (U4 _) ⟨by simp [sizeLine],[u,v],.cons rx (.cons ry .nil),⟨_,Heap.get?_push_size _ rfl,rfl,_,rfl⟩⟩
  have fpn:∀b∈[z,TI,TO,i1,i2],b≠s.heap.objs.size:=λb hb=>by
   simp only [Vb,Vm,or_false] at hb
   rcases hb with rfl | rfl | rfl | rfl | rfl
   ·exact lt hz
   ·exact lt hTI
   ·exact lt hTO
   ·obtain ⟨o,e,_⟩:=h1;exact lt e
   ·obtain ⟨o,e,_⟩:=h2;exact lt e
  have fpu:∀b∈[z,TI,TO,i1,i2],l5 X pins (upd H s.heap.objs.size (.tup [x,y])) b:=λb hb=>⟨by rw [aM (fpn b hb)];exact (hf b hb).1,(hf b hb).2⟩
  have I1:Inv X pins σ (upd H s.heap.objs.size (.tup [x,y])) { s with heap:=h'' }:=Inv.rD (s:={ s with heap:=s.heap.push { cls:=.type "tuple",data:=.seq #[u,v] },toks:=s.toks }) (t':=s.toks) (ch:=[z,TI,TO,i1,i2]) I0 (λb o hb e=>by
   simp only [Vb,Vm,or_false,not_or] at hb
   rcases Heap.get?_push_cases e with ⟨rfl,rfl⟩ | e'
   ·exact hs'.extBut _ _ hb.1 a5
   ·exact hs'.extBut _ _ hb.1 (hk b o hb.1 hb.2.2.1 hb.2.2.2.1 hb.2.2.2.2 e')) fpu
  refine ⟨.ref s.heap.objs.size,_,I1,rfl,⟨_,x,y,hT,rfl,rfl,λzs hq=>by rw [I.kE hq hqx];exact hx,λzs hq=>by rw [I.kE hq hqy];exact hy⟩,⟨hz',hs'.extBut _ _ D.TIz (hk _ _ D.TIz D.TITO D.TIi1 D.TIi2 hTI),⟨_,_,hs'.extBut _ _ D.TOz a2⟩,a3.extBut hs'.extBut D.i1z,a4.extBut hs'.extBut D.i2z⟩,λb hb=>(fpu b hb).1⟩
 done:=by
  intro X hP hw hK hc i pins s σ H E I hf st hg
  subst hP hw hK
  obtain ⟨hz,hTI,⟨a,b,hTO⟩,h1,h2⟩:=st
  obtain ⟨xs,ys,hqx,hqy,hl⟩:=hg
  obtain ⟨its,rv,p,hzx⟩:=I.list hqx
  obtain ⟨jts,ru,p',hzy⟩:=I.list hqy
  have e1:=rv.length
  have e2:=ru.length
  refine wpAny_pyNext_zip_end (I.ok.hd hc) D hz hTI hTO h1 h2 p.isList p'.isList ?_ λh' hk=>⟨rfl,I.rD (t':=s.toks) (ch:=[z,TI,TO,i1,i2]) (λb o hb e=>?_) hf⟩
  ·rcases hl with hl | hl
   ·exact .inl (by simp;omega)
   ·exact .inr (by simp;omega)
  ·simp only [Vb,Vm,or_false,not_or] at hb
   exact hk b o hb.1 hb.2.2.1 hb.2.2.2.1 hb.2.2.2.2 e
 self:=λ_ _ _ _ _ st h=>wpAny_pyIter_zip st.1 h
def Ss (K:PySem.W.Frag) (ta:TA):TI:=λσ H R=>ta σ H λvs H1=>∃a b xs ys,vs=[.ref a,.ref b]∧dq K H1 a xs∧dq K H1 b ys∧R (T5 K a b) H1
section
variable {X:Cx}
theorem NV {l m:Expr} {elts:List Expr} {x1} {tp:Pos} {ta:TA} {p pos:Pos} (hg:Gl X "zip") (hm:X.mg "zip"=none) (ha:PA X [l,m] ta) (hs:starEach [l,m] X.env=(false,eval l X.env) :: starEach [m] X.env:=by rfl) (hp:(backTo pos (starEach [m] X.env)).any (·.1)=false:=by rfl):PI X (.Tuple elts x1 tp) (.Call (.Name "zip" p) [l,m] [] pos) (Ss X.K ta):=by
 intro pins s σ H R I h
 refine Call_ (mP I hg hm PyProof.Rows.Boot.«zip» (PyProof.Rows.callWith_type1 (cG (ha pos pins s σ H _ I h) λus s1 ⟨vs,H1,I1,r1,q1⟩=>?_) hs hp))
 obtain ⟨a,b,xs,ys,e,hqa,hqb,q⟩:=q1
 subst e
 cases r1 with
 | cons r rr =>
  cases rr with
  | cons r' rr' =>
   cases rr'
   cases r
   cases r'
   obtain ⟨its,rv,pl,hz⟩:=I1.list hqa
   obtain ⟨jts,ru,pl',hz'⟩:=I1.list hqb
   refine call_zip_2 pl.isList pl'.isList λh' b1 b2 b3 b4 b5 b6 hk=>?_
   refine wpAny_pyIter_zip b1 ?_
   have la:a < s1.heap.objs.size:=by obtain ⟨o,e,_⟩:=pl.isList;exact Heap.lt_size e
   have lb:b < s1.heap.objs.size:=by obtain ⟨o,e,_⟩:=pl'.isList;exact Heap.lt_size e
   have D:ZipApart (s1.heap.objs.size + 4) (s1.heap.objs.size + 2) (s1.heap.objs.size + 3) s1.heap.objs.size (s1.heap.objs.size + 1) a b:=by
    have la':@LT.lt Nat _ a s1.heap.objs.size:=la
    have lb':@LT.lt Nat _ b s1.heap.objs.size:=lb
    constructor <;> (show @Ne Nat _ _;omega)
   refine ⟨_,_,_,_,H1,rfl,I1.kept (t':=s1.toks) hk,HY D,⟨b1,b2,⟨_,_,b3⟩,b4,b5⟩,λc hc=>?_,q⟩
   have hc':s1.heap.objs.size≤c:=by
    simp only [Vb,Vm,or_false] at hc
    show @LE.le Nat _ _ _
    rcases hc with rfl | rfl | rfl | rfl | rfl
    ·exact V5 _ _
    ·exact V5 _ _
    ·exact V5 _ _
    ·exact U4 _
    ·exact V5 _ _
   exact I1.FI hc' (I1.hok.fresh hc')
end
end L2
namespace Ov
open PySem PySem.Spec PyProof.Rows
open L2 (V HO Hp Inv Cx VK XK TE TT TA TS TG rS TI TO l7 Ends yv Loc Gl Rd RelV Vals fI Ab cq rK vj qL l6 R2 upd aH aM dq g8 Sp uc It bL dZ b9 Passes qK aK Meth Mk Binds aO cg av dF g6 fA)
section
variable {X:Cx} {G:G2}
def Ui (ta:p_):uD:=λτ J R=>ta τ J λvs J1=>NJ vs λx y=>xf (me J1 x) λxs=>xf (me J1 y) λys=>R ⟨(xs.zip ys).map λp=>.tup [p.1,p.2],λJ'=>me J' x=some xs∧me J' y=some ys⟩ J1
theorem N9 {l m:Expr} {elts:List Expr} {x1} {tp:Pos} {ta:p_} {p pos:Pos} (hg:Gl X "zip") (hm:X.mg "zip"=none) (ha:RA X G [l,m] ta) (hs:starEach [l,m] X.env=(false,eval l X.env) :: starEach [m] X.env:=by rfl) (hp:(backTo pos (starEach [m] X.env)).any (·.1)=false:=by rfl) :
  RI X G (.Tuple elts x1 tp) (.Call (.Name "zip" p) [l,m] [] pos) (Ui ta):=⟨Qm (L2.NV hg hm ha.run hs hp) λσ H R ⟨τ,J,R2,a2,h,k⟩=>⟨τ,J,_,a2,h,λvs J1 us H1 rs r1 e1 hh=>by
 obtain ⟨x,y,ev,hh⟩:=Bg hh;obtain ⟨xs,hx,hh⟩:=fe hh;obtain ⟨ys,hy,q⟩:=fe hh
 subst ev
 obtain ⟨v,us',rfl,rv,v',us'',rfl,rv',e'⟩:=rs
 cases e'
 obtain ⟨a,ws,rfl,h1,h2⟩:=pz hx rv r1
 obtain ⟨b,ws',rfl,h1',h2'⟩:=pz hy rv' r1
 refine ⟨a,b,ws,ws',rfl,h1,h1',k _ J1 _ H1 ?_ r1 e1 q⟩
 have at_:∀J' H',Ext X.K J1 H1 J' H'→Rep X.K J' H'→me J' x=some xs∧me J' y=some ys→∃vs us,dq X.K H' a vs∧aU X.K J' H' xs vs∧dq X.K H' b us∧aU X.K J' H' ys us:=λJ' H' e r o=>by
  obtain ⟨c,vs,eb,g1,g2⟩:=pz o.1 (e.rep rv) r
  cases eb
  obtain ⟨c',us,eb,g1',g2'⟩:=pz o.2 (e.rep rv') r
  cases eb
  exact ⟨vs,us,g1,g2,g1',g2'⟩
 exact {
  go:=λJ' H' e r o i hi=>by
   obtain ⟨vs,us,s,rs,s',rs'⟩:=at_ J' H' e r o
   rw [UZ,Wj] at hi
   have i1:i < vs.length:=by rw [← rs.length];omega
   have i2:i < us.length:=by rw [← rs'.length];omega
   exact ⟨vs,us,vs[i],us[i],s,s',U2 i1,U2 i2⟩
  yl:=λJ' H' e r o i hi v H2 y=>by
   obtain ⟨vs,us,s,rs,s',rs'⟩:=at_ J' H' e r o
   obtain ⟨T,z,z',hT,rfl,rfl,y1,y2⟩:=y
   obtain ⟨c,ec,rc⟩:=rs.get' (y1 vs s)
   obtain ⟨c',ec',rc'⟩:=rs'.get' (y2 us s')
   have sm:=bL.new hT (.tup [z,z'])
   have e2:=Ext.same (K:=X.K) (J:=J') sm
   refine ⟨.tup [c,c'],?_,⟨T,[z,z'],rfl,.inl (.inl aH),e2.jM ⟨z,_,rfl,rc,z',_,rfl,rc',rfl⟩⟩,r.same sm,e2⟩
   rw [U8,(VE (z:=(c,c'))).mpr ⟨ec,ec'⟩];rfl
  stop:=λJ' H' e r o=>by
   obtain ⟨vs,us,s,rs,s',rs'⟩:=at_ J' H' e r o
   refine ⟨vs,us,s,s',?_⟩
   rw [UZ,Wj,← rs.length,← rs'.length]
   omega }⟩⟩
end
end Ov
namespace L2
open PySem PySem.Spec PyProof.Rows
section
variable {α β:Type}
def lH (kvs:List (Str × α)) (k:Str):Option α:=(kvs.find? λkv=>decide (kv.1=k)).map (·.2)
def vL (kvs:List (Str × α)) (k:Str) (v:α):List (Str × α):=if kvs.any (λkv=>decide (kv.1=k)) then kvs.map (λkv=>if kv.1=k then (kv.1,v) else kv) else kvs ++ [(k,v)]
def FC (kvs:List (Str × α)) (k:Str):List (Str × α):=kvs.filter λkv=>decide (kv.1≠k)
theorem oW (p:Str × α) (r:List (Str × α)) (k:Str):lH (p :: r) k=if p.1=k then some p.2 else lH r k:=by
 unfold lH
 rw [List.find?_cons]
 by_cases h:p.1=k <;> simp [h]
theorem CG (kvs:List (Str × α)) (k:Str) (v:α):(vL kvs k v).length≤kvs.length + 1:=by
 unfold vL;split <;> simp
theorem Jc (kvs:List (Str × α)) (k:Str):(FC kvs k).length≤kvs.length:=VM _ _
abbrev qM (R:α→β→Prop):List (Str × α)→List (Str × β)→Prop:=Paired λp q=>p.1=q.1∧R p.2 q.2
variable {R:α→β→Prop}
theorem qM.va {kvs:List (Str × α)} {vs:List (Str × β)} (h:qM R kvs vs) (k:Str):(∀x,lH kvs k=some x→∃y,lH vs k=some y∧R x y)∧(lH kvs k).isSome=(lH vs k).isSome:=by
 induction h with
 | nil=>exact ⟨λx e=>by simp [lH] at e,rfl⟩
 | @cons p q kvs vs r _ ih =>
  rw [oW,oW,← r.1]
  by_cases e:p.1=k
  ·rw [if_pos e,if_pos e];exact ⟨λx z=>by cases z;exact ⟨_,rfl,r.2⟩,rfl⟩
  ·rw [if_neg e,if_neg e];exact ih
theorem qM.any {kvs:List (Str × α)} {vs:List (Str × β)} (h:qM R kvs vs) (k:Str):(kvs.any λkv=>decide (kv.1=k))=vs.any λkv=>decide (kv.1=k):=by
 induction h with
 | nil=>rfl
 | cons r _ ih=>rw [Wf,Wf,ih,r.1]
theorem qM.snoc {kvs:List (Str × α)} {vs:List (Str × β)} (h:qM R kvs vs) {k:Str} {x:α} {y:β} (r:R x y):qM R (kvs ++ [(k,x)]) (vs ++ [(k,y)]):=by
 induction h with
 | nil=>exact .cons ⟨rfl,r⟩ .nil
 | cons q _ ih=>exact .cons q ih
theorem qM.pu {kvs:List (Str × α)} {vs:List (Str × β)} (h:qM R kvs vs) {k:Str} {x:α} {y:β} (r:R x y):qM R (vL kvs k x) (vL vs k y):=by
 unfold vL
 rw [h.any k]
 split
 ·rename_i hany;clear hany
  induction h with
  | nil=>exact .nil
  | @cons p q kvs vs z _ ih =>
   rw [U6,U6]
   refine .cons ?_ ih
   by_cases e:p.1=k
   ·rw [if_pos e,if_pos (z.1 ▸ e)];exact ⟨z.1,r⟩
   ·rw [if_neg e,if_neg (z.1 ▸ e)];exact z
 ·exact h.snoc r
theorem qM.dr {kvs:List (Str × α)} {vs:List (Str × β)} (h:qM R kvs vs) (k:Str):qM R (FC kvs k) (FC vs k):=by
 unfold FC
 induction h with
 | nil=>exact .nil
 | @cons p q kvs vs z _ ih =>
  rw [Vt,Vt,z.1]
  split
  ·exact .cons z ih
  ·exact ih
theorem qM.len {kvs:List (Str × α)} {vs:List (Str × β)} (h:qM R kvs vs):kvs.length=vs.length:=Paired.length h
theorem qM.keys {kvs:List (Str × α)} {vs:List (Str × β)} (h:qM R kvs vs):kvs.map (·.1)=vs.map (·.1):=by
 induction h with
 | nil=>rfl
 | cons r _ ih=>rw [U6,U6,ih,r.1]
end
theorem vY (vs:List (Str × Value)) (k:Str):valueAt vs k=lH vs k:=rfl
theorem str_is {P:Program} {w:World} {k:Str} {u:Value} (r:RelV (.str k) u):(PySem.strKind P w).is k u=true:=by
 obtain ⟨t,rfl⟩:=r
 simp [PySem.strKind,Value.isStrOf]
theorem F1 {P:Program} {w:World} {k:Str} {u:Value} (h:(PySem.strKind P w).is k u=true):RelV (.str k) u:=Value.isStrOf_shape h
section
variable {X:Cx} {pins:List (Addr × Obj)} {σ:St} {H:Hp} {s:Shared} {a:Addr} {A:Around} {E:Value→Shared→Prop} {kvs:List (Str × V)} {ep:Nat}
theorem ku (I:Inv X pins σ H s) (e:H a=some (.dE kvs ep)):kvs.length≤sizeLine∧(a == sysModules)=false∧∃vs,qM RelV kvs vs∧s.heap.DictAt (PySem.strKind X.prog X.w) a vs ep:=I.hok a _ e
theorem r8 {h':Heap} {t':Nat} {kvs':List (Str × V)} {vs':List (Str × Value)} (I:Inv X pins σ H s) (e:H a=some (.dE kvs ep)) (hs:Heap.SameBut a s.heap h') (hz:kvs'.length≤sizeLine) (hd:(a == sysModules)=false) (rel:qM RelV kvs' vs') (dd:h'.DictOf (PySem.strKind X.prog X.w) a vs') :
  ∃ep',Inv X pins σ (upd H a (.dE kvs' ep')) { s with heap:=h',toks:=t' }:=by
 obtain ⟨ep',da⟩:=dd.dictAt
 refine ⟨ep',I.write (x:=a) (e:=a) (by rw [e];exact True.intro) (.inl rfl) (λb q hb z=>(hs.2 b hb).trans z) (let ⟨q,_,_,hq,_⟩:=dd;⟨q,hq⟩) ⟨hz,hd,vs',rel,da⟩⟩
theorem Inv.Pa (I:Inv X pins σ H s):sysModules < s.heap.objs.size:=by
 have h:mainGlobals < s.heap.objs.size:=(I.mod.glob.keeps I.bk).lt
 exact Nat.lt_trans (by decide) h
end
theorem DY {P:Program} {w:World} {kvs:List (Str × V)} {vs:List (Str × Value)} (rel:qM RelV kvs vs):∀{us:List Value},us.length=kvs.length→(∀(j:Nat) (v:Value),us[j]?=some v→∃k x,vs[j]?=some (k,x)∧(PySem.strKind P w).is k v=true)→Vals (kvs.map λkv=>V.str kv.1) us:=by
 induction rel with
 | nil =>
  intro us hlen _
  cases us with
  | nil=>exact .nil
  | cons _ _=>cases hlen
 | @cons p q kvs vs z _ ih =>
  intro us hlen hget
  cases us with
  | nil=>cases hlen
  | cons u us =>
   rw [U6]
   refine .cons ?_ (ih (by simpa using hlen) λj v e=>?_)
   ·obtain ⟨k,x,e1,e2⟩:=hget 0 u rfl
    rw [Wg] at e1
    cases e1
    rw [z.1];exact F1 e2
   ·obtain ⟨k,x,e1,e2⟩:=hget (j + 1) v (by rw [VB];exact e)
    rw [VB] at e1
    exact ⟨k,x,e1,e2⟩
def Th:R2:=λx y H Q=>∃a kvs ep k v,x=.ref a∧y=.str k∧H a=some (.dE kvs ep)∧lH kvs k=some v∧Q v H
def N3 (f:Bool→Bool):R2:=λx y H Q=>∃a kvs ep k,x=.str k∧y=.ref a∧H a=some (.dE kvs ep)∧Q (.bl (f (lH kvs k).isSome)) H
def QQ:List V→Hp→VK→Prop:=λxs H Q=>∃a kvs ep,xs=[.ref a]∧H a=some (.dE kvs ep)∧Q (.int kvs.length) H
def N5:List V→Hp→VK→Prop:=λxs H Q=>∃a kvs ep,xs=[.ref a]∧H a=some (.dE kvs ep)∧∀p,H p=none→Q (.ref p) (upd H p (.lst (kvs.map λkv=>.str kv.1)))
def QY:V→List V→Hp→VK→Prop:=λx xs H Q=>∃a kvs ep k v,x=.ref a∧xs=[.str k]∧H a=some (.dE kvs ep)∧lH kvs k=some v∧∀ep',Q v (upd H a (.dE (FC kvs k) ep'))
def Q1:l7:=λo i v H Q=>∃a kvs ep k,o=.ref a∧i=.str k∧H a=some (.dE kvs ep)∧kvs.length < sizeLine∧∀ep',Q (upd H a (.dE (vL kvs k v) ep'))
def Rh:TE:=λ_ H Q=>∀p,H p=none→∀ep,Q (.ref p) (upd H p (.dE [] ep))
section
variable {X:Cx}
theorem Pp:rK X Th:=by
 intro value slice pins s σ H x y v u Q I rx ry q hs
 obtain ⟨a,kvs,ep,k,z,rfl,rfl,hp,hz,q⟩:=q
 cases rx
 obtain ⟨_,hd,vs,rel,da⟩:=ku I hp
 have hT:s.TypeIs (.ref a) "dict":=da.dictOf.typeIs
 obtain ⟨w',hw,rw'⟩:=(rel.va k).1 z hz
 unfold subscriptTail
 refine wpAny_bind ?_
 rw [getitemInPython_of_ne hT.not_modules]
 refine wpAny_bind (wpAny_specialOf hT PySem.F.slot_dict_getitem.lookup ?_)
 have fin:wpAny (model X.prog X.w) X.A (subscripted slice false (.ref a) u) (λr s₃=>wpAny (model X.prog X.w) X.A (letTemporaryGo value (.ref a) r >>= λ_=>pure r) (EP X pins σ Q) X.xe s₃) X.xe s:=by
  rw [hs]
  exact wpAny_operating (wpAny_getItem_of (str_is ry) da.dictOf.mapOf hw (wpAny_bind (wpAny_letTemporaryGo (wpAny_pure ⟨z,H,I.tok _,rw',q⟩))))
 first
  | exact wpAny_pure (wpAny_bind fin)
  | exact wpAny_bind (wpAny_pure (wpAny_bind fin))
  | exact wpAny_bind fin
theorem NN:fI X (compareOp .In) (N3 id):=by
 intro pins s σ H x y v u Q I rx ry ⟨a,kvs,ep,k,ex,ey,hp,q⟩
 subst ex ey
 cases ry
 obtain ⟨_,hd,vs,rel,da⟩:=ku I hp
 refine wpAny_in_of (str_is rx) hd da.dictOf.mapOf ?_
 exact ⟨.bl _,H,I.tok _,by rw [vY,← (rel.va k).2];rfl,q⟩
theorem Eu:fI X (compareOp .NotIn) (N3 not):=by
 intro pins s σ H x y v u Q I rx ry ⟨a,kvs,ep,k,ex,ey,hp,q⟩
 subst ex ey
 cases ry
 obtain ⟨_,hd,vs,rel,da⟩:=ku I hp
 refine wpAny_notIn_of (str_is rx) hd da.dictOf.mapOf ?_
 exact ⟨.bl _,H,I.tok _,by rw [vY,← (rel.va k).2];rfl,q⟩
theorem AK:cq X (.builtin "len") QQ:=by
 intro pins s σ H xs us Q I r ⟨a,kvs,ep,ex,hp,q⟩
 subst ex
 obtain ⟨u,rfl,ru⟩:=vals1 r
 cases ru
 obtain ⟨hz,hd,vs,rel,da⟩:=ku I hp
 have hl:=rel.len
 refine call_len_dict hd da.dictOf (by rw [← hl];rw [sizeLine_eq] at hz;omega) ?_
 rw [← hl]
 exact ⟨.int _,H,(I.tok _),⟨_,rfl⟩,q⟩
theorem yA (hc:X.calm=true):cq X (.type "list") N5:=by
 intro pins s σ H xs us Q I r ⟨a,kvs,ep,ex,hp,q⟩
 subst ex
 obtain ⟨u,rfl,ru⟩:=vals1 r
 cases ru
 obtain ⟨hz,hd,vs,rel,da⟩:=ku I hp
 have hl:=rel.len
 refine PySem.W.kdl_call (PySem.W.kdl_dict (knd:=PySem.strKind X.prog X.w) (kvs:=vs) (ep:=ep) hd) (I.ok.hd hc) da (by rw [← hl];exact hz) λh' tk acc c hk hS hacc=>?_
 have hkeys:Vals (kvs.map λkv=>V.str kv.1) acc.toList:=by
  have hlen:acc.toList.length=kvs.length:=by rw [Array.length_toList,hacc.1,hl]
  have hget:∀j v,acc.toList[j]?=some v→∃k x,vs[j]?=some (k,x)∧(PySem.strKind X.prog X.w).is k v=true:=λj v e=>hacc.2 j v (by rw [← Array.getElem?_toList];exact e)
  exact DY rel hlen hget
 have I2:Inv X pins σ (upd H s.heap.objs.size (.lst (kvs.map λkv=>V.str kv.1))) { s with heap:=h',toks:=tk } :=
  I.laid (t':=tk) hk (U4 _) (show dP X.prog X.w _ _ _ (.lst _) from ⟨by rw [UZ];exact hz,acc.toList,c,hkeys,by rw [Array.toArray_toList];exact hS⟩)
 exact ⟨.ref s.heap.objs.size,_,I2,rfl,q _ (I.hok.fresh (U4 _))⟩
theorem JD:qL X "dict.pop" QY:=by
 intro pins s σ H x xs v us Q I rx r ⟨a,kvs,ep,k,z,ex,exs,hp,hv,q⟩
 subst ex exs
 cases rx
 obtain ⟨u,rfl,ru⟩:=vals1 r
 obtain ⟨hz,hd,vs,rel,da⟩:=ku I hp
 obtain ⟨w',hw,rw'⟩:=(rel.va k).1 z hv
 have hpart:(keyPart u).isSome=true:=by obtain ⟨t,q⟩:=(show ∃t,u=Value.str k t from ru);subst q;rfl
 refine call_meetsIn PySem.F.slot_dict_pop da.dictOf.typeIs PySem.F.entry_dict_pop (PySem.F.args_dict_pop_2 _ _) (meets_dict_pop_there (PySem.strKind X.prog X.w) a (str_is ru) [] (.inl rfl) hpart)
  ⟨vs,w',da.dictOf,by rw [← rel.len];exact hz,hw,λh' dd' hs=>?_⟩
 obtain ⟨ep',I2⟩:=r8 (t':=s.toks + 1) I hp hs (Vh (Jc kvs k) hz) hd (rel.dr k) dd'
 exact ⟨z,_,I2,rw',q ep'⟩
theorem Of:l6 X Q1:=by
 intro pins s σ H o i v ov iv u Q I ro ri rv ⟨a,kvs,ep,k,eo,ei,hp,hl,q⟩
 subst eo ei
 cases ro
 obtain ⟨hz,hd,vs,rel,da⟩:=ku I hp
 refine wpAny_setItem_pairs (hsz:=by rw [← rel.len];exact hz) (str_is ri) da.dictOf λh' dd' hs=>?_
 obtain ⟨ep',I2⟩:=r8 (t':=s.toks + 1) I hp hs (show (vL kvs k v).length≤sizeLine from Vh (CG kvs k v) hl) hd (rel.pu rv) dd'
 exact ⟨_,I2,q ep'⟩
theorem JZ {pos:Pos}:PE X (.Dict [] [] pos) Rh:=λpins s σ H Q I h=>by
 have hd:(s.heap.push { cls:=.type "dict",data:=.dict #[] }).DictOf (PySem.strKind X.prog X.w) s.heap.objs.size []:=Heap.DictOf.new s.heap
 obtain ⟨ep,da⟩:=hd.dictAt
 exact wpAny_Dict_empty ⟨.ref s.heap.objs.size,_,I.laid (a:=s.heap.objs.size) (o:=.dE [] ep) (t':=s.toks) (λ_ _ q=>Heap.get?_push_of_some _ q) (U4 _)
  ⟨Vr _,beq_eq_false_iff_ne.mpr (Ne.symm (Vj I.Pa)),[],.nil,da⟩,rfl,h _ (I.hok.fresh (U4 _)) ep⟩
end
def T3 (a:Addr) (ks:List Str) (ep:Nat):It :=
 ⟨λi H=>(∃kvs,H a=some (.dE kvs ep)∧kvs.map (·.1)=ks)∧i < ks.length,
  λi H z H'=>H'=H∧∃k,ks[i]?=some k∧z=.str k,
  λi H=>(∃kvs,H a=some (.dE kvs ep)∧kvs.map (·.1)=ks)∧ks.length≤i⟩
theorem EK {P:Program} {w:World} {K:PySem.W.Frag} {tg:Expr} (a it:Addr) (ks:List Str) (ep:Nat):Turn P w K tg (T3 a ks ep) [it] it (λi h=>h.IsKeyIter it a i ks.length ep) where
 mem:=by simp
 obj:=λi h st b hb=>by
  have e:b=it:=by simpa using hb
  subst e
  obtain ⟨o,e,c,d⟩:=st
  exact ⟨o,e,λv z=>by rw [d] at z;cases z⟩
 keep:=λi h h' st k=>st.at λo e=>k it (by simp) o e
 item:=by
  intro X hP hw hK hc i pins s σ H E I hf st hg
  subst hP hw hK
  obtain ⟨⟨kvs,hp,hks⟩,hi⟩:=hg
  obtain ⟨hz,hd,vs,rel,da⟩:=ku I hp
  have hl:ks.length=vs.length:=by rw [← hks,UZ];exact rel.len
  obtain ⟨f0,f1,f2,f3,f4,f5⟩:=hf it (by simp)
  obtain ⟨⟨k,x⟩,hx⟩:∃p,vs[i]?=some p:=⟨vs[i]'(by omega),U2 (by omega)⟩
  have hk:ks[i]?=some k:=by rw [← hks,rel.keys,U8,hx];rfl
  refine wpAny_pyNext_dict_item (by rw [← hl];exact st) da hx λkey h' hkey st' sb=>?_
  rw [← hl] at st'
  have I1:Inv X pins σ H { s with heap:=h' }:=I.turned (t':=s.toks) (λb o hb e=>(sb.2 b hb).trans e) f0 f1 f3 f4 f5
  obtain ⟨o,e,c,d⟩:=id st'
  exact ⟨key,rfl,FP (s:={ s with heap:=h' }) e c d (by decide) ⟨.str k,H,I1,F1 hkey,⟨rfl,k,hk,rfl⟩,st',λb hb=>(hf b hb).1⟩⟩
 done:=by
  intro X hP hw hK hc i pins s σ H E I hf st hg
  subst hP hw hK
  obtain ⟨⟨kvs,hp,hks⟩,hi⟩:=hg
  obtain ⟨hz,hd,vs,rel,da⟩:=ku I hp
  have hl:ks.length=vs.length:=by rw [← hks,UZ];exact rel.len
  obtain ⟨f0,f1,f2,f3,f4,f5⟩:=hf it (by simp)
  refine wpAny_pyNext_dict_end (I.ok.hd hc) (by rw [← hl];exact st) da (by rw [WH];omega) λh' hk=>⟨rfl,I.turned (t':=s.toks) (λb o hb e=>hk b o hb e) f0 f1 f3 f4 f5⟩
 self:=λ_ _ _ _ _ st h=>wpAny_pyIter_keyiter st h
def Pl (td:TE):TI:=λσ H R=>td σ H λx H1=>∃a kvs ep,x=.ref a∧H1 a=some (.dE kvs ep)∧R (T3 a (kvs.map (·.1)) ep) H1
theorem J_ {X:Cx} {tg l:Expr} {tl:TE} (hl:PE X l tl):PI X tg l (Pl tl):=by
 intro pins s σ H R I h
 refine cG (hl pins s σ H _ I h) λv s1 ⟨x,H1,I1,r1,q1⟩=>?_
 obtain ⟨a,kvs,ep,e,hp,q⟩:=q1
 subst e
 cases r1
 obtain ⟨hz,hd,vs,rel,da⟩:=ku I1 hp
 refine wpAny_pyIter_dict hd da ?_
 refine ⟨s1.heap.objs.size,[s1.heap.objs.size],_,_,H1,rfl,I1.kept (t':=s1.toks) λb o e=>Heap.get?_push_of_some _ e,EK a _ (kvs.map (·.1)) ep,⟨_,Heap.get?_push_size _ rfl,rfl,by rw [UZ,rel.len];rfl⟩,λb hb=>?_,q⟩
 have e:b=s1.heap.objs.size:=by simpa using hb
 subst e
 exact I1.FI (U4 _) (I1.hok.fresh (U4 _))
end L2
namespace Ov
open PySem PySem.Spec PyProof.Rows L2
section
variable {prog:Program} {w:World} {A:Around} {R:Result→Shared→Prop} {s:Shared}
theorem A5 {kx vx iter:Expr} {ifs:List Expr} {x:Str} {px:Pos} {sc:Scope} {pos:Pos} {it:Value} {D:Addr} {env:Env} (I:Nat→Shared→Prop)
  (turn:∀n s,I n s→wpAny (model prog w) A (pyNext it) (λr s₁=>match r with
   | none=>R (.ok .next) s₁
   | some v=>wpAny (model prog w) A (letOwnedTupleGo (.Name x px) it v) (λ_ s₂=>wpAny (model prog w) A (assign (.Name x px) env v) (λ_ s₃=>wpAny (model prog w) A (forIn ifs true λc r=>if r=true then do let ok ← isTrue c env (eval c env);pure (ForInStep.yield ok) else pure (ForInStep.yield r)) (λok s₃=>if ok=true then wpAny (model prog w) A (eval kx env) (λkv s₄ =>
     wpAny (model prog w) A (eval vx env) (λvv s₅=>wpAny (model prog w) A (dictSet D kv vv) (λ_ s₅=>∃m,m < n∧I m s₅) (λ_ _=>False) s₅) (λ_ _=>False) s₄) (λ_ _=>False) s₃ else ∃m,m < n∧I m s₃) (λ_ _=>False) s₃) (λ_ _=>False) s₂) (λ_ _=>False) s₁) (λ_ _=>False) s)
  (n:Nat) (h:I n s):codeAny (model prog w) A (.compLoop (.DictComp kx vx [⟨.Name x px,iter,ifs,0⟩] sc pos) 0 it (.ref D) env) R s:=by
 refine codeAny_loop rfl I (λn s hI=>?_) n h
 show wpAny _ _ ((compTurn (.DictComp kx vx [⟨.Name x px,iter,ifs,0⟩] sc pos) 0 it (.ref D) env).onRaise (λx=>do noteFrame x env;theTreesLotGoes x)) _ _ s
 refine wpAny_noted ?_
 rw [compTurn_dict]
 have no:∀(e:Value) (s':Shared),False→notedBy (model prog w) A env (λe s'=>R (.error e) s') e s':=λ_ _ z=>z.elim
 refine wpAny_bind (wpAny_standAt (wpAny_bind (wpAny_mono (turn n s hI) (λr s₁ h₁=>?_) no)))
 cases r with
 | none=>exact wpAny_pure h₁
 | some v =>
  refine wpAny_bind (wpAny_mono h₁ (λ_ s₂ h₂=>?_) no)
  refine wpAny_bind (wpAny_mono h₂ (λ_ s₃ h₃=>wpAny_bind (wpAny_mono h₃ (λok s₃' h₃'=>?_) no)) no)
  cases ok with
  | false=>exact wpAny_pure ⟨rfl,h₃'⟩
  | true =>
   exact wpAny_bind (wpAny_bind (wpAny_mono h₃' (λkv s₄ h₄=>wpAny_bind (wpAny_holding (wpAny_mono h₄ (λvv s₅ h₅=>wpAny_bind (wpAny_standAt (wpAny_holding (wpAny_mono h₅ (λ_ s₆ h₆=>wpAny_pure ⟨rfl,h₆⟩) no)))) no))) no))
end
def UA (wi:TI) (ks:List (Str × Nat)) (tc:TT) (tk te:TE):TE:=λσ H Q=>wi σ H λJ H1=>∀D,H1 D=none→∀ep,∃W:Nat→Nat→Hp→Prop,(∃m,W 0 m (upd H1 D (.dE [] ep))) ∧
 ∀i m H2,W i m H2→(J.stop i H2∧Q (.ref D) H2)∨(J.go i H2∧∀v H3,J.yld i H2 v H3→tc (some v :: eK ks σ) H3 λb H4=>if b=true then tk (some v :: eK ks σ) H4 λy H5=>te (some v :: eK ks σ) H5 λz H6=>∃kvs ep k,y=.str k∧H6 D=some (.dE kvs ep)∧kvs.length < sizeLine∧∃m',m' < m∧∀ep',W (i + 1) m' (upd H6 D (.dE (L2.vL kvs k z) ep')) else ∃m',m' < m∧W (i + 1) m' H4)
section
variable {X:Cx}
theorem EC {kx vx iter:Expr} {ifs:List Expr} {x:Str} {px:Pos} {sc:Scope} {pos:Pos} {tk te:TE} {tc:TT} {ks:List (Str × Nat)} {cl:List (Str × Addr)} {pins:List (Addr × Obj)} {σ:L2.St} {H:Hp} {s:Shared} {it:Addr} {fp:List Addr} {tn:Nat→Heap→Prop} {J:It} {Q:VK}
  {RR:Value→Addr→Result→Shared→Prop} {E:Value→Shared→Prop}
  (hc:X.calm=true) (ok:df sc X.env.scope X.N x ks) (h1:∀y c,cl.lookup y=some c→X.env.cells.lookup y=some c) (h2:∀y∈sc.names,y.2=.free→∃c,cl.lookup y.1=some c)
  (hk:∀cl C s₀ H₀ fp pins,PE (gx X sc cl C x ks s₀ H₀ fp pins) kx tk) (he:∀cl C s₀ H₀ fp pins,PE (gx X sc cl C x ks s₀ H₀ fp pins) vx te) (hcn:∀cl C s₀ H₀ fp pins,IS (gx X sc cl C x ks s₀ H₀ fp pins) ifs tc)
  (I:Inv X pins σ H s) (T:Turn X.prog X.w X.K (.Name x px) J fp it tn) (st:tn 0 s.heap) (f:∀b∈fp,l5 X pins H b)
  (hw:∀D,H D=none→∀ep,∃W:Nat→Nat→Hp→Prop,(∃m,W 0 m (upd H D (.dE [] ep)))∧∀i m H2,W i m H2→(J.stop i H2∧Q (.ref D) H2) ∨
   (J.go i H2∧∀v H3,J.yld i H2 v H3→tc (some v :: eK ks σ) H3 λb H4=>if b=true then tk (some v :: eK ks σ) H4 λy H5=>te (some v :: eK ks σ) H5 λz H6=>∃kvs ep k,y=.str k∧H6 D=some (.dE kvs ep)∧kvs.length < sizeLine∧∃m',m' < m∧∀ep',W (i + 1) m' (upd H6 D (.dE (L2.vL kvs k z) ep')) else ∃m',m' < m∧W (i + 1) m' H4))
  (hR:∀(D C:Addr) (s':Shared) (H':Hp) (m:Str→Option Value),Inv X pins σ H' s'→Q (.ref D) H'→s'.heap.Ns C m→H' C=none→C≠X.env.locals→X.s₀.heap.objs.size≤C→(∀y c,X.env.cells.lookup y=some c→c≠C)→(∀p∈X.pn ++ pins,p.1≠C)→RR (.ref D) C (.ok .next) s') :
  wpAny (model X.prog X.w) X.A newDict (λacc s₃=>wpAny (model X.prog X.w) X.A (newFunctionEnv sc X.env.globals cl [] X.env.qual none .none (some X.env)) (λcenv s₄ =>
   codeAny (model X.prog X.w) X.A (.compStart (.DictComp kx vx [⟨.Name x px,iter,ifs,0⟩] sc pos) 0 (.ref it) acc { cenv with scope:=relabel sc X.env }) (RR acc cenv.locals) s₄) E s₃) E s:=by
 have okk:=ok
 obtain ⟨kd,nc,lx,ll,fr,kk,nd⟩:=okk
 have hD0:H s.heap.objs.size=none:=I.hok.fresh (U4 _)
 have hdd:(s.heap.push { cls:=.type "dict",dict:=none,data:=.dict #[] }).DictOf (PySem.strKind X.prog X.w) s.heap.objs.size []:=Heap.DictOf.new s.heap
 obtain ⟨ep0,da⟩:=hdd.dictAt
 obtain ⟨W,⟨m0,w0⟩,turn⟩:=hw s.heap.objs.size hD0 ep0
 refine wpAny_newObj_type ?_
 have I3:Inv X pins σ (upd H s.heap.objs.size (.dE [] ep0)) { s with heap:=s.heap.push { cls:=.type "dict",dict:=none,data:=.dict #[] } } :=
  I.laid (t':=s.toks) (λb u e=>Heap.get?_push_of_some _ e) (U4 _) ⟨Vr _,beq_eq_false_iff_ne.mpr (Ne.symm (Vj I.Pa)),[],.nil,da⟩
 have st3:tn 0 (s.heap.push { cls:=.type "dict",dict:=none,data:=.dict #[] }):=T.keep 0 _ _ st λb hb o e=>Heap.get?_push_of_some _ e
 clear da hdd
 generalize hD:s.heap.objs.size=D at *
 generalize hH:upd H D (.dE [] ep0)=H3 at *
 generalize hs3:({ s with heap:=s.heap.push { cls:=.type "dict",dict:=none,data:=.dict #[] } }:Shared)=s3 at *
 have e3:s.heap.push { cls:=.type "dict",dict:=none,data:=.dict #[] }=s3.heap:=by rw [← hs3]
 rw [e3] at st3
 have fD:∀b∈fp,b≠D:=λb hb z=>by
  obtain ⟨o,ho,_⟩:=T.obj 0 _ st b hb
  have:=Heap.lt_size ho
  rw [z,← hD] at this
  exact VU _ this
 have f3:∀b∈fp,l5 X pins H3 b:=λb hb=>⟨by rw [← hH,aM (fD b hb)];exact (f b hb).1,(f b hb).2⟩
 have g3:∀b∈fp,∃o,s3.heap.get? b=some o:=λb hb=>by
  obtain ⟨o,ho,_⟩:=T.obj 0 _ st3 b hb
  exact ⟨o,ho⟩
 refine wpAny_newFunctionEnv nc (by intro y hy;simp at hy) (λh₁ hns hsb=>?_) kd
 have kp:∀b o,s3.heap.get? b=some o→h₁.get? b=some o:=λb o e=>hsb.extBut b o (Vj (Heap.lt_size e)) (Heap.get?_push_of_some _ e)
 have J0:=yN (fp:=fp) (cl:=cl) (t':=s3.toks + ([]:List (Str × Value)).length) I3 ok h1 h2 (λb hb=>⟨f3 b hb,g3 b hb⟩) hns kp
 have st4:tn 0 h₁:=T.keep 0 _ _ st3 λb hb o e=>kp b o e
 have ltC:∀b o,s3.heap.get? b=some o→b≠s3.heap.objs.size:=λb o e=>Vj (Heap.lt_size e)
 have cC:∀y c,X.env.cells.lookup y=some c→c≠s3.heap.objs.size:=λy c e=>by
  obtain ⟨v,o,ho,_⟩:=I3.cell y c e
  exact ltC c o ho
 have pC:∀p∈X.pn ++ pins,p.1≠s3.heap.objs.size:=λp hp=>ltC _ _ (I3.pin p hp).1
 have lC:s3.heap.objs.size≠X.env.locals:=WQ I3.lt
 have fX:∀{H':Hp},(∀b∈fp,H' b=none)→∀b∈fp,l5 (gx X sc cl s3.heap.objs.size x ks s3 H3 fp pins) [] H' b:=λhn b hb=>by
  obtain ⟨o,ho⟩:=g3 b hb
  obtain ⟨_,q1,q2,q3,q4,q5⟩:=f b hb
  refine ⟨hn b hb,ltC b o ho,λz=>?_,.inl hb,λy c e=>q4 y c (h1 y c e),λp hp=>q5 p (by simpa [gx] using hp)⟩
  rcases Vb.mp (I3.p8 b z) with e | e
  ·exact q1 e
  ·exact q2 e
 have back:∀{o:Option V} {H':Hp} {s':Shared},Inv (gx X sc cl s3.heap.objs.size x ks s3 H3 fp pins) [] (o :: eK ks σ) H' s'→Inv X pins σ H' s':=λ{o H' s'} J=>by
  obtain ⟨hh,g,d,t,os'⟩:=s'
  obtain rfl:os'=s3.os:=J.os
  exact I3.call (h':=hh) (g':=g) (d':=d) (t':=t) (ch:=fp) J.base J.hok J.bare λb hb=>⟨(f b hb).2.2.2.1,(f b hb).2.1,(f b hb).2.2.2.2.1,(f b hb).2.2.2.2.2⟩
 have lookX:(relabel sc X.env).names.lookup x=some .local:=lookup_relabel_local lx
 have loop:∀s',(∃(i:Nat) (o:Option V) (H':Hp),Inv (gx X sc cl s3.heap.objs.size x ks s3 H3 fp pins) [] (o :: eK ks σ) H' s'∧tn i s'.heap∧(∀b∈fp,H' b=none)∧W i m0 H') →
   codeAny (model X.prog X.w) X.A (.compLoop (.DictComp kx vx [⟨.Name x px,iter,ifs,0⟩] sc pos) 0 (.ref it) (.ref D) (compEnvC sc cl s3.heap.objs.size X.env)) (RR (.ref D) s3.heap.objs.size) s':=by
  intro s' hs'
  refine A5 (λn s'=>∃(i:Nat) (o:Option V) (H':Hp),Inv (gx X sc cl s3.heap.objs.size x ks s3 H3 fp pins) [] (o :: eK ks σ) H' s'∧tn i s'.heap∧(∀b∈fp,H' b=none)∧W i n H') ?_ m0 hs'
  rintro n s5 ⟨i,o,H5,J5,t5,n5,w5⟩
  rcases turn i n H5 w5 with ⟨stop,hq⟩ | ⟨go,step⟩
  ·refine cG (T.done (gx X sc cl s3.heap.objs.size x ks s3 H3 fp pins) rfl rfl rfl hc i [] s5 _ H5 _ J5 (fX n5) t5 stop) λr s6 ⟨hr,J6⟩=>?_
   subst hr
   obtain ⟨m,hm,_⟩:=J6.loc
   exact hR D _ s6 H5 m (back J6) hq hm J6.free lC I3.sz cC pC
  ·refine cG (T.item (gx X sc cl s3.heap.objs.size x ks s3 H3 fp pins) rfl rfl rfl hc i [] s5 _ H5 _ J5 (fX n5) t5 go) λr s6 ⟨u,hr,h6⟩=>?_
   subst hr
   refine cG h6 λ_ s7 ⟨v,H7,J7,r7,y7,t7,n7⟩=>?_
   have J7':=J7.pinned (fX n7) (T.obj _ _ t7)
   refine wpAny_assign_Name (fM (X:=gx X sc cl s3.heap.objs.size x ks s3 H3 fp pins) (i:=0) J7' nd rfl (.inl lookX) r7 (λs8 J8=>?_) (.inr lookX))
   refine cG (hcn cl s3.heap.objs.size s3 H3 fp pins _ s8 _ H7 _ J8 (step v H7 y7)) λok s8' ⟨H8,J8',q8⟩=>?_
   cases ok with
   | false =>
    simp only [Vd,if_false] at q8 ⊢
    obtain ⟨m',hm,w'⟩:=q8
    refine ⟨m',hm,i + 1,_,_,J8'.gY,?_,?_,w'⟩
    ·exact T.keep _ _ _ t7 λb hb o e=>(J8'.pin (b,o) (Va _ (Va _ (cS hb e)))).1
    ·intro b hb
     obtain ⟨o,e,d⟩:=T.obj _ _ t7 b hb
     exact (J8'.pin (b,o) (Va _ (Va _ (cS hb e)))).2.1
   | true =>
    simp only [if_true] at q8 ⊢
    refine cG (hk cl s3.heap.objs.size s3 H3 fp pins _ s8' _ H8 _ J8' q8) λky s8'' ⟨vk,H8',J8'',rk,q8'⟩=>?_
    refine cG (he cl s3.heap.objs.size s3 H3 fp pins _ s8'' _ H8' _ J8'' q8') λy s9 ⟨vy,H9,J9,r9,kvs,ep,k,ek,hys,hz,m',hm,w'⟩=>?_
    subst ek
    obtain ⟨hz',hd',vs,rel,da⟩:=ku J9 hys
    refine wpAny_dictSet_pairs (hsz:=by rw [← rel.len];exact hz') (str_is rk) da.dictOf λh' dd' hsb=>?_
    obtain ⟨ep',J10⟩:=r8 (t':=s9.toks + 1) J9 hys hsb (show (L2.vL kvs k vy).length≤sizeLine from Vh (CG kvs k vy) hz) hd' (rel.pu r9) dd'
    refine ⟨m',hm,i + 1,_,_,J10.gY,?_,?_,w' ep'⟩
    ·exact T.keep _ _ _ t7 λb hb o e=>(J10.pin (b,o) (Va _ (Va _ (cS hb e)))).1
    ·intro b hb
     obtain ⟨o,e,d⟩:=T.obj _ _ t7 b hb
     exact (J10.pin (b,o) (Va _ (Va _ (cS hb e)))).2.1
 have l0:=loop _ ⟨0,none,H3,J0,st4,λb hb=>(f3 b hb).1,w0⟩
 exact codeAny_compStart_dict l0 (T.self _ 0 _ _ _ st4 l0)
theorem Qk {kx vx iter:Expr} {ifs:List Expr} {x:Str} {px:Pos} {sc:Scope} {pos:Pos} {wi:TI} {tk te:TE} {tc:TT} (osc:Scope) (N:List Str) (ks:List (Str × Nat)) (hc:X.calm=true) (ho:X.env.scope=osc) (hN:X.N=N) (hi:PI X (.Name x px) iter wi)
  (hk:∀cl C s₀ H₀ fp pins,PE (gx X sc cl C x ks s₀ H₀ fp pins) kx tk) (he:∀cl C s₀ H₀ fp pins,PE (gx X sc cl C x ks s₀ H₀ fp pins) vx te) (hcn:∀cl C s₀ H₀ fp pins,IS (gx X sc cl C x ks s₀ H₀ fp pins) ifs tc) (ok:df sc osc N x ks:=by decide +kernel) (hs:∀x,foldedSetIterable iter X.env x=pure x:=by intro _;rfl) :
  PE X (.DictComp kx vx [⟨.Name x px,iter,ifs,0⟩] sc pos) (UA wi ks tc tk te):=by
 intro pins s σ H Q I hw
 obtain ⟨cl,hcl,h1,h2⟩:=mJ (sP ok I ho)
 have ok':df sc X.env.scope X.N x ks:=by rw [ho,hN];exact ok
 rw [arm_eval_DictComp]
 refine wpAny_comprehension_free (use:=none) rfl hs hcl ok.1 ok.2.2.2.1 (cG (hi pins s σ H _ I hw) λv s1 h3=>cG h3 λitv s2 h4=>?_)
 obtain ⟨it,fp,tn,J,H2,rfl,I2,T,st2,f2,hR⟩:=h4
 refine EC (RR:=λacc C=>compPost (model X.prog X.w) X.A X.xe none (EP X pins σ Q) acc C) hc ok' h1 h2 hk he hcn I2 T st2 f2 hR ?_
 intro D C s' H' m J' q hn hC cl' cs cc cp
 refine ⟨m,hn,λh' hsb=>⟨.ref D,H',?_,rfl,q⟩⟩
 exact J'.turned (t':=s'.toks) (it:=C) (λb o ne e=>hsb.extBut b o ne e) hC cl' (.inr cs) cc cp
end
end Ov
namespace Ov
open PySem PySem.Spec PyProof.Rows
open L2 (V HO Hp Inv Cx VK XK TE TT TA TS TG rS TI TO l7 Ends yv Loc Gl Rd RelV Vals fI Ab cq rK vj qL l6 R2 upd aH aM dq g8 Sp uc It bL dZ b9 Passes qK aK Meth Mk Binds aO cg av dF g6 fA lH vL FC qM)
section
variable {K:PySem.W.Frag} {J:Hq} {H:Hp}
theorem eI:∀{kvs:List (Str × PV)} {gs:List (Str × V)},mG K J H kvs gs→qM (cH K J H) kvs gs
 | [],[],_=>.nil
 | [],_ :: _,h=>by cases h.1
 | _ :: _,[],h=>by cases h.1
 | (k,y) :: fs,(k',w) :: gs,h=>by
  obtain ⟨h1,v',us,h2,h3,h4⟩:=h
  simp only [U6,List.cons.injEq] at h1 h2
  obtain ⟨rfl,h1⟩:=h1
  obtain ⟨rfl,rfl⟩:=h2
  exact .cons ⟨rfl,h3⟩ (eI ⟨h1,h4⟩)
theorem zm:∀{kvs:List (Str × PV)} {gs:List (Str × V)},qM (cH K J H) kvs gs→mG K J H kvs gs
 | _,_,.nil=>⟨rfl,rfl⟩
 | _,_,.cons (a:=p) (b:=q) r t=>by
  obtain ⟨h1,h2⟩:=zm t
  exact ⟨by rw [U6,U6,h1,r.1],q.2,_,rfl,r.2,h2⟩
theorem Ext.lI {p:Addr} {kvs kvs':List (Str × PV)} {gs gs':List (Str × V)} {ep ep':Nat} (h:J p=some (.dct kvs ep)) (k:H p=some (.dE gs ep)):Ext K J H (put J p (.dct kvs' ep')) (upd H p (.dE gs' ep')):=by
 have sm:∀a u,a≠p→Rd H a u→Rd (upd H p (.dE gs' ep')) a u:=λa u ne z=>by
  rcases z with z | ⟨o,z⟩
  ·exact .inl (by rw [aM ne];exact z)
  ·exact .inr ⟨o,by rw [aM ne];exact z⟩
 refine ⟨λa vs' z=>?_,λa o z q _=>?_⟩
 ·rcases z with z | z
  ·have ne:a≠p:=by
    intro e;subst e
    rcases z with z | ⟨o,z⟩
    ·rw [k] at z;cases z
    ·rw [k] at z;cases z
   exact .inl (sm a _ ne z)
  ·exact .inr z
 ·have ne:a≠p:=by intro e;subst e;rw [h] at z;cases z
  exact ⟨by rw [aw ne];exact z,by rw [aM ne];exact q⟩
theorem Rep.lI {p:Addr} {kvs kvs':List (Str × PV)} {gs gs':List (Str × V)} {ep ep':Nat} (r:Rep K J H) (h:J p=some (.dct kvs ep)) (k:H p=some (.dE gs ep)) (q:qM (cH K J H) kvs' gs'):Rep K (put J p (.dct kvs' ep')) (upd H p (.dE gs' ep')):=by
 have e:=Ext.lI (K:=K) (kvs':=kvs') (gs':=gs') (ep':=ep') h k
 refine r.EN e p (λa ne=>aw ne) (λa o ne _ z=>by rw [aM ne];exact z) λu z=>?_
 rw [ax] at z;cases z
 exact ⟨gs',aH,e.zx (zm q)⟩
theorem Rep.Lo {p:Addr} {ep:Nat} (r:Rep K J H) (n:H p=none):Rep K (put J p (.dct [] ep)) (upd H p (.dE [] ep)):=by
 have e:=Ext.laid (K:=K) (J:=J) (o:=.dE [] ep) (u:=.dct [] ep) n
 refine r.EN e p (λa ne=>aw ne) (λa o ne _ z=>by rw [aM ne];exact z) λu z=>?_
 rw [ax] at z;cases z
 exact ⟨[],aH,⟨rfl,rfl⟩⟩
end
def Qt:nG:=λx y J Q=>Ep x λa=>LC y λk=>Ij (J a) λkvs _=>xf (lH kvs k) λv=>Q v J
def Kl (f:Bool→Bool):nG:=λx y J Q=>LC x λk=>Ep y λa=>Ij (J a) λkvs _=>Q (.bl (f (lH kvs k).isSome)) J
def LV:AD:=λxs J Q=>Eo xs λx=>Ep x λa=>Ij (J a) λkvs _=>Q (.int kvs.length) J
def Ha:AD:=λxs J Q=>Eo xs λx=>Ep x λa=>Ij (J a) λkvs _=>Q (.fl (kvs.map λkv=>.str kv.1)) J
def LX:EU:=λx xs J Q=>Ep x λa=>Eo xs λy=>LC y λk=>Ij (J a) λkvs _=>xf (lH kvs k) λv=>∀ep',Q v (put J a (.dct (FC kvs k) ep'))
def LY:DJ:=λo i y J R=>Ep o λa=>LC i λk=>Ij (J a) λkvs _=>kvs.length < sizeLine∧∀ep',R (put J a (.dct (vL kvs k y) ep'))
def L6:dN:=λ_ J Q=>∀p,J p=none→∀ep,Q (.ref p) (put J p (.dct [] ep))
def Ud (te:dN):uD:=λτ J R=>te τ J λx J1=>Ep x λa=>Ij (J1 a) λkvs ep=>R ⟨kvs.map λkv=>.str kv.1,λJ'=>J' a=some (.dct kvs ep)⟩ J1
section
variable {X:Cx} {G:G2}
theorem cR:R7 X Qt:=⟨_,L2.Pp,λJ H x y v w Q2 Q rx ry r h kn=>by
 obtain ⟨a,ex,h⟩:=gI h;obtain ⟨k,ey,h⟩:=pG h;obtain ⟨kvs,ep,ja,h⟩:=mY h;obtain ⟨z,hz,q⟩:=fe h
 subst ex ey
 cases rx;cases ry
 obtain ⟨gs,h1,h2⟩:=r _ _ ja
 obtain ⟨u,hu,ru⟩:=((eI h2).va k).1 z hz
 exact ⟨a,gs,ep,k,u,rfl,rfl,h1,hu,kn z J u H ru r .refl q⟩⟩
theorem Gj (f:Bool→Bool):LR X.K (L2.N3 f) (Kl f):=λJ H x y v w Q2 Q rx ry r h kn=>by
 obtain ⟨k,ex,h⟩:=pG h;obtain ⟨a,ey,h⟩:=gI h;obtain ⟨kvs,ep,ja,q⟩:=mY h
 subst ex ey
 cases rx;cases ry
 obtain ⟨gs,h1,h2⟩:=r _ _ ja
 exact ⟨a,gs,ep,k,rfl,rfl,h1,by rw [← ((eI h2).va k).2];exact kn (.bl _) J _ H rfl r .refl q⟩
theorem NQ:nu X (compareOp .In) (Kl id):=⟨_,L2.NN,Gj id⟩
theorem n8:nu X (compareOp .NotIn) (Kl not):=⟨_,L2.Eu,Gj not⟩
theorem IY:Ir X (.builtin "len") LV:=⟨_,L2.AK,λJ H xs vs Q2 Q rs r h k=>by
 obtain ⟨x,ex,h⟩:=jE h;obtain ⟨a,ea,h⟩:=gI h;obtain ⟨kvs,ep,ja,q⟩:=mY h;subst ea
 subst ex;obtain ⟨v,us,rfl,rv,e⟩:=rs;cases e;cases rv
 obtain ⟨gs,h1,h2⟩:=r _ _ ja
 exact ⟨a,gs,ep,rfl,h1,by rw [← (eI h2).len];exact k (.int _) J _ H rfl r .refl q⟩⟩
theorem pP {K:PySem.W.Frag} {J:Hq} {H:Hp}:∀{ks:List Str},aU K J H (ks.map PV.str) (ks.map V.str)
 | []=>rfl
 | k :: ks=>⟨_,_,rfl,rfl,pP (ks:=ks)⟩
theorem rY (hc:X.calm=true):Ir X (.type "list") Ha:=⟨_,L2.yA hc,λJ H xs vs Q2 Q rs r h k=>by
 obtain ⟨x,ex,h⟩:=jE h;obtain ⟨a,ea,h⟩:=gI h;obtain ⟨kvs,ep,ja,q⟩:=mY h;subst ea
 subst ex;obtain ⟨v,us,rfl,rv,e⟩:=rs;cases e;cases rv
 obtain ⟨gs,h1,h2⟩:=r _ _ ja
 refine ⟨a,gs,ep,rfl,h1,λp hp=>?_⟩
 have hk:aU X.K J H (kvs.map λkv=>PV.str kv.1) (gs.map λkv=>V.str kv.1):=by
  have:=(eI h2).keys
  rw [show (kvs.map λkv=>PV.str kv.1)=(kvs.map (·.1)).map PV.str by rw [U'];rfl,show (gs.map λkv=>V.str kv.1)=(gs.map (·.1)).map V.str by rw [U'];rfl,this]
  exact pP
 obtain ⟨x1,x2,x3⟩:=sE r hk hp
 exact k _ J _ _ x1 x2 x3 q⟩
theorem JB:K' X "dict" "dict.pop" LX:=⟨_,L2.JD,λJ H x xs v vs Q2 Q rx rs r h kn=>by
 obtain ⟨a,ex,h⟩:=gI h;obtain ⟨y,exs,h⟩:=jE h;obtain ⟨k,ek,h⟩:=pG h;obtain ⟨kvs,ep,ja,h⟩:=mY h;obtain ⟨z,hz,q⟩:=fe h;subst ek
 subst ex exs;cases rx
 obtain ⟨u,us,rfl,ru,e⟩:=rs;cases e;cases ru
 obtain ⟨gs,h1,h2⟩:=r _ _ ja
 have pk:=eI h2
 obtain ⟨y,hy,ry⟩:=(pk.va k).1 z hz
 refine ⟨a,gs,ep,k,y,rfl,rfl,h1,hy,λep'=>?_⟩
 have e2:=Ext.lI (K:=X.K) (kvs':=FC kvs k) (gs':=FC gs k) (ep':=ep') ja h1
 exact kn z _ y _ (e2.rep ry) (r.lI ja h1 (pk.dr k)) e2 (q ep')⟩
theorem oQ:R' X LY:=⟨_,L2.Of,λJ H o i y ov iv u R2 R ro ri ry r h kk=>by
 obtain ⟨a,eo,h⟩:=gI h;obtain ⟨k,ei,h⟩:=pG h;obtain ⟨kvs,ep,ja,hl,q⟩:=mY h
 subst eo ei;cases ro;cases ri
 obtain ⟨gs,h1,h2⟩:=r _ _ ja
 have pk:=eI h2
 refine ⟨a,gs,ep,k,rfl,rfl,h1,by rw [← pk.len];exact hl,λep'=>?_⟩
 exact kk _ _ (r.lI ja h1 (pk.pu ry)) (Ext.lI (K:=X.K) ja h1) (q ep')⟩
theorem CO {pos:Pos}:RE X G (.Dict [] [] pos) L6:=⟨l9 L2.JZ λσ H Q ⟨τ,J,Q2,a2,q,k⟩ p hp ep=>k (.ref p) _ _ _ rfl (a2.hp.Lo hp) (.laid hp) (q p (a2.hp.free hp) ep)⟩
theorem q_ {tg l:Expr} {tl:dN} (hl:RE X G l tl):RI X G tg l (Ud tl):=⟨Qm (L2.J_ hl.run) λσ H R ⟨τ,J,R2,a2,h,k⟩=>⟨τ,J,_,a2,h,λx J1 v H1 rx r1 e1 h=>by
 obtain ⟨a,ex,h⟩:=gI h;obtain ⟨kvs,ep,ja,q⟩:=mY h
 subst ex;cases rx
 obtain ⟨gs,h1,h2⟩:=r1 _ _ ja
 have pk:=eI h2
 have hl':=pk.len
 refine ⟨a,gs,ep,rfl,h1,k _ J1 _ H1 ?_ r1 e1 q⟩
 have hks:=pk.keys
 have key:∀J' H',Rep X.K J' H'→J' a=some (.dct kvs ep)→∃gs',H' a=some (.dE gs' ep)∧gs'.map (·.1)=gs.map (·.1):=λJ' H' r o=>by
  obtain ⟨gs',h1',h2'⟩:=r _ _ o
  exact ⟨gs',h1',by rw [← (eI h2').keys,hks]⟩
 exact {
  go:=λJ' H' e r o i hi=>⟨key J' H' r o,by rw [UZ] at hi ⊢;omega⟩
  yl:=λJ' H' e r o i hi v H2 y=>by
   obtain ⟨rfl,k,hk,rfl⟩:=y
   rw [← hks,U8] at hk
   obtain ⟨kv,hkv,rfl⟩:=Option.map_eq_some_iff.mp hk
   exact ⟨.str kv.1,by rw [U8,hkv];rfl,rfl,r,.refl⟩
  stop:=λJ' H' e r o=>⟨key J' H' r o,by rw [UZ,UZ];omega⟩ }⟩⟩
def Tg (wi:uD) (ks:List (Str × Nat)) (tc:mI) (tk te:dN):dN:=λτ J Q=>wi τ J λit J1=>∀D,J1 D=none→∀ep,∃W:Nat→Hq→Prop,W 0 (put J1 D (.dct [] ep))∧(∀i J2,W i J2→it.ok J2) ∧
 (∀i x J2,it.xs[i]?=some x→W i J2→tc (some x :: pX ks τ) J2 λb J3=>if b=true then tk (some x :: pX ks τ) J3 λy J4=>te (some x :: pX ks τ) J4 λz J5 =>
  ∃kvs ep k,y=.str k∧J5 D=some (.dct kvs ep)∧kvs.length < sizeLine∧∀ep',W (i + 1) (put J5 D (.dct (vL kvs k z) ep')) else W (i + 1) J3)∧∀J2,W it.xs.length J2→Q (.ref D) J2
theorem IZ {wi:uD} {ks:List (Str × Nat)} {tc:mI} {tk te:dN}:∀σ H Q,LE X.K G (Tg wi ks tc tk te) σ H Q→UA (LI X.K G wi) ks (LT X.K G tc) (LE X.K G tk) (LE X.K G te) σ H Q:=λσ H Q ⟨τ,J,Q2,a2,h,k⟩ =>
 ⟨τ,J,_,a2,h,λit J1 I H1 ir r1 e1 w D hD ep=>by
  obtain ⟨W,w0,wok,step,fin⟩:=w D (r1.free hD) ep
  refine ⟨λi m H2=>m=it.xs.length - i∧i≤it.xs.length∧∃J2,Rep X.K J2 H2∧Ext X.K J1 H1 J2 H2∧W i J2,⟨_,rfl,Vr _,_,r1.Lo hD,.laid hD,w0⟩,?_⟩
  rintro i m H2 ⟨rfl,hi,J2,r2,e2,w2⟩
  by_cases hlt:i < it.xs.length
  ·refine .inr ⟨ir.go J2 H2 e2 r2 (wok i J2 w2) i hlt,λv H3 y=>?_⟩
   obtain ⟨x,ex,rx,r3,e3⟩:=ir.yl J2 H2 e2 r2 (wok i J2 w2) i hlt v H3 y
   have a3:yg X.K G (some x :: pX ks τ) J2 (some v :: eK ks σ) H3:=⟨CS (a2.sl.ext ((e1.trans e2).trans e3)) rx ks,r3,((a2.ext.trans e1).trans e2).trans e3⟩
   refine ⟨_,_,_,a3,step i x J2 ex w2,λb J4 H4 r4 e4 q=>?_⟩
   cases b with
   | false =>
    simp only [Vd,if_false] at q ⊢
    exact ⟨_,by omega,rfl,hlt,J4,r4,(e2.trans e3).trans e4,q⟩
   | true =>
    simp only [if_true] at q ⊢
    refine ⟨_,_,_,a3.go r4 e4,q,λyk J5 u H5 rk r5 e5 q5=>?_⟩
    refine ⟨_,_,_,(a3.go r4 e4).go r5 e5,q5,λz J6 vz H6 rz r6 e6 ⟨kvs,ep2,kk,ek,jD,hl,q6⟩=>?_⟩
    subst ek
    cases rk
    obtain ⟨gs,h1,h2⟩:=r6 _ _ jD
    have pk:=eI h2
    refine ⟨gs,ep2,kk,rfl,h1,by rw [← pk.len];exact hl,it.xs.length - (i + 1),by omega,λep'=>⟨rfl,hlt,_,r6.lI jD h1 (pk.pu rz),?_,q6 ep'⟩⟩
    exact ((((e2.trans e3).trans e4).trans e5).trans e6).trans (Ext.lI (K:=X.K) jD h1)
  ·have ei:i=it.xs.length:=by omega
   subst ei
   exact .inl ⟨ir.stop J2 H2 e2 r2 (wok _ J2 w2),k (.ref D) J2 _ H2 rfl r2 (e1.trans e2) (fin J2 w2)⟩⟩
theorem Ta {X:Cx} {ifs:List Expr} {t t':TT} (h:IS X ifs t) (k:∀σ H Q,t' σ H Q→t σ H Q):IS X ifs t':=λpins s σ H Q I q=>h pins s σ H Q I (k _ _ _ q)
variable {kx vx iter cnd:Expr} {x y:Str} {px py:Pos} {sc:Scope} {pos spos:Pos} {wi:uD} {tk te:dN} {tc:mI} {i:Nat}
theorem Q7 (osc:Scope) (N:List Str) (ks:List (Str × Nat)) (hc:X.calm=true) (ho:X.env.scope=osc) (hN:X.N=N) (hi:RI X G (.Name x px) iter wi) (hk:∀cl C s₀ H₀ fp pins,RE (gx X sc cl C x ks s₀ H₀ fp pins) G kx tk) (he:∀cl C s₀ H₀ fp pins,RE (gx X sc cl C x ks s₀ H₀ fp pins) G vx te)
  (ok:df sc osc N x ks:=by decide +kernel) (hs:∀x,foldedSetIterable iter X.env x=pure x:=by intro _;rfl):RE X G (.DictComp kx vx [⟨.Name x px,iter,[],0⟩] sc pos) (Tg wi ks zw tk te) :=
 ⟨l9 (Qk osc N ks hc ho hN hi.run (λcl C s₀ H₀ fp pins=>(hk cl C s₀ H₀ fp pins).run) (λcl C s₀ H₀ fp pins=>(he cl C s₀ H₀ fp pins).run) (λcl C s₀ H₀ fp pins=>Ta xq λσ H Q ⟨τ,J,Q2,a2,q,k⟩=>k true J H a2.hp .refl q) ok hs) IZ⟩
end
def BP (tabs:List Addr):cu:=λxs J Q _=>∃ns:List Int,xs=[.fl (ns.map .int)]∧ns.length≤63∧(∀T∈tabs,J T=some .tab)∧(∀a,a ∉ tabs→J a=none)∧∀J',(∀T∈tabs,J' T=some .tab)→Q (.bl true) J'
def Hz (tabs:List Addr) (K:PySem.W.Frag):Sp:=λvs H Q _=>∃(a:Addr) (ns:List Int),vs=[.ref a]∧dq K H a (ns.map V.int)∧ns.length≤63∧(∀T∈tabs,H T=some (.ext (e_ T))) ∧
 (∀b,H b≠none→b=a∨b∈tabs)∧(∀u,H a=some u→∃o xs,u=.qO o (.lst xs))∧∀H',bL H H'→Q (.bl true) H'
theorem D1 {P:Program} {w:World} {K:PySem.W.Frag} {mg:Str→Option Value} {base:Heap} {k:Nat} {f:Addr} {fd:FuncData} {ps:List Str} {tabs:List Addr} (F:aO P w K mg base (cK P w) k f fd ps (dg K (BP tabs))) :
  aO P w K mg base L2.rF k f fd ps (Hz tabs K) :=
 F.Rx.imp λvs H Q E ⟨a,ns,e,hS,hl,hT,hA,hK,q⟩=>by
  subst e
  classical
  have na:∀u,H a=some u→a ∉ tabs:=λu hu hm=>by
   obtain ⟨o,xs,rfl⟩:=hK u hu
   rw [hT a hm] at hu;cases hu
  refine ⟨[.fl (ns.map .int)],λb=>if b∈tabs then some .tab else none,λx J'=>x=.bl true∧∀T∈tabs,J' T=some .tab,λ_ _=>False,⟨.ref a,[],rfl,⟨a,ns.map V.int,rfl,?_,pO ns⟩,rfl⟩,?_,⟨ns,rfl,hl,λT hT=>if_pos hT,λb hb=>if_neg hb,λJ' h=>⟨rfl,h⟩⟩,?_,?_⟩
  ·rcases hS with h | h
   ·refine .inl ⟨?_,h⟩
    have:a ∉ tabs:=by
     rcases h with h | ⟨o,h⟩
     ·exact na _ h
     ·exact na _ h
    exact if_neg this
   ·exact .inr h
  ·intro b o z
   by_cases hb:b∈tabs
   ·have z':=(if_pos hb).symm.trans z
    cases z'
    exact hT b hb
   ·have z':=(if_neg hb).symm.trans z
    cases z'
  ·rintro z J' u H' rz rr ee ⟨rfl,ht⟩
   cases rz
   refine q H' λb o hb=>?_
   rcases hA b (by rw [hb];simp) with rfl | hm
   ·obtain ⟨ob,xs,rfl⟩:=hK o hb
    exact (ee.ll b _ (if_neg (na _ hb)) hb (.inr ⟨_,_,rfl⟩)).2
   ·have:=hT b hm
    rw [hb] at this;cases this
    exact rr b _ (ht b hm)
  ·intro _ _ _ _ _ z;exact z.elim
end Ov
namespace L2
open PySem PySem.Spec PyProof.Rows
def OM (k:Str):Value→Bool
 | .str y _=>y.cps.toList == k.cps.toList
 | _=>false
theorem v7 {ss:List Str} {us:List Value} (r:Vals (ss.map V.str) us):us.length=ss.length∧∀(j:Nat) (u:Value),us[j]?=some u→∃y t,ss[j]?=some y∧u=.str y t:=by
 induction ss generalizing us with
 | nil=>cases r;exact ⟨rfl,λj u e=>by simp at e⟩
 | cons y ss ih =>
  rw [U6] at r
  cases r with
  | cons ru rr =>
   obtain ⟨t,rfl⟩:=ru
   obtain ⟨h1,h2⟩:=ih rr
   refine ⟨by simp [h1],λj u e=>?_⟩
   cases j with
   | zero=>cases e;exact ⟨y,t,rfl,rfl⟩
   | succ j=>exact h2 j u (by simpa using e)
theorem vB {α β:Type} (f:α→β):∀(l:List α) (j:Nat),(l.eraseIdx j).map f=(l.map f).eraseIdx j
 | [],_=>rfl
 | _ :: _,0=>rfl
 | x :: l,j + 1=>by simp only [WL,U6,vB f l j]
section
variable {X:Cx}
def Kp (K:PySem.W.Frag):V→List V→Hp→VK→Prop:=λx vs H Q=>∃(l:Addr) (ss:List Str) (k:Str) (j:Nat),x=.ref l∧vs=[.str k]∧H l=some (.lst (ss.map V.str))∧ss[j]?=some k∧(∀m:Nat,m < j→ss[m]?≠some k)∧Q (.int (j:Nat)) H
theorem D':qL X "list.index" (Kp X.K):=by
 intro pins s σ H x vs v us Q I rx rv h
 obtain ⟨l,ss,k,j,rfl,rfl,hH,hj,hno,q⟩:=h
 cases rx
 obtain ⟨u,rfl,ru⟩:=rv.one
 obtain ⟨t,rfl⟩:=ru
 obtain ⟨z,its,n,r,hl,e⟩:=I.Gm hH
 obtain ⟨h1,h2⟩:=v7 r
 obtain ⟨hjl,hje⟩:=U1.mp hj
 have hz:ss.length≤sizeLine:=by simpa using z
 have hs:sizeLine=16777216:=sizeLine_eq
 have at_:∀(m:Nat) (hm:m < its.toArray.size),OM k its.toArray[m]=decide (ss[m]?=some k):=λm hm=>by
  obtain ⟨y,t',hy,hu⟩:=h2 m its[m] (U2 (by simpa using hm))
  show OM k its[m]=_
  rw [hu,hy]
  show (y.cps.toList == k.cps.toList)=_
  by_cases hk:y=k
  ·subst hk;simp
  ·have:(y.cps.toList == k.cps.toList)=false:=by
    rw [beq_eq_false_iff_ne]
    intro z
    exact hk (by cases y;cases k;simp at z;rw [z])
   rw [this];symm;exact decide_eq_false λz=>hk (Option.some.inj z)
 refine call_meets PySem.F.slot_list_index ⟨_,e,rfl⟩ PySem.F.entry_list_index (PySem.F.args_list_index_2 _ _)
  (MeetsSeq.list_index l its.toArray n (.str k t) (OM k) (λy hy=>?_) j (by simpa using (show j < its.length by omega)) (by omega) ?_ λm hm hlt=>?_) ⟨e,⟨.int _,H,I.tok _,⟨_,rfl⟩,q⟩⟩
 ·obtain ⟨m,hm⟩:=Vi.mp (show y∈its by simpa using hy)
  obtain ⟨y',t',_,rfl⟩:=h2 m y hm
  exact SeqRoads2.EqGives.str _ _ _ _
 ·rw [at_];exact decide_eq_true hj
 ·rw [at_];exact decide_eq_false (hno m hlt)
def Hd:V→List V→Hp→VK→Prop:=λx vs H Q=>∃(l:Addr) (ss:List Str) (k:Str) (j:Nat),x=.ref l∧vs=[.str k]∧H l=some (.lst (ss.map V.str))∧ss[j]?=some k∧(∀m:Nat,m < j→ss[m]?≠some k)∧Q .non (upd H l (.lst ((ss.eraseIdx j).map V.str)))
theorem A_:qL X "list.remove" Hd:=by
 intro pins s σ H x vs v us Q I rx rv h
 obtain ⟨l,ss,k,j,rfl,rfl,hH,hj,hno,q⟩:=h
 cases rx
 obtain ⟨u,rfl,ru⟩:=rv.one
 obtain ⟨t,rfl⟩:=ru
 obtain ⟨z,its,n,r,hl,e⟩:=I.Gm hH
 obtain ⟨h1,h2⟩:=v7 r
 obtain ⟨hjl,hje⟩:=U1.mp hj
 have hz:ss.length≤sizeLine:=by simpa using z
 have at_:∀(m:Nat) (hm:m < its.toArray.size),OM k its.toArray[m]=decide (ss[m]?=some k):=λm hm=>by
  obtain ⟨y,t',hy,hu⟩:=h2 m its[m] (U2 (by simpa using hm))
  show OM k its[m]=_
  rw [hu,hy]
  show (y.cps.toList == k.cps.toList)=_
  by_cases hk:y=k
  ·subst hk;simp
  ·have:(y.cps.toList == k.cps.toList)=false:=by
    rw [beq_eq_false_iff_ne]
    intro z
    exact hk (by cases y;cases k;simp at z;rw [z])
   rw [this];symm;exact decide_eq_false λz=>hk (Option.some.inj z)
 refine call_meets PySem.F.slot_list_remove ⟨_,e,rfl⟩ PySem.F.entry_list_remove (PySem.F.args_list_remove_2 _ _)
  (MeetsSeq.list_remove l its.toArray n (.str k t) (OM k) (λy hy=>?_) j (by simpa using (show j < its.length by omega)) ?_ (λm hm hlt=>?_) (by rw [U5];omega)) ⟨e,?_⟩
 ·obtain ⟨m,hm⟩:=Vi.mp (show y∈its by simpa using hy)
  obtain ⟨y',t',_,rfl⟩:=h2 m y hm
  exact SeqRoads2.EqGives.str _ _ _ _
 ·rw [at_];exact decide_eq_true hj
 ·rw [at_];exact decide_eq_false (hno m hlt)
 ·refine ⟨.non,_,I.Jw (its':=its.eraseIdx j) hH e (by rw [Wq]) ?_ ?_,rfl,q⟩
  ·rw [vB];exact r.eraseIdx j
  ·rw [UZ];exact Vh (List.length_eraseIdx_le _ _) hz
end
end L2
namespace Ov
open PySem PySem.Spec PyProof.Rows
open L2 (V HO Hp Inv Cx VK XK TE TT TA TS TG rS TI TO l7 Ends yv Loc Gl Rd RelV Vals fI Ab cq rK vj qL l6 R2 upd aH aM dq g8 Sp uc It bL dZ b9 Passes qK aK Meth Mk Binds aO cg av dF g6 fA)
section
variable {X:Cx} {G:G2}
def G9:EU:=λx xs J Q=>∃(a:Addr) (ss:List Str) (k:Str) (j:Nat),x=.ref a∧xs=[.str k]∧J a=some (.lst (ss.map .str))∧ss[j]?=some k∧(∀m:Nat,m < j→ss[m]?≠some k)∧Q (.int (j:Nat)) J
theorem Gu:K' X "list" "list.index" G9:=⟨_,L2.D',λJ H x xs v vs Q2 Q rx rs r ⟨a,ss,k,j,ex,exs,ja,hj,hno,q⟩ kn=>by
 subst ex exs;cases rx
 obtain ⟨w,us,rfl,rw',e⟩:=rs;cases e;cases rw'
 obtain ⟨ws,h1,h2⟩:=r _ _ ja
 cases gf h2
 exact ⟨a,ss,k,j,rfl,rfl,h1,hj,hno,kn (.int _) J _ H rfl r .refl q⟩⟩
def CJ:EU:=λx xs J Q=>∃(a:Addr) (ss:List Str) (k:Str) (j:Nat),x=.ref a∧xs=[.str k]∧J a=some (.lst (ss.map .str))∧ss[j]?=some k∧(∀m:Nat,m < j→ss[m]?≠some k)∧Q .non (put J a (.lst ((ss.eraseIdx j).map .str)))
theorem D_:K' X "list" "list.remove" CJ:=⟨_,L2.A_,λJ H x xs v vs Q2 Q rx rs r ⟨a,ss,k,j,ex,exs,ja,hj,hno,q⟩ kn=>by
 subst ex exs;cases rx
 obtain ⟨w,us,rfl,rw',e⟩:=rs;cases e;cases rw'
 obtain ⟨ws,h1,h2⟩:=r _ _ ja
 cases gf h2
 exact ⟨a,ss,k,j,rfl,rfl,h1,hj,hno,kn .non _ _ _ rfl (r.wrote (ys:=(ss.eraseIdx j).map .str) ja h1 pP) (.wrote ja h1) q⟩⟩
variable {a b c:Expr} {ta tb tc:dN} {pos:Pos}
def xy (q q':nG) (ta tb tc:dN):dN:=λτ J Q=>ta τ J λx J1=>tb τ J1 λy J2=>q x y J2 λz J3=>Lz z λk=>(if k=true then tc τ J3 λw J4=>q' y w J4 Q else Q (.bl false) J3)
theorem AL {r r':R2} {q q':nG} (lr:LR X.K r q) (lr':LR X.K r' q'):∀σ H Q,LE X.K G (xy q q' ta tb tc) σ H Q→L2.HN r r' (LE X.K G ta) (LE X.K G tb) (LE X.K G tc) σ H Q:=λσ H Q ⟨τ,J,Q2,a2,hh,k⟩=>⟨τ,J,_,a2,hh,λx J1 v H1 rx r1 e1 q1=>⟨τ,J1,_,a2.go r1 e1,q1,λy J2 w H2 ry r2 e2 q2 =>
  lr J2 H2 x y v w _ _ (e2.rep rx) ry r2 q2 λz J3 u H3 rz r3 e3 hz=>by
   obtain ⟨kk,ez,q3⟩:=pF hz
   subst ez;cases rz
   refine ⟨kk,rfl,?_⟩
   cases kk with
   | false=>simp only [Vd,if_false] at q3 ⊢;exact k (.bl false) J3 _ H3 rfl r3 ((e1.trans e2).trans e3) q3
   | true =>
    simp only [if_true] at q3 ⊢
    exact ⟨τ,J3,_,((a2.go r1 e1).go r2 e2).go r3 e3,q3,λw2 J4 u4 H4 r4 rr4 e4 q4=>lr' J4 H4 y w2 w u4 Q2 Q ((e3.trans e4).rep ry) r4 rr4 q4 λz' J' u' H' rz' rr' ee' qq=>k z' J' u' H' rz' rr' ((((e1.trans e2).trans e3).trans e4).trans ee') qq⟩⟩⟩
theorem Hh {op op':CmpOp} {q q':nG} (ho:nu X (compareOp op) q) (ho':nu X (compareOp op') q') (ha:RE X G a ta) (hb:RE X G b tb) (hc:RE X G c tc) (hm:lastMarks [op,op'] [b,c]=false:=by with_unfolding_all rfl) :
  RE X G (.Compare a [op,op'] [b,c] pos) (xy q q' ta tb tc):=by
 obtain ⟨r,h,lr⟩:=ho
 obtain ⟨r',h',lr'⟩:=ho'
 exact ⟨l9 (L2.GV h h' ha.run hb.run hc.run hm) (AL lr lr')⟩
end
end Ov
namespace L2
open PySem PySem.Spec PyProof.Rows
def T4 (K:PySem.W.Frag) (a:Addr):It :=
 ⟨λi H=>∃xs x,dq K H a xs∧xs[i]?=some x,
  λi H z H'=>∃T x,H T=none∧z=.ref T∧H'=upd H T (.tup [.int (i:Nat),x])∧(∀xs,dq K H a xs→xs[i]?=some x),
  λi H=>∃xs,dq K H a xs∧xs.length≤i⟩
theorem EL {P:Program} {w:World} {K:PySem.W.Frag} {elts:List Expr} {x1} {pos:Pos} {e it l:Addr} (ne:e≠it) :
  Turn P w K (.Tuple elts x1 pos) (T4 K l) [e,it] e (λi h=>(∃old,IsEnum h e it (i:Int) old)∧h.IsListIter it l i) where
 mem:=by simp
 obj:=λi h ⟨⟨old,he⟩,h1⟩ c hc=>by
  simp only [Vb,Vm,or_false] at hc
  rcases hc with rfl | rfl
  ·exact ⟨_,he,λv z=>by cases z⟩
  ·obtain ⟨o,e,c,d⟩:=h1;exact ⟨o,e,λv z=>by rw [d] at z;cases z⟩
 keep:=λi h h' ⟨⟨old,he⟩,h1⟩ k=>⟨⟨old,k e (by simp) _ he⟩,h1.at λo q=>k it (by simp) o q⟩
 item:=by
  intro X hP hw hK hc i pins s σ H E I hf st hg
  subst hP hw hK
  obtain ⟨⟨old,he⟩,h1⟩:=st
  obtain ⟨xs,x,hqx,hx⟩:=hg
  obtain ⟨its,rv,p,hzx⟩:=I.list hqx
  obtain ⟨u,hu,rx⟩:=rv.get hx
  refine wpAny_pyNext_enum_item he h1 p.isList (x:=u) (by simpa using hu) ne λh' a1 a3 a5 a6 hk=>?_
  refine ⟨_,rfl,wpAny_letOwnedTupleGo_enum a1 λh'' hz' hs'=>?_⟩
  have hT:H s.heap.objs.size=none:=I.hok.fresh (U4 _)
  have lt:∀{c o},s.heap.get? c=some o→c≠s.heap.objs.size:=λe=>Vj (Heap.lt_size e)
  have I0:Inv X pins σ (upd H s.heap.objs.size (.tup [.int (i:Nat),x])) { s with heap:=s.heap.push { cls:=.type "tuple",data:=.seq #[.int i s.toks,u] },toks:=s.toks + 1 }:=I.laid (t':=s.toks + 1) (λb u e=>Heap.get?_push_of_some _ e) (U4 _) ⟨by simp [sizeLine],[.int i s.toks,u],.cons ⟨_,rfl⟩ (.cons rx .nil),⟨_,Heap.get?_push_size _ rfl,rfl,_,rfl⟩⟩
  have fpn:∀b∈[e,it],b≠s.heap.objs.size:=λb hb=>by
   simp only [Vb,Vm,or_false] at hb
   rcases hb with rfl | rfl
   ·exact lt he
   ·obtain ⟨o,e,_⟩:=h1;exact lt e
  have fpu:∀b∈[e,it],l5 X pins (upd H s.heap.objs.size (.tup [.int (i:Nat),x])) b:=λb hb=>⟨by rw [aM (fpn b hb)];exact (hf b hb).1,(hf b hb).2⟩
  have I1:Inv X pins σ (upd H s.heap.objs.size (.tup [.int (i:Nat),x])) { s with heap:=h'',toks:=s.toks + 1 }:=Inv.rD (s:={ s with heap:=s.heap.push { cls:=.type "tuple",data:=.seq #[.int i s.toks,u] },toks:=s.toks + 1 }) (t':=s.toks + 1) (ch:=[e,it]) I0 (λb o hb eb=>by
   simp only [Vb,Vm,or_false,not_or] at hb
   rcases Heap.get?_push_cases eb with ⟨rfl,rfl⟩ | e'
   ·exact hs'.extBut _ _ hb.1 a5
   ·exact hs'.extBut _ _ hb.1 (hk b o hb.1 hb.2 e')) fpu
  refine ⟨.ref s.heap.objs.size,_,I1,rfl,⟨_,x,hT,rfl,rfl,λzs hq=>by rw [I.kE hq hqx];exact hx⟩,⟨⟨_,by rw [Int.natCast_add];exact hz'⟩,a3.extBut hs'.extBut (Ne.symm ne)⟩,λb hb=>(fpu b hb).1⟩
 done:=by
  intro X hP hw hK hc i pins s σ H E I hf st hg
  subst hP hw hK
  obtain ⟨⟨old,he⟩,h1⟩:=st
  obtain ⟨xs,hqx,hl⟩:=hg
  obtain ⟨its,rv,p,hzx⟩:=I.list hqx
  have e1:=rv.length
  refine wpAny_pyNext_enum_end (I.ok.hd hc) he h1 p.isList (by rw [List.getElem?_toArray,WH];omega) λh' hk=>⟨rfl,I.rD (t':=s.toks) (ch:=[e,it]) (λb o hb e=>?_) hf⟩
  simp only [Vb,Vm,or_false,not_or] at hb
  exact hk b o hb.2 e
 self:=λ_ _ _ _ _ st h=>let ⟨⟨_,he⟩,_⟩:=st;wpAny_pyIter_enum he h
def Pm (K:PySem.W.Frag) (ta:TA):TI:=λσ H R=>ta σ H λvs H1=>∃a xs,vs=[.ref a]∧dq K H1 a xs∧R (T4 K a) H1
section
variable {X:Cx}
theorem Ka {l:Expr} {elts:List Expr} {x1} {tp:Pos} {ta:TA} {p pos:Pos} (hg:Gl X "enumerate") (hm:X.mg "enumerate"=none) (ha:PA X [l] ta) (hs:starEach [l] X.env=(false,eval l X.env) :: starEach [] X.env:=by rfl) (hp:(backTo pos (starEach [] X.env)).any (·.1)=false:=by rfl):PI X (.Tuple elts x1 tp) (.Call (.Name "enumerate" p) [l] [] pos) (Pm X.K ta):=by
 intro pins s σ H R I h
 refine Call_ (mP I hg hm PyProof.Rows.Boot.«enumerate» (PyProof.Rows.callWith_type1 (cG (ha pos pins s σ H _ I h) λus s1 ⟨vs,H1,I1,r1,q1⟩=>?_) hs hp))
 obtain ⟨a,xs,e,hqa,q⟩:=q1
 subst e
 cases r1 with
 | cons r rr =>
  cases rr
  cases r
  obtain ⟨its,rv,pl,hz⟩:=I1.list hqa
  refine call_enumerate_list pl.isList ?_
  intro h' b1 b2 b6 hk
  refine wpAny_pyIter_enum b1 ?_
  have ne:s1.heap.objs.size + 1≠s1.heap.objs.size:=Nat.succ_ne_self _
  refine ⟨_,_,_,_,H1,rfl,I1.kept (t':=s1.toks) hk,EL ne,⟨⟨_,b1⟩,b2⟩,λc hc=>?_,q⟩
  have hc':s1.heap.objs.size≤c:=by
   simp only [Vb,Vm,or_false] at hc
   show @LE.le Nat _ _ _
   rcases hc with rfl | rfl
   ·exact V5 _ _
   ·exact U4 _
  exact I1.FI hc' (I1.hok.fresh hc')
end
end L2
namespace Ov
open PySem PySem.Spec PyProof.Rows
open L2 (V HO Hp Inv Cx VK XK TE TT TA TS TG rS TI TO l7 Ends yv Loc Gl Rd RelV Vals fI Ab cq rK vj qL l6 R2 upd aH aM dq g8 Sp uc It bL dZ b9 Passes qK aK Meth Mk Binds aO cg av dF g6 fA)
def yF (xs:List PV):List PV:=(VA xs.length).zipWith (λi x=>PV.tup [.int ((i:Nat):Int),x]) xs
theorem lO (xs:List PV):(yF xs).length=xs.length:=by unfold yF;simp
theorem vA (xs:List PV) (i:Nat) (x:PV) (h:xs[i]?=some x):(yF xs)[i]?=some (.tup [.int (i:Int),x]):=by
 unfold yF
 obtain ⟨hi,e⟩:=U1.mp h
 rw [List.getElem?_zipWith,W3 hi,h]
section
variable {X:Cx} {G:G2}
def Ue (ta:p_):uD:=λτ J R=>ta τ J λvs J1=>Eo vs λx=>xf (me J1 x) λxs=>R ⟨yF xs,λJ'=>me J' x=some xs⟩ J1
theorem Kv {l:Expr} {elts:List Expr} {x1} {tp:Pos} {ta:p_} {p pos:Pos} (hg:Gl X "enumerate") (hm:X.mg "enumerate"=none) (ha:RA X G [l] ta) (hs:starEach [l] X.env=(false,eval l X.env) :: starEach [] X.env:=by rfl) (hp:(backTo pos (starEach [] X.env)).any (·.1)=false:=by rfl) :
  RI X G (.Tuple elts x1 tp) (.Call (.Name "enumerate" p) [l] [] pos) (Ue ta):=⟨Qm (L2.Ka hg hm ha.run hs hp) λσ H R ⟨τ,J,R2,a2,h,k⟩=>⟨τ,J,_,a2,h,λvs J1 us H1 rs r1 e1 hh=>by
 obtain ⟨x,ev,hh⟩:=jE hh;obtain ⟨xs,hx,q⟩:=fe hh
 subst ev
 obtain ⟨v,us',rfl,rv,e'⟩:=rs
 cases e'
 obtain ⟨a,ws,rfl,h1,h2⟩:=pz hx rv r1
 refine ⟨a,ws,rfl,h1,k _ J1 _ H1 ?_ r1 e1 q⟩
 have at_:∀J' H',Ext X.K J1 H1 J' H'→Rep X.K J' H'→me J' x=some xs→∃vs,dq X.K H' a vs∧aU X.K J' H' xs vs:=λJ' H' e r o=>by
  obtain ⟨c,vs,eb,g1,g2⟩:=pz o (e.rep rv) r
  cases eb
  exact ⟨vs,g1,g2⟩
 exact {
  go:=λJ' H' e r o i hi=>by
   obtain ⟨vs,s,rs⟩:=at_ J' H' e r o
   rw [lO] at hi
   exact ⟨vs,vs[i]'(by rw [← rs.length];exact hi),s,by simp⟩
  yl:=λJ' H' e r o i hi v H2 y=>by
   obtain ⟨vs,s,rs⟩:=at_ J' H' e r o
   obtain ⟨T,z,hT,rfl,rfl,y1⟩:=y
   obtain ⟨c,ec,rc⟩:=rs.get' (y1 vs s)
   have sm:=bL.new hT (.tup [.int (i:Nat),z])
   have e2:=Ext.same (K:=X.K) (J:=J') sm
   refine ⟨.tup [.int (i:Int),c],vA _ _ _ ec,⟨T,[.int (i:Nat),z],rfl,.inl (.inl aH),e2.jM ⟨.int (i:Nat),_,rfl,rfl,z,_,rfl,rc,rfl⟩⟩,r.same sm,e2⟩
  stop:=λJ' H' e r o=>by
   obtain ⟨vs,s,rs⟩:=at_ J' H' e r o
   exact ⟨vs,s,by rw [lO,← rs.length];exact U4 _⟩ }⟩⟩
end
section
variable {X:Cx} {pins:List (Addr × Obj)} {σ:L2.St} {H:Hp} {s:Shared}
open Classical in
def eT (K:PySem.W.Frag) (H:Hp) (zs:List Py) (y:Py) (u:Value):Bool:=decide (∃z∈zs,∃v,RelV v u∧At K H z v∧lP z y=true)
end
section
variable {X:Cx} {G:G2}
end
end Ov
namespace Ov
open PySem
structure aJ where
 m:Rat
 h:Str
 f:Str
 deriving DecidableEq
def slt (a b:Str):Prop:=a.cps.toList < b.cps.toList
instance (a b:Str):Decidable (slt a b):=inferInstanceAs (Decidable (a.cps.toList < b.cps.toList))
def aJ.lt (a b:aJ):Bool:=if a.m=b.m then (if a.h=b.h then decide (slt a.f b.f) else decide (slt a.h b.h)) else decide (a.m < b.m)
theorem oM (a:Str):¬ slt a a:=List.lt_irrefl _
theorem pZ {a b c:Str} (h:slt a b) (k:slt b c):slt a c:=List.lt_trans h k
theorem Gw:∀(a b:List Nat),a≠b→a < b∨b < a
 | [],[],h=>absurd rfl h
 | [],_ :: _,_=>.inl (Xa _ _)
 | _ :: _,[],_=>.inr (Xa _ _)
 | x :: a,y :: b,h=>by
  rcases W6 x y with z | z | z
  ·exact .inl (V8.mpr (.inl z))
  ·subst z
   rcases Gw a b (λe=>h (by rw [e])) with q | q
   ·exact .inl (V8.mpr (.inr ⟨rfl,q⟩))
   ·exact .inr (V8.mpr (.inr ⟨rfl,q⟩))
  ·exact .inr (V8.mpr (.inl z))
theorem xX {a b:Str} (h:a≠b):slt a b∨slt b a:=by
 have ne:a.cps.toList≠b.cps.toList:=λe=>h (by cases a;cases b;simp at e;rw [e])
 exact Gw _ _ ne
theorem Oh {a b:Str} (h:slt a b):a≠b:=λe=>by subst e;exact oM _ h
theorem aJ.lt_iff (a b:aJ):a.lt b=true↔a.m < b.m∨(a.m=b.m∧(slt a.h b.h∨(a.h=b.h∧slt a.f b.f))):=by
 unfold aJ.lt
 by_cases e:a.m=b.m
 ·rw [if_pos e]
  have n:¬ a.m < b.m:=by rw [e];exact Rat.lt_irrefl
  by_cases k:a.h=b.h
  ·rw [if_pos k]
   have n2:¬ slt a.h b.h:=λz=>Oh z k
   simp [e,k,n,n2]
   try (intro z;first | exact absurd z Rat.lt_irrefl | exact absurd z (oM _))
  ·rw [if_neg k]
   simp [e,k]
   try (intro z;exact absurd z Rat.lt_irrefl)
 ·rw [if_neg e]
  simp [e]
theorem aJ.Nt (a:aJ):a.lt a=false:=by
 cases h:a.lt a with
 | false=>rfl
 | true =>
  rcases (aJ.lt_iff a a).mp h with h | ⟨_,h | ⟨_,h⟩⟩
  ·exact absurd h Rat.lt_irrefl
  ·exact absurd h (oM _)
  ·exact absurd h (oM _)
theorem vO {a b c:Rat} (h:a < b) (k:b < c):a < c:=by grind
theorem aJ.lt_trans {a b c:aJ} (h:a.lt b=true) (k:b.lt c=true):a.lt c=true:=by
 rw [aJ.lt_iff] at *
 rcases h with h | ⟨e,h⟩ <;> rcases k with k | ⟨e',k⟩
 ·exact .inl (vO h k)
 ·exact .inl (e' ▸ h)
 ·exact .inl (e ▸ k)
 ·refine .inr ⟨e.trans e',?_⟩
  rcases h with h | ⟨z,h⟩ <;> rcases k with k | ⟨z',k⟩
  ·exact .inl (pZ h k)
  ·exact .inl (z' ▸ h)
  ·exact .inl (z ▸ k)
  ·exact .inr ⟨z.trans z',pZ h k⟩
theorem aJ.Gn {a b:aJ} (h:a≠b):a.lt b=true∨b.lt a=true:=by
 rw [aJ.lt_iff,aJ.lt_iff]
 by_cases e:a.m=b.m
 ·by_cases z:a.h=b.h
  ·have:a.f≠b.f:=λq=>h (by cases a;cases b;simp_all)
   rcases xX this with q | q
   ·exact .inl (.inr ⟨e,.inr ⟨z,q⟩⟩)
   ·exact .inr (.inr ⟨e.symm,.inr ⟨z.symm,q⟩⟩)
  ·rcases xX z with q | q
   ·exact .inl (.inr ⟨e,.inl q⟩)
   ·exact .inr (.inr ⟨e.symm,.inl q⟩)
 ·rcases (by grind:a.m < b.m∨b.m < a.m) with q | q
  ·exact .inl (.inl q)
  ·exact .inr (.inl q)
def jm (l:List aJ):Prop:=l.Pairwise λa b=>a.lt b=true
def kg (b:aJ) (l:List aJ):List aJ:=l.filter (λx=>x.lt b) ++ b :: l.filter (λx=>!x.lt b)
def vR (h f:Str) (x:aJ):Bool:=decide (x.h=h∧x.f=f)
def du (h f:Str) (l:List aJ):List aJ:=l.filter λx=>!vR h f x
theorem vw {h f:Str} {l:List aJ} (s:jm l):jm (du h f l):=s.filter _
theorem yL {b:aJ} {l:List aJ} (s:jm l) (n:∀x∈l,x≠b):jm (kg b l):=by
 unfold kg jm
 rw [W0]
 refine ⟨s.filter _,?_,?_⟩
 ·rw [Wl]
  refine ⟨λy hy=>?_,s.filter _⟩
  rw [U_] at hy
  rcases aJ.Gn (n y hy.1) with q | q
  ·simp [q] at hy
  ·exact q
 ·intro x hx y hy
  rw [U_] at hx
  rcases Vb.mp hy with rfl | hy
  ·exact hx.2
  ·rw [U_] at hy
   rcases aJ.Gn (n y hy.1) with q | q
   ·simp [q] at hy
   ·exact aJ.lt_trans hx.2 q
theorem Jd {h f:Str} {l:List aJ} {m:Rat}:∀x∈du h f l,x≠⟨m,h,f⟩:=λx hx e=>by
 subst e
 unfold du at hx
 rw [U_] at hx
 simp [vR] at hx
theorem vK (p:aJ→Bool):∀{l:List aJ} {i:Nat},i≤l.length→(∀(j:Nat) x,j < i→l[j]?=some x→p x=true)→(∀(j:Nat) x,i≤j→l[j]?=some x→p x=false)→l.take i ++ l.drop i=l∧l.filter p=l.take i∧l.filter (λx=>!p x)=l.drop i
 | l,0,_,_,h=>by
  refine ⟨by simp,?_,?_⟩
  ·rw [List.take_zero]
   apply WO.mpr
   intro x hx
   obtain ⟨j,hj⟩:=Vi.mp hx
   rw [h j x (Vr _) hj];simp
  ·rw [Wu]
   apply VL.mpr
   intro x hx
   obtain ⟨j,hj⟩:=Vi.mp hx
   rw [h j x (Vr _) hj];rfl
 | [],i + 1,hi,_,_=>by simp at hi
 | x :: l,i + 1,hi,h1,h2=>by
  obtain ⟨a,b,c⟩:=vK p (l:=l) (i:=i) (by simpa using hi) (λj y hj e=>h1 (j + 1) y (by omega) (by simpa using e)) (λj y hj e=>h2 (j + 1) y (by omega) (by simpa using e))
  have hx:p x=true:=h1 0 x (by omega) rfl
  refine ⟨by simp,?_,?_⟩
  ·rw [Vt,hx];simp [b]
  ·rw [Vt,hx];simp [c]
theorem Co {b:aJ} {l:List aJ} {i:Nat} (hi:i≤l.length) (h1:∀(j:Nat) x,j < i→l[j]?=some x→x.lt b=true) (h2:∀(j:Nat) x,i≤j→l[j]?=some x→x.lt b=false):l.take i ++ b :: l.drop i=kg b l:=by
 obtain ⟨_,e1,e2⟩:=vK (λx=>x.lt b) hi h1 h2
 unfold kg
 rw [e1,e2]
theorem Df {l:List aJ} {b x y:aJ} {i j:Nat} (s:jm l) (hx:l[i]?=some x) (hy:l[j]?=some y) (h:j≤i) (k:x.lt b=true):y.lt b=true:=by
 rcases Wm h with h | h
 ·obtain ⟨hi,ei⟩:=U1.mp hx
  obtain ⟨hj,ej⟩:=U1.mp hy
  have:=VF.mp s j i hj hi h
  rw [ei,ej] at this
  exact aJ.lt_trans this k
 ·subst h;rw [hx] at hy;cases hy;exact k
theorem zY {l:List aJ} {b x y:aJ} {i j:Nat} (s:jm l) (hx:l[i]?=some x) (hy:l[j]?=some y) (h:i≤j) (k:x.lt b=false):y.lt b=false:=by
 cases q:y.lt b with
 | false=>rfl
 | true=>rw [Df s hy hx h q] at k;cases k
theorem FU {b x:aJ} {l:List aJ} (h:x∈kg b l):x=b∨x∈l:=by
 unfold kg at h
 rcases U9.mp h with h | h
 ·exact .inr (U_.mp h).1
 ·rcases Vb.mp h with h | h
  ·exact .inl h
  ·exact .inr (U_.mp h).1
theorem nM (p:aJ→Bool):∀l:List aJ,(l.filter p).length + (l.filter λx=>!p x).length=l.length
 | []=>rfl
 | x :: l=>by
  have:=nM p l
  cases h:p x <;> simp [h] <;> omega
theorem yK (b:aJ) (l:List aJ):(kg b l).length=l.length + 1:=by
 unfold kg
 rw [Vg,Vk]
 have:=nM (λx=>x.lt b) l
 omega
theorem pd (h f:Str) (l:List aJ):(du h f l).length≤l.length:=VM _ _
structure aZ where
 m:Rat
 p:Rat
 v:Int
 deriving DecidableEq
def aZ.at (l:aZ) (t:Rat):Rat:=l.p + (t - l.m) * l.v
def turned (rows:List aZ) (t:Rat) (v:Int):List aZ :=
 match rows.getLast? with
 | none=>[]
 | some l =>
  let rest:=if l.m=t then rows.dropLast else rows
  if rest.getLast?.map aZ.v=some v then rest else rest ++ [⟨t,l.at t,v⟩]
theorem ig (ls:List aZ) (l:aZ) (t:Rat) (v:Int):turned (ls ++ [l]) t v =
  if l.m=t then (if ls.getLast?.map aZ.v=some v then ls else ls ++ [⟨t,l.at t,v⟩]) else (if l.v=v then ls ++ [l] else ls ++ [l] ++ [⟨t,l.at t,v⟩]):=by
 unfold turned
 simp only [Vw,Wx]
 split
 ·rfl
 ·simp only [Vw,WU,Option.some.injEq]
theorem vX {rows:List aZ} {t:Rat} {v:Int} (h:rows≠[]):turned rows t v≠[]:=by
 obtain ⟨ls,l,rfl⟩:∃ls l,rows=ls ++ [l]:=⟨rows.dropLast,rows.getLast h,(Vx h).symm⟩
 rw [ig]
 split
 ·split
  ·rename_i e
   intro z;subst z;cases e
  ·simp
 ·split <;> simp
theorem BW {rows:List aZ} {t:Rat} {v:Int} {x:aZ} (h:x∈turned rows t v):x∈rows∨∃l∈rows,x=⟨t,l.at t,v⟩:=by
 by_cases e:rows=[]
 ·subst e;cases h
 obtain ⟨ls,l,rfl⟩:∃ls l,rows=ls ++ [l]:=⟨rows.dropLast,rows.getLast e,(Vx e).symm⟩
 rw [ig] at h
 have key:∀{y:List aZ},(∀z∈y,z∈ls ++ [l])→x∈y ++ [⟨t,l.at t,v⟩]→x∈ls ++ [l]∨∃l'∈ls ++ [l],x=⟨t,l'.at t,v⟩:=λhy hx=>by
  rcases U9.mp hx with h | h
  ·exact .inl (hy _ h)
  ·exact .inr ⟨l,by simp,by simpa using h⟩
 split at h
 ·split at h
  ·exact .inl (U9.mpr (.inl h))
  ·exact key (λz hz=>U9.mpr (.inl hz)) h
 ·split at h
  ·exact .inl h
  ·exact key (λz hz=>hz) h
theorem nq (rows:List aZ) (t:Rat) (v:Int):(turned rows t v).length≤rows.length + 1:=by
 by_cases e:rows=[]
 ·subst e;simp [turned]
 obtain ⟨ls,l,rfl⟩:∃ls l,rows=ls ++ [l]:=⟨rows.dropLast,rows.getLast e,(Vx e).symm⟩
 rw [ig]
 split <;> split <;> simp <;> omega
def sx (rows:List aZ) (t:Rat):Option aZ:=(rows.filter λl=>decide (l.m≤t)).getLast?
def lb (ms:List Rat) (t:Rat):Nat→Nat
 | 0=>0
 | k + 1=>if ms.getD k 0≤t then k + 1 else lb ms t k
theorem Lp (ms:List Rat) (t:Rat):∀k,lb ms t k≤k
 | 0=>U4 _
 | k + 1=>by unfold lb;split;exact U4 _;exact Nat.le_succ_of_le (Lp ms t k)
theorem Ga {ms:List Rat} {t:Rat} {j:Nat} (h:ms.getD j 0≤t):∀{k},j < k→0 < lb ms t k
 | 0,hk=>absurd hk (Wz _)
 | k + 1,hk=>by
  unfold lb
  split
  ·exact Nat.succ_pos _
  ·rename_i c
   exact Ga h (by rcases Nat.lt_succ_iff_lt_or_eq.mp hk with e | e;exact e;subst e;exact absurd h c)
theorem Cv (t:Rat) (rows:List aZ):∀k,k≤rows.length→((rows.take k).filter λl=>decide (l.m≤t)).getLast?=if lb (rows.map aZ.m) t k=0 then none else rows[lb (rows.map aZ.m) t k - 1]?
 | 0,_=>rfl
 | k + 1,hk=>by
  have hk':k < rows.length:=by omega
  have e:rows.take (k + 1)=rows.take k ++ [rows[k]]:=by rw [Vv,U2 hk'];rfl
  have em:(rows.map aZ.m).getD k 0=rows[k].m:=by simp [XE,hk']
  rw [e,Wh]
  unfold lb
  rw [em]
  by_cases c:rows[k].m≤t
  ·rw [if_pos c,Vt,if_pos (decide_eq_true c),WV,Vw,if_neg (Nat.succ_ne_zero _),Nat.add_sub_cancel,U2 hk']
  ·rw [if_neg c,Vt,if_neg (by simp [c]),WV,VQ]
   exact Cv t rows k (by omega)
theorem Gg (rows:List aZ) (t:Rat):sx rows t=if lb (rows.map aZ.m) t rows.length=0 then none else rows[lb (rows.map aZ.m) t rows.length - 1]?:=by
 have:=Cv t rows rows.length (U4 _)
 rw [Vu] at this
 exact this
def O_ (g:Option Rat) (t:Rat):Bool:=match g with | none=>true | some q=>decide (t < q)
def there (rows:List aZ) (g:Option Rat) (t:Rat):Bool :=
 match rows.head? with
 | none=>false
 | some l=>!decide (t < l.m) && O_ g t
theorem HW {rows:List aZ} {g:Option Rat} {t:Rat} (h:there rows g t=true):∃l,sx rows t=some l∧l∈rows∧l.m≤t∧0 < lb (rows.map aZ.m) t rows.length∧rows[lb (rows.map aZ.m) t rows.length - 1]?=some l:=by
 cases rows with
 | nil=>cases h
 | cons l0 ls =>
  have h0:l0.m≤t:=by
   unfold there at h
   simp only [WA,Vq,Ws,decide_eq_false_iff_not] at h
   exact Rat.not_lt.mp h.1
  have hp:0 < lb ((l0 :: ls).map aZ.m) t (l0 :: ls).length:=Ga (j:=0) (by simpa using h0) (by simp)
  have hle:=Lp ((l0 :: ls).map aZ.m) t (l0 :: ls).length
  have hx:=Gg (l0 :: ls) t
  rw [if_neg (by omega)] at hx
  obtain ⟨l,hl⟩:∃l,(l0 :: ls)[lb ((l0 :: ls).map aZ.m) t (l0 :: ls).length - 1]?=some l:=⟨_,U2 (by omega)⟩
  rw [hl] at hx
  have hm:=W2 hx
  rw [U_] at hm
  exact ⟨l,hx,hm.1,of_decide_eq_true hm.2,hp,hl⟩
def Sc (D A:Nat) (q:Rat):Prop:=∃a:Int,q * (D:Rat)=(a:Rat)∧a.natAbs≤A
theorem Sc.mono {D A B:Nat} {q:Rat} (h:Sc D A q) (k:A≤B):Sc D B q:=let ⟨a,e,l⟩:=h;⟨a,e,Vh l k⟩
theorem P2 {D:Nat} (h:0 < D):(D:Rat)≠0:=by
 intro e
 have:D=0:=by exact_mod_cast e
 omega
theorem Sc.sz {D A n:Nat} {q:Rat} (h:Sc D A q) (hD:0 < D) (h1:D < 2 ^ n) (h2:A < 2 ^ n):Sz n q:=by
 obtain ⟨a,e,l⟩:=h
 have nz:=P2 hD
 have:q=Rat.divInt a (D:Int):=by
  rw [Rat.divInt_eq_div,← e]
  have:((D:Int):Rat)=(D:Rat):=rfl
  rw [this]
  generalize (D:Rat)=d at nz ⊢
  grind
 rw [this]
 exact Sz.div ⟨VN l h2⟩ ⟨by simpa using h1⟩ (by omega)
theorem Sc.scale {D A E:Nat} {p:Rat} (h:Sc D A p):Sc (E * D) (E * A) p:=by
 obtain ⟨a,e,l⟩:=h
 refine ⟨E * a,?_,?_⟩
 ·rw [Rat.intCast_mul,← e]
  have h1:((E * D:Nat):Rat)=(E:Rat) * (D:Rat):=Rat.natCast_mul ..
  have h2:((E:Int):Rat)=(E:Rat):=rfl
  rw [h1,h2]
  grind
 ·rw [Int.natAbs_mul];exact Nat.mul_le_mul (by simp) l
theorem Sc.Nz {D A:Nat} {t:Int} {b:Nat} (hb:0 < b) (hd:b ∣ D) (hA:t.natAbs * (D / b)≤A):Sc D A (Rat.divInt t b):=by
 obtain ⟨c,rfl⟩:=hd
 rw [WN _ hb] at hA
 refine ⟨t * c,?_,by rw [Int.natAbs_mul];simpa using hA⟩
 have nb:=P2 hb
 have e1:((b:Int):Rat)=(b:Rat):=rfl
 have e2:((c:Int):Rat)=(c:Rat):=rfl
 rw [Rat.divInt_eq_div,Rat.intCast_mul,e1,e2,Rat.natCast_mul]
 generalize (b:Rat)=b at nb ⊢
 grind
def ij:Nat:=9690712164777231700912800
theorem Uj:∀b:Nat,1≤b→b≤60→b ∣ ij:=by
 intro b h1 h2
 have:∀b:Fin 61,1≤b.val→b.val ∣ ij:=by decide
 exact this ⟨b,by omega⟩ h1
theorem wK:0 < ij:=by decide
def MM:Nat:=2097152 * ij
structure UE (D k:Nat) (l:aZ):Prop where
 m:Sc ij MM l.m
 p:Sc (D * ij) (ij * 2 ^ 101 + k * (2000 * (D * MM))) l.p
 v:l.v.natAbs≤1000
theorem P1:MM < 2 ^ 106:=by decide
theorem sD {q:Rat} (h:Sc ij MM q):Sz 106 q:=h.sz wK (by decide) P1
structure Gd (D k:Nat) (rows:List aZ):Prop where
 ne:rows≠[]
 ok:∀l∈rows,UE D k l
 len:rows.length≤k + 1
def Later (c q:Rat):Prop:=q=c∨∃u s:Nat,1≤u∧u≤60∧1≤s∧s≤500 * u∧q=Rat.divInt ((c.num * u).fdiv c.den + s) u
theorem Later.sc {c q:Rat} {A:Nat} (h:Later c q) (k:Sc ij A c):Sc ij (A + 501 * ij) q:=by
 rcases h with rfl | ⟨u,s,h1,h2,h3,h4,rfl⟩
 ·exact k.mono (V5 _ _)
 obtain ⟨a,e,l⟩:=k
 obtain ⟨w,hw⟩:=Uj u h1 h2
 refine Sc.Nz (by omega) ⟨w,hw⟩ ?_
 have ew:ij / u=w:=by rw [hw,WN _ (by omega)]
 rw [ew]
 have hf:((c.num * u).fdiv c.den) * c.den≤c.num * u∧c.num * u < ((c.num * u).fdiv c.den + 1) * c.den:=by
  rw [Int.fdiv_eq_ediv_of_nonneg _ (by omega)]
  have:=dB c
  constructor
  ·exact Int.ediv_mul_le _ (by omega)
  ·have:=Int.lt_ediv_add_one_mul_self (c.num * u) this;exact this
 have ea:c.num * (ij:Int)=a * c.den:=by
  have h1:=cast_eq c
  have h2:=eD c
  have h3:((ij:Nat):Rat)=(((ij:Nat):Int):Rat):=rfl
  have:((c.num * (ij:Int):Int):Rat)=((a * c.den:Int):Rat):=by
   rw [Rat.intCast_mul,Rat.intCast_mul,h1,← e,h3]
   grind
  exact_mod_cast this
 have hL:(ij:Int)=u * w:=by rw [hw];simp
 have hw0:0 < w:=by
  rcases Nat.eq_zero_or_pos w with z | z
  ·rw [z,Nat.mul_zero] at hw;exact absurd hw (by decide)
  ·exact z
 rw [hL] at ea
 have hd:=dB c
 generalize hF:(c.num * u).fdiv c.den=F at hf ⊢
 generalize hN:c.num=N at *
 generalize hDD:(c.den:Int)=d at *
 have g1:F * w≤a:=by
  have:F * w * d≤a * d:=by
   rw [← ea]
   have:=Int.mul_le_mul_of_nonneg_right hf.1 (show (0:Int)≤w by omega)
   calc F * w * d=F * d * w:=by rw [Int.mul_right_comm]
    _≤N * u * w:=this
    _=N * (u * w):=Int.mul_assoc ..
  exact Int.le_of_mul_le_mul_right this hd
 have g2:a≤(F + 1) * w:=by
  have:a * d≤(F + 1) * w * d:=by
   rw [← ea]
   have:=Int.mul_le_mul_of_nonneg_right (Int.le_of_lt hf.2) (show (0:Int)≤w by omega)
   calc N * (u * w)=N * u * w:=(Int.mul_assoc ..).symm
    _≤(F + 1) * d * w:=this
    _=(F + 1) * w * d:=by rw [Int.mul_right_comm]
  exact Int.le_of_mul_le_mul_right this hd
 have hsw:s * w≤500 * (u * w):=by
  calc s * w≤500 * u * w:=Nat.mul_le_mul_right _ h4
   _=500 * (u * w):=Nat.mul_assoc ..
 have huw:w≤u * w:=Nat.le_mul_of_pos_left _ (by omega)
 rw [hw]
 have:(F + s).natAbs * w=((F + s) * w).natAbs:=by rw [Int.natAbs_mul];simp
 rw [this,Int.add_mul]
 rw [Int.add_mul,Int.one_mul] at g2
 have hsw':(s:Int) * w≤500 * ((u * w:Nat):Int):=by exact_mod_cast hsw
 generalize F * (w:Int)=x at *
 have hs0:(0:Int)≤(s:Int) * w:=Int.mul_nonneg (by omega) (by omega)
 generalize (s:Int) * w=y at *
 generalize u * w=z at *
 omega
theorem Later.le {c q:Rat} (h:Later c q):c≤q:=by
 rcases h with rfl | ⟨u,s,h1,h2,h3,h4,rfl⟩
 ·exact Rat.le_refl
 have hf:c.num * u < ((c.num * u).fdiv c.den + 1) * c.den:=by
  rw [Int.fdiv_eq_ediv_of_nonneg _ (by omega)]
  exact Int.lt_ediv_add_one_mul_self (c.num * u) (dB c)
 generalize (c.num * u).fdiv c.den=F at hf ⊢
 have h5:c.num * u≤(F + s) * c.den:=by
  have:(F + 1) * c.den≤(F + s) * c.den:=Int.mul_le_mul_of_nonneg_right (by omega) (by omega)
  omega
 have hu:(0:Rat) < (u:Rat):=by exact_mod_cast (show 0 < u by omega)
 have hd:(0:Rat) < ((c.den:Int):Rat):=by exact_mod_cast dB c
 refine Rat.not_lt.mp λhlt=>?_
 rw [Rat.divInt_eq_div] at hlt
 have e1:((u:Int):Rat)=(u:Rat):=rfl
 rw [e1,Rat.div_lt_iff hu] at hlt
 have h6:=Rat.mul_lt_mul_of_pos_right hlt hd
 have e2:c * (u:Rat) * ((c.den:Int):Rat)=((c.num * u:Int):Rat):=by
  rw [Rat.intCast_mul,cast_eq c,e1];grind
 rw [e2,← Rat.intCast_mul] at h6
 have h7:(F + s) * c.den < c.num * u:=by exact_mod_cast h6
 omega
section
variable {α:Type} {lt:α→α→Bool}
def qz (lt:α→α→Bool) (b:α) (l:List α):List α:=l.filter (λx=>lt x b) ++ b :: l.filter (λx=>!lt x b)
def o7 (lt:α→α→Bool) (l:List α):Prop:=l.Pairwise λa b=>lt a b=true
theorem GS (p:α→Bool):∀{l:List α} {i:Nat},i≤l.length→(∀(j:Nat) x,j < i→l[j]?=some x→p x=true)→(∀(j:Nat) x,i≤j→l[j]?=some x→p x=false)→l.filter p=l.take i∧l.filter (λx=>!p x)=l.drop i
 | l,0,_,_,h=>by
  refine ⟨?_,?_⟩
  ·rw [List.take_zero]
   apply WO.mpr
   intro x hx
   obtain ⟨j,hj⟩:=Vi.mp hx
   rw [h j x (Vr _) hj];simp
  ·rw [Wu]
   apply VL.mpr
   intro x hx
   obtain ⟨j,hj⟩:=Vi.mp hx
   rw [h j x (Vr _) hj];rfl
 | [],i + 1,hi,_,_=>by simp at hi
 | x :: l,i + 1,hi,h1,h2=>by
  obtain ⟨b,c⟩:=GS p (l:=l) (i:=i) (by simpa using hi) (λj y hj e=>h1 (j + 1) y (by omega) (by simpa using e)) (λj y hj e=>h2 (j + 1) y (by omega) (by simpa using e))
  have hx:p x=true:=h1 0 x (by omega) rfl
  refine ⟨?_,?_⟩
  ·rw [Vt,hx];simp [b]
  ·rw [Vt,hx];simp [c]
theorem Cp {b:α} {l:List α} {i:Nat} (hi:i≤l.length) (h1:∀(j:Nat) x,j < i→l[j]?=some x→lt x b=true) (h2:∀(j:Nat) x,i≤j→l[j]?=some x→lt x b=false):l.take i ++ b :: l.drop i=qz lt b l:=by
 obtain ⟨e1,e2⟩:=GS (λx=>lt x b) hi h1 h2
 unfold qz
 rw [e1,e2]
theorem yM {b x:α} {l:List α}:x∈qz lt b l↔x=b∨x∈l:=by
 unfold qz
 rw [U9,Vb,U_,U_]
 constructor
 ·rintro (h | h | h)
  ·exact .inr h.1
  ·exact .inl h
  ·exact .inr h.1
 ·rintro (h | h)
  ·exact .inr (.inl h)
  ·cases e:lt x b
   ·exact .inr (.inr ⟨h,by simp⟩)
   ·exact .inl ⟨h,rfl⟩
theorem FV (b:α) (l:List α):(qz lt b l).length=l.length + 1:=by
 unfold qz
 rw [Vg,Vk]
 have:∀l:List α,(l.filter λx=>lt x b).length + (l.filter λx=>!lt x b).length=l.length:=by
  intro l
  induction l with
  | nil=>rfl
  | cons x l ih=>cases h:lt x b <;> simp [h] <;> omega
 have:=this l
 omega
theorem FW (tr:∀{a b c},lt a b=true→lt b c=true→lt a c=true) {b:α} {l:List α} (s:o7 lt l) (Rk:∀x∈l,lt x b=true∨lt b x=true):o7 lt (qz lt b l):=by
 unfold qz o7
 rw [W0]
 refine ⟨s.filter _,?_,?_⟩
 ·rw [Wl]
  refine ⟨λy hy=>?_,s.filter _⟩
  rw [U_] at hy
  rcases Rk y hy.1 with q | q
  ·simp [q] at hy
  ·exact q
 ·intro x hx y hy
  rw [U_] at hx
  rcases Vb.mp hy with rfl | hy
  ·exact hx.2
  ·rw [U_] at hy
   rcases Rk y hy.1 with q | q
   ·simp [q] at hy
   ·exact tr hx.2 q
theorem zX (tr:∀{a b c},lt a b=true→lt b c=true→lt a c=true) {l:List α} {b x y:α} {i j:Nat} (s:o7 lt l) (hx:l[i]?=some x) (hy:l[j]?=some y) (h:j≤i) (k:lt x b=true):lt y b=true:=by
 rcases Wm h with h | h
 ·obtain ⟨hi,ei⟩:=U1.mp hx
  obtain ⟨hj,ej⟩:=U1.mp hy
  have:=VF.mp s j i hj hi h
  rw [ei,ej] at this
  exact tr this k
 ·subst h;rw [hx] at hy;cases hy;exact k
theorem EH (tr:∀{a b c},lt a b=true→lt b c=true→lt a c=true) {l:List α} {b x y:α} {i j:Nat} (s:o7 lt l) (hx:l[i]?=some x) (hy:l[j]?=some y) (h:i≤j) (k:lt x b=false):lt y b=false:=by
 cases q:lt y b with
 | false=>rfl
 | true=>have:=zX (lt:=lt) (b:=b) tr s hy hx h q;rw [this] at k;cases k
theorem oP (Ii:∀a,lt a a=false) (tr:∀{a b c},lt a b=true→lt b c=true→lt a c=true):∀{l k:List α},o7 lt l→o7 lt k→(∀x,x∈l↔x∈k)→l=k
 | [],[],_,_,_=>rfl
 | [],y :: k,_,_,h=>by have:=(h y).mpr VD;cases this
 | x :: l,[],_,_,h=>by have:=(h x).mp VD;cases this
 | x :: l,y :: k,hl,hk,h=>by
  obtain ⟨a1,a2⟩:=Wl.mp hl
  obtain ⟨b1,b2⟩:=Wl.mp hk
  have exy:x=y:=by
   rcases Vb.mp ((h x).mp VD) with e | e
   ·exact e
   ·rcases Vb.mp ((h y).mpr VD) with e' | e'
    ·exact e'.symm
    ·have:=tr (a1 y e') (b1 x e)
     rw [Ii] at this;cases this
  subst exy
  rw [oP Ii tr a2 b2 λz=>?_]
  constructor
  ·intro hz
   rcases Vb.mp ((h z).mp (Vo _ hz)) with e | e
   ·have:=a1 z hz;rw [e,Ii] at this;cases this
   ·exact e
  ·intro hz
   rcases Vb.mp ((h z).mpr (Vo _ hz)) with e | e
   ·have:=b1 z hz;rw [e,Ii] at this;cases this
   ·exact e
end
structure Ky where
 p:Rat
 v:Int
 n:Str
 deriving DecidableEq
def Ky.lt (a b:Ky):Bool:=if a.p=b.p then (if a.v=b.v then decide (slt a.n b.n) else decide (a.v < b.v)) else decide (a.p < b.p)
theorem Ky.lt_iff (a b:Ky):a.lt b=true↔a.p < b.p∨(a.p=b.p∧(a.v < b.v∨(a.v=b.v∧slt a.n b.n))):=by
 unfold Ky.lt
 by_cases e:a.p=b.p
 ·rw [if_pos e]
  have n:¬ a.p < b.p:=by rw [e];exact Rat.lt_irrefl
  by_cases k:a.v=b.v
  ·rw [if_pos k,decide_eq_true_eq]
   have n2:¬ a.v < b.v:=by omega
   exact ⟨λh=>.inr ⟨e,.inr ⟨k,h⟩⟩,λh=>by
    rcases h with h | ⟨_,h | h⟩
    ·exact absurd h n
    ·exact absurd h n2
    ·exact h.2⟩
  ·rw [if_neg k,decide_eq_true_eq]
   exact ⟨λh=>.inr ⟨e,.inl h⟩,λh=>by
    rcases h with h | ⟨_,h | h⟩
    ·exact absurd h n
    ·exact h
    ·exact absurd h.1 k⟩
 ·rw [if_neg e,decide_eq_true_eq]
  exact ⟨.inl,λh=>by
   rcases h with h | h
   ·exact h
   ·exact absurd h.1 e⟩
theorem Ky.Ii (a:Ky):a.lt a=false:=by
 cases h:a.lt a with
 | false=>rfl
 | true =>
  rcases (Ky.lt_iff a a).mp h with h | ⟨_,h | ⟨_,h⟩⟩
  ·exact absurd h Rat.lt_irrefl
  ·omega
  ·exact absurd h (oM _)
theorem Ky.tr {a b c:Ky} (h:a.lt b=true) (k:b.lt c=true):a.lt c=true:=by
 rw [Ky.lt_iff] at *
 rcases h with h | ⟨e,h⟩ <;> rcases k with k | ⟨e',k⟩
 ·exact .inl (vO h k)
 ·exact .inl (e' ▸ h)
 ·exact .inl (e ▸ k)
 ·refine .inr ⟨e.trans e',?_⟩
  rcases h with h | ⟨z,h⟩ <;> rcases k with k | ⟨z',k⟩
  ·exact .inl (by omega)
  ·exact .inl (by omega)
  ·exact .inl (by omega)
  ·exact .inr ⟨z.trans z',pZ h k⟩
theorem Ky.Rk {a b:Ky} (h:a.n≠b.n):a.lt b=true∨b.lt a=true:=by
 rw [Ky.lt_iff,Ky.lt_iff]
 by_cases e:a.p=b.p
 ·by_cases z:a.v=b.v
  ·rcases xX h with q | q
   ·exact .inl (.inr ⟨e,.inr ⟨z,q⟩⟩)
   ·exact .inr (.inr ⟨e.symm,.inr ⟨z.symm,q⟩⟩)
  ·rcases (by omega:a.v < b.v∨b.v < a.v) with q | q
   ·exact .inl (.inr ⟨e,.inl q⟩)
   ·exact .inr (.inr ⟨e.symm,.inl q⟩)
 ·rcases (by grind:a.p < b.p∨b.p < a.p) with q | q
  ·exact .inl (.inl q)
  ·exact .inr (.inl q)
theorem Ky.O2 {a b:Ky} (h:a.lt b=true):b.lt a=false:=by
 cases k:b.lt a with
 | false=>rfl
 | true=>have:=Ky.tr h k;rw [Ky.Ii] at this;cases this
def cI (ks:List Ky):List Ky:=ks.foldl (λacc x=>qz Ky.lt x acc) []
theorem i8 (ks:List Ky) (x:Ky):cI (ks ++ [x])=qz Ky.lt x (cI ks):=by unfold cI;rw [WJ];rfl
theorem snoc_ind {α:Type} {p:List α→Prop} (h0:p []) (h1:∀l x,p l→p (l ++ [x])) (l:List α):p l:=by
 have:∀l:List α,p l.reverse:=by
  intro l
  induction l with
  | nil=>exact h0
  | cons x l ih=>rw [List.reverse_cons];exact h1 _ _ ih
 have:=this l.reverse
 rwa [List.reverse_reverse] at this
theorem gH {α:Type} {l:List α} {x:α} (h:(l ++ [x]).Nodup):l.Nodup∧x ∉ l:=by
 rw [VZ] at h
 exact ⟨h.1,λhm=>h.2.2 x hm x (by simp) rfl⟩
theorem bD:∀(ks:List Ky) (x:Ky),x∈cI ks↔x∈ks:=by
 intro ks
 refine snoc_ind (p:=λks=>∀x:Ky,x∈cI ks↔x∈ks) (λx=>by simp [cI]) (λks y ih x=>?_) ks
 rw [i8,yM,ih,U9,Vc]
 exact Or.comm
theorem cY {ks:List Ky} (h:(ks.map Ky.n).Nodup):o7 Ky.lt (cI ks):=by
 revert h
 refine snoc_ind (p:=λks=>(ks.map Ky.n).Nodup→o7 Ky.lt (cI ks)) (λ_=>List.Pairwise.nil) (λks y ih h=>?_) ks
 ·rw [U7,U6,VV] at h
  obtain ⟨h1,h2⟩:=gH h
  rw [i8]
  refine FW (lt:=Ky.lt) Ky.tr (ih h1) λx hx=>Ky.Rk λe=>h2 ?_
  rw [← e]
  exact WB ((bD ks x).mp hx)
theorem i7 (ks:List Ky):(cI ks).length=ks.length:=by
 refine snoc_ind (p:=λks=>(cI ks).length=ks.length) rfl (λks y ih=>?_) ks
 rw [i8,FV,ih,Vg];rfl
theorem zf {ks js:List Ky} (h:(ks.map Ky.n).Nodup) (k:(js.map Ky.n).Nodup) (e:∀x,x∈ks↔x∈js):cI ks=cI js :=
 oP (lt:=Ky.lt) Ky.Ii Ky.tr (cY h) (cY k) λx=>by rw [bD,bD];exact e x
def key (t:Rat) (x:Str × aZ):Ky:=⟨x.2.at t,x.2.v,x.1⟩
def cO (t:Rat) (fs:List (Str × aZ)):List Str:=(cI (fs.map (key t))).map Ky.n
theorem dz (t:Rat) (fs:List (Str × aZ)):(fs.map (key t)).map Ky.n=fs.map (·.1):=by rw [U'];rfl
theorem zj {t:Rat} {fs:List (Str × aZ)} {n:Str}:n∈cO t fs↔n∈fs.map (·.1):=by
 rw [← dz t fs]
 unfold cO
 rw [U0,U0]
 exact ⟨λ⟨x,h,e⟩=>⟨x,(bD _ _).mp h,e⟩,λ⟨x,h,e⟩=>⟨x,(bD _ _).mpr h,e⟩⟩
theorem sL (t:Rat) (fs:List (Str × aZ)):(cO t fs).length=fs.length:=by unfold cO;rw [UZ,i7,UZ]
theorem l3 {l:List Ky} (s:o7 Ky.lt l) (h:∀x∈l,∀y∈l,x.n=y.n→x=y):(l.map Ky.n).Nodup:=by
 refine List.pairwise_map.mpr (s.imp_of_mem λ{a b} ha hb hab e=>?_)
 have:=h a ha b hb e
 subst this
 rw [Ky.Ii] at hab;cases hab
theorem i6 {ks:List Ky} (h:(ks.map Ky.n).Nodup):∀x∈ks,∀y∈ks,x.n=y.n→x=y:=by
 intro x hx y hy e
 obtain ⟨i,hi,rfl⟩:=Vy hx
 obtain ⟨j,hj,rfl⟩:=Vy hy
 have:=(VT (xs:=ks.map Ky.n) (i:=i) (j:=j) (h₀:=by simpa using hi) (h₁:=by simpa using hj) h).mp (by rw [VO,VO];exact e)
 subst this;rfl
theorem sM {t:Rat} {fs:List (Str × aZ)} (h:(fs.map (·.1)).Nodup):(cO t fs).Nodup:=by
 rw [← dz t fs] at h
 exact l3 (cY h) λx hx y hy e=>i6 h x ((bD _ _).mp hx) y ((bD _ _).mp hy) e
theorem zh {t:Rat} {fs gs:List (Str × aZ)} (h:(fs.map (·.1)).Nodup) (k:(gs.map (·.1)).Nodup) (e:∀x,x∈fs.map (key t)↔x∈gs.map (key t)):cO t fs=cO t gs:=by
 unfold cO
 rw [zf (by rw [dz];exact h) (by rw [dz];exact k) e]
theorem fY {α β:Type} {fs:List (Str × α)} {f:α→β} (h:(fs.map (·.1)).Nodup) {n:Str} {l:α} (hm:(n,l)∈fs):L2.lH (fs.map λx=>(x.1,f x.2)) n=some (f l):=by
 induction fs with
 | nil=>cases hm
 | cons x fs ih =>
  rw [U6,VY] at h
  rw [U6,L2.oW]
  rcases Vb.mp hm with e | e
  ·subst e;rw [if_pos rfl]
  ·have ne:x.1≠n:=λz=>h.1 (by rw [z];exact WB (f:=λx:Str × α=>x.1) e)
   rw [if_neg ne];exact ih h.2 e
theorem yf {α β:Type} {fs:List (Str × α)} {f:α→β} (h:(fs.map (·.1)).Nodup) {n:Str} (hm:n∈fs.map (·.1)):∃l,(n,l)∈fs∧L2.lH (fs.map λx=>(x.1,f x.2)) n=some (f l):=by
 obtain ⟨⟨m,l⟩,hx,rfl⟩:=U0.mp hm
 exact ⟨l,hx,fY h hx⟩
theorem K7 {α β:Type} {fs:List (Str × α)} {f:α→β} {n:Str} (hm:n ∉ fs.map (·.1)):L2.lH (fs.map λx=>(x.1,f x.2)) n=none:=by
 induction fs with
 | nil=>rfl
 | cons x fs ih =>
  rw [U6,L2.oW]
  rw [U6,Vb,not_or] at hm
  rw [if_neg (λe=>hm.1 e.symm)];exact ih hm.2
theorem vZ {α β:Type} {fs:List (Str × α)} {f:α→β} {n:Str} (h:(fs.map (·.1)).Nodup):(L2.lH (fs.map λx=>(x.1,f x.2)) n).isSome=decide (n∈fs.map (·.1)):=by
 by_cases hm:n∈fs.map (·.1)
 ·obtain ⟨l,_,e⟩:=yf (f:=f) h hm
  rw [e,decide_eq_true hm];rfl
 ·rw [K7 hm,decide_eq_false hm];rfl
theorem xr {α β:Type} {fs:List (Str × α)} {f:α→β} {n:Str} {l:α} (hm:n ∉ fs.map (·.1)):L2.vL (fs.map λx=>(x.1,f x.2)) n (f l)=(fs ++ [(n,l)]).map λx=>(x.1,f x.2):=by
 unfold L2.vL
 rw [if_neg,U7]
 ·rfl
 ·intro h
  rw [Xb] at h
  obtain ⟨y,hy,e⟩:=h
  obtain ⟨x,hx,rfl⟩:=U0.mp hy
  exact hm (by rw [← of_decide_eq_true e];exact WB (f:=λx:Str × α=>x.1) hx)
def PP:Nat:=1000000 * ij + 1000 * MM
structure ub (l:aZ):Prop where
 m0:0≤l.m
 m:Sc ij MM l.m
 p:∃a:Int,l.p * (ij:Rat)=(a:Rat)
 b0:-(1000000 + 1000 * l.m)≤l.p
 b1:l.p≤1000000 + 1000 * l.m
 v:l.v.natAbs≤1000
theorem Px:(0:Rat) < (ij:Rat):=by
 have:((0:Nat):Rat) < ((ij:Nat):Rat):=Rat.natCast_lt_natCast.mpr wK
 simpa using this
theorem ub.sc {l:aZ} (h:ub l):Sc ij PP l.p:=by
 obtain ⟨a,ha⟩:=h.p
 obtain ⟨k,hk,hk1⟩:=h.m
 have hL:=Px
 have b0:=h.b0
 have b1:=h.b1
 have e1:(a:Rat)≤(((1000000 * ij + 1000 * k:Int)):Rat):=by
  rw [← ha,Rat.intCast_add,Rat.intCast_mul,Rat.intCast_mul,← hk]
  have:l.p * (ij:Rat)≤(1000000 + 1000 * l.m) * (ij:Rat):=Rat.mul_le_mul_of_nonneg_right b1 (Rat.le_of_lt hL)
  have e:(((ij:Nat):Int):Rat)=(ij:Rat):=rfl
  rw [e]
  grind
 have e2:(((-(1000000 * ij + 1000 * k):Int)):Rat)≤(a:Rat):=by
  rw [← ha,Rat.intCast_neg,Rat.intCast_add,Rat.intCast_mul,Rat.intCast_mul,← hk]
  have:-(1000000 + 1000 * l.m) * (ij:Rat)≤l.p * (ij:Rat):=Rat.mul_le_mul_of_nonneg_right b0 (Rat.le_of_lt hL)
  have e:(((ij:Nat):Int):Rat)=(ij:Rat):=rfl
  rw [e]
  grind
 have e1:=Rat.intCast_le_intCast.mp e1
 have e2:=Rat.intCast_le_intCast.mp e2
 refine ⟨a,ha,?_⟩
 unfold PP
 have:(k:Int)≤MM:=by omega
 have:-(MM:Int)≤k:=by omega
 omega
theorem Qo:PP < 2 ^ 120:=by decide
theorem ub.Uq {l:aZ} (h:ub l):Sz 120 l.p:=h.sc.sz wK (by decide) Qo
theorem ub.Ul {l:aZ} (h:ub l):Sz 120 l.m:=(sD h.m).mono (by decide)
theorem ub.at {l:aZ} {t:Rat} {v:Int} (h:ub l) (h0:l.m≤t) (ht:Sc ij MM t) (hv:v.natAbs≤1000):ub ⟨t,l.at t,v⟩:=by
 have hm:=h.m0
 have t0:0≤t:=Rat.le_trans hm h0
 have d0:0≤t - l.m:=by grind
 have v1:(l.v:Rat)≤1000:=by
  have:((l.v:Int):Rat)≤((1000:Int):Rat):=Rat.intCast_le_intCast.mpr (by have:=h.v;omega)
  exact this
 have v2:-1000≤(l.v:Rat):=by
  have:((-1000:Int):Rat)≤((l.v:Int):Rat):=Rat.intCast_le_intCast.mpr (by have:=h.v;omega)
  exact this
 have m1:(t - l.m) * (l.v:Rat)≤(t - l.m) * 1000:=Rat.mul_le_mul_of_nonneg_left v1 d0
 have m2:(t - l.m) * (-1000)≤(t - l.m) * (l.v:Rat):=Rat.mul_le_mul_of_nonneg_left v2 d0
 have b0:=h.b0
 have b1:=h.b1
 refine ⟨t0,ht,?_,?_,?_,hv⟩
 ·obtain ⟨a,ha⟩:=h.p
  obtain ⟨k,hk,_⟩:=h.m
  obtain ⟨j,hj,_⟩:=ht
  refine ⟨a + (j - k) * l.v,?_⟩
  unfold aZ.at
  dsimp only
  rw [Rat.intCast_add,Rat.intCast_mul,Rat.intCast_sub,← ha,← hk,← hj]
  grind
 ·show -(1000000 + 1000 * t)≤l.p + (t - l.m) * (l.v:Rat)
  grind
 ·show l.p + (t - l.m) * (l.v:Rat)≤1000000 + 1000 * t
  grind
theorem ub.new {t:Rat} {p v:Int} (t0:0≤t) (ht:Sc ij MM t) (hp:p.natAbs≤1000000) (hv:v.natAbs≤1000):ub ⟨t,(p:Rat),v⟩:=by
 have p1:(p:Rat)≤1000000:=by
  have:((p:Int):Rat)≤((1000000:Int):Rat):=Rat.intCast_le_intCast.mpr (by omega)
  exact this
 have p2:-1000000≤(p:Rat):=by
  have:((-1000000:Int):Rat)≤((p:Int):Rat):=Rat.intCast_le_intCast.mpr (by omega)
  exact this
 refine ⟨t0,ht,⟨p * ij,by rw [Rat.intCast_mul];rfl⟩,?_,?_,hv⟩
 ·show -(1000000 + 1000 * t)≤(p:Rat)
  grind
 ·show (p:Rat)≤1000000 + 1000 * t
  grind
def DK (b:aJ) (l:List aJ):List aJ:=if b∈l then l else kg b l
theorem vE {b x:aJ} {l:List aJ}:x∈kg b l↔x=b∨x∈l:=yM (lt:=aJ.lt)
theorem Fl {b x:aJ} {l:List aJ}:x∈DK b l↔x=b∨x∈l:=by
 unfold DK
 split
 ·rename_i h
  exact ⟨.inr,λz=>by rcases z with rfl | z;exact h;exact z⟩
 ·exact vE
theorem Fm {b:aJ} {l:List aJ} (s:jm l):jm (DK b l):=by
 unfold DK
 split
 ·exact s
 ·rename_i h
  exact yL s λx hx e=>h (e ▸ hx)
def uU (bs:List aJ):List aJ:=bs.foldl (λacc b=>DK b acc) []
theorem vJ (bs:List aJ) (b:aJ):uU (bs ++ [b])=DK b (uU bs):=by unfold uU;rw [WJ];rfl
theorem zd (bs:List aJ) (x:aJ):x∈uU bs↔x∈bs:=by
 refine snoc_ind (p:=λbs=>∀x:aJ,x∈uU bs↔x∈bs) (λx=>by simp [uU]) (λbs y ih x=>?_) bs x
 rw [vJ,Fl,ih,U9,Vc]
 exact Or.comm
theorem ze (bs:List aJ):jm (uU bs):=by
 refine snoc_ind (p:=λbs=>jm (uU bs)) List.Pairwise.nil (λbs y ih=>?_) bs
 rw [vJ];exact Fm ih
theorem zZ {l k:List aJ} (h:jm l) (h':jm k) (e:∀x,x∈l↔x∈k):l=k:=oP (lt:=aJ.lt) aJ.Nt aJ.lt_trans h h' e
def fc (t:Rat) (a b:Ky):Rat:=t + (b.p - a.p) / ((a.v - b.v:Int):Rat)
def g_ (t:Rat) (a b:Ky):aJ:=⟨fc t a b,a.n,b.n⟩
def qi (t:Rat) (ks:List Ky) (m:Rat):List aJ:=uU (((ks.flatMap λa=>ks.map λb=>(a,b)).filter λp=>decide (p.2.v < p.1.v∧p.1.p < p.2.p∧fc t p.1 p.2≤m)).map λp=>g_ t p.1 p.2)
theorem Ew {t m:Rat} {ks:List Ky} {x:aJ}:x∈qi t ks m↔∃a∈ks,∃b∈ks,b.v < a.v∧a.p < b.p∧fc t a b≤m∧x=g_ t a b:=by
 unfold qi
 rw [zd,U0]
 constructor
 ·rintro ⟨⟨a,b⟩,h,rfl⟩
  rw [U_,Xc] at h
  obtain ⟨⟨c,hc,h1⟩,h2⟩:=h
  obtain ⟨d,hd,e⟩:=U0.mp h1
  cases e
  have h2:=of_decide_eq_true h2
  exact ⟨_,hc,_,hd,h2.1,h2.2.1,h2.2.2,rfl⟩
 ·rintro ⟨a,ha,b,hb,h1,h2,h3,rfl⟩
  exact ⟨(a,b),U_.mpr ⟨Xc.mpr ⟨a,ha,U0.mpr ⟨b,hb,rfl⟩⟩,decide_eq_true ⟨h1,h2,h3⟩⟩,rfl⟩
theorem Ex (t m:Rat) (ks:List Ky):jm (qi t ks m):=ze _
def fN (t:Rat) (ks:List Ky):List aJ:=uU ((((cI ks).zip (cI ks).tail).filter λp=>decide (p.2.v < p.1.v)).map λp=>g_ t p.1 p.2)
theorem dn {α:Type} {l:List α} {a b:α}:(a,b)∈l.zip l.tail↔∃i:Nat,l[i]?=some a∧l[i + 1]?=some b:=by
 constructor
 ·intro h
  obtain ⟨i,hi⟩:=Vi.mp h
  obtain ⟨h1,h2⟩:=VE.mp hi
  exact ⟨i,h1,by rw [Wn] at h2;exact h2⟩
 ·rintro ⟨i,h1,h2⟩
  exact Vi.mpr ⟨i,VE.mpr ⟨h1,by rw [Wn];exact h2⟩⟩
theorem AI {t:Rat} {ks:List Ky} {x:aJ}:x∈fN t ks↔∃(i:Nat) (a b:Ky),(cI ks)[i]?=some a∧(cI ks)[i + 1]?=some b∧b.v < a.v∧x=g_ t a b:=by
 unfold fN
 rw [zd,U0]
 constructor
 ·rintro ⟨⟨a,b⟩,h,rfl⟩
  rw [U_] at h
  obtain ⟨i,h1,h2⟩:=dn.mp h.1
  exact ⟨i,a,b,h1,h2,of_decide_eq_true h.2,rfl⟩
 ·rintro ⟨i,a,b,h1,h2,h3,rfl⟩
  exact ⟨(a,b),U_.mpr ⟨dn.mpr ⟨i,h1,h2⟩,decide_eq_true h3⟩,rfl⟩
theorem AJ (t:Rat) (ks:List Ky):jm (fN t ks):=ze _
theorem AG {t:Rat} {ks js:List Ky} (h:(ks.map Ky.n).Nodup) (k:(js.map Ky.n).Nodup) (e:∀x,x∈ks↔x∈js):fN t ks=fN t js:=by
 unfold fN;rw [zf h k e]
def j2 (l l':aZ):Rat:=(l'.at 0 - l.at 0) / ((l.v - l'.v:Int):Rat)
theorem HI {a b:Int} (h:a≠b):((a - b:Int):Rat)≠0:=by
 intro e
 have:(a - b:Int)=0:=by exact_mod_cast (show ((a - b:Int):Rat)=((0:Int):Rat) from e)
 omega
theorem qR {t:Rat} {n n':Str} {l l':aZ} (h:l.v≠l'.v):j2 l l'=fc t (key t (n,l)) (key t (n',l')):=by
 have k:=HI h
 unfold j2 fc key aZ.at
 dsimp only
 rw [Rat.intCast_sub] at *
 grind
theorem s_ {a b:Rat} (ha:0 < a) (hb:0 < b):0 < a / b:=by
 have e:a / b * b=a:=by grind
 rcases Rat.le_total (a:=a / b) (b:=0) with h | h
 ·have:=Rat.mul_le_mul_of_nonneg_right h (Rat.le_of_lt hb)
  rw [e,Rat.zero_mul] at this
  exact absurd ha (Rat.not_lt.mpr this)
 ·rcases (by grind:a / b=0∨0 < a / b) with h | h
  ·rw [h,Rat.zero_mul] at e;rw [← e] at ha;exact absurd ha Rat.lt_irrefl
  ·exact h
def qC (t:Rat) (l l':aZ):Option Rat:=if l.v≠l'.v∧t < j2 l l' then some (j2 l l') else none
theorem Jy {t:Rat} {n n':Str} {l l':aZ} (h:(key t (n,l)).lt (key t (n',l'))=true):(l.v≠l'.v∧t < j2 l l')↔(l'.v < l.v∧l.at t < l'.at t):=by
 rw [Ky.lt_iff] at h
 unfold key at h
 dsimp only at h
 constructor
 ·rintro ⟨h1,h2⟩
  rw [qR (t:=t) (n:=n) (n':=n') h1] at h2
  unfold fc key at h2
  dsimp only at h2
  have k:=HI h1
  have h3:0 < (l'.at t - l.at t) / ((l.v - l'.v:Int):Rat):=by grind
  have hp:l.at t≠l'.at t:=by
   intro e
   rw [e] at h3
   have:(l'.at t - l'.at t) / ((l.v - l'.v:Int):Rat)=0:=by grind
   rw [this] at h3
   exact absurd h3 Rat.lt_irrefl
  have hlt:l.at t < l'.at t:=by
   rcases h with h | ⟨h,_⟩
   ·exact h
   ·exact absurd h hp
  refine ⟨?_,hlt⟩
  rcases (by omega:l'.v < l.v∨l.v < l'.v) with q | q
  ·exact q
  ·exfalso
   have hn:((l.v - l'.v:Int):Rat) < 0:=by
    have:((l.v - l'.v:Int):Rat) < ((0:Int):Rat):=Rat.intCast_lt_intCast.mpr (by omega)
    exact this
   have hd:0 < l'.at t - l.at t:=by grind
   have e:(l'.at t - l.at t) / ((l.v - l'.v:Int):Rat) * ((l.v - l'.v:Int):Rat)=l'.at t - l.at t:=by grind
   generalize (l'.at t - l.at t) / ((l.v - l'.v:Int):Rat)=z at h3 e
   have:z * ((l.v - l'.v:Int):Rat) < 0:=by
    have:=Rat.mul_lt_mul_of_pos_left hn h3
    rwa [Rat.mul_zero] at this
   grind
 ·rintro ⟨h1,h2⟩
  have hne:l.v≠l'.v:=by omega
  refine ⟨hne,?_⟩
  rw [qR (t:=t) (n:=n) (n':=n') hne]
  unfold fc key
  dsimp only
  have hpos:0 < ((l.v - l'.v:Int):Rat):=by
   have:((0:Int):Rat) < ((l.v - l'.v:Int):Rat):=Rat.intCast_lt_intCast.mpr (by omega)
   exact this
  have hd:0 < l'.at t - l.at t:=by grind
  have:0 < (l'.at t - l.at t) / ((l.v - l'.v:Int):Rat):=s_ hd hpos
  grind
end Ov
namespace Ov
def iB (t:Rat) (c:Ky × Ky→Bool) (rows:List aJ) (p:Ky × Ky):List aJ:=if c p=true then kg (g_ t p.1 p.2) (du p.1.n p.2.n rows) else rows
def bY (t:Rat) (c:Ky × Ky→Bool) (ps:List (Ky × Ky)):List aJ:=ps.foldl (iB t c) []
theorem eO (t:Rat) (c:Ky × Ky→Bool) (ps:List (Ky × Ky)) (p:Ky × Ky):bY t c (ps ++ [p])=iB t c (bY t c ps) p:=by unfold bY;rw [WJ];rfl
theorem iT (t:Rat) (c:Ky × Ky→Bool) (ps:List (Ky × Ky)):jm (bY t c ps):=by
 refine snoc_ind (p:=λps=>jm (bY t c ps)) List.Pairwise.nil (λl x ih=>?_) ps
 rw [eO]
 unfold iB
 split
 ·exact yL (vw ih) Jd
 ·exact ih
theorem pf (t:Rat) (c:Ky × Ky→Bool) (ps:List (Ky × Ky)):(bY t c ps).length≤ps.length:=by
 refine snoc_ind (p:=λps=>(bY t c ps).length≤ps.length) (U4 _) (λl x ih=>?_) ps
 rw [eO,Vg]
 unfold iB
 split
 ·rw [yK]
  have:=pd x.1.n x.2.n (bY t c l)
  simp only [Vk,Wi];omega
 ·omega
theorem iW {t:Rat} {c:Ky × Ky→Bool} {x:aJ} (ps:List (Ky × Ky)):x∈bY t c ps→∃p∈ps,c p=true∧x=g_ t p.1 p.2:=by
 refine snoc_ind (p:=λps=>x∈bY t c ps→∃p∈ps,c p=true∧x=g_ t p.1 p.2) (λh=>by cases h) (λl y ih h=>?_) ps
 rw [eO] at h
 unfold iB at h
 split at h
 ·rename_i hc
  rcases FU h with e | h
  ·exact ⟨y,by simp,hc,e⟩
  ·obtain ⟨p,hp,k⟩:=ih (U_.mp h).1
   exact ⟨p,U9.mpr (.inl hp),k⟩
 ·obtain ⟨p,hp,k⟩:=ih h
  exact ⟨p,U9.mpr (.inl hp),k⟩
def yt (ps:List (Ky × Ky)):Prop:=∀p∈ps,∀q∈ps,p.1.n=q.1.n→p.2.n=q.2.n→p=q
theorem vC {t:Rat} {c:Ky × Ky→Bool} {x:aJ} (ps:List (Ky × Ky)):yt ps→(x∈bY t c ps↔∃p∈ps,c p=true∧x=g_ t p.1 p.2):=by
 refine snoc_ind (p:=λps=>yt ps→(x∈bY t c ps↔∃p∈ps,c p=true∧x=g_ t p.1 p.2)) (λ_=>Iff.intro (λh=>nomatch h) (λh=>by obtain ⟨_,h,_⟩:=h;cases h)) (λl y ih inj=>?_) ps
 have ih:=ih λp hp q hq=>inj p (U9.mpr (.inl hp)) q (U9.mpr (.inl hq))
 refine ⟨iW _,?_⟩
 rintro ⟨p,hp,hc,rfl⟩
 rw [eO]
 unfold iB
 have hold:p∈l→g_ t p.1 p.2∈bY t c l:=λh=>ih.mpr ⟨p,h,hc,rfl⟩
 split
 ·rename_i hy
  rw [vE]
  by_cases e:p=y
  ·left;rw [e]
  ·right
   have hl:p∈l:=by
    rcases U9.mp hp with h | h
    ·exact h
    ·exact absurd (by simpa using h) e
   refine U_.mpr ⟨hold hl,?_⟩
   unfold vR
   have:¬ ((g_ t p.1 p.2).h=y.1.n∧(g_ t p.1 p.2).f=y.2.n):=λz=>e (inj p hp y (by simp) z.1 z.2)
   rw [decide_eq_false this];rfl
 ·rename_i hy
  rcases U9.mp hp with h | h
  ·exact hold h
  ·have:p=y:=by simpa using h
   subst this;exact absurd hc hy
theorem DT {t:Rat} {c:Ky × Ky→Bool} {ps:List (Ky × Ky)} {p:Ky × Ky} (inj:yt (ps ++ [p])) (h:p ∉ ps):du p.1.n p.2.n (bY t c ps)=bY t c ps:=by
 unfold du
 refine VL.mpr λx hx=>?_
 obtain ⟨q,hq,_,rfl⟩:=iW _ hx
 unfold vR
 have:¬ ((g_ t q.1 q.2).h=p.1.n∧(g_ t q.1 q.2).f=p.2.n):=λz=>by
  have:=inj q (U9.mpr (.inl hq)) p (by simp) z.1 z.2
  subst this;exact h hq
 rw [decide_eq_false this];rfl
theorem yt.of {ks:List Ky} (h:(ks.map Ky.n).Nodup) {ps:List (Ky × Ky)} (hp:∀p∈ps,p.1∈ks∧p.2∈ks):yt ps:=λp h1 q h2 e1 e2=>by
 have a:=i6 h p.1 (hp p h1).1 q.1 (hp q h2).1 e1
 have b:=i6 h p.2 (hp p h1).2 q.2 (hp q h2).2 e2
 cases p;cases q;simp only at a b;rw [a,b]
def Ae (ks:List Ky):Nat→List (Ky × Ky)
 | 0=>[]
 | i + 1=>Ae ks i ++ (match ks[i]? with | some a=>(ks.drop (i + 1)).map λb=>(a,b) | none=>[])
theorem oV {ks:List Ky} {p:Ky × Ky}:∀{i:Nat},p∈Ae ks i↔∃i' j,i' < i∧i' < j∧ks[i']?=some p.1∧ks[j]?=some p.2
 | 0=>⟨λh=>(by cases h),λ⟨_,_,h,_⟩=>by omega⟩
 | i + 1=>by
  unfold Ae
  rw [U9,oV (i:=i)]
  constructor
  ·rintro (⟨i',j,h1,h⟩ | h)
   ·exact ⟨i',j,by omega,h⟩
   ·cases e:ks[i]? with
    | none=>rw [e] at h;cases h
    | some a =>
     rw [e] at h
     obtain ⟨b,hb,rfl⟩:=U0.mp h
     obtain ⟨j,hj⟩:=Vi.mp hb
     rw [WG] at hj
     exact ⟨i,_,by omega,by omega,e,hj⟩
  ·rintro ⟨i',j,h1,h2,h3,h4⟩
   by_cases e:i' < i
   ·exact .inl ⟨i',j,e,h2,h3,h4⟩
   ·have:i'=i:=by omega
    subst this
    right
    rw [h3]
    refine U0.mpr ⟨p.2,Vi.mpr ⟨j - (i' + 1),?_⟩,rfl⟩
    rw [WG,show i' + 1 + (j - (i' + 1))=j by omega];exact h4
def gw (t m:Rat) (p:Ky × Ky):Bool:=decide (p.2.v < p.1.v∧p.1.p < p.2.p∧fc t p.1 p.2≤m)
def cT (p:Ky × Ky):Bool:=decide (p.2.v < p.1.v)
theorem K6 {t m:Rat} {ks:List Ky} (h:(ks.map Ky.n).Nodup):bY t (gw t m) (Ae (cI ks) (cI ks).length)=qi t ks m:=by
 have hs:=cY h
 have hn:((cI ks).map Ky.n).Nodup:=l3 hs (λx hx y hy e=>i6 h x ((bD _ _).mp hx) y ((bD _ _).mp hy) e)
 refine zZ (iT _ _ _) (Ex _ _ _) λx=>?_
 rw [vC _ (yt.of hn λp hp=>by
  obtain ⟨i,j,_,_,h3,h4⟩:=oV.mp hp
  exact ⟨U3 h3,U3 h4⟩),Ew]
 constructor
 ·rintro ⟨p,hp,hc,rfl⟩
  obtain ⟨i,j,_,_,h3,h4⟩:=oV.mp hp
  have hc:=of_decide_eq_true hc
  exact ⟨p.1,(bD _ _).mp (U3 h3),p.2,(bD _ _).mp (U3 h4),hc.1,hc.2.1,hc.2.2,rfl⟩
 ·rintro ⟨a,ha,b,hb,h1,h2,h3,rfl⟩
  obtain ⟨i,hi⟩:=Vi.mp ((bD _ _).mpr ha)
  obtain ⟨j,hj⟩:=Vi.mp ((bD _ _).mpr hb)
  have hab:a.lt b=true:=(Ky.lt_iff a b).mpr (.inl h2)
  have hij:i < j:=by
   obtain ⟨hil,ei⟩:=U1.mp hi
   obtain ⟨hjl,ej⟩:=U1.mp hj
   rcases W6 i j with z | z | z
   ·exact z
   ·subst z;rw [ei] at ej;subst ej;rw [Ky.Ii] at hab;cases hab
   ·have:=VF.mp hs j i hjl hil z
    rw [ei,ej] at this
    rw [Ky.O2 this] at hab;cases hab
  exact ⟨(a,b),oV.mpr ⟨i,j,(U1.mp hi).1,hij,hi,hj⟩,decide_eq_true ⟨h1,h2,h3⟩,rfl⟩
theorem t8 {t:Rat} {ks:List Ky} (h:(ks.map Ky.n).Nodup):bY t cT ((cI ks).zip (cI ks).tail)=fN t ks:=by
 have hs:=cY h
 have hn:((cI ks).map Ky.n).Nodup:=l3 hs (λx hx y hy e=>i6 h x ((bD _ _).mp hx) y ((bD _ _).mp hy) e)
 refine zZ (iT _ _ _) (AJ _ _) λx=>?_
 rw [vC _ (yt.of hn λp hp=>by
  obtain ⟨i,h3,h4⟩:=dn.mp (show (p.1,p.2)∈_ from hp)
  exact ⟨U3 h3,U3 h4⟩),AI]
 constructor
 ·rintro ⟨p,hp,hc,rfl⟩
  obtain ⟨i,h3,h4⟩:=dn.mp (show (p.1,p.2)∈_ from hp)
  exact ⟨i,p.1,p.2,h3,h4,of_decide_eq_true hc,rfl⟩
 ·rintro ⟨i,a,b,h1,h2,h3,rfl⟩
  exact ⟨(a,b),dn.mpr ⟨i,h1,h2⟩,decide_eq_true h3,rfl⟩
end Ov
set_option maxHeartbeats 4000000
namespace Ov
open PySem PySem.Spec PyProof.Rows L2
def top (i:Nat):Stmt:=PySem.Challenge.pw_overhaul_k18_nobody_so_called.main.body.getD i (.Pass ⟨0,0,0,0⟩)
set_option compiler.extract_closed false
set_option hygiene false
local macro_rules | `(tactic| dsimp! [$ls,*])=>`(tactic| simp only [K0,Dj,z_,qd,KZ,Dm,KR,Dp,HU,R0,BU,tC,rI,Ik,rU,Ut,Ux,KJ,KI,KL,Int.reduceLT,KY,fo,yb,KQ,t4,K1,EI,KU,Dk,Dh,KW,HM,Ri,tB,RX,Di,RV,CK,Jk,Cg,Jh,Cm,Cn,Li,QL,QN,L5,QP,UU,d_,fZ,ma,Fs,HO.lst.injEq,HO.tup.injEq,List.set_cons_zero,List.set_cons_succ,List.getElem?_cons_zero,List.getElem?_cons_succ,Option.some.injEq,exists_eq_left',exists_eq_left,exists_and_left,exists_eq,exists_eq',V.int.injEq,V.bl.injEq,V.ref.injEq,V.str.injEq,V.ty.injEq,decide_eq_true_eq,true_and,and_true,List.cons.injEq,List.append_nil,List.cons_append,List.nil_append,reduceCtorEq,Bool.not_eq_true',decide_eq_false_iff_not,and_assoc,ite_not,if_true,if_false,Bool.false_eq_true,decide_true,decide_false,L2.start,List.map_cons,List.map_nil,List.length_cons,List.length_nil,Nat.reduceAdd,Nat.reduceSub,List.replicate,wz,Cx.Nx,Cx.t6,false_and,and_false,exists_false,false_or,or_false,id,eK,Option.getD_some,QM,RZ,Dl,rp,Q3,Om,Jj,L_,$ls,*])
local macro_rules | `(tactic| simp_arith [$t:term])=>`(tactic| refine S3 F $t (fun xs J Q E h=>?_) (fun cdv A outer s H E G xs J Q E2 hr h B=>?_))
local macro_rules | `(tactic| simp_arith [$t:term,$r:term])=>`(tactic| refine US F $t (fun xs J Q E h=>?_) (fun cdv A outer s H E G E2 hr B=>$r) (fun xs J Q E2 h X hX=>?_))
local macro_rules | `(tactic| simp_arith [$t:term,$r:term,$u:term])=>`(tactic| refine S2 F $t (fun xs J Q E h=>?_) (fun cdv A outer s H E G E2 hr B=>$r) (fun xs J Q E2 h X hX=>?_))
local macro_rules | `(tactic| simp_arith! [$ls,*])=>`(tactic| simp only [Ko,Q5,So,Qw,Qz,jL,rC,yh,Uz,rB,Q4,Km,Ti,QU,LZ,QV,L7,Uv,uX,kZ,Q6,QR,Uu,CN,L8,Uy,QD,Te,QC,zu,QH,Ks,Kr,sY,CL,QZ,L9,By,Ji,Ub,Ua,Uc,uV,QX,L4,pN,zw,Ug,UM,Uh,UL,Tf,QF,G8,qI,qU,Qu,Us,G_,LU,Qy,Qx,Td,Qp,N1,Qs,N0,G7,Tc,xx,Qv,NZ,CI,LP,SG,SF,Pu,SS,SU,PC,PB,Lq,TF,Rt,TC,TH,TJ,TB,Rv,Ro,Mh,Rn,Rq,Rm,Rp,SD,SE,Po,Su,Sw,Sy,SA,Sv,Sx,Tv,Tx,Tw,LQ,MQ,MS,Pc,MR,Lc,Kh,xt,Bv,Ki,Bw,eq_int,eq_str,Pf,Cb,M9,M_,Ru,Nh,su,M4,ya,OF,OG,OD,OE,Nat.reduceAdd,Nat.reduceSub,Nat.reduceLeDiff,TV,TX,OB,OC,List.append_nil,TL,TM,TY,TZ,Option.some.injEq,exists_eq_left',exists_eq_left,exists_and_left,exists_eq,exists_eq',PV.int.injEq,PV.bl.injEq,PV.ref.injEq,PV.str.injEq,PV.ty.injEq,PV.tup.injEq,PV.fl.injEq,HQ.lst.injEq,HQ.ins.injEq,HQ.dct.injEq,decide_eq_true_eq,true_and,and_true,List.cons.injEq,reduceCtorEq,Bool.not_eq_true',decide_eq_false_iff_not,and_assoc,ite_not,if_true,if_false,Bool.false_eq_true,decide_true,decide_false,false_and,and_false,exists_false,false_or,or_false,id,d_,fZ,ma,Fs,O3,O4,O5,O6,O7,O8,MK,ML,UX,TQ,TN,TU,ax,Bool.and_true,T1,Bool.and_false,TK,Ls,PD,PF,PH,PJ,PK,PL,PM,PN,PQ,Ni,Nj,Nk,Rw,Ou,K4,Ow,Ox,K5,String.reduceEq,Ry,Rz,pX,TR,List.not_mem_nil,exists_const,Qd,P6,P9,P7,Qe,Qc,Qf,P5,P_,P8,LB,Qa,NG,Qb,Qg,Qt,Kl,LV,Ha,LX,LY,L6,Ud,G9,CJ,xy,Ue,$ls,*])
local macro_rules | `(tactic| simp_all! [$ls,*])=>`(tactic| repeat (first | (with_reducible refine hNq _ _ ?_;clear hNq Nq) | with_reducible refine Od fun Nq hNq=>?_ | simp_arith! [$ls,*]))
section
variable {P:Program} {w:World} {K:PySem.W.Frag} {mg:Str→Option Value} {base:Heap}
abbrev tF:Stmt:=(top 14)
abbrev jf:List Str:=["one","two"]
theorem pW:L2.av ["one","two"] ["one","two"] (L2.aj tF):=dC
def tW:Sp:=λvs H Q _=>∃a b:Int,vs=[.int a,.int b]∧Q (.int (Int.gcd a b:Nat)) H
theorem Ef {f:Addr} {fd:FuncData} (F:cg K "shared" "shared" tF f fd) (Z:ES mg):aO P w K mg base rF 1 f fd jf tW:=by
 refine F.ok pW (λvs H Q E h=>?_) (λcdv A outer s H vs Q E hr h=>?_)
 ·obtain ⟨a,b,rfl,_⟩:=h
  rfl
 obtain ⟨a,b,rfl,q⟩:=h
 refine ⟨_,(QB.run (ba (pK (i:=0) (j:=1) rfl pW.nd rfl rfl (by decide) rfl rfl (aA (bM nJ rfl Z.abs boot_abs (aA (pv 0) bj)) (aA (bM nJ rfl Z.abs boot_abs (aA (pv 1) bj)) bj)) rfl)
   (ba (kY PassesOwn.never (d7 LJ (pv 1) aT (fw _)) (bS (pK (i:=0) (j:=1) rfl pW.nd rfl rfl (by decide) rfl rfl (aA (pv 1) (aA (bH gK (pv 0) (pv 1)) bj)) rfl)))
   (bS (er (pv 0)))))),?_⟩
 refine ⟨_,rfl,a,rfl,_,rfl,b,rfl,_,_,rfl,?_⟩
 refine Aa (λσ H'=>∃x y:Int,σ=[some (.int x),some (.int y)]∧H=H'∧0≤x∧0≤y∧Int.gcd x y=Int.gcd a b) (λσ _=>match σ with | [_,some (.int y)]=>y.toNat | _=>0)
  ⟨_,_,rfl,rfl,by split <;> omega,by split <;> omega,Jl a b⟩ ?_ (λσ H Q Q' m h=>?_)
 ·rintro σ H' ⟨x,y,rfl,rfl,hx,hy,hg⟩
  dsimp! [rJoin]
  split
  ·rename_i hy0
   subst hy0
   rw [← hg,Ci hx] at q
   exact q
  ·rename_i hy0
   have h1:=Int.emod_lt_of_pos x (show 0 < y by omega)
   have h2:=Int.emod_nonneg x hy0
   exact ⟨by omega,hy,h2,(yI hy0).trans hg,by omega⟩
 ·obtain ⟨v,e,hs,k,ek,hq⟩:=h
  exact ⟨v,e,hs,k,ek,m _ _ hq⟩
def Dig:List Int→List Int→Prop
 | [],[]=>True
 | d :: ds,s :: ss=>(0≤d∧d < s)∧Dig ds ss
 | _,_=>False
theorem Dig.snoc:∀{ds ss:List Int} {d s:Int},Dig ds ss→0≤d→d < s→Dig (ds ++ [d]) (ss ++ [s])
 | [],[],_,_,_,h0,h1=>⟨⟨h0,h1⟩,trivial⟩
 | _ :: _,_ :: _,_,_,h,h0,h1=>⟨h.1,Dig.snoc h.2 h0 h1⟩
 | [],_ :: _,_,_,h,_,_=>h.elim
 | _ :: _,[],_,_,h,_,_=>h.elim
theorem Dig.cons:∀{ds ss:List Int} {s:Int},Dig ds (s :: ss)→∃d r,ds=d :: r∧0≤d∧d < s∧Dig r ss
 | [],_,_,h=>h.elim
 | d :: r,_,_,h=>⟨d,r,rfl,h.1.1,h.1.2,h.2⟩
theorem Dig.nil:∀{ds:List Int},Dig ds []→ds=[]
 | [],_=>rfl
 | _ :: _,h=>h.elim
theorem Dig.len:∀{ds ss:List Int},Dig ds ss→ds.length=ss.length
 | [],[],_=>rfl
 | _ :: _,_ :: _,h=>congrArg Nat.succ (Dig.len h.2)
 | [],_ :: _,h=>h.elim
 | _ :: _,[],h=>h.elim
theorem take_snoc {xs:List Int} {i:Nat} {x:Int} (h:xs[i]?=some x):xs.take (i + 1)=xs.take i ++ [x]:=by
 rw [Vv,h]
 rfl
theorem si {ns:List Int} {i:Nat} {y:V} (h:(ns.map V.int)[i]?=some y):∃z,y=V.int z∧ns[i]?=some z:=by
 rw [U8] at h
 cases e:ns[i]? with
 | none=>rw [e] at h;cases h
 | some z=>rw [e] at h;exact ⟨z,(Option.some.inj h).symm,rfl⟩
abbrev BB:Stmt:=(top 46)
abbrev om:List Str:=["_law_script","_law_k"]
theorem KA:L2.av ["_law_script","_law_k"] ["_law_script","_law_k"] (L2.aj BB):=dC
abbrev tD:Stmt:=(top 47)
abbrev cZ:List Str:=["_law_cell_here","_law_sizes"]
theorem d9:L2.av ["_law_cell_here","_law_sizes","_law_out","_law_rest","_law_size","_law_one","_law_k","_law_two"] ["_law_cell_here","_law_sizes"] (L2.aj tD):=dC
def tO (K:PySem.W.Frag):Sp:=λvs H Q _=>∃(c:Int) (a:Addr) (ss:List Int),vs=[.int c,.ref a]∧dq K H a (ss.map V.int)∧(∀s∈ss,0 < s∧Bd 9000 s)∧ss.length≤1000 ∧
 ∀(r:Addr) (H':Hp) (ds:List Int),H r=none→bL H H'→H' r=some (.lst (ds.map V.int))→Dig ds ss→Q (.ref r) H'
theorem Ee {f:Addr} {fd:FuncData} (F:cg K "_law_digits" "_law_digits" tD f fd) (Z:ES mg):aO P w K mg base rF 1 f fd cZ (tO K):=by
 refine F.ok d9 (λvs H Q E h=>?_) (λcdv A outer s H vs Q E hr h=>?_)
 ·obtain ⟨c,a,ss,rfl,_⟩:=h
  rfl
 obtain ⟨c,a,ss,rfl,hS,hs,hl,q⟩:=h
 refine ⟨_,(QB.run (ba (c_ (i:=2) d9.nd rfl (Or.inl rfl) (jG bj))
   (ba (oA (d7 LD (pv 0) (bH GN aT aT) (fw _)) (ba (c_ (i:=3) d9.nd rfl (Or.inl rfl) (bH Bi (pv 0) (bH GN aT aT)))
   (ba (pJ PassesOwn.never rfl (n9 (pv 1)) (lS (i:=4) d9.nd rfl (Or.inl rfl)) (ba (lU (sS PySem.F.plainAttrs_list PySem.F.slot_list_append PySem.F.type_list_append i5 (pv 2) (aA (bH gK (pv 3) (pv 4)) bj)))
   (bS (c_ (i:=3) d9.nd rfl (Or.inl rfl) (bH gJ (pv 3) (pv 4))))))
   (bS (er (pv 2))))) f')
   (ba (c_ (i:=5) d9.nd rfl (Or.inl rfl) (bH gK (pv 0) aT))
   (ba (pJ PassesOwn.never rfl (gj rfl Z.range (aA (bM ju rfl Z.len boot_len (aA (pv 1) bj)) bj)) (lS (i:=6) d9.nd rfl (Or.inl rfl)) (ba (c_ (i:=5) d9.nd rfl (Or.inl rfl) (bH gK (bH jF (bH cU (pv 5) aT) (bH cU aT (bH jF (pv 6) aT))) aT))
   (ba (c_ (i:=7) d9.nd rfl (Or.inl rfl) (bH gK (bH jF (bH jF (bH cU (pv 5) (pv 5)) (bH cU aT (pv 5))) (pv 6)) aT))
   (bS (lU (sS PySem.F.plainAttrs_list PySem.F.slot_list_append PySem.F.type_list_append i5 (pv 2) (aA (bH gK (bH gJ (pv 7) aT) (cD wH (pv 1) (pv 6) (λ_ _=>rfl))) bj)))))))
   (bS (er (pv 2)))))))),?_⟩
 refine ⟨Vr _,λr hr'=>?_⟩
 have g0:=bL.new hr' (.lst [])
 refine ⟨_,rfl,_,_,rfl,rfl,⟨by decide,by decide,by decide⟩,_,_,rfl,rfl,_,rfl,?_⟩
 refine F2 (λ_=>?_) (λ_=>?_)
 ·refine ⟨_,rfl,_,_,rfl,rfl,⟨by decide,by decide,by decide⟩,_,_,rfl,rfl,?_⟩
  refine ⟨_,rfl,a,rfl,⟨_,g0.seq hS⟩,FH (K:=K) (a:=a) (xs:=ss.map V.int) (λi σ H2=>∃(ds:List Int) (rest:Int) (u:Option V),σ=[some (.int c),some (.ref a),some (.ref r),some (.int rest),u,none,none,none] ∧
   bL H H2∧H2 r=some (.lst (ds.map V.int))∧Dig ds (ss.take i)) ⟨[],_,none,rfl,g0,aH,trivial⟩ (λi σ H2 _ ⟨_,_,_,_,s2,_⟩=>s2.seq hS) ?_ ?_⟩
  ·rintro i y σ H2 hi ⟨ds,rest,u,rfl,s2,hd,hD⟩
   obtain ⟨z,rfl,hz⟩:=si hi
   obtain ⟨z0,zb⟩:=hs z (U3 hz)
   have hil:i < ss.length:=(U1.mp hz).1
   have dl:=hD.len
   rw [Vp] at dl
   refine ⟨_,rfl,.inl ⟨rfl,_,dq.of hd⟩,_,rfl,_,rfl,_,_,rfl,rfl,z0,r,_,_,rfl,rfl,hd,?_,?_⟩
   ·rw [UZ]
    exact bp (by omega)
   refine ⟨_,rfl,_,rfl,_,_,rfl,rfl,⟨by omega,zb⟩,?_⟩
   refine ⟨ds ++ [rest % z],_,_,rfl,s2.OQ hr' _,?_,?_⟩
   ·rw [aH,U7]
    rfl
   ·rw [take_snoc hz]
    exact hD.snoc (Int.emod_nonneg _ (by omega)) (Int.emod_lt_of_pos _ z0)
  ·rintro σ H2 ⟨ds,rest,u,rfl,s2,hd,hD⟩
   rw [UZ,Vu] at hD
   exact ⟨_,rfl,q r H2 ds hr' s2 hd hD⟩
 ·refine ⟨_,rfl,_,_,rfl,rfl,(show (0:Int) < 2147483647 by decide),?_⟩
  refine ⟨_,rfl,a,_,rfl,.inl (g0.seq hS),_,rfl,?_,?_,vD (lo:=0) (n:=(ss.map V.int).length) (λi σ H2=>∃(ds:List Int) (one:Int) (u v:Option V),σ=[some (.int c),some (.ref a),some (.ref r),none,none,some (.int one),u,v] ∧
   0≤one∧one < 2147483647∧bL H H2∧H2 r=some (.lst (ds.map V.int))∧Dig ds (ss.take i)) ⟨[],_,none,none,rfl,Int.emod_nonneg _ (by decide),Int.emod_lt_of_pos _ (by decide),g0,aH,trivial⟩ ?_ ?_⟩
  ·omega
  ·rw [UZ];omega
  ·rintro i σ H2 hi ⟨ds,one,u,v,rfl,o0,o1,s2,hd,hD⟩
   rw [UZ] at hi
   have hz:ss[i]?=some ss[i]:=U2 hi
   obtain ⟨z0,zb⟩:=hs ss[i] (VG hi)
   have dl:=hD.len
   rw [Vp] at dl
   have e1:dF (ss.map V.int) (0 + (i:Int))=some (.int ss[i]):=by
    rw [Int.zero_add]
    exact bA (by rw [U8,hz];rfl)
   dsimp! [rJoin]
   have A0:0≤(one * 48271 + 10007 * (0 + (i:Int) + 1)) % 2147483629:=Int.emod_nonneg _ (by decide)
   have A1:(one * 48271 + 10007 * (0 + (i:Int) + 1)) % 2147483629 < 2147483629:=Int.emod_lt_of_pos _ (by decide)
   generalize (one * 48271 + 10007 * (0 + (i:Int) + 1)) % 2147483629=A at A0 A1 ⊢
   generalize ((A * A + 69621 * A + (0 + (i:Int))) % 2147483563).fdiv 11=B
   have small:∀x:Int,0≤x→x < 2147483648→Bd 64 x:=λx h1 h2=>Bd.small (by omega) (by omega)
   refine ⟨.of (small _ o0 (by omega)) (small _ (by decide) (by decide)),.of (small _ (by decide) (by decide)) (small _ (by omega) (by omega)),.of (small _ A0 (by omega)) (small _ A0 (by omega)),
    .of (small _ (by decide) (by decide)) (small _ A0 (by omega)),.inl ⟨rfl,_,dq.of hd⟩,⟨by decide,(small _ (by decide) (by decide)).mono (by decide)⟩,_,s2.seq hS,_,e1,_,rfl,z0,_,hd,?_,A0,by omega,s2.OQ hr' _,ds ++ [B % ss[i]],?_,?_⟩
   ·rw [UZ]
    exact bp (by omega)
   ·rw [aH,U7]
    rfl
   ·rw [take_snoc hz]
    exact hD.snoc (Int.emod_nonneg _ (by omega)) (Int.emod_lt_of_pos _ z0)
  ·rintro σ H2 ⟨ds,one,u,v,rfl,o0,o1,s2,hd,hD⟩
   rw [UZ,Vu] at hD
   exact ⟨_,rfl,q r H2 ds hr' s2 hd hD⟩
def OZ (H:Hp) (q:Rat) (Q:VK):Prop:=∀(r:Addr) (H':Hp),bL H H'→H' r=some (.tup [.int q.num,.int q.den])→Q (.ref r) H'
abbrev m7:Stmt:=(top 15)
abbrev dW:List Str:=["top","bottom"]
theorem lA:L2.av ["top","bottom","divisor"] ["top","bottom"] (L2.aj m7):=dC
def gX:Sp:=λvs H Q _=>∃t b:Int,vs=[.int t,.int b]∧b≠0∧Bd 9000 b∧OZ H (Rat.divInt t b) Q
theorem FL {n:Nat} {t b:Int} (h:b≠0) (hb:Bd n b):Bd n ((Int.gcd t b:Nat):Int):=hb.le (by have:=M6 (t:=t) h;omega)
theorem y6 {f:Addr} {fd:FuncData} (F:cg K "fraction" "fraction" m7 f fd) (Z:ES mg) (iN:t9 P w K mg base 1 "shared" jf tW):aO P w K mg base rF 2 f fd dW gX:=by
 refine F.ok lA (λvs H Q E h=>?_) (λcdv A outer s H vs Q E hr h=>?_)
 ·obtain ⟨t,b,rfl,_⟩:=h
  rfl
 obtain ⟨t,b,rfl,hb,bb,q⟩:=h
 have hg:=Cj (t:=t) hb
 have gb:=FL (t:=t) hb bb
 refine ⟨_,(QB.run (ba (oA (d7 GL (pv 1) aT (fw _)) pL f')
   (ba (c_ (i:=2) lA.nd rfl (Or.inl rfl) (zl iN hr (by decide) rfl (aA (pv 0) (aA (pv 1) bj))))
   (zp (oA (d7 Cz (pv 1) aT (fw _)) (bS (c_ (i:=2) lA.nd rfl (Or.inl rfl) (CC H0 (pv 2)))) f')
   (bS (er (sU (aA (bH gJ (pv 0) (pv 2)) (aA (bH gJ (pv 1) (pv 2)) bj))))))))),?_⟩
 refine ⟨_,rfl,rfl,_,rfl,?_⟩
 refine F2 (λc=>absurd (V.int.inj (of_decide_eq_true c)) hb) (λ_=>?_)
 refine ⟨_,rfl,_,rfl,t,b,rfl,?_⟩
 refine ⟨λσ' H'=>∃d:Int,σ'=[some (.int t),some (.int b),some (.int d)]∧H=H'∧d≠0∧Bd 9000 d∧t.fdiv d=(Rat.divInt t b).num∧b.fdiv d=(Rat.divInt t b).den,?_,?_⟩
 ·refine ⟨_,rfl,_,_,rfl,rfl,_,rfl,F2 (λc=>?_) (λc=>?_)⟩
  ·have c':b < 0:=of_decide_eq_true c
   exact ⟨_,rfl,_,rfl,_,rfl,rfl,by omega,gb.neg,Cy c',Jb c'⟩
  ·have c':0 < b:=by
    have:=of_decide_eq_false (Wr.mpr c)
    omega
   exact ⟨_,rfl,rfl,by omega,gb,wO c',den_pos c'⟩
 rintro _ _ ⟨d,rfl,rfl,hd,bd,e1,e2⟩
 refine ⟨_,rfl,_,rfl,_,_,rfl,rfl,⟨hd,bd⟩,_,rfl,_,rfl,_,_,rfl,rfl,⟨hd,bd⟩,(by show 2≤sizeLine;decide),λp hp=>?_⟩
 exact q p _ (bL.new hp _) (by rw [aH];show some (HO.tup [V.int (t.fdiv d),V.int (b.fdiv d)])=_;rw [e1,e2])
abbrev Hm:Stmt:=(top 49)
abbrev dU:List Str:=["_law_top","_law_bottom"]
theorem xU:L2.av ["_law_top","_law_bottom","_law_one","_law_two"] ["_law_top","_law_bottom"] (L2.aj Hm):=dC
def Mb:Sp:=λvs H Q _=>∃t b:Int,vs=[.int t,.int b]∧0 < b∧Bd 9000 b∧OZ H (Rat.divInt t b) Q
theorem NA {f:Addr} {fd:FuncData} (F:cg K "_law_low" "_law_low" Hm f fd) (Z:ES mg):aO P w K mg base rF 1 f fd dU Mb:=by
 refine F.ok xU (λvs H Q E h=>?_) (λcdv A outer s H vs Q E hr h=>?_)
 ·obtain ⟨t,b,rfl,_⟩:=h
  rfl
 obtain ⟨t,b,rfl,hb,bb,q⟩:=h
 have hg:=Cj (t:=t) (show b≠0 by omega)
 have gb:=FL (t:=t) (show b≠0 by omega) bb
 refine ⟨_,(QB.run (ba (c_ (i:=2) xU.nd rfl (Or.inl rfl) (bM nJ rfl Z.abs boot_abs (aA (pv 0) bj)))
   (ba (c_ (i:=3) xU.nd rfl (Or.inl rfl) (pv 1))
   (ba (kY PassesOwn.never (d7 LJ (pv 3) aT (fw _)) (bS (pK (i:=2) (j:=3) rfl xU.nd rfl rfl (by decide) rfl rfl (aA (pv 3) (aA (bH gK (pv 2) (pv 3)) bj)) rfl)))
   (bS (er (sU (aA (bH gJ (pv 0) (pv 2)) (aA (bH gJ (pv 1) (pv 2)) bj))))))))),?_⟩
 refine ⟨_,rfl,t,rfl,_,rfl,?_⟩
 refine Aa (λσ H'=>∃x y:Int,σ=[some (.int t),some (.int b),some (.int x),some (.int y)]∧H=H'∧0≤x∧0≤y∧Int.gcd x y=Int.gcd t b) (λσ _=>match σ with | [_,_,_,some (.int y)]=>y.toNat | _=>0)
  ⟨_,_,rfl,rfl,by split <;> omega,by omega,FK t b⟩ ?_ (λσ H Q Q' m h=>?_)
 ·rintro σ H' ⟨x,y,rfl,rfl,hx,hy,hg'⟩
  dsimp! [rJoin]
  split
  ·rename_i hy0
   subst hy0
   have ex:x=((Int.gcd t b:Nat):Int):=by rw [← hg',Ci hx]
   subst ex
   refine ⟨⟨by omega,gb⟩,⟨by omega,gb⟩,(by show 2≤sizeLine;decide),λp hp=>?_⟩
   exact q p _ (bL.new hp _) (by rw [aH,wO hb,den_pos hb])
  ·rename_i hy0
   have h1:=Int.emod_lt_of_pos x (show 0 < y by omega)
   have h2:=Int.emod_nonneg x hy0
   exact ⟨by omega,hy,h2,(yI hy0).trans hg',by omega⟩
 ·obtain ⟨v,e,hs,k,ek,hq⟩:=h
  exact ⟨v,e,hs,k,ek,m _ _ hq⟩
theorem HK {m n:Nat} {t b:Int} (hb:b≠0) (h1:Bd m t) (h2:Bd n b) (k:Nat) (hm:m≤k) (hn:n≤k):Sz k (Rat.divInt t b) :=
 ⟨(h1.le (Cw t b)).mono hm,(h2.le (wA hb)).mono hn⟩
theorem wN (p q:Rat):(p.den:Int) * (q.den:Int)≠0:=Int.mul_ne_zero (fu p) (fu q)
theorem Sz.add {m n k:Nat} {p q:Rat} (h:Sz m p) (g:Sz n q) (hk:m + n + 1≤k:=by decide):Sz k (p + q):=by
 rw [← add_eq]
 exact HK (wN p q) (.add (.mul h.num g.den (U4 _)) (.mul g.num h.den (U4 _)) (U4 _)) (.mul h.den g.den (U4 _)) k (by omega) (by omega)
theorem Sz.sub {m n k:Nat} {p q:Rat} (h:Sz m p) (g:Sz n q) (hk:m + n + 1≤k:=by decide):Sz k (p - q):=by
 rw [← sub_eq]
 exact HK (wN p q) (.sub (.mul h.num g.den (U4 _)) (.mul g.num h.den (U4 _)) (U4 _)) (.mul h.den g.den (U4 _)) k (by omega) (by omega)
theorem Sz.mul {m n k:Nat} {p:Rat} {i:Int} (h:Sz m p) (g:Bd n i) (hk:m + n≤k:=by decide):Sz k (p * i):=by
 rw [← mul_eq]
 exact HK (fu p) (.mul h.num g (U4 _)) h.den k hk (by omega)
def Rc (K:PySem.W.Frag) (g:Rat→Rat→Rat):Sp:=λvs H Q _=>∃(a b:Addr) (p q:Rat),vs=[.ref a,.ref b]∧OH K H a p∧OH K H b q∧Sz 4000 p∧Sz 4000 q∧OZ H (g p q) Q
abbrev BG:Stmt:=(top 16)
abbrev qZ:List Str:=["one","two"]
theorem KH:L2.av ["one","two"] ["one","two"] (L2.aj BG):=dC
theorem JK {f:Addr} {fd:FuncData} (F:cg K "plus" "plus" BG f fd) (Z:ES mg) (cj:t9 P w K mg base 2 "fraction" dW gX):aO P w K mg base rF 3 f fd qZ (Rc K λp q=>p + q):=by
 refine F.ok KH (λvs H Q E h=>?_) (λcdv A outer s H vs Q E hr h=>?_)
 ·obtain ⟨a,b,p,q,rfl,_⟩:=h
  rfl
 obtain ⟨a,b,p,q,rfl,ha,hb,sp,sq,k⟩:=h
 refine ⟨_,(QB.run (bS (er (zl cj hr (by decide) rfl (aA (bH jF (bH cU (cD dh (pv 0) aT (λ_ _=>rfl)) (cD dh (pv 1) aT (λ_ _=>rfl))) (bH cU (cD dh (pv 1) aT (λ_ _=>rfl)) (cD dh (pv 0) aT (λ_ _=>rfl)))) (aA (bH cU (cD dh (pv 0) aT (λ_ _=>rfl)) (cD dh (pv 1) aT (λ_ _=>rfl))) bj)))))),?_⟩
 refine ⟨_,rfl,_,_,_,_,rfl,rfl,ha,rfl,_,rfl,_,_,_,_,rfl,rfl,hb,rfl,_,_,rfl,rfl,.of sp.num sq.den,_,rfl,_,_,_,_,rfl,rfl,hb,rfl,_,rfl,_,_,_,_,rfl,rfl,ha,rfl,_,_,rfl,rfl,.of sq.num sp.den,_,_,rfl,rfl,_,rfl,_,_,_,_,rfl,rfl,ha,rfl,_,rfl,_,_,_,_,rfl,rfl,hb,rfl,_,_,rfl,rfl,.of sp.den sq.den,_,_,rfl,wN p q,.mul sp.den sq.den,?_⟩
 rw [add_eq]
 exact k
abbrev xH:Stmt:=(top 17)
abbrev kW:List Str:=["one","two"]
theorem Hn:L2.av ["one","two"] ["one","two"] (L2.aj xH):=dC
theorem Gx {f:Addr} {fd:FuncData} (F:cg K "minus" "minus" xH f fd) (Z:ES mg) (cj:t9 P w K mg base 2 "fraction" dW gX):aO P w K mg base rF 3 f fd kW (Rc K λp q=>p - q):=by
 refine F.ok Hn (λvs H Q E h=>?_) (λcdv A outer s H vs Q E hr h=>?_)
 ·obtain ⟨a,b,p,q,rfl,_⟩:=h
  rfl
 obtain ⟨a,b,p,q,rfl,ha,hb,sp,sq,k⟩:=h
 refine ⟨_,(QB.run (bS (er (zl cj hr (by decide) rfl (aA (bH Bi (bH cU (cD dh (pv 0) aT (λ_ _=>rfl)) (cD dh (pv 1) aT (λ_ _=>rfl))) (bH cU (cD dh (pv 1) aT (λ_ _=>rfl)) (cD dh (pv 0) aT (λ_ _=>rfl)))) (aA (bH cU (cD dh (pv 0) aT (λ_ _=>rfl)) (cD dh (pv 1) aT (λ_ _=>rfl))) bj)))))),?_⟩
 refine ⟨_,rfl,_,_,_,_,rfl,rfl,ha,rfl,_,rfl,_,_,_,_,rfl,rfl,hb,rfl,_,_,rfl,rfl,.of sp.num sq.den,_,rfl,_,_,_,_,rfl,rfl,hb,rfl,_,rfl,_,_,_,_,rfl,rfl,ha,rfl,_,_,rfl,rfl,.of sq.num sp.den,_,_,rfl,rfl,_,rfl,_,_,_,_,rfl,rfl,ha,rfl,_,rfl,_,_,_,_,rfl,rfl,hb,rfl,_,_,rfl,rfl,.of sp.den sq.den,_,_,rfl,wN p q,.mul sp.den sq.den,?_⟩
 rw [sub_eq]
 exact k
abbrev xJ:Stmt:=(top 18)
abbrev oB:List Str:=["one","many"]
theorem Hr:L2.av ["one","many"] ["one","many"] (L2.aj xJ):=dC
def Dd (K:PySem.W.Frag):Sp:=λvs H Q _=>∃(a:Addr) (p:Rat) (m:Int),vs=[.ref a,.int m]∧OH K H a p∧Sz 9000 p∧Bd 9000 m∧OZ H (p * m) Q
theorem Gz {f:Addr} {fd:FuncData} (F:cg K "times" "times" xJ f fd) (Z:ES mg) (cj:t9 P w K mg base 2 "fraction" dW gX):aO P w K mg base rF 3 f fd oB (Dd K):=by
 refine F.ok Hr (λvs H Q E h=>?_) (λcdv A outer s H vs Q E hr h=>?_)
 ·obtain ⟨a,p,m,rfl,_⟩:=h
  rfl
 obtain ⟨a,p,m,rfl,ha,sp,bm,k⟩:=h
 refine ⟨_,(QB.run (bS (er (zl cj hr (by decide) rfl (aA (bH cU (cD dh (pv 0) aT (λ_ _=>rfl)) (pv 1)) (aA (cD dh (pv 0) aT (λ_ _=>rfl)) bj)))))),?_⟩
 refine ⟨_,rfl,_,_,_,_,rfl,rfl,ha,rfl,_,rfl,_,_,rfl,rfl,.of sp.num bm,_,rfl,_,_,_,_,rfl,rfl,ha,rfl,_,_,rfl,fu p,sp.den,?_⟩
 rw [mul_eq]
 exact k
abbrev BD:Stmt:=(top 19)
abbrev fG:List Str:=["one","two"]
theorem KD:L2.av ["one","two"] ["one","two"] (L2.aj BD):=dC
def HA (K:PySem.W.Frag):Sp:=λvs H Q _=>∃(a b:Addr) (p q:Rat),vs=[.ref a,.ref b]∧OH K H a p∧OH K H b q∧Sz 9000 p∧Sz 9000 q∧Q (.bl (decide (p < q))) H
theorem Ju (p q:Rat):decide (p.num * q.den < q.num * p.den)=decide (p < q):=decide_eq_decide.mpr (Rat.lt_iff p q).symm
theorem JJ {f:Addr} {fd:FuncData} (F:cg K "less" "less" BD f fd) (Z:ES mg):aO P w K mg base rF 1 f fd fG (HA K):=by
 refine F.ok KD (λvs H Q E h=>?_) (λcdv A outer s H vs Q E hr h=>?_)
 ·obtain ⟨a,b,p,q,rfl,_⟩:=h
  rfl
 obtain ⟨a,b,p,q,rfl,ha,hb,sp,sq,k⟩:=h
 refine ⟨_,(QB.run (bS (er (qX Cz (bH cU (cD dh (pv 0) aT (λ_ _=>rfl)) (cD dh (pv 1) aT (λ_ _=>rfl))) (bH cU (cD dh (pv 1) aT (λ_ _=>rfl)) (cD dh (pv 0) aT (λ_ _=>rfl))) (fw _))))),?_⟩
 refine ⟨_,rfl,_,_,_,_,rfl,rfl,ha,rfl,_,rfl,_,_,_,_,rfl,rfl,hb,rfl,_,_,rfl,rfl,.of sp.num sq.den,_,rfl,_,_,_,_,rfl,rfl,hb,rfl,_,rfl,_,_,_,_,rfl,rfl,ha,rfl,_,_,rfl,rfl,.of sq.num sp.den,_,_,rfl,rfl,?_⟩
 show Q (.bl (decide (p.num * q.den < q.num * p.den))) H
 rw [Ju]
 exact k
theorem Cq {K:PySem.W.Frag} {J:Hq} {H:Hp}:∀{ns:List Int} {vs:List V},aU K J H (ns.map PV.int) vs→vs=ns.map V.int
 | [],_,h=>h
 | n :: ns,_,⟨v,us,e,h,k⟩=>by subst e;cases h;rw [Cq k];rfl
theorem NL {K:PySem.W.Frag} {J:Hq} {H:Hp} {x:PV} {vs:List V} (h:aU K J H [x] vs):∃v,vs=[v]∧cH K J H x v:=by
 obtain ⟨v,us,rfl,h1,h2⟩:=h;cases h2;exact ⟨v,rfl,h1⟩
theorem j0 {K:PySem.W.Frag} {J:Hq} {H:Hp} {x y:PV} {vs:List V} (h:aU K J H [x,y] vs):∃v u,vs=[v,u]∧cH K J H x v∧cH K J H y u:=by
 obtain ⟨v,us,rfl,h1,u,us',rfl,h2,h3⟩:=h;cases h3;exact ⟨v,u,rfl,h1,h2⟩
theorem se {K:PySem.W.Frag} {J:Hq} {H:Hp} {q:Rat} {v:V} (h:cH K J H (fr q) v):∃a,v=.ref a∧OH K H a q:=by
 obtain ⟨a,vs,rfl,h1,h2⟩:=h
 obtain ⟨x,y,rfl,r1,r2⟩:=j0 h2
 cases r1;cases r2
 exact ⟨a,rfl,h1⟩
theorem xB {K:PySem.W.Frag} {J:Hq} {H:Hp} {q:Rat} {Q2:PV→Hq→Prop} {Q:VK} (r:Rep K J H) (k:Kn K J H Q2 Q) (h:Q2 (fr q) J):OZ H q Q:=λa H' s e =>
 k (fr q) J (.ref a) H' ⟨a,_,rfl,g8.of e,⟨_,_,rfl,rfl,_,_,rfl,rfl,rfl⟩⟩ (r.same s) (.same s) h
def BN:cu:=λxs J Q _=>∃(c:Int) (ss:List Int),xs=[.int c,.fl (ss.map .int)]∧(∀s∈ss,0 < s∧Bd 9000 s)∧ss.length≤1000∧∀ds,Dig ds ss→Q (.fl (ds.map .int)) J
theorem yR (C:t9 P w K mg base 1 "_law_digits" cZ (tO K)):bx P w K mg base 1 "_law_digits" cZ BN:=C.lift λxs J vs H Q2 E2 Q E rs r ⟨c,ss,ex,h0,h1,q⟩ kn=>by
 subst ex
 obtain ⟨v,u,rfl,r1,⟨a,ws,rfl,h2,h3⟩⟩:=j0 rs
 cases r1;cases Cq h3
 refine ⟨c,a,ss,rfl,h2.sq,h0,h1,λp H' ds hp s e D=>kn (.fl (ds.map .int)) J (.ref p) H' ⟨p,_,rfl,.inl ⟨r.free hp,.inl e⟩,pO ds⟩ (r.same s) (.same s) (q ds D)⟩
def jX:cu:=λxs J Q _=>∃t b:Int,xs=[.int t,.int b]∧0 < b∧Bd 9000 b∧Q (fr (Rat.divInt t b)) J
theorem Gh (C:t9 P w K mg base 1 "_law_low" dU Mb):bx P w K mg base 1 "_law_low" dU jX:=C.lift λxs J vs H Q2 E2 Q E rs r ⟨t,b,ex,h0,h1,q⟩ kn=>by
 subst ex
 obtain ⟨v,u,rfl,r1,r2⟩:=j0 rs
 cases r1;cases r2
 exact ⟨t,b,rfl,h0,h1,xB r kn q⟩
def dm:cu:=λxs J Q _=>∃p q:Rat,xs=[fr p,fr q]∧Sz 9000 p∧Sz 9000 q∧Q (.bl (decide (p < q))) J
theorem D5 (C:t9 P w K mg base 1 "less" fG (HA K)):bx P w K mg base 1 "less" fG dm:=C.lift λxs J vs H Q2 E2 Q E rs r ⟨p,q,ex,h0,h1,z⟩ kn=>by
 subst ex
 obtain ⟨v,u,rfl,r1,r2⟩:=j0 rs
 obtain ⟨a,rfl,f1⟩:=se r1
 obtain ⟨b,rfl,f2⟩:=se r2
 exact ⟨a,b,p,q,rfl,f1,f2,h0,h1,kn (.bl _) J _ H rfl r .refl z⟩
def BL (g:Rat→Rat→Rat):cu:=λxs J Q _=>∃p q:Rat,xs=[fr p,fr q]∧Sz 4000 p∧Sz 4000 q∧Q (fr (g p q)) J
theorem Lr {x:Str} {ps:List Str} {k:Nat} {g:Rat→Rat→Rat} (C:t9 P w K mg base k x ps (Rc K g)):bx P w K mg base k x ps (BL g):=C.lift λxs J vs H Q2 E2 Q E rs r ⟨p,q,ex,h0,h1,z⟩ kn=>by
 subst ex
 obtain ⟨v,u,rfl,r1,r2⟩:=j0 rs
 obtain ⟨a,rfl,f1⟩:=se r1
 obtain ⟨b,rfl,f2⟩:=se r2
 exact ⟨a,b,p,q,rfl,f1,f2,h0,h1,xB r kn z⟩
theorem D6 (C:t9 P w K mg base 3 "plus" qZ (Rc K λp q=>p + q)):bx P w K mg base 3 "plus" qZ (BL λp q=>p + q):=Lr C
theorem AZ (C:t9 P w K mg base 3 "minus" kW (Rc K λp q=>p - q)):bx P w K mg base 3 "minus" kW (BL λp q=>p - q):=Lr C
def tX:cu:=λxs J Q _=>∃(p:Rat) (m:Int),xs=[fr p,.int m]∧Sz 9000 p∧Bd 9000 m∧Q (fr (p * m)) J
theorem A3 (C:t9 P w K mg base 3 "times" oB (Dd K)):bx P w K mg base 3 "times" oB tX:=C.lift λxs J vs H Q2 E2 Q E rs r ⟨p,m,ex,h0,h1,z⟩ kn=>by
 subst ex
 obtain ⟨v,u,rfl,r1,r2⟩:=j0 rs
 obtain ⟨a,rfl,f1⟩:=se r1
 cases r2
 exact ⟨a,p,m,rfl,f1,h0,h1,xB r kn z⟩
def aZ.V (l:aZ):PV:=.tup [fr l.m,fr l.p,.int l.v]
theorem vV (m p:Rat) (v:Int):PV.tup [fr m,fr p,.int v]=(aZ.mk m p v).V:=rfl
theorem Ct (J:Hq) (l:aZ):fP J l.V (.int 0)=some (fr l.m):=d_ _ _
theorem Pt (J:Hq) (l:aZ):fP J l.V (.int 1)=some (fr l.p):=fZ _ _ _
theorem md (J:Hq) (l:aZ):fP J l.V (.int 2)=some (.int l.v):=ma _ _ _ _
theorem Sm (a b:aZ):eqQ a.V b.V=decide (a=b):=by
 unfold aZ.V
 rw [wB,eE,eE,eE,qN,Cb,Cb,eq_int,V1,← V7,← V7]
 apply decide_eq_decide.mpr
 cases a;cases b
 simp [aZ.mk.injEq]
theorem O1 (a b:aZ):(a.V=b.V)=(a=b):=by
 apply propext
 constructor
 ·intro e
  have:=Sm a b
  rw [e,eq_self] at this
  exact of_decide_eq_true this.symm
 ·intro e;rw [e]
def j9:cu:=λxs J Q _=>∃(l:aZ) (t:Rat),xs=[l.V,fr t]∧Sz 900 l.m∧Sz 900 l.p∧Sz 900 t∧Bd 64 l.v∧Q (fr (l.at t)) J
abbrev m_:Stmt:=(top 27)
abbrev eZ:List Str:=["leg","moment"]
theorem ib:L2.av ["leg","moment","begun","place","pace"] ["leg","moment"] (L2.aj m_):=dC
theorem xb {f:Addr} {fd:FuncData} (F:cg K "place_on" "place_on" m_ f fd) (Z:bN mg) (Aj:bx P w K mg base 3 "plus" qZ (BL λp q=>p + q)) (nB:bx P w K mg base 3 "minus" kW (BL λp q=>p - q)) (wa:bx P w K mg base 3 "times" oB tX) :
  aO P w K mg base (cK P w) 4 f fd eZ (dg K j9):=by
 simp_arith [ib,(ai (xC (rv 0) (tq (n:=3) rfl (dy (bK (i:=2) ib.nd) (dy (bK (i:=3) ib.nd) (dy (bK (i:=4) ib.nd) oF)))))
   (ak (ay (aQ Aj B hr (af (rv 3) (af (aQ wa B hr (af (aQ nB B hr (af (rv 1) (af (rv 2) ah))) (af (rv 4) ah))) ah))))))]
 ·obtain ⟨l,t,rfl,_⟩:=h;rfl
 obtain ⟨l,t,rfl,sb,sp,sm,bv,q⟩:=h
 have s1:Sz 1801 (t - l.m):=sm.sub sb
 have s2:Sz 1900 ((t - l.m) * (l.v:Rat)):=s1.mul bv
 refine hX ?_
 simp_arith! [bE,aZ.V,BL,tX]
 exact ⟨sm.mono (by decide),sb.mono (by decide),s1.mono (by decide),bv.mono (by decide),sp.mono (by decide),s2.mono (by decide),q⟩
theorem M5 (n:Int):PV.tup [.int n,.int 1]=fr (n:Rat):=rfl
theorem lN (p q:Rat):p.num * (q.den:Int)=q.num * (p.den:Int)↔p=q:=by
 have a:=cast_eq p
 have b:=cast_eq q
 have c:=eD p
 have d:=eD q
 constructor
 ·intro h
  have h':((p.num * (q.den:Int):Int):Rat)=((q.num * (p.den:Int):Int):Rat):=by rw [h]
  rw [Rat.intCast_mul,Rat.intCast_mul,a,b] at h'
  grind
 ·intro h;rw [h]
def gv:Option Rat→PV
 | none=>.non
 | some q=>fr q
structure ET (cL:Addr) (J:Hq) (p r:Addr) (rows:List aZ) (g:Option Rat):Prop where
 o:J p=some (.ins cL [("rows",.ref r),("gone",gv g)])
 l:J r=some (.lst (rows.map aZ.V))
theorem ET.ne {cL:Addr} {J:Hq} {p r:Addr} {rows:List aZ} {g:Option Rat} (h:ET cL J p r rows g):r≠p:=by
 intro e;subst e;have:=h.o;rw [h.l] at this;cases this
structure oX (n:Nat) (l:aZ):Prop where
 m:Sz n l.m
 p:Sz n l.p
 v:Bd 64 l.v
theorem oX.mono {n k:Nat} {l:aZ} (h:oX n l) (e:n≤k):oX k l:=⟨h.m.mono e,h.p.mono e,h.v⟩
theorem Jv (a b:PV):([("rows",a),("gone",b)]:List (Str × PV)).lookup ("rows":Str)=some a:=rfl
theorem Uk (a b:PV):([("rows",a),("gone",b)]:List (Str × PV)).lookup ("gone":Str)=some b:=rfl
theorem A4 {m:Str} (a b:PV) (h:(m == ("rows":Str))=false) (k:(m == ("gone":Str))=false):([("rows",a),("gone",b)]:List (Str × PV)).lookup m=none:=by rw [Vs,h];simp only;rw [Vs,k];rfl
theorem PY (a b:PV):([("rows",a),("gone",b)]:List (Str × PV)).lookup ("turn":Str)=none:=A4 a b (by decide +kernel) (by decide +kernel)
theorem SK (a b:PV):([("rows",a),("gone",b)]:List (Str × PV)).lookup ("leave":Str)=none:=A4 a b (by decide +kernel) (by decide +kernel)
theorem SM (a b:PV):([("rows",a),("gone",b)]:List (Str × PV)).lookup ("legs":Str)=none:=A4 a b (by decide +kernel) (by decide +kernel)
theorem SN (a b:PV):([("rows",a),("gone",b)]:List (Str × PV)).lookup ("left":Str)=none:=A4 a b (by decide +kernel) (by decide +kernel)
theorem SO (a b:PV):([("rows",a),("gone",b)]:List (Str × PV)).lookup ("there":Str)=none:=A4 a b (by decide +kernel) (by decide +kernel)
theorem PZ (a b:PV):([("rows",a),("gone",b)]:List (Str × PV)).lookup ("leg_at":Str)=none:=A4 a b (by decide +kernel) (by decide +kernel)
theorem SQ (a b:PV):([("rows",a),("gone",b)]:List (Str × PV)).lookup ("place":Str)=none:=A4 a b (by decide +kernel) (by decide +kernel)
theorem Ly:(("rows":Str)=("gone":Str))=False:=eq_false (by decide +kernel)
theorem i4 {J:Hq} {l:Addr} {o:HQ} (h:J l=none):oY J (put J l o):=λa=>by
 by_cases e:a=l
 ·subst e;exact .inr h
 ·rw [aw e];exact .inl rfl
theorem Kd (x z:PV):pN ("gone":Str) z (pN ("rows":Str) x [])=([("rows",x),("gone",z)]:List (Str × PV)):=by simp only [pN,Ly,if_false]
abbrev gS:Stmt:=(L2.inClass (top 31) 0)
abbrev j5:List Str:=["self","moment","place","pace"]
theorem qJ:L2.av ["self","moment","place","pace"] ["self","moment","place","pace"] (L2.aj gS):=dC
def C0 (cL:Addr):cu:=λxs J Q _=>∃(p:Addr) (l:aZ),xs=[.ref p,fr l.m,fr l.p,.int l.v]∧J p=some (.ins cL [])∧∀r,J r=none→Q .non (put (put J r (.lst [l.V])) p (.ins cL [("rows",.ref r),("gone",.non)]))
theorem yZ {cL f:Addr} {fd:FuncData} (F:cg K "__init__" "Log.__init__" gS f fd) (bz:dJ K mg "Log" cL) (aY:aK K cL "rows") (bR:aK K cL "gone"):aO P w K mg base (cK P w) 1 f fd j5 (dg K (C0 cL)):=by
 simp_arith [qJ,(ai (iE bz.cl aY (rv 0) (mZ (af (cE (af (rv 1) (af (rv 2) (af (rv 3) ah)))) ah)))
   (ak (iE bz.cl bR (rv 0) k4)))]
 ·obtain ⟨p,l,rfl,_⟩:=h;rfl
 obtain ⟨p,l,rfl,hp,q⟩:=h
 refine hX ?_
 simp_arith! [bE,vV]
 intro r hr'
 have ne:p≠r:=by intro e;subst e;rw [hp] at hr';cases hr'
 refine mV (by rw [aw ne];exact hp) ⟨by decide,mV ax ⟨by show (1:Nat) < 1000;decide,?_⟩⟩
 rw [fh,Kd]
 exact q r hr'
abbrev m5:Stmt:=(L2.inClass (top 31) 1)
abbrev kP:List Str:=["self","moment","pace"]
theorem qp:L2.av ["self","moment","pace","place"] ["self","moment","pace"] (L2.aj m5):=dC
def x6 (cL:Addr):cu:=λxs J Q _=>∃p r rows g t v,xs=[.ref p,fr t,.int v]∧ET cL J p r rows g∧rows≠[]∧rows.length≤900∧Sz 900 t∧(∀l∈rows,oX 900 l)∧Q .non (put J r (.lst ((turned rows t v).map aZ.V)))
theorem y4 {cL f:Addr} {fd:FuncData} (F:cg K "turn" "Log.turn" m5 f fd) (Z:bN mg) (bz:dJ K mg "Log" cL) (aY:aK K cL "rows") (cy:bx P w K mg base 4 "place_on" eZ j9):aO P w K mg base (cK P w) 5 f fd kP (dg K (x6 cL)):=by
 simp_arith [qp,(ai (aE (i:=3) qp.nd (aQ cy B hr (af (aq ar (aW bz.cl aY (rv 0)) (vM p9 ag)) (af (rv 1) ah))))
   (fi (aR (aB (bT hr.aL) (aq ar (aq ar (aW bz.cl aY (rv 0)) (vM p9 ag)) ag) (rv 1)) (ak (aX (N6 PySem.F.plainAttrs_list PySem.F.slot_list_pop PySem.F.type_list_pop Nv (aW bz.cl aY (rv 0))))) aF)
   (ai (aR (cP (dk (Hk (aW bz.cl aY (rv 0))) (cF (aB (bT hr.aL) (aq ar (aq ar (aW bz.cl aY (rv 0)) (vM p9 ag)) ag) (rv 2))))) (ak Kz) aF)
   (ak (aX (mC PySem.F.plainAttrs_list PySem.F.slot_list_append PySem.F.type_list_append pA (aW bz.cl aY (rv 0)) (af (cE (af (rv 1) (af (rv 3) (af (rv 2) ah)))) ah)))))))]
 ·obtain ⟨p,r,rows,g,t,v,rfl,_⟩:=h;rfl
 obtain ⟨p,r,rows,g,t,v,rfl,b,hne,hl,st,sl,q⟩:=h
 obtain ⟨ls,l,rfl⟩:∃ls l,rows=ls ++ [l]:=⟨rows.dropLast,rows.getLast hne,(Vx hne).symm⟩
 have bo:=b.o
 have bl:=b.l
 have npr:=b.ne
 have sl':=sl l (by simp)
 have hla:dF ((ls ++ [l]).map aZ.V) (-1)=some l.V:=by rw [U7];exact B2 _ _
 refine hX ?_
 simp_arith! [bE,bo,bl,Jv]
 refine kM hla ⟨l,t,rfl,sl'.m,sl'.p,st,sl'.v,?_⟩
 obtain ⟨M,hM⟩:∃M:Sr→Hq→Prop,∀τ' J',M τ' J'↔τ'=[some (.ref p),some (fr t),some (.int v),some (fr (l.at t))]∧J'=put J r (.lst ((if l.m=t then ls else ls ++ [l]).map aZ.V)):=⟨_,λ_ _=>Iff.rfl⟩
 refine ⟨M,?_,?_⟩
 ·simp_arith! [bE,bo,bl,Jv,hla,Ct]
  split
  ·rename_i e
   refine ⟨l.V,by simp,(hM _ _).mpr ⟨rfl,?_⟩⟩
   rw [if_pos e,U7,U6,VV,Wx]
  ·rename_i e
   exact (hM _ _).mpr ⟨rfl,by rw [if_neg e,Bx bl]⟩
 ·intro τ' J' hm
  obtain ⟨rfl,rfl⟩:=(hM _ _).mp hm
  clear hm hM M
  have et:turned (ls ++ [l]) t v=if (if l.m=t then ls else ls ++ [l]).getLast?.map aZ.v=some v then (if l.m=t then ls else ls ++ [l]) else (if l.m=t then ls else ls ++ [l]) ++ [⟨t,l.at t,v⟩]:=by
   unfold turned
   simp only [Vw,Wx]
  have hrl:(if l.m=t then ls else ls ++ [l]).length≤900:=by
   split
   ·rw [Vg] at hl;omega
   ·exact hl
  rw [et] at q
  generalize (if l.m=t then ls else ls ++ [l])=rest at q hrl ⊢
  simp_arith! [bE,aw (Ne.symm npr),bo,Jv,fh,vV]
  rcases List.eq_nil_or_concat rest with rfl | ⟨ks,k,rfl⟩
  ·simp only [List.getLast?_nil,Option.map_none,reduceCtorEq,if_false,List.nil_append] at q
   simpa [Ls,sizeLine] using q
  ·rw [List.concat_eq_append] at *
   rw [Vw,WU] at q
   have hk:dF ((ks ++ [k]).map aZ.V) (-1)=some k.V:=by rw [U7];exact B2 _ _
   rw [if_pos (by simp)]
   simp_arith! [bE,aw (Ne.symm npr),bo,Jv,hk,md,UZ]
   by_cases e:k.v=v
   ·rw [if_pos e];rw [if_pos (congrArg some e)] at q;exact q
   ·rw [if_neg e];rw [if_neg (λz=>e (Option.some.inj z))] at q
    simp_arith! [bE,aw (Ne.symm npr),bo,Jv,fh,vV,UZ]
    refine ⟨bp (by omega),?_⟩
    rw [U7] at q
    exact q
abbrev m4:Stmt:=(L2.inClass (top 31) 3)
abbrev qk:List Str:=["self"]
theorem zE:L2.av ["self"] ["self"] (L2.aj m4):=dC
def C2 (cL:Addr):cu:=λxs J Q _=>∃p r rows g,xs=[.ref p]∧ET cL J p r rows g∧(Q (.fl (rows.map aZ.V)) J∨∀l,J l=none→Q (.ref l) (put J l (.lst (rows.map aZ.V))))
theorem y3 {cL f:Addr} {fd:FuncData} (F:cg K "legs" "Log.legs" m4 f fd) (Z:bN mg) (bz:dJ K mg "Log" cL) (aY:aK K cL "rows"):aO P w K mg base (cK P w) 1 f fd qk (dg K (C2 cL)):=by
 simp_arith [zE,(ak (ay (fC rX rfl Z.list boot_list (af (aW bz.cl aY (rv 0)) ah)))),F]
 ·obtain ⟨p,r,rows,g,rfl,_⟩:=h;rfl
 obtain ⟨p,r,rows,g,rfl,b,q⟩:=h
 have bo:=b.o
 have bl:=b.l
 refine hX ?_
 simp_arith! [bE,bo,bl,Jv]
 intro l hl
 rcases q with q | q
 ·exact Fg.qO (i4 hl) ax hl q
 ·exact Fg.same (q l hl)
abbrev m3:Stmt:=(L2.inClass (top 31) 4)
abbrev qj:List Str:=["self"]
theorem zD:L2.av ["self"] ["self"] (L2.aj m3):=dC
def C1 (cL:Addr):cu:=λxs J Q _=>∃p r rows g,xs=[.ref p]∧ET cL J p r rows g∧Q (gv g) J
theorem y0 {cL f:Addr} {fd:FuncData} (F:cg K "left" "Log.left" m3 f fd) (Z:bN mg) (bz:dJ K mg "Log" cL) (bR:aK K cL "gone"):aO P w K mg base (cK P w) 1 f fd qj (dg K (C1 cL)):=by
 simp_arith [zD,(ak (ay (aW bz.cl bR (rv 0))))]
 ·obtain ⟨p,r,rows,g,rfl,_⟩:=h;rfl
 obtain ⟨p,r,rows,g,rfl,b,q⟩:=h
 have bo:=b.o
 refine hX ?_
 simp_arith! [bE,bo,Uk]
 exact q
theorem UJ {rows:List aZ} {i:Nat} {b:aZ} (h:rows[i]?=some b):dF (rows.map aZ.V) (i:Int)=some b.V:=bA (by rw [U8,h];rfl)
abbrev pQ:Stmt:=(top 21)
abbrev sW:List Str:=["rows","moment"]
theorem ni:L2.av ["rows","moment","at"] ["rows","moment"] (L2.aj pQ):=dC
def zO:cu:=λxs J Q _=>∃(x:PV) (t:Rat) (ys:List PV) (ms:List Rat),xs=[x,fr t]∧me J x=some ys∧ys.length=ms.length∧ms.length≤900∧(∀(i:Nat) y m,ys[i]?=some y→ms[i]?=some m→fP J y (.int 0)=some (fr m))∧Sz 9000 t∧(∀m∈ms,Sz 9000 m)∧Q (.int ((lb ms t ms.length:Int) - 1)) J
theorem y8 {f:Addr} {fd:FuncData} (F:cg K "last_by" "last_by" pQ f fd) (Z:bN mg) (dO:bx P w K mg base 1 "less" fG dm):aO P w K mg base (cK P w) 2 f fd sW (dg K zO):=by
 simp_arith [ni,(ai (aE (i:=2) ni.nd (aG dD (aI bV rfl Z.len boot_len (af (rv 0) ah)) ag))
   (ai (k7 b_ (cP (dk (aB CA (rv 2) ag) (cF (bX (aQ dO B hr (af (rv 1) (af (aq ar (aq ar (rv 0) (rv 2)) ag) ah))))))) (ak (Hi (i:=2) ni.nd ag FX)))
   (ak (ay (rv 2)))))]
 ·obtain ⟨x,t,ys,ms,rfl,_⟩:=h;rfl
 obtain ⟨x,t,ys,ms,rfl,hx,hlen,hl,h0,st,sm,q⟩:=h
 refine hX ?_
 simp_arith! [bE,Gk hx,hlen]
 refine ⟨λk τ J'=>∃j:Nat,τ=[some x,some (fr t),some (.int ((j:Int) - 1))]∧J'=J∧j≤ms.length∧k=j∧lb ms t ms.length=lb ms t j,⟨_,ms.length,rfl,rfl,U4 _,rfl,rfl⟩,?_⟩
 rintro k τ J' ⟨j,rfl,rfl,hj,rfl,hb⟩
 simp_arith! [bE,Lv hx,dm]
 cases k with
 | zero =>
  rw [if_neg (by omega)]
  rw [hb] at q
  exact q
 | succ k =>
  rw [if_pos (by omega)]
  obtain ⟨y,hy⟩:∃y,ys[k]?=some y:=⟨_,U2 (by omega)⟩
  obtain ⟨m,hm⟩:∃m,ms[k]?=some m:=⟨_,U2 (by omega)⟩
  have ha:dF ys (((k + 1:Nat):Int) - 1)=some y:=by
   have:((k + 1:Nat):Int) - 1=(k:Int):=by omega
   rw [this];exact bA hy
  have em:ms.getD k 0=m:=by simp [XE,hm]
  have hu:lb ms t (k + 1)=if m≤t then k + 1 else lb ms t k:=by
   show (if ms.getD k 0≤t then k + 1 else lb ms t k)=_
   rw [em]
  refine kM ha (kM (h0 k y m hy hm) ?_)
  simp_arith! [bE]
  refine ⟨st,sm m (U3 hm),?_⟩
  by_cases c:t < m
  ·rw [if_pos c]
   have hn:¬ m≤t:=Rat.not_le.mpr c
   rw [if_neg hn] at hu
   refine ⟨λτ J''=>τ=[some x,some (fr t),some (.int ((k:Int) - 1))]∧J''=J',λτ' J'' ⟨e1,e2⟩=>⟨k,Wc _,k,e1,e2,by omega,rfl,by rw [hb,hu]⟩,?_⟩
   simp_arith! [bE]
   have:((k + 1:Nat):Int) - 1 - 1=(k:Int) - 1:=by omega
   exact this
  ·rw [if_neg c]
   rw [if_pos (Rat.not_lt.mp c)] at hu
   rw [hb,hu] at q
   exact q
abbrev lz:Stmt:=(L2.inClass (top 31) 5)
abbrev oj:List Str:=["self","moment"]
theorem oI:L2.av ["self","moment","joined"] ["self","moment"] (L2.aj lz):=dC
def zN (cL:Addr):cu:=λxs J Q _=>∃p r rows g t,xs=[.ref p,fr t]∧ET cL J p r rows g∧rows≠[]∧Sz 900 t∧(∀l∈rows,oX 900 l)∧(∀q,g=some q→Sz 900 q)∧Q (.bl (there rows g t)) J
theorem w6 {cL f:Addr} {fd:FuncData} (F:cg K "there" "Log.there" lz f fd) (Z:bN mg) (bz:dJ K mg "Log" cL) (aY:aK K cL "rows") (bR:aK K cL "gone") (dO:bx P w K mg base 1 "less" fG dm):aO P w K mg base (cK P w) 2 f fd oj (dg K (zN cL)):=by
 simp_arith [oI,(ai (aE (i:=2) oI.nd (aq ar (aq ar (aW bz.cl aY (rv 0)) ag) ag))
   (ai (aR (bX (aQ dO B hr (af (rv 1) (af (rv 2) ah)))) (ak (ay ed)) aF)
   (ak (ay (Q9 (eQ Qi (aW bz.cl bR (rv 0)) k4) (xA (aQ dO B hr (af (rv 1) (af (aW bz.cl bR (rv 0)) ah)))))))))]
 ·obtain ⟨p,r,rows,g,t,rfl,_⟩:=h;rfl
 obtain ⟨p,r,rows,g,t,rfl,b,hne,st,sl,sg,q⟩:=h
 have bo:=b.o
 have bl:=b.l
 obtain ⟨l,ls,rfl⟩:∃l ls,rows=l :: ls:=V_ hne
 have sl':=(sl l (by simp)).m
 refine hX ?_
 simp_arith! [bE,bo,bl,Jv,Uk,Ct,dm]
 refine ⟨st.mono (by decide),sl'.mono (by decide),?_⟩
 unfold there at q
 simp only [WA] at q
 by_cases c:t < l.m
 ·rw [if_pos c]
  rw [decide_eq_true c] at q
  exact q
 ·rw [if_neg c]
  rw [decide_eq_false c] at q
  cases g with
  | none=>simpa [gv,Po,Mh,O_] using q
  | some u =>
   simp only [gv,su,Vd,if_false]
   simp only [O_] at q
   refine ⟨u,rfl,st.mono (by decide),(sg u rfl).mono (by decide),?_⟩
   simpa using q
abbrev jW:Stmt:=(L2.inClass (top 31) 6)
abbrev iy:List Str:=["self","moment"]
theorem ve:L2.av ["self","moment"] ["self","moment"] (L2.aj jW):=dC
def tP (cL eN:Addr):cu:=λxs J Q E=>∃p r rows g t,xs=[.ref p,fr t]∧ET cL J p r rows g∧rows≠[]∧rows.length≤900∧Sz 900 t∧(∀l∈rows,oX 900 l)∧(∀q,g=some q→Sz 900 q)∧(there rows g t=true→∀l,sx rows t=some l→Q l.V J)∧(there rows g t=false→E eN J)
theorem uT {cL eN f:Addr} {fd:FuncData} (F:cg K "leg_at" "Log.leg_at" jW f fd) (Z:bN mg) (bz:dJ K mg "Log" cL) (aY:aK K cL "rows") (fq:Own K mg "NotThere" eN) (kK:bU P w K mg base cL 2 "there" oj (zN cL))
  (Du:bx P w K mg base 2 "last_by" sW zO):aO P w K mg base (cK P w) 3 f fd iy (dg K (tP cL eN)):=by
 simp_arith [ve,(ai (aR (dj (bX (aV (pl:=_) kK B hr (rv 0) (af (rv 1) ah)))) (ak (dX fq rfl cA B.kn rfl (af bF ah))) aF)
   (ak (ay (aq ar (aW bz.cl aY (rv 0)) (aQ Du B hr (af (aW bz.cl aY (rv 0)) (af (rv 1) ah)))))))]
 ·obtain ⟨p,r,rows,g,t,rfl,_⟩:=h;rfl
 obtain ⟨p,r,rows,g,t,rfl,b,hne,hl,st,sl,sg,q,qe⟩:=h
 have bo:=b.o
 have bl:=b.l
 refine hX ?_
 simp_arith! [bE,bo,bl,Jv]
 refine ⟨SO _ _,p,r,rows,g,t,rfl,b,hne,st,sl,sg,?_⟩
 simp_arith! [bE,fB,bo,bl,Jv]
 cases hc:there rows g t with
 | false=>rw [if_pos rfl];exact qe hc
 | true =>
  rw [if_neg (by decide)]
  obtain ⟨l,h1,h2,h3,h4,h5⟩:=HW hc
  refine ⟨_,t,rows.map aZ.V,rows.map aZ.m,rfl,by simp_arith! [bE,bl],by simp,by simpa using hl,?_,st.mono (by decide),?_,?_⟩
  ·intro i y m hy hm
   rw [U8] at hy hm
   cases e:rows[i]? with
   | none=>rw [e] at hy;cases hy
   | some z=>rw [e] at hy hm;cases hy;cases hm;exact Ct _ _
  ·intro m hm
   obtain ⟨z,hz,rfl⟩:=U0.mp hm
   exact (sl z hz).m.mono (by decide)
  ·rw [UZ]
   simp_arith! [bE,bl]
   refine kM (x:=l.V) ?_ (q hc l h1)
   have:((lb (rows.map aZ.m) t rows.length:Nat):Int) - 1=((lb (rows.map aZ.m) t rows.length - 1:Nat):Int):=by omega
   rw [this]
   exact UJ h5
abbrev ly:Stmt:=(L2.inClass (top 31) 7)
abbrev oi:List Str:=["self","moment"]
theorem xS:L2.av ["self","moment"] ["self","moment"] (L2.aj ly):=dC
def zM (cL eN:Addr):cu:=λxs J Q E=>∃p r rows g t,xs=[.ref p,fr t]∧ET cL J p r rows g∧rows≠[]∧rows.length≤900∧Sz 900 t∧(∀l∈rows,oX 900 l)∧(∀q,g=some q→Sz 900 q)∧(there rows g t=true→∀l,sx rows t=some l→Q (fr (l.at t)) J)∧(there rows g t=false→E eN J)
theorem wZ {cL eN f:Addr} {fd:FuncData} (F:cg K "place" "Log.place" ly f fd) (Z:bN mg) (d6:bU P w K mg base cL 3 "leg_at" iy (tP cL eN))
  (cy:bx P w K mg base 4 "place_on" eZ j9):aO P w K mg base (cK P w) 5 f fd oi (dg K (zM cL eN)):=by
 simp_arith [xS,(ak (ay (aQ cy B hr (af (aV (pl:=_) d6 B hr (rv 0) (af (rv 1) ah)) (af (rv 1) ah)))))]
 ·obtain ⟨p,r,rows,g,t,rfl,_⟩:=h;rfl
 obtain ⟨p,r,rows,g,t,rfl,b,hne,hl,st,sl,sg,q,qe⟩:=h
 have bo:=b.o
 refine hX ?_
 simp_arith! [bE,bo]
 refine ⟨PZ _ _,p,r,rows,g,t,rfl,b,hne,hl,st,sl,sg,λhc l h1=>?_,qe⟩
 have hm:l∈rows:=(U_.mp (W2 h1)).1
 exact ⟨l,t,rfl,(sl l hm).m,(sl l hm).p,st,(sl l hm).v,q hc l h1⟩
abbrev lq:Stmt:=(L2.inClass (top 31) 2)
abbrev oh:List Str:=["self","moment"]
theorem xR:L2.av ["self","moment"] ["self","moment"] (L2.aj lq):=dC
def zL (cL:Addr):cu:=λxs J Q _=>∃p r rows g t,xs=[.ref p,fr t]∧ET cL J p r rows g∧Q .non (put J p (.ins cL [("rows",.ref r),("gone",fr t)]))
theorem wY {cL f:Addr} {fd:FuncData} (F:cg K "leave" "Log.leave" lq f fd) (Z:bN mg) (bz:dJ K mg "Log" cL) (bR:aK K cL "gone"):aO P w K mg base (cK P w) 1 f fd oh (dg K (zL cL)):=by
 simp_arith [xR,(ak (iE bz.cl bR (rv 0) (rv 1)))]
 ·obtain ⟨p,r,rows,g,t,rfl,_⟩:=h;rfl
 obtain ⟨p,r,rows,g,t,rfl,b,q⟩:=h
 have bo:=b.o
 refine hX ?_
 simp_arith! [bE,bo,Ly]
 exact ⟨by decide,q⟩
theorem kr {l:aZ} {t:Rat} (h:oX 900 l) (sm:Sz 900 t):Sz 3000 (l.at t):=by
 have s1:Sz 1801 (t - l.m):=sm.sub h.m
 have s2:Sz 1900 ((t - l.m) * (l.v:Rat)):=s1.mul h.v
 exact h.p.add s2
abbrev iI:Stmt:=(top 29)
abbrev kU:List Str:=["name","leg","other_name","other_leg","moment"]
theorem gW:L2.av ["name","leg","other_name","other_leg","moment","place","other_place"] ["name","leg","other_name","other_leg","moment"] (L2.aj iI):=dC
def HB:cu:=λxs J Q _=>∃(n n':Str) (l l':aZ) (t:Rat),xs=[.str n,l.V,.str n',l'.V,fr t]∧oX 900 l∧oX 900 l'∧Sz 900 t∧Q (.bl ((key t (n,l)).lt (key t (n',l')))) J
theorem qF {f:Addr} {fd:FuncData} (F:cg K "lies_behind" "lies_behind" iI f fd) (Z:bN mg) (cy:bx P w K mg base 4 "place_on" eZ j9) (dO:bx P w K mg base 1 "less" fG dm):aO P w K mg base (cK P w) 5 f fd kU (dg K HB):=by
 simp_arith [gW,(ai (aE (i:=5) gW.nd (aQ cy B hr (af (rv 1) (af (rv 4) ah))))
   (ai (aE (i:=6) gW.nd (aQ cy B hr (af (rv 3) (af (rv 4) ah))))
   (ai (aR (aB (h_ hr.aL) (rv 5) (rv 6)) (ak (ay (aQ dO B hr (af (rv 5) (af (rv 6) ah))))) aF)
   (ai (aR (aB (h_ hr.aL) (aq ar (rv 1) ag) (aq ar (rv 3) ag)) (ak (ay (eQ gL (aq ar (rv 1) ag) (aq ar (rv 3) ag)))) aF)
   (ak (ay (eQ Bj (rv 0) (rv 2))))))))]
 ·obtain ⟨n,n',l,l',t,rfl,_⟩:=h;rfl
 obtain ⟨n,n',l,l',t,rfl,sl,sl',st,q⟩:=h
 refine hX ?_
 simp_all! []
 refine ⟨l,t,rfl,sl.m,sl.p,st,sl.v,?_⟩
 simp_all! []
 refine ⟨l',t,rfl,sl'.m,sl'.p,st,sl'.v,?_⟩
 have a1:=kr sl st
 have a2:=kr sl' st
 simp_all! []
 unfold Ky.lt key at q
 dsimp only at q
 by_cases e:l.at t=l'.at t
 ·rw [if_pos e] at q
  rw [if_pos e]
  simp_all! [md]
  by_cases e2:l.v=l'.v
  ·rw [if_pos e2] at q
   rw [if_pos e2]
   simp_all! []
   exact q
  ·rw [if_neg e2] at q
   rw [if_neg e2]
   simp_all! [md]
   exact q
 ·rw [if_neg e] at q
  rw [if_neg e]
  simp_all! [dm]
  exact ⟨a1.mono (by decide),a2.mono (by decide),q⟩
abbrev m8:Stmt:=(top 43)
abbrev qo:List Str:=["legs","moment"]
theorem fL:L2.av ["legs","moment","names","name","at"] ["legs","moment"] (L2.aj m8):=dC
def bC (fs:List (Str × aZ)):List (Str × PV):=fs.map λx=>(x.1,x.2.V)
def vS:cu:=λxs J Q _=>∃(D:Addr) (fs:List (Str × aZ)) (ep:Nat) (t:Rat),xs=[.ref D,fr t]∧J D=some (.dct (bC fs) ep)∧(fs.map (·.1)).Nodup∧fs.length≤100∧Sz 900 t∧(∀x∈fs,oX 900 x.2)∧∀p,J p=none→Q (.ref p) (put J p (.lst ((cO t fs).map .str)))
theorem w_ {f:Addr} {fd:FuncData} (F:cg K "in_order" "in_order" m8 f fd) (Z:bN mg) (ue:bx P w K mg base 5 "lies_behind" kU HB):aO P w K mg base (cK P w) 6 f fd qo (dg K vS):=by
 simp_arith [fL,(ai (aE (i:=2) fL.nd (mZ ah))
   (ai (eu b_ rfl (q_ (rv 0)) (bK (i:=3) fL.nd) (ai (aE (i:=4) fL.nd (aI bV rfl Z.len boot_len (af (rv 2) ah)))
   (ai (k7 b_ (cP (dk (aB j3 (rv 4) ag) (cF (bX (aQ ue B hr (af (rv 3) (af (aq cR (rv 0) (rv 3)) (af (aq ar (rv 2) (aG dD (rv 4) ag)) (af (aq cR (rv 0) (aq ar (rv 2) (aG dD (rv 4) ag))) (af (rv 1) ah)))))))))) (ak (Hi (i:=4) fL.nd ag FX)))
   (ak (aX (mC PySem.F.plainAttrs_list PySem.F.slot_list_insert PySem.F.type_list_insert lR (rv 2) (af (rv 4) (af (rv 3) ah))))))))
   (ak (ay (rv 2)))))]
 ·obtain ⟨D,fs,ep,t,rfl,_⟩:=h;rfl
 obtain ⟨D,fs,ep,t,rfl,hD,hnd,hlen,st,sl,q⟩:=h
 refine hX ?_
 simp_all! []
 intro r hr'
 have nDr:D≠r:=by intro e;subst e;rw [hD] at hr';cases hr'
 simp_all! [aw nDr,hD]
 have hkv:(bC fs).map (λkv=>PV.str kv.1)=fs.map λx=>PV.str x.1:=by unfold bC;rw [U'];rfl
 rw [hkv]
 obtain ⟨Inv,hInv⟩:∃Inv:Nat→Sr→Hq→Prop,∀i τ J',Inv i τ J'↔∃(u3 u4:Option PV),τ=[some (.ref D),some (fr t),some (.ref r),u3,u4]∧J'=put J r (.lst ((cO t (fs.take i)).map .str)):=⟨_,λ_ _ _=>Iff.rfl⟩
 refine gA Inv ((hInv _ _ _).mpr ⟨_,_,rfl,rfl⟩) (λi τ J' h=>?_) ?_ ?_
 ·obtain ⟨_,_,_,rfl⟩:=(hInv _ _ _).mp h
  rw [aw nDr];exact hD
 ·intro i x τ J' hx hv
  obtain ⟨u3,u4,rfl,rfl⟩:=(hInv _ _ _).mp hv
  clear hv
  have hi:i < fs.length:=by have:=(U1.mp hx).1;simpa using this
  rw [U8,U2 hi] at hx
  cases hx
  rcases hfi:fs[i] with ⟨n,l⟩
  have hmem:(n,l)∈fs:=by rw [← hfi];exact VG hi
  have et:fs.take (i + 1)=fs.take i ++ [(n,l)]:=by rw [Vv,U2 hi,hfi];rfl
  have hndt:((fs.take (i + 1)).map (·.1)).Nodup:=by rw [V2];exact hnd.sublist (V9 _ _)
  rw [et,U7,U6,VV] at hndt
  obtain ⟨hnd1,hnew⟩:=gH hndt
  obtain ⟨ys,hys⟩:∃ys,cI ((fs.take i).map (key t))=ys:=⟨_,rfl⟩
  have srt:o7 Ky.lt ys:=by rw [← hys];exact cY (by rw [dz];exact hnd1)
  have hyl:ys.length=i:=by rw [← hys,i7,UZ,Vp];omega
  have hym:∀y∈ys,∃l',(y.n,l')∈fs∧y=key t (y.n,l')∧y.n≠n:=λy hy=>by
   rw [← hys,bD,U0] at hy
   obtain ⟨x',hx',rfl⟩:=hy
   exact ⟨x'.2,VI hx',rfl,λe=>hnew (U0.mpr ⟨x',hx',e⟩)⟩
  have eo:(cO t (fs.take i)).map PV.str=ys.map λy=>PV.str y.n:=by unfold cO;rw [hys,U'];rfl
  have en:(cO t (fs.take (i + 1))).map PV.str=(qz Ky.lt (key t (n,l)) ys).map λy=>PV.str y.n:=by
   unfold cO;rw [et,U7,U6,VV,i8,hys,U'];rfl
  rw [eo]
  have hvn:lH (bC fs) n=some l.V:=fY (f:=aZ.V) hnd hmem
  have sll:=sl _ hmem
  simp_all! [ax,UZ]
  refine ⟨λm τ' J'=>m≤ys.length∧τ'=[some (.ref D),some (fr t),some (.ref r),some (.str n),some (.int (m:Nat))]∧J'=put J r (.lst (ys.map λy=>PV.str y.n))∧∀(j:Nat) y,m≤j→ys[j]?=some y→(key t (n,l)).lt y=true,⟨ys.length,U4 _,rfl,rfl,λj y hj e=>by rw [Vz hj] at e;cases e⟩,?_⟩
  rintro m τ' J' ⟨hm,rfl,rfl,hall⟩
  have fin:(∀(j:Nat) y,j < m→ys[j]?=some y→y.lt (key t (n,l))=true)→Inv (i + 1) [some (.ref D),some (fr t),some (.ref r),some (.str n),some (.int (m:Nat))] (put J r (.lst ((ys.map λy=>PV.str y.n).take m ++ .str n :: (ys.map λy=>PV.str y.n).drop m))):=λhlow=>by
   refine (hInv _ _ _).mpr ⟨_,_,rfl,?_⟩
   rw [en,← Cp hm hlow λj y hj e=>Ky.O2 (hall j y hj e),U7,U6,V2,Wy]
   rfl
  simp_all! [ax,aw nDr,hD,hvn]
  by_cases c0:0 < m
  ·rw [if_pos (by omega)]
   obtain ⟨m',rfl⟩:∃m',m=m' + 1:=⟨m - 1,by omega⟩
   obtain ⟨y,hy⟩:∃y,ys[m']?=some y:=⟨_,U2 (by omega)⟩
   obtain ⟨l',hl',ey,ny⟩:=hym y (U3 hy)
   have ha:dF (ys.map λy=>PV.str y.n) (((m' + 1:Nat):Int) - 1)=some (.str y.n):=by
    rw [show ((m' + 1:Nat):Int) - 1=((m':Nat):Int) by omega]
    exact bA (by rw [U8,hy];rfl)
   have hvy:lH (bC fs) y.n=some l'.V:=fY (f:=aZ.V) hnd hl'
   simp_all! [ha,ax,aw nDr,hD,hvn,hvy]
   refine ⟨n,y.n,l,l',t,rfl,sll,sl _ hl',st,?_⟩
   rw [← ey]
   cases hc:(key t (n,l)).lt y with
   | true =>
    simp_all! []
    refine ⟨_,λτ'' J'' h=>⟨m',Wc _,h⟩,⟨by omega,?_,rfl,λj z hj e=>?_⟩⟩
    ·rw [show ((m' + 1:Nat):Int) - 1=((m':Nat):Int) by omega]
    ·rcases Wm hj with h | h
     ·exact hall j z (by omega) e
     ·subst h;rw [hy] at e;cases e;exact hc
   | false =>
    simp_all! [ax]
    refine ⟨_,m' + 1,rfl,rfl,by rw [UZ];omega,bp (by rw [UZ];omega),by omega,?_⟩
    rw [fh]
    refine fin λj z hj e=>?_
    have hyx:y.lt (key t (n,l))=true:=by
     rcases Ky.Rk (a:=y) (b:=key t (n,l)) ny with h | h
     ·exact h
     ·rw [hc] at h;cases h
    exact zX (lt:=Ky.lt) Ky.tr srt hy e (by omega) hyx
  ·rw [if_neg (by omega)]
   simp_all! [ax]
   refine ⟨_,m,rfl,rfl,by rw [UZ];omega,bp (by rw [UZ];omega),by omega,?_⟩
   rw [fh]
   exact fin λj z hj e=>by omega
 ·intro τ J' hv
  obtain ⟨u3,u4,rfl,rfl⟩:=(hInv _ _ _).mp hv
  rw [UZ,Vu]
  simp_all! []
  exact q r hr'
def rR (K:PySem.W.Frag) (mg:Str→Option Value):Prop:=∃a:Addr,mg "NOUGHT"=some (.ref a)∧∀H:Hp,g8 K H a [.int 0,.int 1]
theorem Ec {K:PySem.W.Frag} {h:Heap} {mg:Str→Option Value} (X:K.In h) (G:h.Ns mainGlobals mg) {a:Addr} {od:Option Addr} {n:Nat} {sl:Array (Option Value)} {t u:Tok}
  (e:PySem.W.nsIn K mainGlobals "NOUGHT"=some (some (.ref a))) (l:K.lookup a=some ⟨.type "tuple",od,.seq #[.int 0 t,.int 1 u] n,sl⟩):rR K mg :=
 ⟨a,PySem.W.mg_of X G e,λ_=>.inr ⟨_,_,_,l,rfl,rfl,(by show 2≤sizeLine;decide),.cons ⟨t,rfl⟩ (.cons ⟨u,rfl⟩ .nil)⟩⟩
structure Cf where
 n:Str
 a:Addr
 r:Addr
 w:List aZ
 g:Option Rat
structure Ln where
 t:Rat
 d:Addr
 e:Nat
 o:Addr
 cs:List Cf
 row:List Str
def Cf.cur (c:Cf):aZ:=c.w.getLast?.getD ⟨0,0,0⟩
def Ln.EX (L:Ln):List Cf:=L.cs.filter λc=>c.g.isNone
def Ln.fs (L:Ln):List (Str × aZ):=L.EX.map λc=>(c.n,c.cur)
structure bh (cN cL:Addr) (J:Hq) (p:Addr) (L:Ln):Prop where
 ob:J p=some (.ins cN [("now",fr L.t),("logs",.ref L.d),("row",.ref L.o)])
 dc:J L.d=some (.dct (L.cs.map λc=>(c.n,PV.ref c.a)) L.e)
 rw:J L.o=some (.lst (L.row.map .str))
 lg:∀c∈L.cs,ET cL J c.a c.r c.w c.g
 ap:(L.cs.map Cf.r).Nodup
 ao:∀c∈L.cs,c.r≠L.o
structure bc (L:Ln):Prop where
 nd:(L.cs.map Cf.n).Nodup
 ne:∀c∈L.cs,c.w≠[]
 le:∀c∈L.cs,∀l∈c.w,l.m≤L.t
 ck:∀c∈L.cs,∀l∈c.w,ub l
 len:∀c∈L.cs,c.w.length≤200
 gz:∀c∈L.cs,∀q,c.g=some q→Sc ij MM q∧q≤L.t
 t0:0≤L.t
 ts:Sc ij MM L.t
 many:L.cs.length≤100
 rm:∀n,n∈L.row↔n∈L.fs.map (·.1)
 rn:L.row.Nodup
 rl:L.row.length≤12
structure cm (L:Ln):Prop extends bc L where
 row:L.row=cO L.t L.fs
def Ln.own (L:Ln) (p a:Addr):Prop:=a=p∨a=L.d∨a=L.o∨∃c∈L.cs,a=c.a∨a=c.r
structure Mv (J J':Hq) (S S':Addr→Prop):Prop where
 keep:∀a o,J a=some o→¬ S a→J' a=some o
 own:∀a,S' a→S a∨J a=none
 mono:∀a,J' a=none→J a=none
theorem Mv.refl (J:Hq) (S:Addr→Prop):Mv J J S S:=⟨λ_ _ h _=>h,λ_ h=>.inl h,λ_ h=>h⟩
theorem Mv.trans {J J' J'':Hq} {S S' S'':Addr→Prop} (h:Mv J J' S S') (k:Mv J' J'' S' S''):Mv J J'' S S'':=by
 refine ⟨λa o e n=>k.keep a o (h.keep a o e n) λz=>?_,λa z=>?_,λa z=>h.mono a (k.mono a z)⟩
 ·rcases h.own a z with q | q
  ·exact n q
  ·rw [q] at e;cases e
 ·rcases k.own a z with q | q
  ·exact h.own a q
  ·exact .inr (h.mono a q)
theorem Mv.new {J:Hq} {S:Addr→Prop} {x:Addr} {o:HQ} (h:J x=none):Mv J (put J x o) S S:=by
 refine ⟨λa u e _=>?_,λ_ z=>.inl z,λa z=>?_⟩
 ·rw [aw (λq=>by subst q;rw [h] at e;cases e)];exact e
 ·by_cases q:a=x
  ·subst q;rw [ax] at z;cases z
  ·rw [aw q] at z;exact z
theorem Mv.Eb {J:Hq} {S:Addr→Prop} {x:Addr} {o:HQ} (h:J x=none):Mv J (put J x o) S (λa=>S a∨a=x) :=
 ⟨(Mv.new (S:=S) h).keep,λa z=>z.elim .inl λe=>.inr (by rw [e];exact h),(Mv.new (S:=S) h).mono⟩
theorem bh.keep {cN cL:Addr} {J J':Hq} {p:Addr} {L:Ln} (h:bh cN cL J p L) (k:∀a o,L.own p a→J a=some o→J' a=some o):bh cN cL J' p L :=
 ⟨k _ _ (.inl rfl) h.ob,k _ _ (.inr (.inl rfl)) h.dc,k _ _ (.inr (.inr (.inl rfl))) h.rw,λc hc=>⟨k _ _ (.inr (.inr (.inr ⟨c,hc,.inl rfl⟩))) (h.lg c hc).o,k _ _ (.inr (.inr (.inr ⟨c,hc,.inr rfl⟩))) (h.lg c hc).l⟩,h.ap,h.ao⟩
theorem bh.some {cN cL:Addr} {J:Hq} {p:Addr} {L:Ln} (h:bh cN cL J p L) {a:Addr} (o:L.own p a):J a≠none:=by
 rcases o with rfl | rfl | rfl | ⟨c,hc,rfl | rfl⟩
 ·rw [h.ob];exact λz=>nomatch z
 ·rw [h.dc];exact λz=>nomatch z
 ·rw [h.rw];exact λz=>nomatch z
 ·rw [(h.lg c hc).o];exact λz=>nomatch z
 ·rw [(h.lg c hc).l];exact λz=>nomatch z
theorem bh.fresh {cN cL:Addr} {J:Hq} {p x:Addr} {L:Ln} {o:HQ} (h:bh cN cL J p L) (hx:J x=none):bh cN cL (put J x o) p L :=
 h.keep λa u ow e=>by rw [aw (λq=>by subst q;rw [hx] at e;cases e)];exact e
theorem M7 {J:Hq} {a b C C':Addr} {fs gs:List (Str × PV)} (h:J a=VJ (.ins C fs)) (k:J b=VJ (.ins C' gs)) (n:fs.map (·.1)≠gs.map (·.1)):a≠b:=by
 intro e;subst e;rw [h] at k
 have:=HQ.ins.inj (Option.some.inj k)
 exact n (by rw [this.2])
theorem bh.JE {cN cL:Addr} {J:Hq} {p:Addr} {L:Ln} (h:bh cN cL J p L):L.d≠p:=by intro e;have:=h.ob;rw [← e,h.dc] at this;cases this
theorem bh.JG {cN cL:Addr} {J:Hq} {p:Addr} {L:Ln} (h:bh cN cL J p L):L.o≠p:=by intro e;have:=h.ob;rw [← e,h.rw] at this;cases this
theorem bh.SX {cN cL:Addr} {J:Hq} {p:Addr} {L:Ln} (h:bh cN cL J p L):L.d≠L.o:=by intro e;have:=h.rw;rw [← e,h.dc] at this;cases this
theorem Gv:([("rows":Str),("gone":Str)]:List Str)≠[("now":Str),("logs":Str),("row":Str)]:=by decide +kernel
theorem bh.RN {cN cL:Addr} {J:Hq} {p:Addr} {L:Ln} (h:bh cN cL J p L) {c:Cf} (hc:c∈L.cs):c.a≠p:=M7 (h.lg c hc).o h.ob Gv
theorem bh.ON {cN cL:Addr} {J:Hq} {p:Addr} {L:Ln} (h:bh cN cL J p L) {c:Cf} (hc:c∈L.cs):c.r≠p:=by intro e;have:=h.ob;rw [← e,(h.lg c hc).l] at this;cases this
theorem bh.Um {cN cL:Addr} {J:Hq} {p:Addr} {L:Ln} (h:bh cN cL J p L) {c:Cf} (hc:c∈L.cs):c.a≠L.d:=by intro e;have:=h.dc;rw [← e,(h.lg c hc).o] at this;cases this
theorem bh.Uo {cN cL:Addr} {J:Hq} {p:Addr} {L:Ln} (h:bh cN cL J p L) {c:Cf} (hc:c∈L.cs):c.r≠L.d:=by intro e;have:=h.dc;rw [← e,(h.lg c hc).l] at this;cases this
theorem bh.SW {cN cL:Addr} {J:Hq} {p:Addr} {L:Ln} (h:bh cN cL J p L) {c:Cf} (hc:c∈L.cs):c.a≠L.o:=by intro e;have:=h.rw;rw [← e,(h.lg c hc).o] at this;cases this
theorem bh.UP {cN cL:Addr} {J:Hq} {p:Addr} {L:Ln} (h:bh cN cL J p L) {c c':Cf} (hc:c∈L.cs) (hc':c'∈L.cs):c.a≠c'.r:=by intro e;have:=(h.lg c' hc').l;rw [← e,(h.lg c hc).o] at this;cases this
theorem bh.Oe {cN cL:Addr} {J:Hq} {p o':Addr} {L:Ln} {row:List Str} (h:bh cN cL J p L) (ho:J o'=VJ (.lst (row.map .str))) (nc:∀c∈L.cs,c.r≠o'):bh cN cL (put J p (.ins cN [("now",fr L.t),("logs",.ref L.d),("row",.ref o')])) p { L with o:=o',row:=row } :=
 ⟨ax,by show put J p _ L.d=_;rw [aw h.JE];exact h.dc,by show put J p _ o'=_;rw [aw (λe=>by rw [e,h.ob] at ho;cases ho)];exact ho,
  λc hc=>⟨by rw [aw (h.RN hc)];exact (h.lg c hc).o,by rw [aw (h.ON hc)];exact (h.lg c hc).l⟩,h.ap,nc⟩
theorem gG {J:Hq} {S S':Addr→Prop} {x:Addr} {o:HQ} (hx:S x) (hS:∀a,S' a→S a∨J a=none):Mv J (put J x o) S S':=by
 refine ⟨λa u e n=>?_,hS,λa z=>?_⟩
 ·rw [aw (λq=>by subst q;exact n hx)];exact e
 ·by_cases q:a=x
  ·subst q;rw [ax] at z;cases z
  ·rw [aw q] at z;exact z
theorem bc.HX {L:Ln} (h:bc L):Sz 900 L.t:=(sD h.ts).mono (by decide)
theorem ub.Nr {l:aZ} (h:ub l):oX 900 l:=⟨h.Ul.mono (by decide),h.Uq.mono (by decide),.small (by have:=h.v;omega) (by have:=h.v;omega)⟩
theorem Cf.hE {c:Cf} (h:c.w≠[]):c.w.getLast?=VJ c.cur∧c.cur∈c.w:=by
 unfold Cf.cur
 rw [List.getLast?_eq_some_getLast h]
 exact ⟨rfl,Xe h⟩
theorem bc.UO {L:Ln} (h:bc L) {c:Cf} (hc:c∈L.cs):sx c.w L.t=VJ c.cur:=by
 unfold sx
 rw [VL.mpr λl hl=>decide_eq_true (h.le c hc l hl)]
 exact (Cf.hE (h.ne c hc)).1
theorem bc.there {L:Ln} (h:bc L) {c:Cf} (hc:c∈L.cs) (hg:c.g=none):there c.w c.g L.t=true:=by
 obtain ⟨l,ls,e⟩:=V_ (h.ne c hc)
 have:=h.le c hc l (by rw [e];simp)
 rw [hg,e]
 unfold Ov.there
 simp only [WA,O_,V1]
 rw [decide_eq_false (Rat.not_lt.mpr this)];rfl
theorem Ln.cV {L:Ln} {c:Cf}:c∈L.EX↔c∈L.cs∧c.g=none:=by
 unfold Ln.EX
 rw [U_]
 cases c.g <;> simp
theorem dR (L:Ln):L.fs.map (·.1)=L.EX.map Cf.n:=by unfold Ln.fs;rw [U'];rfl
theorem bc.M3 {L:Ln} (h:bc L):(L.fs.map (·.1)).Nodup:=by
 rw [dR]
 unfold Ln.EX
 exact h.nd.sublist (List.Sublist.map _ WC)
theorem bc.found {L:Ln} (h:bc L) {n:Str} (hn:n∈L.row):∃c∈L.cs,c.n=n∧c.g=none:=by
 have:=(h.rm n).mp hn
 rw [dR,U0] at this
 obtain ⟨c,hc,e⟩:=this
 exact ⟨c,(Ln.cV.mp hc).1,e,(Ln.cV.mp hc).2⟩
theorem bc.va {L:Ln} (h:bc L) {c:Cf} (hc:c∈L.cs):lH (L.cs.map λc=>(c.n,PV.ref c.a)) c.n=VJ (.ref c.a):=by
 have e:(L.cs.map λc=>(c.n,PV.ref c.a))=((L.cs.map λc=>(c.n,c.a)).map λx=>(x.1,PV.ref x.2)):=by rw [U'];rfl
 rw [e]
 exact fY (f:=PV.ref) (by rw [U'];exact h.nd) (U0.mpr ⟨c,hc,rfl⟩)
theorem bc.UB {L:Ln} (h:bc L) {n:Str}:(lH (L.cs.map λc=>(c.n,PV.ref c.a)) n).isSome=decide (n∈L.cs.map Cf.n):=by
 have e:(L.cs.map λc=>(c.n,PV.ref c.a))=((L.cs.map λc=>(c.n,c.a)).map λx=>(x.1,PV.ref x.2)):=by rw [U'];rfl
 rw [e,vZ (f:=PV.ref) (by rw [U'];exact h.nd)]
 rw [U'];rfl
theorem bc.uniq {L:Ln} (h:bc L) {c c':Cf} (hc:c∈L.cs) (hc':c'∈L.cs) (e:c.n=c'.n):c=c':=by
 obtain ⟨i,hi,rfl⟩:=Vy hc
 obtain ⟨j,hj,rfl⟩:=Vy hc'
 have:=(VT (xs:=L.cs.map Cf.n) (i:=i) (j:=j) (h₀:=by simpa using hi) (h₁:=by simpa using hj) h.nd).mp (by rw [VO,VO];exact e)
 subst this;rfl
theorem qB (a b c:PV):([("now",a),("logs",b),("row",c)]:List (Str × PV)).lookup ("now":Str)=VJ a:=rfl
theorem yT (a b c:PV):([("now",a),("logs",b),("row",c)]:List (Str × PV)).lookup ("logs":Str)=VJ b:=rfl
theorem sC (a b c:PV):([("now",a),("logs",b),("row",c)]:List (Str × PV)).lookup ("row":Str)=VJ c:=rfl
theorem e8 (m:Str) (a b c:PV) (h:(m == ("now":Str))=false:=by decide +kernel) (k:(m == ("logs":Str))=false:=by decide +kernel) (l:(m == ("row":Str))=false:=by decide +kernel):([("now",a),("logs",b),("row",c)]:List (Str × PV)).lookup m=none:=by
 rw [Vs,h];simp only;rw [Vs,k];simp only;rw [Vs,l];rfl
theorem P4:(("now":Str)=("logs":Str))=False:=eq_false (by decide +kernel)
theorem Lx:(("now":Str)=("row":Str))=False:=eq_false (by decide +kernel)
theorem Lw:(("logs":Str)=("row":Str))=False:=eq_false (by decide +kernel)
theorem Kc (a b c z:PV):pN ("row":Str) z ([("now",a),("logs",b),("row",c)]:List (Str × PV))=([("now",a),("logs",b),("row",z)]:List (Str × PV)):=by simp only [pN,Lx,Lw,if_false,if_true]
theorem BQ {J:Hq} {a:Addr} {xs:List PV} (h:J a=VJ (.lst xs)):Oi J (.ref a)=VJ xs:=by unfold Oi;simp only [h]
abbrev fT:Stmt:=(L2.inClass (top 44) 0)
abbrev i9:List Str:=["self"]
theorem pU:L2.av ["self"] ["self"] (L2.aj fT):=dC
def C7 (cN cL:Addr):cu:=λxs J Q _=>∃p,xs=[.ref p]∧J p=some (.ins cN [])∧∀J' d e o,bh cN cL J' p ⟨0,d,e,o,[],[]⟩→Mv J J' (λa=>a=p) (Ln.own ⟨0,d,e,o,[],[]⟩ p)→Q .non J'
theorem wR {cN cL f:Addr} {fd:FuncData} (F:cg K "__init__" "Lane.__init__" fT f fd) (N:rR K mg) (au:dJ K mg "Lane" cN) (az:aK K cN "now") (aP:aK K cN "logs") (aD:aK K cN "row"):aO P w K mg base (cK P w) 1 f fd i9 (dg K (C7 cN cL)):=by
 simp_arith [pU]
 ·obtain ⟨p,rfl,_⟩:=h;rfl
 obtain ⟨p,rfl,hp,q⟩:=h
 obtain ⟨aN,gN,sN⟩:=N
 have rN:∀(J:Hq) (H:Hp),cH K J H (fr 0) (.ref aN):=λJ H=>⟨aN,_,rfl,sN H,⟨_,_,rfl,rfl,_,_,rfl,rfl,rfl⟩⟩
 refine ⟨_,(ai (iE au.cl az (rv 0) (gd (v:=.ref aN) (fr 0) rfl gN rfl rN))
   (ai (iE au.cl aP (rv 0) CO)
   (ak (iE au.cl aD (rv 0) (mZ ah))))),?_⟩
 simp_all! [hp]
 refine ⟨by decide,?_⟩
 simp_all! []
 intro d hd ep
 have JE:d≠p:=by intro e;subst e;rw [ax] at hd;cases hd
 simp_all! [aw (Ne.symm JE),ax]
 simp only [P4,if_false]
 refine ⟨by decide,?_⟩
 simp_all! []
 intro o ho
 have jd:J d=none:=by rw [aw JE] at hd;exact hd
 have JG:o≠p:=by intro e;subst e;rw [ax] at ho;cases ho
 have nod:o≠d:=by intro e;subst e;rw [aw JG,ax] at ho;cases ho
 have jo:J o=none:=by rw [aw JG,aw nod,aw JG] at ho;exact ho
 refine mV (by rw [aw (Ne.symm JG)];exact ax) ⟨by show (2:Nat) < 1000;decide,?_⟩
 have pr:pN ("row":Str) (PV.ref o) ([("now",fr 0),("logs",.ref d)]:List (Str × PV))=([("now",fr 0),("logs",.ref d),("row",.ref o)]:List (Str × PV)):=by simp only [pN,Lx,Lw,if_false]
 rw [pr]
 refine q _ d ep o ⟨ax,by rw [aw JE,aw (Ne.symm nod),aw JE];exact ax,by rw [aw JG];exact ax,(by simp),(by simp),(by simp)⟩ ⟨λa u e na=>?_,λa ow=>?_,λa z=>?_⟩
 ·have na1:a≠d:=λz=>by subst z;rw [jd] at e;cases e
  have na2:a≠o:=λz=>by subst z;rw [jo] at e;cases e
  rw [aw na,aw na2,aw na,aw na1,aw na];exact e
 ·rcases ow with rfl | rfl | rfl | ⟨c,hc,_⟩
  ·exact .inl rfl
  ·exact .inr jd
  ·exact .inr jo
  ·cases hc
 ·by_cases z1:a=p
  ·subst z1;rw [ax] at z;cases z
  by_cases z2:a=o
  ·subst z2;exact jo
  by_cases z3:a=d
  ·subst z3;exact jd
  rw [aw z1,aw z2,aw z1,aw z3,aw z1] at z;exact z
abbrev dY:Stmt:=(L2.inClass (top 44) 22)
abbrev bZ:List Str:=["self","name"]
theorem kj:L2.av ["self","name"] ["self","name"] (L2.aj dY):=dC
def oO (cN cL eC:Addr):cu:=λxs J Q E=>∃p L n,xs=[.ref p,.str n]∧bh cN cL J p L∧(n∈L.row→Q .non J)∧(n ∉ L.row→E eC J)
theorem ki {cN cL eC f:Addr} {fd:FuncData} (F:cg K "must_be_there" "Lane.must_be_there" dY f fd) (Z:bN mg) (au:dJ K mg "Lane" cN) (aD:aK K cN "row") (gi:Own K mg "NoCraft" eC):aO P w K mg base (cK P w) 1 f fd bZ (dg K (oO cN cL eC)):=by
 simp_arith [kj,(ak (aR (aB qV (rv 1) (aW au.cl aD (rv 0))) (ak (dX gi rfl cA B.kn rfl (af bF ah))) aF))]
 ·obtain ⟨p,L,n,rfl,_⟩:=h;rfl
 obtain ⟨p,L,n,rfl,b,q,qe⟩:=h
 have bo:=b.ob
 refine hX ?_
 simp_all! [bo,sC,Qq,BQ b.rw]
 refine ⟨L.row,rfl,?_⟩
 by_cases c:n∈L.row
 ·rw [if_pos (by simp [c])]
  exact q c
 ·rw [if_neg (by simp [c])]
  simp_all! [fB]
  exact qe c
abbrev iF:Stmt:=(L2.inClass (top 44) 23)
abbrev dS:List Str:=["self","name"]
theorem tH:L2.av ["self","name"] ["self","name"] (L2.aj iF):=dC
def lB (cN cL eC:Addr):cu:=λxs J Q E=>∃p L n,xs=[.ref p,.str n]∧bh cN cL J p L∧bc L∧(∀c∈L.cs,c.n=n→c.g=none→Q c.cur.V J)∧(n ∉ L.row→E eC J)
theorem sG {cN cL eC eN f:Addr} {fd:FuncData} (F:cg K "leg_of" "Lane.leg_of" iF f fd) (Z:bN mg) (au:dJ K mg "Lane" cN) (aP:aK K cN "logs") (az:aK K cN "now") (aS:bU P w K mg base cN 1 "must_be_there" bZ (oO cN cL eC)) (d6:bU P w K mg base cL 3 "leg_at" iy (tP cL eN)) :
  aO P w K mg base (cK P w) 4 f fd dS (dg K (lB cN cL eC)):=by
 simp_arith [tH,(ai (aX (aV (pl:=_) aS B hr (rv 0) (af (rv 1) ah)))
   (ak (ay (aV (pl:=_) d6 B hr (aq cR (aW au.cl aP (rv 0)) (rv 1)) (af (aW au.cl az (rv 0)) ah)))))]
 ·obtain ⟨p,L,n,rfl,_⟩:=h;rfl
 obtain ⟨p,L,n,rfl,b,ok,q,qe⟩:=h
 have bo:=b.ob
 have bd:=b.dc
 refine hX ?_
 simp_all! [bo]
 refine ⟨e8 _ _ _ _,p,L,n,rfl,b,λhn=>?_,qe⟩
 obtain ⟨c,hc,rfl,hg⟩:=ok.found hn
 have lo:=(b.lg c hc).o
 simp_all! [bo,yT,bd,ok.va hc,lo]
 refine ⟨PZ _ _,?_⟩
 simp_all! [bo,qB]
 refine ⟨c.a,c.r,c.w,c.g,L.t,rfl,b.lg c hc,ok.ne c hc,Vh (ok.len c hc) (by decide),ok.HX,λl hl=>(ok.ck c hc l hl).Nr,λq' hq=>(sD (ok.gz c hc q' hq).1).mono (by decide),λ_ l hl=>?_,λz=>?_⟩
 ·rw [ok.UO hc] at hl;cases hl
  exact q c hc rfl hg
 ·rw [ok.there hc hg] at z;cases z
abbrev fH:Stmt:=(L2.inClass (top 44) 24)
abbrev dT:List Str:=["self"]
theorem tK:L2.av ["self"] ["self"] (L2.aj fH):=dC
theorem GQ {L:Ln} (ok:bc L) {f:Str→aZ} (hf:∀c∈L.cs,c.g=none→f c.n=c.cur):cO L.t (L.row.map λn=>(n,f n))=cO L.t L.fs:=by
 refine zh (by rw [U'];show (L.row.map λn=>n).Nodup;rw [WY];exact ok.rn) ok.M3 λx=>?_
 rw [U0,U0]
 constructor
 ·rintro ⟨y,hy,rfl⟩
  obtain ⟨n,hn,rfl⟩:=U0.mp hy
  obtain ⟨c,hc,rfl,hg⟩:=ok.found hn
  exact ⟨(c.n,c.cur),U0.mpr ⟨c,Ln.cV.mpr ⟨hc,hg⟩,rfl⟩,by rw [hf c hc hg]⟩
 ·rintro ⟨y,hy,rfl⟩
  obtain ⟨c,hc,rfl⟩:=U0.mp hy
  obtain ⟨hc,hg⟩:=Ln.cV.mp hc
  refine ⟨(c.n,f c.n),U0.mpr ⟨c.n,(ok.rm c.n).mpr ?_,rfl⟩,by rw [hf c hc hg]⟩
  rw [dR];exact U0.mpr ⟨c,Ln.cV.mpr ⟨hc,hg⟩,rfl⟩
def Ln.wM (L:Ln) (n:Str):aZ:=((L.cs.find? λc=>decide (c.n=n)).map Cf.cur).getD ⟨0,0,0⟩
theorem bc.wM {L:Ln} (ok:bc L) {c:Cf} (hc:c∈L.cs):L.wM c.n=c.cur:=by
 unfold Ln.wM
 cases h:L.cs.find? λd=>decide (d.n=c.n) with
 | none=>have:=List.find?_eq_none.mp h c hc;simp at this
 | some d =>
  have h1:=List.mem_of_find?_eq_some h
  have h2:d.n=c.n:=by simpa using List.find?_some h
  rw [ok.uniq h1 hc h2];rfl
def jk (cN cL:Addr):cu:=λxs J Q E=>∃p L,xs=[.ref p]∧bh cN cL J p L∧bc L∧∀J' o',bh cN cL J' p { L with o:=o',row:=cO L.t L.fs }→Mv J J' (L.own p) (Ln.own { L with o:=o',row:=cO L.t L.fs } p)→Q .non J'
theorem sI {cN cL eC f:Addr} {fd:FuncData} (F:cg K "settle" "Lane.settle" fH f fd) (Z:bN mg) (au:dJ K mg "Lane" cN) (aD:aK K cN "row") (az:aK K cN "now") (bB:bU P w K mg base cN 4 "leg_of" dS (lB cN cL eC)) (Ag:bx P w K mg base 6 "in_order" qo vS) :
  aO P w K mg base (cK P w) 7 f fd dT (dg K (jk cN cL)):=by
 simp_arith [tK,(ak (iE au.cl aD (rv 0) (aQ Ag B hr (af (Q7 (L2.aj fH) ["self"] [("self",0)] rfl rfl rfl (fj (aW au.cl aD (rv 0))) (λ_ _ _ _ _ _=>(rv 0)) (λ_ _ _ _ _ _=>(aV (pl:=_) bB Pd hr (rv 1) (af (rv 0) ah)))) (af (aW au.cl az (rv 0)) ah)))))]
 ·obtain ⟨p,L,rfl,_⟩:=h;rfl
 obtain ⟨p,L,rfl,b,ok,q⟩:=h
 have bo:=b.ob
 have br:=b.rw
 refine hX ?_
 simp_all! [Tg,bo,sC,br]
 intro D hD ep
 have bf:∀e2 kvs,bh cN cL (put J D (.dct kvs e2)) p L:=λe2 kvs=>b.fresh hD
 have hrl:=ok.rl
 refine ⟨λi J2=>∃e2,J2=put J D (.dct (bC ((L.row.take i).map λn=>(n,L.wM n))) e2),⟨ep,rfl⟩,?_,?_,?_⟩
 ·rintro i J2 ⟨e2,rfl⟩;exact (bf e2 _).rw
 ·rintro i x J2 hx ⟨e2,rfl⟩
  have hi:i < L.row.length:=by have:=(U1.mp hx).1;simpa using this
  rw [U8,U2 hi] at hx
  cases hx
  have hn:L.row[i]∈L.row:=VG hi
  refine mV (bf e2 _).ob ⟨e8 _ _ _ _,p,L,L.row[i],rfl,bf e2 _,ok,λc hc e hg=>?_,λz=>absurd hn z⟩
  refine ⟨_,e2,L.row[i],rfl,ax,bp (by simp only [bC,UZ,Vp];omega),λep'=>⟨ep',?_⟩⟩
  rw [fh]
  congr 2
  have et:L.row.take (i + 1)=L.row.take i ++ [L.row[i]]:=by rw [Vv,U2 hi];rfl
  rw [et,U7,U6,VV,← e,ok.wM hc]
  refine xr (f:=aZ.V) (l:=c.cur) λz=>?_
  rw [U'] at z
  obtain ⟨m,hm,e3⟩:=U0.mp z
  have hnd:(L.row.take (i + 1)).Nodup:=ok.rn.sublist (V9 _ _)
  rw [et] at hnd
  exact (gH hnd).2 (by rw [← e,← e3];exact hm)
 ·rintro J2 ⟨e2,rfl⟩
  rw [UZ,Vu]
  refine mV (bf e2 _).ob (kM (qB _ _ _) ⟨D,_,e2,L.t,rfl,ax,?_,by rw [UZ];omega,ok.HX,?_,λo' ho'=>?_⟩)
  ·rw [U'];show (L.row.map λn=>n).Nodup;rw [WY];exact ok.rn
  ·intro x hx
   obtain ⟨n,hn,rfl⟩:=U0.mp hx
   obtain ⟨c,hc,rfl,hg⟩:=ok.found hn
   show oX 900 (L.wM c.n)
   rw [ok.wM hc]
   exact (ok.ck c hc _ (Cf.hE (ok.ne c hc)).2).Nr
  ·rw [GQ ok λc hc _=>ok.wM hc]
   have b2:bh cN cL (put (put J D (.dct (bC (L.row.map λn=>(n,L.wM n))) e2)) o' (.lst ((cO L.t L.fs).map .str))) p L:=(bf e2 _).fresh ho'
   have jo:J o'=none:=by
    by_cases z:o'=D
    ·subst z;exact hD
    ·rw [aw z] at ho';exact ho'
   refine mV b2.ob ⟨by show (3:Nat) < 1000;decide,?_⟩
   rw [Kc]
   refine q _ o' (b2.Oe ax λc hc e=>?_) ?_
   ·have:=(b.lg c hc).l;rw [e,jo] at this;cases this
   ·refine ((Mv.new hD).trans (Mv.Eb ho')).trans (gG (.inl (.inl rfl)) λa ow=>.inl ?_)
    rcases ow with h | h | h | h
    ·exact .inl (.inl h)
    ·exact .inl (.inr (.inl h))
    ·exact .inr h
    ·exact .inl (.inr (.inr (.inr h)))
abbrev ia:Stmt:=(top 35)
abbrev f_:List Str:=["text"]
theorem xT:L2.av ["text"] ["text"] (L2.aj ia):=dC
def cQ:Str:="abcdefghijklmnopqrstuvwxyz0123456789"
def good (y:Str):Bool:=decide (1≤y.cps.size) && decide (y.cps.size≤8) && y.cps.toList.all (eS cQ)
def Hy (T:Addr):Sp:=λvs H Q _=>∃y:Str,vs=[.str y]∧y.length≤sizeLine∧H T=some (.ext (e_ T))∧Q (.bl (good y)) H
theorem w8 {T f c:Addr} {fd:FuncData} (F:IF K mg "good_name" ia T f fd c) (Z:ES mg) (Bm:BMain mg base) {l4 rq:Tok} (iX:mg "LONGEST"=some (.int 8 l4)) (nQ:mg "SIGNS"=some (.str "abcdefghijklmnopqrstuvwxyz0123456789" rq)) :
  aO P w K mg base rF 1 f fd f_ (Hy T):=by
 refine UR F xT (λvs H Q E h=>?_) (λA outer s H vs Q E hr h=>?_)
 ·obtain ⟨y,rfl,_⟩:=h
  rfl
 obtain ⟨y,rfl,hz,hT,q⟩:=h
 refine ⟨_,(ba (oA (LN (CH (d7 Cz (bM nK rfl Z.len boot_len (aA (pv 0) bj)) aT (fw _)) (xw (d7 LF (bM nK rfl Z.len boot_len (aA (pv 0) bj)) (dH (v:=.int 8) rfl iX ⟨_,rfl⟩) (fw _))))) (bS (er zk)) f')
   (bS (er (GU rfl Bm rfl F.tab hr rfl Z.all nQ (pv 0))))),?_⟩
 have el:y.cps.size=y.length:=rfl
 refine ⟨_,rfl,y,rfl,hz,_,_,rfl,rfl,_,rfl,F2 (λe=>?_) (λe=>⟨_,rfl,y,rfl,hz,_,_,rfl,rfl,_,rfl,F2 (λe2=>?_) (λe2=>?_)⟩)⟩
 ·have e:(y.length:Int) < 1:=of_decide_eq_true e
  have z:good y=false:=by
   unfold good
   rw [decide_eq_false (show ¬ 1≤y.cps.size by omega)]
   rfl
  show Q (.bl false) H
  rw [← z]
  exact q
 ·have e2:(8:Int) < (y.length:Int):=of_decide_eq_true e2
  have z:good y=false:=by
   unfold good
   rw [decide_eq_false (show ¬ y.cps.size≤8 by omega),Wa]
   rfl
  show Q (.bl false) H
  rw [← z]
  exact q
 ·have e:¬ (y.length:Int) < 1:=of_decide_eq_false (Wr.mpr e)
  have e2:¬ (8:Int) < (y.length:Int):=of_decide_eq_false (Wr.mpr e2)
  have z:good y=y.cps.toList.all (eS cQ):=by
   unfold good
   rw [decide_eq_true (show 1≤y.cps.size by omega),decide_eq_true (show y.cps.size≤8 by omega)]
   rfl
  refine ⟨_,rfl,y,rfl,hT,?_⟩
  show Q (.bl (y.cps.toList.all (eS cQ))) H
  rw [← z]
  exact q
def CZ (T:Addr):cu:=λxs J Q _=>∃y:Str,xs=[.str y]∧y.length≤sizeLine∧J T=some .tab∧Q (.bl (good y)) J
theorem sy {T:Addr} (C:t9 P w K mg base 1 "good_name" f_ (Hy T)):bx P w K mg base 1 "good_name" f_ (CZ T):=C.lift λxs J vs H Q2 E2 Q E rs r ⟨y,ex,hl,hT,q⟩ kn=>by
 subst ex
 obtain ⟨v,rfl,r1⟩:=NL rs
 cases r1
 exact ⟨y,rfl,hl,r _ _ hT,kn (.bl _) J _ H rfl r .refl q⟩
theorem Ce (L:Ln) {L':Ln} {c:Cf} (h:L'.cs=L.cs ++ [c]) (hg:c.g=none):L'.fs=L.fs ++ [(c.n,c.cur)]:=by
 unfold Ln.fs Ln.EX
 rw [h,Wh,U7]
 simp [hg]
def Ln.joined (L:Ln) (n:Str) (x v:Int) (L':Ln):Prop:=∃a r,L'.cs=L.cs ++ [⟨n,a,r,[⟨L.t,(x:Rat),v⟩],none⟩]∧L'.t=L.t
def OK (x v:Int):Prop:=x.natAbs≤1000000∧v.natAbs≤1000
def x8 (cN cL T eB eF eT eU:Addr):cu:=λxs J Q E=>∃p L n x v,xs=[.ref p,.str n,.int x,.int v]∧bh cN cL J p L∧cm L∧J T=some .tab∧n.length≤sizeLine∧L.cs.length < 100∧(good n=false→E eB J)∧(good n=true→¬ OK x v→E eF J) ∧
 (good n=true→OK x v→n∈L.cs.map Cf.n→E eT J)∧(good n=true→OK x v→n ∉ L.cs.map Cf.n→12≤L.row.length→E eU J) ∧
 (good n=true→OK x v→n ∉ L.cs.map Cf.n→L.row.length < 12→∀J' L',bh cN cL J' p L'→cm L'→L.joined n x v L'→Mv J J' (L.own p) (L'.own p)→Q .non J')
abbrev k_:Stmt:=(L2.inClass (top 44) 1)
abbrev jI:List Str:=["self","name","place","pace"]
theorem xN:L2.av ["self","name","place","pace"] ["self","name","place","pace"] (L2.aj k_):=dC
theorem bh.add {cN cL:Addr} {J:Hq} {p:Addr} {L:Ln} {c:Cf} {ep:Nat} (h:bh cN cL J p L) (hc:ET cL J c.a c.r c.w c.g) (h1:c.r ∉ L.cs.map Cf.r) (h2:c.r≠L.o) :
  bh cN cL (put (put J L.d (.dct ((L.cs ++ [c]).map λc=>(c.n,PV.ref c.a)) ep)) L.o (.lst ((L.row ++ [c.n]).map .str))) p ⟨L.t,L.d,ep,L.o,L.cs ++ [c],L.row ++ [c.n]⟩:=by
 have n1:c.a≠L.d:=by intro e;have:=h.dc;rw [← e,hc.o] at this;cases this
 have n2:c.a≠L.o:=by intro e;have:=h.rw;rw [← e,hc.o] at this;cases this
 have n3:c.r≠L.d:=by intro e;have:=h.dc;rw [← e,hc.l] at this;cases this
 refine ⟨?_,?_,ax,λx hx=>?_,?_,λx hx=>?_⟩
 ·rw [aw (Ne.symm h.JG),aw (Ne.symm h.JE)];exact h.ob
 ·show put (put J L.d _) L.o _ L.d=_
  rw [aw h.SX];exact ax
 ·rcases U9.mp hx with hx | hx
  ·exact ⟨by rw [aw (h.SW hx),aw (h.Um hx)];exact (h.lg x hx).o,by rw [aw (h.ao x hx),aw (h.Uo hx)];exact (h.lg x hx).l⟩
  ·rw [Vc] at hx;subst hx
   exact ⟨by rw [aw n2,aw n1];exact hc.o,by rw [aw h2,aw n3];exact hc.l⟩
 ·show ((L.cs ++ [c]).map Cf.r).Nodup
  rw [U7,U6,VV,VZ]
  exact ⟨h.ap,by simp,λx hx y hy e=>by rw [Vc] at hy;subst hy;subst e;exact h1 hx⟩
 ·show x.r≠L.o
  rcases U9.mp hx with hx | hx
  ·exact h.ao x hx
  ·rw [Vc] at hx;subst hx;exact h2
theorem bc.add {L:Ln} (h:bc L) {c:Cf} {l:aZ} {ep:Nat} (hw:c.w=[l]) (hg:c.g=none) (hl:ub l) (hm:l.m=L.t) (hn:c.n ∉ L.cs.map Cf.n) (hr:L.row.length < 12) (hs:L.cs.length < 100):bc ⟨L.t,L.d,ep,L.o,L.cs ++ [c],L.row ++ [c.n]⟩:=by
 have hf:Ln.fs ⟨L.t,L.d,ep,L.o,L.cs ++ [c],L.row ++ [c.n]⟩=L.fs ++ [(c.n,c.cur)]:=Ce L rfl hg
 have all:∀{P:Cf→Prop},(∀x∈L.cs,P x)→P c→∀x∈L.cs ++ [c],P x:=λh1 h2 x hx=>by
  rcases U9.mp hx with hx | hx
  ·exact h1 x hx
  ·rw [Vc] at hx;subst hx;exact h2
 refine ⟨?_,all h.ne (by rw [hw];simp),all h.le (by rw [hw];simp [hm]),all h.ck (by rw [hw];simpa using hl),all h.len (by rw [hw];show (1:Nat)≤200;decide),all h.gz (by rw [hg];intro q e;cases e),h.t0,h.ts,by show (L.cs ++ [c]).length≤100;rw [Vg];simp;omega,λn=>?_,?_,by show (L.row ++ [c.n]).length≤12;rw [Vg];simp;omega⟩
 ·show ((L.cs ++ [c]).map Cf.n).Nodup
  rw [U7,U6,VV,VZ]
  exact ⟨h.nd,by simp,λx hx y hy e=>by rw [Vc] at hy;subst hy;subst e;exact hn hx⟩
 ·rw [hf,U7,U9,U9,h.rm n];simp
 ·show (L.row ++ [c.n]).Nodup
  rw [VZ]
  refine ⟨h.rn,by simp,λx hx y hy e=>?_⟩
  rw [Vc] at hy
  rw [e,hy] at hx
  have:=(h.rm _).mp hx
  rw [dR,U0] at this
  obtain ⟨d,hd,e⟩:=this
  exact hn (U0.mpr ⟨d,(Ln.cV.mp hd).1,e⟩)
theorem cm.settled {L:Ln} (h:bc L) (o':Addr):cm { L with o:=o',row:=cO L.t L.fs }:=by
 have hl:(cO L.t L.fs).length≤12:=by
  have h1:(cO L.t L.fs).Perm L.row:=(List.perm_ext_iff_of_nodup (sM h.M3) h.rn).mpr λn=>by rw [zj];exact (h.rm n).symm
  rw [h1.length_eq];exact h.rl
 exact ⟨⟨h.nd,h.ne,h.le,h.ck,h.len,h.gz,h.t0,h.ts,h.many,λn=>zj,sM h.M3,hl⟩,rfl⟩
theorem wU {cN cL T eB eF eT eU f:Addr} {fd:FuncData} (F:cg K "join" "Lane.join" k_ f fd) (Z:bN mg) (au:dJ K mg "Lane" cN) (aD:aK K cN "row") (az:aK K cN "now") (aP:aK K cN "logs") {jZ gq yd:Tok} (gB:mg "FARTHEST"=some (.int 1000000 jZ)) (eV:mg "FASTEST"=some (.int 1000 gq)) (sf:mg "MOST"=some (.int 12 yd))
  (o6:Own K mg "BadName" eB) (iP:Own K mg "TooFar" eF) (wq:Own K mg "Taken" eT) (Az:Own K mg "Full" eU) (km:bx P w K mg base 1 "good_name" f_ (CZ T)) (Fi:Ay P w K mg base cL 1 "Log" j5 (C0 cL)) (bG:bU P w K mg base cN 7 "settle" dT (jk cN cL)) :
  aO P w K mg base (cK P w) 8 f fd jI (dg K (x8 cN cL T eB eF eT eU)):=by
 simp_arith [xN,(ai (aR (dj (bX (aQ km B hr (af (rv 1) ah)))) (ak (dX o6 rfl cA B.kn rfl (af bF ah))) aF)
   (ai (aR (cP (k8 (aB j3 (aI o8 rfl Z.abs boot_abs (af (rv 2) ah)) (gd (v:=.int 1000000) (.int 1000000) rfl gB ⟨_,rfl⟩ (λ_ _=>rfl))) (gQ (aB j3 (aI o8 rfl Z.abs boot_abs (af (rv 3) ah)) (gd (v:=.int 1000) (.int 1000) rfl eV ⟨_,rfl⟩ (λ_ _=>rfl)))))) (ak (dX iP rfl cA B.kn rfl (af bF ah))) aF)
   (ai (aR (aB NQ (rv 1) (aW au.cl aP (rv 0))) (ak (dX wq rfl cA B.kn rfl (af bF ah))) aF)
   (ai (aR (aB CA (aI bV rfl Z.len boot_len (af (aW au.cl aD (rv 0)) ah)) (gd (v:=.int 12) (.int 12) rfl sf ⟨_,rfl⟩ (λ_ _=>rfl))) (ak (dX Az rfl cA B.kn rfl (af bF ah))) aF)
   (ai (tu oQ (aW au.cl aP (rv 0)) (rv 1) (Ku Fi B hr (af (aW au.cl az (rv 0)) (af (cE (af (rv 2) (af ag ah))) (af (rv 3) ah)))))
   (ai (aX (mC PySem.F.plainAttrs_list PySem.F.slot_list_append PySem.F.type_list_append pA (aW au.cl aD (rv 0)) (af (rv 1) ah)))
   (ak (aX (dw (pl:=_) bG B hr (rv 0))))))))))]
 ·obtain ⟨p,L,n,x,v,rfl,_⟩:=h;rfl
 obtain ⟨p,L,n,x,v,rfl,b,ok,hT,hnl,hcs,qb,qf,qt,qu,q⟩:=h
 have bo:=b.ob
 have bd:=b.dc
 have br:=b.rw
 refine hX ?_
 simp_all! []
 refine ⟨n,rfl,hnl,hT,?_⟩
 cases hg:good n with
 | false =>
  simp_all! [fB]
  exact qb hg
 | true =>
 simp_all! []
 by_cases hB:OK x v
 ·obtain ⟨hx,hv⟩:=id hB
  rw [if_neg (by split <;> omega),if_neg (by split <;> omega)]
  simp_all! [bo,yT,bd,ok.UB]
  by_cases hm:n∈L.cs.map Cf.n
  ·rw [if_pos hm]
   simp_all! [fB]
   exact qt hg hB hm
  rw [if_neg hm]
  simp_all! [bo,sC,br,UZ]
  by_cases hr12:12≤L.row.length
  ·rw [if_pos (by omega)]
   simp_all! [fB]
   exact qu hg hB hm hr12
  rw [if_neg (by omega)]
  simp_all! [bo,qB]
  intro a ha
  refine ⟨a,⟨L.t,(x:Rat),v⟩,rfl,ax,λr hr'=>?_⟩
  have nra:r≠a:=by intro e;subst e;rw [ax] at hr';cases hr'
  have jr:J r=none:=by rw [aw nra] at hr';exact hr'
  have b1:bh cN cL (put (put (put J a (.ins cL [])) r (.lst [(aZ.mk L.t (x:Rat) v).V])) a (.ins cL [("rows",.ref r),("gone",.non)])) p L:=b.keep λc u ow e=>by
   have n1:c≠a:=λz=>by subst z;rw [ha] at e;cases e
   have n2:c≠r:=λz=>by subst z;rw [jr] at e;cases e
   rw [aw n1,aw n2,aw n1];exact e
  have l1:ET cL (put (put (put J a (.ins cL [])) r (.lst [(aZ.mk L.t (x:Rat) v).V])) a (.ins cL [("rows",.ref r),("gone",.non)])) a r [⟨L.t,(x:Rat),v⟩] none:=⟨ax,by rw [aw nra];exact ax⟩
  have mv1:Mv J (put (put (put J a (.ins cL [])) r (.lst [(aZ.mk L.t (x:Rat) v).V])) a (.ins cL [("rows",.ref r),("gone",.non)])) (L.own p) (λc=>(L.own p c∨c=a)∨c=r) :=
   ((Mv.Eb ha).trans (Mv.Eb hr')).trans (gG (.inl (.inr rfl)) λc h=>.inl h)
  generalize (put (put (put J a (.ins cL [])) r (.lst [(aZ.mk L.t (x:Rat) v).V])) a (.ins cL [("rows",.ref r),("gone",.non)]))=J1 at b1 l1 mv1 ⊢
  have bo1:=b1.ob
  have bd1:=b1.dc
  simp_all! [bo1,yT,bd1]
  refine ⟨bp (by rw [UZ];omega),λep'=>?_⟩
  have epu:vL (L.cs.map λc=>(c.n,PV.ref c.a)) n (PV.ref a)=(L.cs ++ [Cf.mk n a r [⟨L.t,(x:Rat),v⟩] none]).map λc=>(c.n,PV.ref c.a):=by
   have e:(L.cs.map λc=>(c.n,PV.ref c.a))=((L.cs.map λc=>(c.n,c.a)).map λx=>(x.1,PV.ref x.2)):=by rw [U'];rfl
   rw [e,xr (f:=PV.ref) (l:=a) (by rw [U'];exact hm),U7,U7,U'];rfl
  rw [epu]
  have hrs:r ∉ L.cs.map Cf.r:=λh=>by
   obtain ⟨c,hc,e⟩:=U0.mp h
   have:=(b.lg c hc).l;rw [e,jr] at this;cases this
  have hro:r≠L.o:=λe=>by have:=b.rw;rw [← e,jr] at this;cases this
  have b2:=b1.add (c:=Cf.mk n a r [⟨L.t,(x:Rat),v⟩] none) (ep:=ep') l1 hrs hro
  have ok2:bc ⟨L.t,L.d,ep',L.o,L.cs ++ [Cf.mk n a r [⟨L.t,(x:Rat),v⟩] none],L.row ++ [n]⟩:=ok.tobc.add (c:=Cf.mk n a r [⟨L.t,(x:Rat),v⟩] none) rfl rfl (ub.new ok.t0 ok.ts hx hv) rfl hm (by omega) hcs
  have bo2:(put J1 L.d (HQ.dct ((L.cs ++ [Cf.mk n a r [⟨L.t,(x:Rat),v⟩] none]).map λc=>(c.n,PV.ref c.a)) ep')) p=some (.ins cN [("now",fr L.t),("logs",.ref L.d),("row",.ref L.o)]):=by rw [aw (Ne.symm b1.JE)];exact b1.ob
  have br2:(put J1 L.d (HQ.dct ((L.cs ++ [Cf.mk n a r [⟨L.t,(x:Rat),v⟩] none]).map λc=>(c.n,PV.ref c.a)) ep')) L.o=some (.lst (L.row.map .str)):=by rw [aw (Ne.symm b1.SX)];exact b1.rw
  have mv2:Mv J1 (put (put J1 L.d (HQ.dct ((L.cs ++ [Cf.mk n a r [⟨L.t,(x:Rat),v⟩] none]).map λc=>(c.n,PV.ref c.a)) ep')) L.o (.lst ((L.row ++ [n]).map .str))) (λc=>(L.own p c∨c=a)∨c=r) (Ln.own ⟨L.t,L.d,ep',L.o,L.cs ++ [Cf.mk n a r [⟨L.t,(x:Rat),v⟩] none],L.row ++ [n]⟩ p):=by
   refine (gG (S':=λc=>(L.own p c∨c=a)∨c=r) (.inl (.inl (.inr (.inl rfl)))) λc h=>.inl h).trans (gG (.inl (.inl (.inr (.inr (.inl rfl))))) λc h=>.inl ?_)
   rcases h with h | h | h | ⟨d,hd,h⟩
   ·exact .inl (.inl (.inl h))
   ·exact .inl (.inl (.inr (.inl h)))
   ·exact .inl (.inl (.inr (.inr (.inl h))))
   ·rcases U9.mp hd with hd | hd
    ·exact .inl (.inl (.inr (.inr (.inr ⟨d,hd,h⟩))))
    ·rw [Vc] at hd;subst hd
     rcases h with h | h
     ·exact .inl (.inr h)
     ·exact .inr h
  have mv3:=mv1.trans mv2
  simp_all! [bo2,sC,br2]
  refine ⟨bp (by rw [UZ];omega),?_⟩
  rw [show L.row.map PV.str ++ [PV.str n]=(L.row ++ [n]).map .str by rw [U7];rfl]
  have bo3:=b2.ob
  generalize (put (put J1 L.d (HQ.dct ((L.cs ++ [Cf.mk n a r [⟨L.t,(x:Rat),v⟩] none]).map λc=>(c.n,PV.ref c.a)) ep')) L.o (.lst ((L.row ++ [n]).map .str)))=J2 at b2 mv3 bo3 ⊢
  simp_all! [bo3]
  refine ⟨e8 _ _ _ _,p,_,rfl,b2,ok2,λJ' o' b' mv'=>?_⟩
  exact q hg hB hm (by omega) J' _ b' (cm.settled ok2 o') ⟨a,r,rfl,rfl⟩ (mv3.trans mv')
 ·have hf:=qf hg hB
  by_cases h1:x.natAbs≤1000000
  ·have h2:¬ v.natAbs≤1000:=λh=>hB ⟨h1,h⟩
   rw [if_neg (by split <;> omega),if_pos (by split <;> omega)]
   simp_all! [fB]
   exact hf
  ·rw [if_pos (by split <;> omega)]
   simp_all! [fB]
   exact hf
abbrev jQ:Stmt:=(L2.inClass (top 44) 7)
abbrev mj:List Str:=["self"]
theorem u_:L2.av ["self"] ["self"] (L2.aj jQ):=dC
def zS (cN cL:Addr):cu:=λxs J Q _=>∃p L,xs=[.ref p]∧bh cN cL J p L∧Q (fr L.t) J
theorem uN {cN cL f:Addr} {fd:FuncData} (F:cg K "clock" "Lane.clock" jQ f fd) (Z:bN mg) (au:dJ K mg "Lane" cN) (az:aK K cN "now"):aO P w K mg base (cK P w) 1 f fd mj (dg K (zS cN cL)):=by
 simp_arith [u_,(ak (ay (aW au.cl az (rv 0))))]
 ·obtain ⟨p,L,rfl,_⟩:=h;rfl
 obtain ⟨p,L,rfl,b,q⟩:=h
 have bo:=b.ob
 refine hX ?_
 simp_all! [bo,qB]
 exact q
abbrev jU:Stmt:=(L2.inClass (top 44) 8)
abbrev mn:List Str:=["self"]
theorem vc:L2.av ["self"] ["self"] (L2.aj jU):=dC
def zT (cN cL:Addr):cu:=λxs J Q _=>∃p L,xs=[.ref p]∧bh cN cL J p L∧(Q (.fl (L.row.map .str)) J∨∀l,J l=none→Q (.ref l) (put J l (.lst (L.row.map .str))))
theorem uR {cN cL f:Addr} {fd:FuncData} (F:cg K "order" "Lane.order" jU f fd) (Z:bN mg) (au:dJ K mg "Lane" cN) (aD:aK K cN "row"):aO P w K mg base (cK P w) 1 f fd mn (dg K (zT cN cL)):=by
 simp_arith [vc,(ak (ay (fC rX rfl Z.list boot_list (af (aW au.cl aD (rv 0)) ah)))),F]
 ·obtain ⟨p,L,rfl,_⟩:=h;rfl
 obtain ⟨p,L,rfl,b,q⟩:=h
 have bo:=b.ob
 have br:=b.rw
 refine hX ?_
 simp_all! [bo,br,sC]
 intro l hl
 rcases q with q | q
 ·exact Fg.qO (i4 hl) ax hl q
 ·exact Fg.same (q l hl)
abbrev lj:Stmt:=(L2.inClass (top 44) 10)
abbrev og:List Str:=["self","name"]
theorem xP:L2.av ["self","name"] ["self","name"] (L2.aj lj):=dC
def C9 (cN cL eC:Addr):cu:=λxs J Q E=>∃p L n,xs=[.ref p,.str n]∧bh cN cL J p L∧(∀j:Nat,L.row[j]?=some n→(∀m:Nat,m < j→L.row[m]?≠some n)→Q (.int j) J)∧(n ∉ L.row→E eC J)
theorem yH {α:Type} [DecidableEq α]:∀{l:List α} {x:α},x∈l→∃j:Nat,l[j]?=some x∧∀m:Nat,m < j→l[m]?≠some x
 | y :: l,x,h=>by
  by_cases e:y=x
  ·exact ⟨0,by rw [e];rfl,λm hm=>by omega⟩
  ·rcases Vb.mp h with h | h
   ·exact absurd h.symm e
   ·obtain ⟨j,h1,h2⟩:=yH h
    refine ⟨j + 1,h1,λm hm=>?_⟩
    cases m with
    | zero=>intro z;exact e (Option.some.inj z)
    | succ m=>exact h2 m (by omega)
theorem wW {cN cL eC f:Addr} {fd:FuncData} (F:cg K "rank" "Lane.rank" lj f fd) (Z:bN mg) (au:dJ K mg "Lane" cN) (aD:aK K cN "row") (aS:bU P w K mg base cN 1 "must_be_there" bZ (oO cN cL eC)):aO P w K mg base (cK P w) 2 f fd og (dg K (C9 cN cL eC)):=by
 simp_arith [xP,(ai (aX (aV (pl:=_) aS B hr (rv 0) (af (rv 1) ah)))
   (ak (ay (mC PySem.F.plainAttrs_list PySem.F.slot_list_index PySem.F.type_list_index Gu (aW au.cl aD (rv 0)) (af (rv 1) ah)))))]
 ·obtain ⟨p,L,n,rfl,_⟩:=h;rfl
 obtain ⟨p,L,n,rfl,b,q,qe⟩:=h
 have bo:=b.ob
 have br:=b.rw
 refine hX ?_
 simp_all! [bo]
 refine ⟨e8 _ _ _ _,p,L,n,rfl,b,λhn=>?_,qe⟩
 obtain ⟨j,h1,h2⟩:=yH hn
 simp_all! [bo,br,sC]
 exact ⟨L.row,rfl,j,h1,h2,q j h1 h2⟩
abbrev jV:Stmt:=(L2.inClass (top 44) 12)
abbrev iw:List Str:=["self","name"]
theorem vd:L2.av ["self","name"] ["self","name"] (L2.aj jV):=dC
def tR (cN cL eC:Addr):cu:=λxs J Q E=>∃p L n,xs=[.ref p,.str n]∧bh cN cL J p L∧bc L∧(∀c∈L.cs,c.n=n→c.g=none→Q (fr (c.cur.at L.t)) J)∧(n ∉ L.row→E eC J)
theorem uS {cN cL eC f:Addr} {fd:FuncData} (F:cg K "place" "Lane.place" jV f fd) (Z:bN mg) (au:dJ K mg "Lane" cN) (az:aK K cN "now") (bB:bU P w K mg base cN 4 "leg_of" dS (lB cN cL eC)) (cy:bx P w K mg base 4 "place_on" eZ j9):aO P w K mg base (cK P w) 5 f fd iw (dg K (tR cN cL eC)):=by
 simp_arith [vd,(ak (ay (aQ cy B hr (af (aV (pl:=_) bB B hr (rv 0) (af (rv 1) ah)) (af (aW au.cl az (rv 0)) ah)))))]
 ·obtain ⟨p,L,n,rfl,_⟩:=h;rfl
 obtain ⟨p,L,n,rfl,b,ok,q,qe⟩:=h
 have bo:=b.ob
 refine hX ?_
 simp_all! [bo]
 refine ⟨e8 _ _ _ _,p,L,n,rfl,b,ok,λc hc e hg=>?_,qe⟩
 have sl:=(ok.ck c hc _ (Cf.hE (ok.ne c hc)).2).Nr
 simp_all! [bo,qB]
 exact ⟨c.cur,L.t,rfl,sl.m,sl.p,ok.HX,sl.v,q c hc e hg⟩
def aJ.v (b:aJ):PV:=.tup [fr b.m,.str b.h,.str b.f]
theorem F3 (J:Hq) (b:aJ):fP J b.v (.int 0)=some (fr b.m):=d_ _ _
theorem F4 (J:Hq) (b:aJ):fP J b.v (.int 1)=some (.str b.h):=fZ _ _ _
theorem F7 (J:Hq) (b:aJ):fP J b.v (.int 2)=some (.str b.f):=ma _ _ _ _
theorem Tz (J:Hq) (b:aJ):Dq J b.v=some "tuple":=rfl
theorem Pz (J:Hq) (b:aJ):yQ J b.v=some 3:=rfl
theorem LM (b:aJ):mB b.v=true:=by simp [aJ.v,Kj,pM,zr,Bw,xt]
theorem Sj (b:aJ):Ig b.v=True:=eq_true ⟨LM b,by simp [aJ.v,fr,fS,f6,dep,eg]⟩
theorem Sl (a b:aJ):eqQ a.v b.v=decide (a=b):=by
 unfold aJ.v
 rw [wB,eE,eE,eE,qN,Cb,eq_str,eq_str,V1,← V7,← V7]
 apply decide_eq_decide.mpr
 cases a;cases b
 simp [aJ.mk.injEq]
theorem Mi (a:Rat) (h f:Str):PV.tup [fr a,.str h,.str f]=(aJ.mk a h f).v:=rfl
theorem Fw (J:Hq) (b:aJ):∃xs,b.v=.tup xs∧¬ (HT.eR xs.length 0 (some 1)=0∧HT.eR xs.length xs.length none=xs.length)∧mL xs (some 1) none=[b.h,b.f].map .str:=⟨_,rfl,λh=>absurd h.1 (show HT.eR 3 0 (some 1)≠0 by decide),rfl⟩
abbrev iJ:Stmt:=(top 23)
abbrev kX:List Str:=["one","other"]
theorem tL:L2.av ["one","other"] ["one","other"] (L2.aj iJ):=dC
def xZ:cu:=λxs J Q _=>∃a b:aJ,xs=[a.v,b.v]∧Sz 9000 a.m∧Sz 9000 b.m∧Q (.bl (a.lt b)) J
theorem SI (a b c d:Str):mQ [a,b] [c,d]=if a=c then decide (slt b d) else decide (slt a c):=by
 rw [pw]
 by_cases h:a=c
 ·rw [if_pos h,if_pos h,pw]
  by_cases k:b=d
  ·rw [if_pos k,nX];subst k;exact (decide_eq_false (by unfold slt;exact List.lt_irrefl _)).symm
  ·rw [if_neg k];rfl
 ·rw [if_neg h,if_neg h];rfl
theorem qG {f:Addr} {fd:FuncData} (F:cg K "rings_ahead" "rings_ahead" iJ f fd) (Z:bN mg) (dO:bx P w K mg base 1 "less" fG dm):aO P w K mg base (cK P w) 2 f fd kX (dg K xZ):=by
 simp_arith [tL,(ai (aR (aB (h_ hr.aL) (aq ar (rv 0) ag) (aq ar (rv 1) ag)) (ak (ay (aQ dO B hr (af (aq ar (rv 0) ag) (af (aq ar (rv 1) ag) ah))))) aF)
   (ak (ay (eQ (JS hr.Oy) (jh BR (rv 0) (lW ag) lV) (jh BR (rv 1) (lW ag) lV)))))]
 ·obtain ⟨a,b,rfl,_⟩:=h;rfl
 obtain ⟨a,b,rfl,sa,sb,q⟩:=h
 refine hX ?_
 simp_arith! [bE,F3,F4,F7,dm,LW]
 unfold aJ.lt at q
 by_cases e:a.m=b.m
 ·rw [if_pos e] at q ⊢
  obtain ⟨xs,h1,h2,h3⟩:=Fw J a
  obtain ⟨ys,h4,h5,h6⟩:=Fw J b
  refine Bh h1 ⟨h2,?_⟩
  refine Bh h4 ⟨h5,?_⟩
  exact ⟨[a.h,a.f],[b.h,b.f],congrArg PV.tup h3,congrArg PV.tup h6,by rw [SI];exact q⟩
 ·rw [if_neg e] at q ⊢
  exact ⟨sa,sb,q⟩
theorem PR (v:PV):([("rows",v)]:List (Str × PV)).lookup ("rows":Str)=some v:=rfl
theorem Nl {m:Str} (v:PV) (h:(m == ("rows":Str))=false):([("rows",v)]:List (Str × PV)).lookup m=none:=by rw [Vs,h];rfl
theorem SJ (v:PV):([("rows",v)]:List (Str × PV)).lookup ("drop":Str)=none:=Nl v (by decide +kernel)
theorem PU (v:PV):([("rows",v)]:List (Str × PV)).lookup ("put":Str)=none:=Nl v (by decide +kernel)
theorem PX (v:PV):([("rows",v)]:List (Str × PV)).lookup ("told":Str)=none:=Nl v (by decide +kernel)
theorem Kk {J:Hq} {r p:Addr} {a b c:HQ} (h:r≠p):put (put (put J r a) p b) r c=put (put J r c) p b:=by
 rw [G6 (Ne.symm h),fh]
structure Il (cB:Addr) (J:Hq) (p r:Addr) (rows:List aJ):Prop where
 o:J p=some (.ins cB [("rows",.ref r)])
 l:J r=some (.lst (rows.map aJ.v))
abbrev fE:Stmt:=(L2.inClass (top 24) 0)
abbrev ff:List Str:=["self"]
theorem oH:L2.av ["self"] ["self"] (L2.aj fE):=dC
def x4 (cB:Addr):cu:=λxs J Q _=>∃p,xs=[.ref p]∧J p=some (.ins cB [])∧∀r,J r=none→Q .non (put (put J r (.lst [])) p (.ins cB [("rows",.ref r)]))
theorem uJ {cB f:Addr} {fd:FuncData} (F:cg K "__init__" "Bells.__init__" fE f fd) (bQ:dJ K mg "Bells" cB) (a_:aK K cB "rows"):aO P w K mg base (cK P w) 1 f fd ff (dg K (x4 cB)):=by
 simp_arith [oH,(ak (iE bQ.cl a_ (rv 0) (mZ ah)))]
 ·obtain ⟨p,rfl,_⟩:=h;rfl
 obtain ⟨p,rfl,hp,q⟩:=h
 refine hX ?_
 simp_arith! [bE]
 intro r hr'
 have ne:p≠r:=by intro e;subst e;rw [hp] at hr';cases hr'
 exact mV (x:=[]) (by rw [aw ne];exact hp) ⟨by decide,q r hr'⟩
abbrev gh:Stmt:=(L2.inClass (top 24) 2)
abbrev mf:List Str:=["self","hind","fore"]
theorem iK:L2.av ["self","hind","fore","kept","found"] ["self","hind","fore"] (L2.aj gh):=dC
def CT (cB:Addr):cu:=λxs J Q _=>∃p r rows h f,xs=[.ref p,.str h,.str f]∧Il cB J p r rows∧rows.length≤900∧∀r',J r'=none→Q (.bl (decide ((du h f rows).length < rows.length))) (put (put J r' (.lst ((du h f rows).map aJ.v))) p (.ins cB [("rows",.ref r')]))
def tail3:PV→PV
 | .tup xs=>.tup (mL xs (some 1) none)
 | _=>.non
def Cu (h f:Str) (x:PV):Bool:=!eqQ (tail3 x) (.tup [.str h,.str f])
theorem M' (h f:Str) (b:aJ):Cu h f b.v=!vR h f b:=by
 show (!eqQ (.tup [.str b.h,.str b.f]) (.tup [.str h,.str f]))=_
 rw [wB,eE,eE,qN,eq_str,eq_str,V1,← V7]
 rfl
theorem FF (h f:Str):∀rows:List aJ,((rows.map aJ.v).filter (Cu h f)).map (λx=>x)=(du h f rows).map aJ.v
 | []=>rfl
 | b :: rows=>by
  have ih:=FF h f rows
  unfold du at ih ⊢
  rw [U6,Vt,Vt,M']
  cases vR h f b <;> simp at ih ⊢ <;> exact ih
theorem uI {cB f:Addr} {fd:FuncData} (F:cg K "drop" "Bells.drop" gh f fd) (Z:bN mg) (bQ:dJ K mg "Bells" cB) (a_:aK K cB "rows"):aO P w K mg base (cK P w) 1 f fd mf (dg K (CT cB)):=by
 simp_arith [iK,(ai (Kx (i:=3) (L2.aj gh) ["self","hind","fore","kept","found"] [("hind",1),("fore",2)] rfl rfl rfl iK.nd rfl (Or.inl rfl) (fj (aW bQ.cl a_ (rv 0))) (λ_ _ _ _ _ _=>(rv 0)) (λ_ _ _ _ _ _=>(aB (h_ hr.aL) (jh BR (rv 0) (lW ag) lV) (cE (af (rv 1) (af (rv 2) ah))))))
   (ai (aE (i:=4) iK.nd (eQ gL (aI bV rfl Z.len boot_len (af (rv 3) ah)) (aI bV rfl Z.len boot_len (af (aW bQ.cl a_ (rv 0)) ah))))
   (ai (iE bQ.cl a_ (rv 0) (rv 3))
   (ak (ay (rv 4))))))]
 ·obtain ⟨p,r,rows,h,f,rfl,_⟩:=h;rfl
 obtain ⟨p,r,rows,h,f,rfl,b,hl,q⟩:=h
 have bo:=b.o
 have bl:=b.l
 refine hX ?_
 simp_arith! [bE,N4,bo,bl,PR]
 refine ⟨Cu h f,λx=>x,⟨by rw [UZ];exact bp (by omega),λJ' sub=>⟨sub _ _ bl,λx hx=>?_⟩⟩,λr' hr'=>?_⟩
 ·obtain ⟨b,_,rfl⟩:=U0.mp hx
  obtain ⟨xs,h1,h2,h3⟩:=Fw J' b
  have hk:Cu h f b.v=!eqQ (.tup (mL xs (some 1) none)) (.tup [.str h,.str f]):=by rw [h1];rfl
  simp_arith! [bE]
  refine ⟨Bh h1 ⟨h2,?_⟩,λ_=>trivial⟩
  simp_arith! [bE]
  rw [hk,h3]
  refine ⟨⟨by simp [mB,jg],by simp [fS,f6,dep,eg]⟩,by simp [mB,jg],rfl⟩
 ·have ne:p≠r':=by intro e;subst e;rw [bo] at hr';cases hr'
  have nr:r≠r':=by intro e;subst e;rw [bl] at hr';cases hr'
  simp_arith! [bE,aw ne,aw nr,bo,bl,PR,FF,UZ,Int.ofNat_lt]
  exact ⟨by decide,q r' hr'⟩
abbrev k9:Stmt:=(L2.inClass (top 24) 1)
abbrev jH:List Str:=["self","moment","hind","fore"]
theorem d8:L2.av ["self","moment","hind","fore","bell","low","high","middle"] ["self","moment","hind","fore"] (L2.aj k9):=dC
def BM (cB:Addr):cu:=λxs J Q _=>∃p r rows m h f,xs=[.ref p,fr m,.str h,.str f]∧Il cB J p r rows∧jm rows∧rows.length≤800∧Sz 9000 m∧(∀x∈rows,Sz 9000 x.m) ∧
 ∀r',J r'=none→Q .non (put (put J r' (.lst ((kg ⟨m,h,f⟩ (du h f rows)).map aJ.v))) p (.ins cB [("rows",.ref r')]))
theorem Lf (a b:Nat):((a:Int) + (b:Int)).fdiv 2=(((a + b) / 2:Nat):Int):=by rw [Int.fdiv_eq_ediv_of_nonneg _ (by decide)];omega
theorem T' (a:Int):CQ a 2=True:=eq_true ⟨by decide,Bd.mono (Bd.small (by decide) (by decide)) (by decide)⟩
theorem Ft {rows:List aJ} {i:Nat} {b:aJ} (h:rows[i]?=some b):dF (rows.map aJ.v) (i:Int)=some b.v:=bA (by rw [U8,h];rfl)
theorem wQ {cB f:Addr} {fd:FuncData} (F:cg K "put" "Bells.put" k9 f fd) (Z:bN mg) (bQ:dJ K mg "Bells" cB) (a_:aK K cB "rows") (jx:bU P w K mg base cB 1 "drop" mf (CT cB))
  (uf:bx P w K mg base 2 "rings_ahead" kX xZ):aO P w K mg base (cK P w) 3 f fd jH (dg K (BM cB)):=by
 simp_arith [d8,(ai (aX (aV (pl:=_) jx B hr (rv 0) (af (rv 2) (af (rv 3) ah))))
   (ai (aE (i:=4) d8.nd (cE (af (rv 1) (af (rv 2) (af (rv 3) ah)))))
   (ai (N_ (i:=5) (j:=6) rfl d8.nd rfl rfl (by decide) rfl rfl (af ag (af (aI bV rfl Z.len boot_len (af (aW bQ.cl a_ (rv 0)) ah)) ah)) rfl)
   (ai (k7 b_ (aB gL (rv 5) (rv 6)) (ai (aE (i:=7) d8.nd (aG qT (aG cX (rv 5) (rv 6)) ag))
   (ak (aR (bX (aQ uf B hr (af (aq ar (aW bQ.cl a_ (rv 0)) (rv 7)) (af (rv 4) ah)))) (ak (aE (i:=5) d8.nd (aG cX (rv 7) ag))) (ak (aE (i:=6) d8.nd (rv 7)))))))
   (ak (aX (mC PySem.F.plainAttrs_list PySem.F.slot_list_insert PySem.F.type_list_insert lR (aW bQ.cl a_ (rv 0)) (af (rv 5) (af (rv 4) ah)))))))))]
 ·obtain ⟨p,r,rows,m,h,f,rfl,_⟩:=h;rfl
 obtain ⟨p,r,rows,m,h,f,rfl,b,srt,hl,sm,sr,q⟩:=h
 have bo:=b.o
 refine hX ?_
 simp_arith! [bE,bo,SJ]
 refine ⟨p,r,rows,h,f,rfl,b,by omega,λr' hr'=>?_⟩
 have ON:r'≠p:=by intro e;subst e;rw [bo] at hr';cases hr'
 have b1:Il cB (put (put J r' (.lst ((du h f rows).map aJ.v))) p (.ins cB [("rows",.ref r')])) p r' (du h f rows):=⟨ax,by rw [aw ON];exact ax⟩
 have kl:(du h f rows).length≤800:=Vh (pd _ _ _) hl
 have ks:jm (du h f rows):=vw srt
 have kz:∀x∈du h f rows,Sz 9000 x.m:=λx hx=>sr x (U_.mp hx).1
 have q:=q r' hr'
 generalize hJ:put (put J r' (.lst ((du h f rows).map aJ.v))) p (.ins cB [("rows",.ref r')])=J1 at b1 ⊢
 have hq:put J1 r' (.lst ((kg ⟨m,h,f⟩ (du h f rows)).map aJ.v))=put (put J r' (.lst ((kg ⟨m,h,f⟩ (du h f rows)).map aJ.v))) p (.ins cB [("rows",.ref r')]):=by rw [← hJ,Kk ON]
 rw [← hq] at q
 clear hq hJ hr'
 have bo:=b1.o
 have bl:=b1.l
 generalize du h f rows=ks' at *
 simp_arith! [bE,bo,bl,PR,Mi,UZ]
 refine ⟨λk τ J'=>∃(lo hi:Nat) (u:Option PV),τ=[some (.ref p),some (fr m),some (.str h),some (.str f),some (aJ.mk m h f).v,some (.int lo),some (.int hi),u]∧J'=J1∧k=hi - lo∧lo≤hi∧hi≤ks'.length ∧
  (∀(j:Nat) x,j < lo→ks'[j]?=some x→x.lt ⟨m,h,f⟩=true)∧(∀(j:Nat) x,hi≤j→ks'[j]?=some x→x.lt ⟨m,h,f⟩=false),⟨_,0,ks'.length,none,rfl,rfl,rfl,Vr _,U4 _,λj x hj=>absurd hj (Wz _),λj x hj e=>by rw [Vz hj] at e;cases e⟩,?_⟩
 rintro k τ J' ⟨lo,hi,u,rfl,rfl,rfl,h1,h2,hlo,hhi⟩
 simp_arith! [bE,bo,bl,PR,T',Lf,Int.ofNat_lt,xZ]
 by_cases hlt:lo < hi
 ·rw [if_pos hlt]
  have hm:(lo + hi) / 2 < ks'.length:=by omega
  obtain ⟨x,hx⟩:∃x,ks'[(lo + hi) / 2]?=some x:=⟨_,U2 hm⟩
  obtain ⟨N,hN⟩:∃N:Sr→Hq→Prop,∀τ' J'',N τ' J''↔∃(lo' hi':Nat) (u:Option PV),τ'=[some (.ref p),some (fr m),some (.str h),some (.str f),some (aJ.mk m h f).v,some (.int lo'),some (.int hi'),u]∧J''=J'∧lo'≤hi'∧hi'≤ks'.length∧hi' - lo' < hi - lo ∧
   (∀(j:Nat) x,j < lo'→ks'[j]?=some x→x.lt ⟨m,h,f⟩=true)∧(∀(j:Nat) x,hi'≤j→ks'[j]?=some x→x.lt ⟨m,h,f⟩=false):=⟨_,λ_ _=>Iff.rfl⟩
  refine ⟨N,λτ' J'' hn=>by obtain ⟨lo',hi',u,e1,e2,e3,e4,e5,e6,e7⟩:=(hN _ _).mp hn;exact ⟨_,e5,lo',hi',u,e1,e2,rfl,e3,e4,e6,e7⟩,kM (Ft hx) ⟨x,⟨m,h,f⟩,rfl,kz x (U3 hx),sm,?_⟩⟩
  simp_arith! [bE,T',Lf,Int.ofNat_lt]
  cases hc:x.lt ⟨m,h,f⟩ with
  | true =>
   rw [if_pos rfl]
   exact (hN _ _).mpr ⟨(lo + hi) / 2 + 1,hi,_,rfl,rfl,by omega,h2,by omega,λj y hj e=>Df ks hx e (by omega) hc,hhi⟩
  | false =>
   rw [if_neg Ve]
   exact (hN _ _).mpr ⟨lo,(lo + hi) / 2,_,rfl,rfl,by omega,by omega,by omega,hlo,λj y hj e=>zY ks hx e hj hc⟩
 ·rw [if_neg hlt]
  have e:lo=hi:=by omega
  subst e
  refine ⟨_,lo,rfl,rfl,by rw [UZ];exact h2,by rw [UZ];exact bp (by omega),VN h2 (VN kl (by decide)),?_⟩
  rw [← Co h2 hlo hhi,U7,U6,V2,Wy] at q
  exact q
abbrev jN:Stmt:=(L2.inClass (top 24) 5)
abbrev iq:List Str:=["self"]
theorem uZ:L2.av ["self"] ["self"] (L2.aj jN):=dC
def x5 (cB:Addr):cu:=λxs J Q _=>∃p r rows,xs=[.ref p]∧Il cB J p r rows∧(Q (.fl (rows.map aJ.v)) J∨∀l,J l=none→Q (.ref l) (put J l (.lst (rows.map aJ.v))))
theorem uK {cB f:Addr} {fd:FuncData} (F:cg K "told" "Bells.told" jN f fd) (Z:bN mg) (bQ:dJ K mg "Bells" cB) (a_:aK K cB "rows"):aO P w K mg base (cK P w) 1 f fd iq (dg K (x5 cB)):=by
 simp_arith [uZ,(ak (ay (fC rX rfl Z.list boot_list (af (aW bQ.cl a_ (rv 0)) ah)))),F]
 ·obtain ⟨p,r,rows,rfl,_⟩:=h;rfl
 obtain ⟨p,r,rows,rfl,b,q⟩:=h
 have bo:=b.o
 have bl:=b.l
 refine hX ?_
 simp_arith! [bE,bo,bl,PR]
 intro l hl
 rcases q with q | q
 ·exact Fg.qO (i4 hl) ax hl q
 ·exact Fg.same (q l hl)
def CV:cu:=λxs J Q _=>∃t b:Int,xs=[.int t,.int b]∧b≠0∧Bd 9000 b∧Q (fr (Rat.divInt t b)) J
theorem uH (C:t9 P w K mg base 2 "fraction" dW gX):bx P w K mg base 2 "fraction" dW CV:=C.lift λxs J vs H Q2 E2 Q E rs r ⟨t,b,ex,h0,h1,q⟩ kn=>by
 subst ex
 obtain ⟨v,u,rfl,r1,r2⟩:=j0 rs
 cases r1;cases r2
 exact ⟨t,b,rfl,h0,h1,xB r kn q⟩
theorem yV (l l':aZ) (h:l.v≠l'.v):Rat.divInt ((l'.at 0 - l.at 0).num) (((l'.at 0 - l.at 0).den:Int) * (l.v - l'.v))=j2 l l':=by
 rw [N2 _ _ (by omega)];rfl
abbrev pR:Stmt:=(top 28)
abbrev sX:List Str:=["one","other"]
theorem nj:L2.av ["one","other","gain","gap"] ["one","other"] (L2.aj pR):=dC
def C4:cu:=λxs J Q _=>∃l l':aZ,xs=[l.V,l'.V]∧oX 900 l∧oX 900 l'∧(l.v=l'.v→Q .non J)∧(l.v≠l'.v→Q (fr (j2 l l')) J)
theorem y9 {f:Addr} {fd:FuncData} (F:cg K "meeting" "meeting" pR f fd) (Z:bN mg) (N:rR K mg) (cy:bx P w K mg base 4 "place_on" eZ j9) (nB:bx P w K mg base 3 "minus" kW (BL λp q=>p - q)) (cj:bx P w K mg base 2 "fraction" dW CV) :
  aO P w K mg base (cK P w) 5 f fd sX (dg K C4):=by
 obtain ⟨aN,gN,sN⟩:=N
 have rN:∀(J:Hq) (H:Hp),cH K J H (fr 0) (.ref aN):=λJ H=>⟨aN,_,rfl,sN H,⟨_,_,rfl,rfl,_,_,rfl,rfl,rfl⟩⟩
 simp_arith [nj,(ai (aE (i:=2) nj.nd (aG dD (aq ar (rv 0) ag) (aq ar (rv 1) ag)))
   (ai (aR (aB (bT hr.aL) (rv 2) ag) (ak (ay k4)) aF)
   (ai (aE (i:=3) nj.nd (aQ nB B hr (af (aQ cy B hr (af (rv 1) (af (gd (v:=.ref aN) (fr 0) rfl gN rfl rN) ah))) (af (aQ cy B hr (af (rv 0) (af (gd (v:=.ref aN) (fr 0) rfl gN rfl rN) ah))) ah))))
   (ak (ay (aQ cj B hr (af (aq ar (rv 3) ag) (af (aG bP (aq ar (rv 3) ag) (rv 2)) ah))))))))]
 ·obtain ⟨l,l',rfl,_⟩:=h;rfl
 obtain ⟨l,l',rfl,sl,sl',q0,q1⟩:=h
 refine hX ?_
 have z1:Sz 900 (0:Rat):=⟨⟨by decide⟩,⟨by decide⟩⟩
 have s3:=kr sl z1
 have s3':=kr sl' z1
 have s4:Sz 6001 (l'.at 0 - l.at 0):=s3'.sub s3
 have bg:Bd 65 (l.v - l'.v):=sl.v.sub sl'.v
 simp_all! [md]
 split
 ·rename_i e;simp_all! [];exact q0 (by omega)
 rename_i e
 have hv:l.v≠l'.v:=by omega
 simp_all! []
 refine ⟨l',0,rfl,sl'.m,sl'.p,z1,sl'.v,l,0,rfl,sl.m,sl.p,z1,sl.v,l'.at 0,l.at 0,rfl,s3'.mono (by decide),s3.mono (by decide),?_⟩
 simp_all! []
 refine ⟨.of s4.den bg,_,_,rfl,Int.mul_ne_zero (fu _) e,(Bd.mul s4.den bg (k:=6100)).mono (by decide),?_⟩
 rw [yV l l' hv]
 exact q1 hv
theorem yW {l l':aZ} (sl:oX 900 l) (sl':oX 900 l') (h:l.v≠l'.v):Sz 8000 (j2 l l'):=by
 rw [← yV l l' h]
 have z1:Sz 900 (0:Rat):=⟨⟨by decide⟩,⟨by decide⟩⟩
 have s4:Sz 6001 (l'.at 0 - l.at 0):=(kr sl' z1).sub (kr sl z1)
 have bg:Bd 65 (l.v - l'.v):=sl.v.sub sl'.v
 exact Sz.div (s4.num.mono (by decide)) ((Bd.mul s4.den bg (k:=6100)).mono (by decide)) (Int.mul_ne_zero (fu _) (by omega))
theorem bc.RL {L:Ln} (h:bc L) {c:Cf} (hc:c∈L.cs):oX 900 c.cur:=(h.ck c hc _ (Cf.hE (h.ne c hc)).2).Nr
abbrev jT:Stmt:=(L2.inClass (top 44) 13)
abbrev eG:List Str:=["self","name","other"]
theorem mE:L2.av ["self","name","other","met"] ["self","name","other"] (L2.aj jT):=dC
def lD (cN cL eC:Addr):cu:=λxs J Q E=>∃p L n n',xs=[.ref p,.str n,.str n']∧bh cN cL J p L∧bc L∧(∀c∈L.cs,∀c'∈L.cs,c.n=n→c'.n=n'→c.g=none→c'.g=none→Q (gv (qC L.t c.cur c'.cur)) J)∧(n ∉ L.row∨n' ∉ L.row→E eC J)
theorem uQ {cN cL eC f:Addr} {fd:FuncData} (F:cg K "meets" "Lane.meets" jT f fd) (Z:bN mg) (au:dJ K mg "Lane" cN) (az:aK K cN "now") (bB:bU P w K mg base cN 4 "leg_of" dS (lB cN cL eC)) (Dv:bx P w K mg base 5 "meeting" sX C4) (dO:bx P w K mg base 1 "less" fG dm):aO P w K mg base (cK P w) 6 f fd eG (dg K (lD cN cL eC)):=by
 simp_arith [mE,(ai (aE (i:=3) mE.nd (aQ Dv B hr (af (aV (pl:=_) bB B hr (rv 0) (af (rv 1) ah)) (af (aV (pl:=_) bB B hr (rv 0) (af (rv 2) ah)) ah))))
   (ak (ay (Q8 (cP (dk (aB sJ (rv 3) k4) (cF (bX (aQ dO B hr (af (aW au.cl az (rv 0)) (af (rv 3) ah))))))) (rv 3) k4))))]
 ·obtain ⟨p,L,n,n',rfl,_⟩:=h;rfl
 obtain ⟨p,L,n,n',rfl,b,ok,q,qe⟩:=h
 have bo:=b.ob
 refine hX ?_
 simp_all! [bo]
 refine ⟨e8 _ _ _ _,p,L,n,rfl,b,ok,λc hc e hg=>?_,λz=>qe (.inl z)⟩
 simp_all! [bo]
 refine ⟨e8 _ _ _ _,p,L,n',rfl,b,ok,λc' hc' e' hg'=>?_,λz=>qe (.inr z)⟩
 have q:=q c hc c' hc' e e' hg hg'
 have sl:=ok.RL hc
 have sl':=ok.RL hc'
 unfold qC at q
 refine ⟨c.cur,c'.cur,rfl,sl,sl',λhv=>?_,λhv=>?_⟩
 ·rw [if_neg (λz=>z.1 hv)] at q
  simp_all! []
  exact q
 ·simp_all! [su,bo,qB,dm]
  refine ⟨ok.HX.mono (by decide),(yW sl sl' hv).mono (by decide),?_⟩
  split
  ·rename_i c1
   rw [if_pos ⟨hv,c1⟩] at q
   simp_all! []
   exact q
  ·rename_i c1
   rw [if_neg (λz=>c1 z.2)] at q
   exact q
theorem UW (A:Nat):Sc ij A 0:=⟨0,by rw [Rat.zero_mul];rfl,Vr _⟩
theorem bh.Ny {cN cL:Addr} {J:Hq} {p T:Addr} {L:Ln} (h:bh cN cL J p L) (hT:J T=VJ .tab):¬ L.own p T:=by
 rintro (rfl | rfl | rfl | ⟨c,hc,rfl | rfl⟩)
 ·rw [h.ob] at hT;cases hT
 ·rw [h.dc] at hT;cases hT
 ·rw [h.rw] at hT;cases hT
 ·rw [(h.lg c hc).o] at hT;cases hT
 ·rw [(h.lg c hc).l] at hT;cases hT
theorem Pj {L:Ln} {n:Str} {l:aZ} (h:(n,l)∈L.fs):∃c∈L.cs,c.n=n∧c.g=none∧c.cur=l:=by
 obtain ⟨c,hc,e⟩:=U0.mp h
 have:=Ln.cV.mp hc
 cases e
 exact ⟨c,this.1,rfl,this.2,rfl⟩
def p6:cu:=λxs J Q _=>∃a b:Int,xs=[.int a,.int b]∧Q (.int (Int.gcd a b:Nat)) J
theorem yS (C:t9 P w K mg base 1 "shared" jf tW):bx P w K mg base 1 "shared" jf p6:=C.lift λxs J vs H Q2 E2 Q E rs r ⟨a,b,ex,q⟩ kn=>by
 subst ex
 obtain ⟨v,u,rfl,r1,r2⟩:=j0 rs
 cases r1;cases r2
 exact ⟨a,b,rfl,kn (.int _) J _ H rfl r .refl q⟩
abbrev fk:Stmt:=(top 20)
abbrev gP:List Str:=["pair"]
theorem nh:L2.av ["pair"] ["pair"] (L2.aj fk):=dC
def zP:cu:=λxs J Q _=>∃a b:Int,xs=[.tup [.int a,.int b]]∧Q (.bl (decide (1≤b∧Int.gcd a b=1))) J
theorem l8 {f:Addr} {fd:FuncData} (F:cg K "in_lowest_terms" "in_lowest_terms" fk f fd) (Z:bN mg) (iN:bx P w K mg base 1 "shared" jf p6):aO P w K mg base (cK P w) 2 f fd gP (dg K zP):=by
 simp_arith [nh,(ak (ay (Bz (eQ CA (aq ar (rv 0) ag) ag) (xA (eQ (bT hr.aL) (aQ iN B hr (af (aq ar (rv 0) ag) (af (aq ar (rv 0) ag) ah))) ag)))))]
 ·obtain ⟨a,b,rfl,_⟩:=h;rfl
 obtain ⟨a,b,rfl,q⟩:=h
 refine hX ?_
 simp_all! []
 by_cases c:1≤b
 ·simp only [c,decide_true,true_and,if_true] at q ⊢
  simp_all! [p6]
  have:decide (((Int.gcd a b:Nat):Int)=1)=decide (Int.gcd a b=1):=decide_eq_decide.mpr (by omega)
  rw [this];exact q
 ·simp only [c,decide_false,false_and] at q ⊢
  rw [if_neg (λz=>z)]
  exact q
abbrev iH:Stmt:=(top 42)
abbrev kT:List Str:=["moment"]
theorem gU:L2.av ["moment","top","bottom"] ["moment"] (L2.aj iH):=dC
def iY (a b:Int):Bool:=decide (b≤60∧1≤b∧Int.gcd a b=1∧0≤a∧a≤1000000 * b)
def CY:cu:=λxs J Q _=>∃a b:Int,xs=[.tup [.int a,.int b]]∧Q (.bl (iY a b)) J
theorem qE {f:Addr} {fd:FuncData} (F:cg K "good_moment" "good_moment" iH f fd) (Z:bN mg) {oR oS:Tok} (kC:mg "FINEST"=some (.int 60 oR)) (kD:mg "LATEST"=some (.int 1000000 oS)) (nv:bx P w K mg base 2 "in_lowest_terms" gP zP):aO P w K mg base (cK P w) 3 f fd kT (dg K CY):=by
 simp_arith [gU,(ai (xC (rv 0) (tq (n:=2) rfl (dy (bK (i:=1) gU.nd) (dy (bK (i:=2) gU.nd) oF))))
   (ai (aR (cP (k8 (aB j3 (rv 2) (gd (v:=.int 60) (.int 60) rfl kC ⟨_,rfl⟩ (λ_ _=>rfl))) (gQ (dj (bX (aQ nv B hr (af (rv 0) ah))))))) (ak (ay ed)) aF)
   (ak (ay (Hh GP GP ag (rv 1) (aG bP (gd (v:=.int 1000000) (.int 1000000) rfl kD ⟨_,rfl⟩ (λ_ _=>rfl)) (rv 2)))))))]
 ·obtain ⟨a,b,rfl,_⟩:=h;rfl
 obtain ⟨a,b,rfl,q⟩:=h
 refine hX ?_
 unfold iY at q
 simp_all! []
 simp_all! []
 by_cases c1:60 < b
 ·rw [if_pos c1]
  rw [decide_eq_false (λz=>by omega)] at q
  exact q
 rw [if_neg c1]
 simp_all! []
 refine ⟨a,b,rfl,?_⟩
 by_cases c2:1≤b∧Int.gcd a b=1
 ·rw [decide_eq_true c2]
  simp_all! [xy]
  by_cases c3:0≤a
  ·simp only [c3,decide_true,if_true]
   refine ⟨.of (.small (x:=1000000) (by decide) (by decide)) (.small (x:=b) (by omega) (by omega)),?_⟩
   have:decide (a≤1000000 * b)=decide (b≤60∧1≤b∧Int.gcd a b=1∧0≤a∧a≤1000000 * b):=decide_eq_decide.mpr ⟨λz=>⟨by omega,c2.1,c2.2,c3,z⟩,λz=>z.2.2.2.2⟩
   rw [this];exact q
  ·rw [decide_eq_false (λz=>c3 z.2.2.2.1)] at q
   simp only [c3,decide_false]
   rw [if_neg (λz=>z)]
   exact q
 ·rw [decide_eq_false c2]
  rw [decide_eq_false (λz=>c2 ⟨z.2.1,z.2.2.1⟩)] at q
  simp_all! []
  exact q
theorem bh.less {cN cL:Addr} {J J':Hq} {p:Addr} {L:Ln} (h:bh cN cL J p L) (l:oY J J'):bh cN cL J' p L:=h.keep λa o _ e=>by
 rcases l a with z | z
 ·rw [← z];exact e
 ·rw [z] at e;cases e
theorem pq {J J':Hq} {p r:Addr} {x y:HQ} (l:oY J J') (hp:J p=none) (hr:J' r=none):oY J (put (put J' r x) p y):=λa=>by
 by_cases e:a=p
 ·exact .inr (by rw [e];exact hp)
 by_cases e2:a=r
 ·rcases l a with z | z
  ·right;rw [z,e2];exact hr
  ·exact .inr z
 ·rw [aw e,aw e2];exact l a
theorem vH {J:Hq} {p r:Addr} {x y z:HQ} (hp:J p=none) (hr:put J p x r=none):oY J (put (put (put J p x) r y) p z):=pq (i4 hp) hp hr
theorem yE (xs:List PV) (k:Nat) (h:k≤xs.length):mL xs (some (k:Int)) none=xs.drop k:=by
 unfold mL HT.eR
 simp only [Int.toNat_natCast]
 rw [if_neg (by omega),Xh h]
 rw [VR (by rw [V3];exact U4 _)]
theorem cm.keys {L:Ln} (ok:cm L):L.row.map PV.str=(cI (L.fs.map (key L.t))).map λk=>PV.str k.n:=by rw [ok.row];unfold cO;rw [U'];rfl
theorem wJ {L:Ln} (ok:bc L) {a:Ky} (ha:a∈cI (L.fs.map (key L.t))) {c:Cf} (hc:c∈L.cs) (hg:c.g=none) (e:c.n=a.n):a=key L.t (c.n,c.cur):=by
 obtain ⟨x,hx,rfl⟩:=U0.mp ((bD _ _).mp ha)
 obtain ⟨c0,hc0,h1,h2,h3⟩:=Pj (n:=x.1) (l:=x.2) hx
 have:c0=c:=ok.uniq hc0 hc (h1.trans e.symm)
 subst this
 show key L.t (x.1,x.2)=_
 rw [← h3,← h1]
theorem lX {L:Ln} (ok:cm L) {a:Ky} (ha:a∈cI (L.fs.map (key L.t))):a.n∈L.row:=by
 rw [ok.row];unfold cO;exact U0.mpr ⟨a,ha,rfl⟩
theorem n4 {L:Ln} (ok:cm L) {a b:Ky} (ha:a∈cI (L.fs.map (key L.t))) (hb:b∈cI (L.fs.map (key L.t))) (h:b.v < a.v):Sz 9000 (fc L.t a b):=by
 obtain ⟨c,hc,hcn,hcg⟩:=ok.found (lX ok ha)
 obtain ⟨c',hc',hcn',hcg'⟩:=ok.found (lX ok hb)
 have ea:=wJ ok.tobc ha hc hcg hcn
 have eb:=wJ ok.tobc hb hc' hcg' hcn'
 have hv:c.cur.v≠c'.cur.v:=by rw [ea,eb] at h;exact λz=>by have:c'.cur.v < c.cur.v:=h;omega
 rw [ea,eb,← qR hv]
 exact (yW (ok.RL hc) (ok.RL hc') hv).mono (by decide)
theorem cm.knd {L:Ln} (ok:cm L):((L.fs.map (key L.t)).map Ky.n).Nodup:=by rw [dz];exact ok.M3
theorem cm.Pw {L:Ln} (ok:cm L):(cI (L.fs.map (key L.t))).length≤12:=by
 have h1:=ok.rl
 have h2:=congrArg V0 ok.keys
 rw [UZ,UZ] at h2
 omega
theorem yX {L:Ln} (ok:cm L) {i j:Nat} {a b:Ky} (ha:(cI (L.fs.map (key L.t)))[i]?=some a) (hb:(cI (L.fs.map (key L.t)))[j]?=some b) (hij:i < j) {c c':Cf} (hc:c∈L.cs) (hc':c'∈L.cs) (hg:c.g=none) (hg':c'.g=none) (e:c.n=a.n) (e':c'.n=b.n) :
  qC L.t c.cur c'.cur=if b.v < a.v∧a.p < b.p then some (fc L.t a b) else none:=by
 have ea:=wJ ok.tobc (U3 ha) hc hg e
 have eb:=wJ ok.tobc (U3 hb) hc' hg' e'
 have hlt:a.lt b=true:=by
  obtain ⟨hil,ei⟩:=U1.mp ha
  obtain ⟨hjl,ej⟩:=U1.mp hb
  have:=VF.mp (cY ok.knd) i j hil hjl hij
  rw [ei,ej] at this;exact this
 rw [ea,eb] at hlt ⊢
 have key:=Jy hlt
 unfold qC
 by_cases z:c.cur.v≠c'.cur.v∧L.t < j2 c.cur c'.cur
 ·rw [if_pos z,if_pos (show (Ov.key L.t (c'.n,c'.cur)).v < (Ov.key L.t (c.n,c.cur)).v∧(Ov.key L.t (c.n,c.cur)).p < (Ov.key L.t (c'.n,c'.cur)).p from key.mp z),qR z.1]
 ·rw [if_neg z,if_neg (show ¬ ((Ov.key L.t (c'.n,c'.cur)).v < (Ov.key L.t (c.n,c.cur)).v∧(Ov.key L.t (c.n,c.cur)).p < (Ov.key L.t (c'.n,c'.cur)).p) from λy=>z (key.mpr y))]
theorem Kw {L:Ln} (ok:cm L) {i j:Nat} {a b:Ky} (ha:(cI (L.fs.map (key L.t)))[i]?=some a) (hb:(cI (L.fs.map (key L.t)))[j]?=some b) (hij:i < j) (h:b.v < a.v):a.p < b.p:=by
 obtain ⟨hil,ei⟩:=U1.mp ha
 obtain ⟨hjl,ej⟩:=U1.mp hb
 have:=VF.mp (cY ok.knd) i j hil hjl hij
 rw [ei,ej,Ky.lt_iff] at this
 rcases this with z | ⟨_,z | ⟨z,_⟩⟩
 ·exact z
 ·omega
 ·omega
abbrev fU:Stmt:=(L2.inClass (top 44) 6)
abbrev i_:List Str:=["self","moment"]
theorem cx:L2.av ["self","moment","passings","at","hind","fore","met"] ["self","moment"] (L2.aj fU):=dC
theorem D4 {J J':Hq} {l:Addr} {o:HQ} (h:oY J J'):oY (put J l o) (put J' l o):=λa=>by
 by_cases e:a=l
 ·subst e;rw [ax,ax];exact .inl rfl
 ·rw [aw e,aw e];exact h a
def C5 (cN cL eM eP:Addr):cu:=λxs J Q E=>∃p L a b,xs=[.ref p,.tup [.int a,.int b]]∧bh cN cL J p L∧cm L∧(iY a b=false→E eM J)∧(∀m:Rat,m.num=a→(m.den:Int)=b→iY a b=true→(m < L.t→E eP J)∧(L.t≤m→Q (.fl ((qi L.t (L.fs.map (key L.t)) m).map aJ.v)) J∨∀l,J l=none→Q (.ref l) (put J l (.lst ((qi L.t (L.fs.map (key L.t)) m).map aJ.v)))))
theorem pB {cN cL cB eM eP eC f:Addr} {fd:FuncData} (F:cg K "foretold" "Lane.foretold" fU f fd) (Z:bN mg) (au:dJ K mg "Lane" cN) (az:aK K cN "now") (aD:aK K cN "row") (ko:Own K mg "BadMoment" eM) (AA:Own K mg "Past" eP) (ud:bx P w K mg base 3 "good_moment" kT CY) (dO:bx P w K mg base 1 "less" fG dm) (lJ:Ay P w K mg base cB 1 "Bells" ff (x4 cB)) (bO:bU P w K mg base cN 6 "meets" eG (lD cN cL eC)) (eW:bU P w K mg base cB 3 "put" jH (BM cB)) (d3:bU P w K mg base cB 1 "told" iq (x5 cB)):aO P w K mg base (cK P w) 7 f fd i_ (dg K (C5 cN cL eM eP)):=by
 simp_arith [cx,(ai (aR (dj (bX (aQ ud B hr (af (rv 1) ah)))) (ak (dX ko rfl cA B.kn rfl (af bF ah))) aF)
   (ai (aR (bX (aQ dO B hr (af (rv 1) (af (aW au.cl az (rv 0)) ah)))) (ak (dX AA rfl cA B.kn rfl (af bF ah))) aF)
   (ai (aE (i:=2) cx.nd (tj lJ B hr))
   (ai (eu b_ rfl (Kv rfl Z.enumerate (af (aW au.cl aD (rv 0)) ah)) (tq (n:=2) rfl (dy (bK (i:=3) cx.nd) (dy (bK (i:=4) cx.nd) oF))) (ak (eu b_ rfl (fj (jh HF (aW au.cl aD (rv 0)) (lW (aG cX (rv 3) ag)) lV)) (bK (i:=5) cx.nd) (ai (aE (i:=6) cx.nd (aV (pl:=_) bO B hr (rv 0) (af (rv 4) (af (rv 5) ah))))
   (ak (aR (cP (dk (aB sJ (rv 6) k4) (cF (dj (bX (aQ dO B hr (af (rv 1) (af (rv 6) ah)))))))) (ak (aX (aV (pl:=_) eW B hr (rv 2) (af (rv 6) (af (rv 4) (af (rv 5) ah)))))) aF))))))
   (ak (ay (dw (pl:=_) d3 B hr (rv 2)))))))),F]
 ·obtain ⟨p,L,a,b,rfl,_⟩:=h;rfl
 obtain ⟨p,L,a,bb,rfl,b,ok,qe,q⟩:=h
 have bo:=b.ob
 refine hX ?_
 simp_all! []
 refine ⟨a,bb,rfl,?_⟩
 cases hg:iY a bb with
 | false =>
  simp_all! [fB]
  exact qe hg
 | true =>
  have hgm:=of_decide_eq_true hg
  obtain ⟨m,hm1,hm2⟩:∃m:Rat,m.num=a∧(m.den:Int)=bb:=⟨⟨a,bb.toNat,by omega,by
   have:=hgm.2.2.1
   unfold Int.gcd at this
   show Nat.gcd a.natAbs bb.toNat=1
   rw [show bb.toNat=bb.natAbs by omega];exact this⟩,rfl,by show ((bb.toNat:Nat):Int)=bb;omega⟩
  obtain ⟨q1,q2⟩:=q m hm1 hm2 hg
  have ef:PV.tup [.int a,.int bb]=fr m:=by rw [← hm1,← hm2];rfl
  have sm:Sz 900 m:=⟨(Bd.small (x:=m.num) (by omega) (by omega)).mono (by decide),(Bd.small (x:=(m.den:Int)) (by omega) (by omega)).mono (by decide)⟩
  simp_all! [bo,qB,ef]
  refine ⟨_,_,rfl,sm.mono (by decide),ok.HX.mono (by decide),?_⟩
  by_cases c1:m < L.t
  ·rw [decide_eq_true c1]
   simp_all! [fB]
   exact q1 c1
  rw [decide_eq_false c1]
  have q:=q2 (by grind)
  simp_all! []
  intro pb hpb
  refine ⟨pb,rfl,ax,λr0 hr0=>⟨rfl,?_⟩⟩
  have l0:=vH (y:=.lst []) (z:=.ins cB [("rows",.ref r0)]) hpb hr0
  have nr0:r0≠pb:=by intro e;subst e;rw [ax] at hr0;cases hr0
  have b0:Il cB (put (put (put J pb (.ins cB [])) r0 (.lst [])) pb (.ins cB [("rows",.ref r0)])) pb r0 []:=⟨ax,by rw [aw nr0];exact ax⟩
  generalize put (put (put J pb (.ins cB [])) r0 (.lst [])) pb (.ins cB [("rows",.ref r0)])=J0 at l0 b0 ⊢
  simp_all! [(b.less l0).ob,(b.less l0).rw,sC]
  obtain ⟨ks,hks⟩:∃ks,cI (L.fs.map (key L.t))=ks:=⟨_,rfl⟩
  have hrow:L.row.map PV.str=ks.map λk=>PV.str k.n:=by rw [← hks];exact ok.keys
  have hkl:ks.length≤12:=by rw [← hks];exact ok.Pw
  have hup:∀{ps:List (Ky × Ky)},(∀p∈ps,p.1∈ks∧p.2∈ks)→∀x∈bY L.t (gw L.t m) ps,Sz 9000 x.m:=λhp x hx=>by
   obtain ⟨p,hp',hc,rfl⟩:=iW _ hx
   have:=of_decide_eq_true hc
   exact n4 ok (by rw [hks];exact (hp p hp').1) (by rw [hks];exact (hp p hp').2) this.1
  rw [hrow]
  obtain ⟨Inv,hInv⟩:∃Inv:Nat→Sr→Hq→Prop,∀i τ J',Inv i τ J'↔∃(r:Addr) (u3 u4 u5 u6:Option PV),τ=[some (.ref p),some (fr m),some (.ref pb),u3,u4,u5,u6]∧oY J J'∧Il cB J' pb r (bY L.t (gw L.t m) (Ae ks i))∧(bY L.t (gw L.t m) (Ae ks i)).length≤12 * i:=⟨_,λ_ _ _=>Iff.rfl⟩
  refine gA Inv ((hInv _ _ _).mpr ⟨r0,_,_,_,_,rfl,l0,b0,U4 _⟩) (λi τ J' h=>?_) ?_ ?_
  ·obtain ⟨r,_,_,_,_,_,l',_⟩:=(hInv _ _ _).mp h
   rw [(b.less l').rw,hrow]
  ·intro i x τ J' hx hv
   obtain ⟨r,u3,u4,u5,u6,rfl,l',bb,hle⟩:=(hInv _ _ _).mp hv
   clear hv
   have hi:i < ks.length:=by have:=(U1.mp hx).1;rw [lO,UZ] at this;exact this
   have ha:ks[i]?=some ks[i]:=U2 hi
   rw [vA _ i (.str (ks[i]).n) (by rw [U8,ha];rfl)] at hx
   cases hx
   generalize ks[i]=a at ha ⊢
   simp_all! [(b.less l').ob,(b.less l').rw,sC]
   rw [hrow,show (i:Int) + 1=((i + 1:Nat):Int) by omega,yE _ _ (by rw [UZ];omega),← Wy]
   have eup:Ae ks (i + 1)=Ae ks i ++ (ks.drop (i + 1)).map λb=>(a,b):=by show Ae ks i ++ _=_;rw [ha]
   have mup:∀j,∀p∈Ae ks i ++ ((ks.drop (i + 1)).take j).map (λb=>(a,b)),p.1∈ks∧p.2∈ks:=λj p hp=>by
    rcases U9.mp hp with hp | hp
    ·obtain ⟨_,_,_,_,h3,h4⟩:=oV.mp hp
     exact ⟨U3 h3,U3 h4⟩
    ·obtain ⟨y,hy,rfl⟩:=U0.mp hp
     exact ⟨U3 ha,List.mem_of_mem_drop (VI hy)⟩
   obtain ⟨In2,hIn2⟩:∃In2:Nat→Sr→Hq→Prop,∀j τ J',In2 j τ J'↔∃(r:Addr) (u5 u6:Option PV),τ=[some (.ref p),some (fr m),some (.ref pb),some (.int (i:Int)),some (.str a.n),u5,u6]∧oY J J'∧Il cB J' pb r (bY L.t (gw L.t m) (Ae ks i ++ ((ks.drop (i + 1)).take j).map λb=>(a,b)))∧(bY L.t (gw L.t m) (Ae ks i ++ ((ks.drop (i + 1)).take j).map λb=>(a,b))).length≤12 * i + j:=⟨_,λ_ _ _=>Iff.rfl⟩
   refine gA In2 ((hIn2 _ _ _).mpr ⟨r,_,_,rfl,l',by simpa using bb,by simpa using hle⟩) (λ_ _ _ _=>trivial) ?_ ?_
   ·intro j x τ J2 hx hv
    obtain ⟨r2,u5,u6,rfl,l2,bb2,hle2⟩:=(hIn2 _ _ _).mp hv
    clear hv
    have hj:j < (ks.drop (i + 1)).length:=by have:=(U1.mp hx).1;rw [UZ] at this;exact this
    have hb:(ks.drop (i + 1))[j]?=some (ks.drop (i + 1))[j]:=U2 hj
    rw [U8,hb] at hx
    cases hx
    generalize (ks.drop (i + 1))[j]=y at hb ⊢
    have hb':ks[i + 1 + j]?=some y:=by rw [WG] at hb;exact hb
    have hjl:j < 12:=by rw [V3] at hj;omega
    have ej:(ks.drop (i + 1)).take (j + 1)=(ks.drop (i + 1)).take j ++ [y]:=by rw [Vv,hb];rfl
    have ef2:bY L.t (gw L.t m) (Ae ks i ++ ((ks.drop (i + 1)).take (j + 1)).map λb=>(a,b))=iB L.t (gw L.t m) (bY L.t (gw L.t m) (Ae ks i ++ ((ks.drop (i + 1)).take j).map λb=>(a,b))) (a,y):=by
     rw [ej,U7,← W7];exact eO _ _ _ _
    have srt:=iT L.t (gw L.t m) (Ae ks i ++ ((ks.drop (i + 1)).take j).map λb=>(a,b))
    have szs:=hup (mup j)
    generalize bY L.t (gw L.t m) (Ae ks i ++ ((ks.drop (i + 1)).take j).map λb=>(a,b))=rows at bb2 hle2 ef2 srt szs
    have p7:gw L.t m (a,y)=false→∀{v5 v6},In2 (j + 1) [some (.ref p),some (fr m),some (.ref pb),some (.int (i:Int)),some (.str a.n),v5,v6] J2:=λhc v5 v6=>by
     have e:iB L.t (gw L.t m) rows (a,y)=rows:=by unfold iB;rw [if_neg (by rw [hc];decide)]
     exact (hIn2 _ _ _).mpr ⟨r2,_,_,rfl,l2,by rw [ef2,e];exact bb2,by rw [ef2,e];omega⟩
    have b2:=b.less l2
    simp_all! [b2.ob]
    refine ⟨e8 _ _ _ _,p,L,a.n,y.n,rfl,b2,ok.tobc,λc hc c' hc' e e' hg hg'=>?_,λz=>?_⟩
    ·have hmet:=yX ok (by rw [hks];exact ha) (by rw [hks];exact hb') (by omega) hc hc' hg hg' e e'
     rw [hmet]
     by_cases c2:y.v < a.v∧a.p < y.p
     ·rw [if_pos c2]
      have smk:=n4 ok (by rw [hks];exact U3 ha) (by rw [hks];exact U3 hb') c2.1
      simp_all! [gv,su,dm]
      refine ⟨sm.mono (by decide),smk,?_⟩
      by_cases c3:m < fc L.t a y
      ·rw [if_pos c3]
       exact p7 (decide_eq_false (λz=>by have:=z.2.2;grind))
      ·rw [if_neg c3]
       have hcp:gw L.t m (a,y)=true:=decide_eq_true ⟨c2.1,c2.2,by grind⟩
       have e:iB L.t (gw L.t m) rows (a,y)=kg ⟨fc L.t a y,a.n,y.n⟩ (du a.n y.n rows):=by unfold iB;rw [if_pos hcp];rfl
       simp_all! [bb2.o]
       refine ⟨PU _,pb,r2,rows,fc L.t a y,a.n,y.n,rfl,bb2,srt,by omega,smk,szs,λr' hr'=>?_⟩
       have nr:r'≠pb:=by intro z;subst z;rw [bb2.o] at hr';cases hr'
       refine (hIn2 _ _ _).mpr ⟨r',_,_,rfl,pq l2 hpb hr',⟨ax,by rw [aw nr,ax,ef2,e]⟩,?_⟩
       rw [ef2,e,yK]
       have:=pd a.n y.n rows
       omega
     ·rw [if_neg c2]
      simp_all! [gv]
      exact p7 (decide_eq_false (λz=>c2 ⟨z.1,z.2.1⟩))
    ·rcases z with z | z
     ·exact absurd (lX ok (by rw [hks];exact U3 ha)) z
     ·exact absurd (lX ok (by rw [hks];exact U3 hb')) z
   ·intro τ J2 hv
    obtain ⟨r2,u5,u6,rfl,l2,bb2,hle2⟩:=(hIn2 _ _ _).mp hv
    rw [UZ,Vu,← eup] at bb2 hle2
    rw [V3] at hle2
    exact (hInv _ _ _).mpr ⟨r2,_,_,_,_,rfl,l2,bb2,by omega⟩
  ·intro τ J' hv
   obtain ⟨r,u3,u4,u5,u6,rfl,l',bb,hle⟩:=(hInv _ _ _).mp hv
   rw [lO,UZ,← hks,K6 ok.knd] at bb
   simp_all! [bb.o]
   exact ⟨PX _,pb,r,_,rfl,bb,q.imp (λq=>Fg.less l' q) λq l hl=>Fg.less (D4 l') (q l ((l' l).elim (λe=>e.trans hl) id))⟩
theorem yJ {m:Rat} (h:iY m.num m.den=true):Sc ij MM m∧0≤m:=by
 have h:=of_decide_eq_true h
 have hd:m.den≤60:=by omega
 constructor
 ·have h1:Sc m.den m.num.natAbs m:=⟨m.num,by have:=cast_eq m;rw [this];rfl,U4 _⟩
  obtain ⟨k,hk⟩:=Uj m.den m.den_pos hd
  have h2:=h1.scale (E:=k)
  rw [show k * m.den=ij by rw [hk,Nat.mul_comm]] at h2
  refine h2.mono ?_
  have h3:m.num.natAbs≤1000000 * m.den:=by omega
  have h4:k * m.num.natAbs≤k * (1000000 * m.den):=Nat.mul_le_mul_left _ h3
  have h5:k * (1000000 * m.den)=1000000 * ij:=by rw [hk];rw [Nat.mul_left_comm,Nat.mul_comm k]
  unfold MM
  omega
 ·exact Rat.num_nonneg.mp h.2.2.2.1
theorem bc.Pk {L:Ln} (h:bc L) {m:Rat} (hm:L.t≤m) (hg:iY m.num m.den=true):bc { L with t:=m } :=
 ⟨h.nd,h.ne,λc hc l hl=>Rat.le_trans (h.le c hc l hl) hm,h.ck,h.len,λc hc q e=>⟨(h.gz c hc q e).1,Rat.le_trans (h.gz c hc q e).2 hm⟩,(yJ hg).2,(yJ hg).1,h.many,h.rm,h.rn,h.rl⟩
abbrev jR:Stmt:=(L2.inClass (top 44) 5)
abbrev ml:List Str:=["self","moment"]
theorem mD:L2.av ["self","moment","passings"] ["self","moment"] (L2.aj jR):=dC
def Mc (cN cL eM eP:Addr):cu:=λxs J Q E=>∃p L a b,xs=[.ref p,.tup [.int a,.int b]]∧bh cN cL J p L∧cm L∧(iY a b=false→E eM J)∧(∀m:Rat,m.num=a→(m.den:Int)=b→iY a b=true→(m < L.t→E eP J)∧(L.t≤m→∀J' o',bh cN cL J' p { L with t:=m,o:=o',row:=cO m L.fs }→cm { L with t:=m,o:=o',row:=cO m L.fs }→Mv J J' (L.own p) (Ln.own { L with t:=m,o:=o',row:=cO m L.fs } p)→Q (.fl ((qi L.t (L.fs.map (key L.t)) m).map aJ.v)) J'))
theorem uO {cN cL eM eP f:Addr} {fd:FuncData} (F:cg K "go_to" "Lane.go_to" jR f fd) (Z:bN mg) (au:dJ K mg "Lane" cN) (az:aK K cN "now") (fQ:bU P w K mg base cN 7 "foretold" i_ (C5 cN cL eM eP)) (bG:bU P w K mg base cN 7 "settle" dT (jk cN cL)):aO P w K mg base (cK P w) 8 f fd ml (dg K (Mc cN cL eM eP)):=by
 simp_arith [mD,(ai (aE (i:=2) mD.nd (aV (pl:=_) fQ B hr (rv 0) (af (rv 1) ah)))
   (ai (iE au.cl az (rv 0) (rv 1))
   (ai (aX (dw (pl:=_) bG B hr (rv 0)))
   (ak (ay (rv 2))))))]
 ·obtain ⟨p,L,a,b,rfl,_⟩:=h;rfl
 obtain ⟨p,L,a,bb,rfl,b,ok,qe,q⟩:=h
 have bo:=b.ob
 refine hX ?_
 simp_all! [bo]
 refine ⟨e8 _ _ _ _,p,L,a,bb,rfl,b,ok,qe,λm h1 h2 hg=>⟨(q m h1 h2 hg).1,λhm=>.inl ?_⟩⟩
 have q:=(q m h1 h2 hg).2 hm
 have ef:PV.tup [.int a,.int bb]=fr m:=by rw [← h1,← h2];rfl
 have hgm:iY m.num m.den=true:=by rw [h1,h2];exact hg
 have ok1:=ok.tobc.Pk hm hgm
 simp_all! [bo,ef]
 refine ⟨by show (3:Nat) < 1000;decide,?_⟩
 have b1:bh cN cL (put J p (.ins cN [("now",fr m),("logs",.ref L.d),("row",.ref L.o)])) p { L with t:=m } :=
  ⟨ax,by show put J p _ L.d=_;rw [aw b.JE];exact b.dc,by show put J p _ L.o=_;rw [aw b.JG];exact b.rw,λc hc=>⟨by rw [aw (b.RN hc)];exact (b.lg c hc).o,by rw [aw (b.ON hc)];exact (b.lg c hc).l⟩,b.ap,b.ao⟩
 have mv1:Mv J (put J p (.ins cN [("now",fr m),("logs",.ref L.d),("row",.ref L.o)])) (L.own p) (L.own p):=gG (.inl rfl) λa h=>.inl h
 generalize put J p (.ins cN [("now",fr m),("logs",.ref L.d),("row",.ref L.o)])=J1 at b1 mv1 ⊢
 simp_all! [b1.ob]
 refine ⟨e8 _ _ _ _,p,{ L with t:=m },rfl,b1,ok1,λJ2 o' b2 mv2=>?_⟩
 simp_all! []
 exact q J2 o' b2 (cm.settled ok1 o') (mv1.trans mv2)
abbrev jP:Stmt:=(L2.inClass (top 44) 9)
abbrev mi:List Str:=["self"]
theorem eJ:L2.av ["self","ringing","hind","fore","met"] ["self"] (L2.aj jP):=dC
def zR (cN cL:Addr):cu:=λxs J Q E=>∃p L,xs=[.ref p]∧bh cN cL J p L∧cm L∧Q (.fl ((fN L.t (L.fs.map (key L.t))).map aJ.v)) J
theorem uM {cN cL cB eC f:Addr} {fd:FuncData} (F:cg K "bells" "Lane.bells" jP f fd) (Z:bN mg) (au:dJ K mg "Lane" cN) (aD:aK K cN "row") (lJ:Ay P w K mg base cB 1 "Bells" ff (x4 cB)) (bO:bU P w K mg base cN 6 "meets" eG (lD cN cL eC)) (eW:bU P w K mg base cB 3 "put" jH (BM cB)) (d3:bU P w K mg base cB 1 "told" iq (x5 cB)):aO P w K mg base (cK P w) 7 f fd mi (dg K (zR cN cL)):=by
 simp_arith [eJ,(ai (aE (i:=1) eJ.nd (tj lJ B hr))
   (ai (eu b_ rfl (N9 rfl Z.zip (af (aW au.cl aD (rv 0)) (af (jh HF (aW au.cl aD (rv 0)) (lW ag) lV) ah))) (tq (n:=2) rfl (dy (bK (i:=2) eJ.nd) (dy (bK (i:=3) eJ.nd) oF))) (ai (aE (i:=4) eJ.nd (aV (pl:=_) bO B hr (rv 0) (af (rv 2) (af (rv 3) ah))))
   (ak (aR (aB sJ (rv 4) k4) (ak (aX (aV (pl:=_) eW B hr (rv 1) (af (rv 4) (af (rv 2) (af (rv 3) ah)))))) aF))))
   (ak (ay (dw (pl:=_) d3 B hr (rv 1)))))),F]
 ·obtain ⟨p,L,rfl,_⟩:=h;rfl
 obtain ⟨p,L,rfl,b,ok,q⟩:=h
 refine hX ?_
 simp_all! []
 intro pb hpb
 refine ⟨pb,rfl,ax,λr0 hr0=>⟨rfl,?_⟩⟩
 have l0:=vH (y:=.lst []) (z:=.ins cB [("rows",.ref r0)]) hpb hr0
 have nr0:r0≠pb:=by intro e;subst e;rw [ax] at hr0;cases hr0
 have b0:Il cB (put (put (put J pb (.ins cB [])) r0 (.lst [])) pb (.ins cB [("rows",.ref r0)])) pb r0 []:=⟨ax,by rw [aw nr0];exact ax⟩
 generalize put (put (put J pb (.ins cB [])) r0 (.lst [])) pb (.ins cB [("rows",.ref r0)])=J0 at l0 b0 ⊢
 obtain ⟨ks,hks⟩:∃ks,cI (L.fs.map (key L.t))=ks:=⟨_,rfl⟩
 have hrow:L.row.map PV.str=ks.map λk=>PV.str k.n:=by rw [← hks];exact ok.keys
 have hkl:ks.length≤12:=by rw [← hks];exact ok.Pw
 have hct:mL (ks.map λk=>PV.str k.n) (some 1) none=ks.tail.map λk=>PV.str k.n:=by
  cases ks with
  | nil=>rfl
  | cons x ks=>exact yE (((x :: ks).map λk=>PV.str k.n)) 1 (by simp)
 have hup:∀{ps:List (Ky × Ky)},(∀p∈ps,p.1∈ks∧p.2∈ks)→∀x∈bY L.t cT ps,Sz 9000 x.m:=λhp x hx=>by
  obtain ⟨p,hp',hc,rfl⟩:=iW _ hx
  exact n4 ok (by rw [hks];exact (hp p hp').1) (by rw [hks];exact (hp p hp').2) (of_decide_eq_true hc)
 simp_all! [Ui,(b.less l0).ob,(b.less l0).rw,sC,hrow,hct]
 have ez:((ks.map λk=>PV.str k.n).zip (ks.tail.map λk=>PV.str k.n)).map (λp=>PV.tup [p.1,p.2])=(ks.zip ks.tail).map λp=>PV.tup [.str p.1.n,.str p.2.n]:=by rw [List.zip_map,U'];rfl
 rw [ez]
 generalize hps:ks.zip ks.tail=ps
 have hpl:ps.length≤12:=by rw [← hps,Wj];omega
 have hpm:∀x∈ps,x.1∈ks∧x.2∈ks:=λx hx=>by
  rw [← hps] at hx
  obtain ⟨i,h3,h4⟩:=dn.mp (show (x.1,x.2)∈_ from hx)
  exact ⟨U3 h3,U3 h4⟩
 obtain ⟨Inv,hInv⟩:∃Inv:Nat→Sr→Hq→Prop,∀i τ J',Inv i τ J'↔∃(r:Addr) (u2 u3 u4:Option PV),τ=[some (.ref p),some (.ref pb),u2,u3,u4]∧oY J J'∧Il cB J' pb r (bY L.t cT (ps.take i)):=⟨_,λ_ _ _=>Iff.rfl⟩
 refine gA Inv ((hInv _ _ _).mpr ⟨r0,_,_,_,rfl,l0,b0⟩) (λi τ J' h=>?_) ?_ ?_
 ·obtain ⟨r,_,_,_,_,l',_⟩:=(hInv _ _ _).mp h
  rw [(b.less l').rw,hrow]
 ·intro i x τ J' hx hv
  obtain ⟨r,u2,u3,u4,rfl,l',bb⟩:=(hInv _ _ _).mp hv
  clear hv
  have hi:i < ps.length:=by have:=(U1.mp hx).1;rw [UZ] at this;exact this
  have hpi:ps[i]?=some ps[i]:=U2 hi
  rw [U8,hpi] at hx
  cases hx
  have et:ps.take (i + 1)=ps.take i ++ [ps[i]]:=by rw [Vv,hpi];rfl
  have szs:=hup (ps:=ps.take i) (λp hp=>hpm p (VI hp))
  have srt:=iT L.t cT (ps.take i)
  have hle:=pf L.t cT (ps.take i)
  rw [Vp] at hle
  rcases hab:ps[i] with ⟨a,y⟩
  rw [hab] at hpi et
  have ef2:bY L.t cT (ps.take (i + 1))=iB L.t cT (bY L.t cT (ps.take i)) (a,y):=by rw [et];exact eO _ _ _ _
  generalize bY L.t cT (ps.take i)=rows at bb szs srt hle ef2
  rw [← hps] at hpi
  obtain ⟨ha,hb⟩:=VE.mp hpi
  rw [Wn] at hb
  simp only at ha hb
  have b2:=b.less l'
  simp_all! [b2.ob]
  refine ⟨e8 _ _ _ _,p,L,a.n,y.n,rfl,b2,ok.tobc,λc hc c' hc' e e' hg hg'=>?_,λz=>?_⟩
  ·have hmet:=yX ok (by rw [hks];exact ha) (by rw [hks];exact hb) (by omega) hc hc' hg hg' e e'
   rw [hmet]
   by_cases c2:y.v < a.v
   ·have c3:=Kw ok (by rw [hks];exact ha) (by rw [hks];exact hb) (by omega) c2
    rw [if_pos ⟨c2,c3⟩]
    have smk:=n4 ok (by rw [hks];exact U3 ha) (by rw [hks];exact U3 hb) c2
    have hcp:cT (a,y)=true:=decide_eq_true c2
    have e:iB L.t cT rows (a,y)=kg ⟨fc L.t a y,a.n,y.n⟩ (du a.n y.n rows):=by unfold iB;rw [if_pos hcp];rfl
    simp_all! [gv,su,bb.o]
    refine ⟨PU _,pb,r,rows,fc L.t a y,a.n,y.n,rfl,bb,srt,by omega,smk,szs,λr' hr'=>?_⟩
    have nr:r'≠pb:=by intro z;subst z;rw [bb.o] at hr';cases hr'
    exact (hInv _ _ _).mpr ⟨r',_,_,_,rfl,pq l' hpb hr',⟨ax,by rw [aw nr,ax,ef2,e]⟩⟩
   ·rw [if_neg (λz=>c2 z.1)]
    have e:iB L.t cT rows (a,y)=rows:=by
     have hcf:cT (a,y)=false:=decide_eq_false c2
     unfold iB;rw [if_neg (by rw [hcf];decide)]
    simp_all! [gv]
    exact (hInv _ _ _).mpr ⟨r,_,_,_,rfl,l',by rw [ef2,e];exact bb⟩
  ·rcases z with z | z
   ·exact absurd (lX ok (by rw [hks];exact U3 ha)) z
   ·exact absurd (lX ok (by rw [hks];exact U3 hb)) z
 ·intro τ J' hv
  obtain ⟨r,u2,u3,u4,rfl,l',bb⟩:=(hInv _ _ _).mp hv
  rw [UZ,Vu,← hps,← hks,t8 ok.knd] at bb
  simp_all! [bb.o]
  exact ⟨PX _,pb,r,_,rfl,bb,.inl (Fg.less l' q)⟩
def Cf.turn (c:Cf) (t:Rat) (v:Int):Cf:={ c with w:=turned c.w t v }
def dI (n:Str) (t:Rat) (v:Int) (c:Cf):Cf:=if c.n=n then c.turn t v else c
theorem oT (n:Str) (t:Rat) (v:Int) (c:Cf):(dI n t v c).n=c.n∧(dI n t v c).a=c.a∧(dI n t v c).r=c.r∧(dI n t v c).g=c.g:=by unfold dI;split <;> exact ⟨rfl,rfl,rfl,rfl⟩
theorem fb {α β:Type} {f:α→β} {g:α→α} (h:∀x,f (g x)=f x) (l:List α):(l.map g).map f=l.map f:=by rw [U'];exact Vl λx _=>h x
theorem bc.map {L:Ln} (h:bc L) {f:Cf→Cf} (hn:∀c,(f c).n=c.n∧(f c).a=c.a∧(f c).r=c.r∧(f c).g=c.g) (hw:∀c∈L.cs,(f c).w≠[]∧(∀l∈(f c).w,l.m≤L.t∧ub l)∧(f c).w.length≤200):bc { L with cs:=L.cs.map f }:=by
 have mem:∀c∈L.cs.map f,∃c0∈L.cs,f c0=c:=λc hc=>by obtain ⟨c0,h0,e⟩:=U0.mp hc;exact ⟨c0,h0,e⟩
 have hfs:(Ln.fs { L with cs:=L.cs.map f }).map (·.1)=L.fs.map (·.1):=by
  rw [dR,dR]
  unfold Ln.EX
  show ((L.cs.map f).filter _).map Cf.n=_
  rw [VH,U']
  have e1:(λc:Cf=>c.g.isNone) ∘ f=λc=>c.g.isNone:=by funext c;show (f c).g.isNone=_;rw [(hn c).2.2.2]
  rw [e1]
  exact Vl λc _=>(hn c).1
 refine ⟨?_,?_,?_,?_,?_,?_,h.t0,h.ts,by show (L.cs.map f).length≤100;rw [UZ];exact h.many,λn=>by rw [hfs];exact h.rm n,h.rn,h.rl⟩
 ·show ((L.cs.map f).map Cf.n).Nodup
  rw [fb (λc=>(hn c).1)];exact h.nd
 ·intro c hc;obtain ⟨c0,h0,rfl⟩:=mem c hc;exact (hw c0 h0).1
 ·intro c hc l hl;obtain ⟨c0,h0,rfl⟩:=mem c hc;exact ((hw c0 h0).2.1 l hl).1
 ·intro c hc l hl;obtain ⟨c0,h0,rfl⟩:=mem c hc;exact ((hw c0 h0).2.1 l hl).2
 ·intro c hc;obtain ⟨c0,h0,rfl⟩:=mem c hc;exact (hw c0 h0).2.2
 ·intro c hc q e;obtain ⟨c0,h0,rfl⟩:=mem c hc;exact h.gz c0 h0 q (by rw [← (hn c0).2.2.2];exact e)
theorem bc.Ll {L:Ln} (h:bc L) {c:Cf} (hc:c∈L.cs):c.w≠[]∧(∀l∈c.w,l.m≤L.t∧ub l)∧c.w.length≤200:=⟨h.ne c hc,λl hl=>⟨h.le c hc l hl,h.ck c hc l hl⟩,h.len c hc⟩
theorem bc.Mj {L:Ln} (h:bc L) {c:Cf} (hc:c∈L.cs) (hl:c.w.length < 200) {v:Int} (hv:v.natAbs≤1000):(c.turn L.t v).w≠[]∧(∀l∈(c.turn L.t v).w,l.m≤L.t∧ub l)∧(c.turn L.t v).w.length≤200:=by
 refine ⟨vX (h.ne c hc),λl hl'=>?_,?_⟩
 ·rcases BW hl' with k | ⟨l0,k,rfl⟩
  ·exact ⟨h.le c hc l k,h.ck c hc l k⟩
  ·exact ⟨Rat.le_refl,(h.ck c hc l0 k).at (h.le c hc l0 k) h.ts hv⟩
 ·have:=nq c.w L.t v
  show (turned c.w L.t v).length≤200
  omega
theorem bh.turn {cN cL:Addr} {J:Hq} {p:Addr} {L:Ln} (h:bh cN cL J p L) (ok:bc L) {c:Cf} (hc:c∈L.cs) {t:Rat} {v:Int}:bh cN cL (put J c.r (.lst ((turned c.w t v).map aZ.V))) p { L with cs:=L.cs.map (dI c.n t v) }:=by
 have hcs:=oT c.n t v
 refine ⟨by rw [aw (Ne.symm (h.ON hc))];exact h.ob,?_,?_,λx hx=>?_,?_,λx hx=>?_⟩
 ·show put J c.r _ L.d=_
  rw [aw (Ne.symm (h.Uo hc)),h.dc]
  show _=VJ (HQ.dct ((L.cs.map (dI c.n t v)).map λc=>(c.n,PV.ref c.a)) L.e)
  rw [fb (f:=λc:Cf=>(c.n,PV.ref c.a)) (λx=>by rw [(hcs x).1,(hcs x).2.1])]
 ·show put J c.r _ L.o=_
  rw [aw (Ne.symm (h.ao c hc))];exact h.rw
 ·obtain ⟨x0,h0,rfl⟩:=U0.mp hx
  have hl:=h.lg x0 h0
  refine ⟨?_,?_⟩
  ·rw [(hcs x0).2.1,(hcs x0).2.2.1,(hcs x0).2.2.2,aw (h.UP h0 hc)];exact hl.o
  ·rw [(hcs x0).2.2.1]
   by_cases e:x0.n=c.n
   ·have:x0=c:=ok.uniq h0 hc e
    subst this
    rw [ax]
    unfold dI;rw [if_pos rfl];rfl
   ·have hr:x0.r≠c.r:=λz=>e (by
     obtain ⟨i,hi,rfl⟩:=Vy h0
     obtain ⟨j,hj,rfl⟩:=Vy hc
     have:=(VT (xs:=L.cs.map Cf.r) (i:=i) (j:=j) (h₀:=by simpa using hi) (h₁:=by simpa using hj) h.ap).mp (by rw [VO,VO];exact z)
     subst this;rfl)
    rw [aw hr]
    unfold dI;rw [if_neg e];exact hl.l
 ·show ((L.cs.map (dI c.n t v)).map Cf.r).Nodup
  rw [fb (λx=>(hcs x).2.2.1)];exact h.ap
 ·obtain ⟨x0,h0,rfl⟩:=U0.mp hx
  rw [(hcs x0).2.2.1];exact h.ao x0 h0
theorem xi {L:Ln} {p:Addr} {f:Cf→Cf} (hn:∀c,(f c).n=c.n∧(f c).a=c.a∧(f c).r=c.r∧(f c).g=c.g) (a:Addr):Ln.own { L with cs:=L.cs.map f } p a↔L.own p a:=by
 unfold Ln.own
 constructor
 ·rintro (h | h | h | ⟨c,hc,h⟩)
  ·exact .inl h
  ·exact .inr (.inl h)
  ·exact .inr (.inr (.inl h))
  ·obtain ⟨c0,h0,rfl⟩:=U0.mp hc
   rw [(hn c0).2.1,(hn c0).2.2.1] at h
   exact .inr (.inr (.inr ⟨c0,h0,h⟩))
 ·rintro (h | h | h | ⟨c,hc,h⟩)
  ·exact .inl h
  ·exact .inr (.inl h)
  ·exact .inr (.inr (.inl h))
  ·exact .inr (.inr (.inr ⟨f c,U0.mpr ⟨c,hc,rfl⟩,by rw [(hn c).2.1,(hn c).2.2.1];exact h⟩))
abbrev lp:Stmt:=(L2.inClass (top 44) 3)
abbrev jJ:List Str:=["self","name","pace"]
theorem xQ:L2.av ["self","name","pace"] ["self","name","pace"] (L2.aj lp):=dC
def x9 (cN cL eC eF:Addr):cu:=λxs J Q E=>∃p L n v,xs=[.ref p,.str n,.int v]∧bh cN cL J p L∧cm L∧(∀c∈L.cs,c.w.length < 200)∧(n ∉ L.row→E eC J)∧(n∈L.row→¬ v.natAbs≤1000→E eF J)∧(n∈L.row→v.natAbs≤1000→∀J' L',bh cN cL J' p L'→cm L'→L'.cs=L.cs.map (dI n L.t v)→L'.t=L.t→Mv J J' (L.own p) (L'.own p)→Q .non J')
theorem wX {cN cL eC eF f:Addr} {fd:FuncData} (F:cg K "turn" "Lane.turn" lp f fd) (Z:bN mg) (au:dJ K mg "Lane" cN) (aP:aK K cN "logs") (az:aK K cN "now") {gq:Tok} (eV:mg "FASTEST"=some (.int 1000 gq)) (iP:Own K mg "TooFar" eF) (aS:bU P w K mg base cN 1 "must_be_there" bZ (oO cN cL eC)) (fv:bU P w K mg base cL 5 "turn" kP (x6 cL)) (bG:bU P w K mg base cN 7 "settle" dT (jk cN cL)):aO P w K mg base (cK P w) 8 f fd jJ (dg K (x9 cN cL eC eF)):=by
 simp_arith [xQ,(ai (aX (aV (pl:=_) aS B hr (rv 0) (af (rv 1) ah)))
   (ai (aR (aB j3 (aI o8 rfl Z.abs boot_abs (af (rv 2) ah)) (gd (v:=.int 1000) (.int 1000) rfl eV ⟨_,rfl⟩ (λ_ _=>rfl))) (ak (dX iP rfl cA B.kn rfl (af bF ah))) aF)
   (ai (aX (aV (pl:=_) fv B hr (aq cR (aW au.cl aP (rv 0)) (rv 1)) (af (aW au.cl az (rv 0)) (af (rv 2) ah))))
   (ak (aX (dw (pl:=_) bG B hr (rv 0)))))))]
 ·obtain ⟨p,L,n,v,rfl,_⟩:=h;rfl
 obtain ⟨p,L,n,v,rfl,b,ok,hlen,qc,qf,q⟩:=h
 have bo:=b.ob
 have bd:=b.dc
 refine hX ?_
 simp_all! [bo]
 refine ⟨e8 _ _ _ _,p,L,n,rfl,b,λhn=>?_,qc⟩
 simp_all! []
 have habs:(1000 < if v < 0 then -v else v)↔¬ v.natAbs≤1000:=by split <;> omega
 by_cases hv:v.natAbs≤1000
 ·rw [if_neg (λz=>habs.mp z hv)]
  obtain ⟨c,hc,rfl,hg⟩:=ok.found hn
  have lo:=(b.lg c hc).o
  have ok1:bc { L with cs:=L.cs.map (dI c.n L.t v) }:=ok.tobc.map (oT c.n L.t v) λx hx=>by
   unfold dI
   split
   ·exact ok.tobc.Mj hx (hlen x hx) hv
   ·exact ok.tobc.Ll hx
  have b1:=b.turn ok.tobc hc (t:=L.t) (v:=v)
  have mv1:Mv J (put J c.r (.lst ((turned c.w L.t v).map aZ.V))) (L.own p) (Ln.own { L with cs:=L.cs.map (dI c.n L.t v) } p):=gG (.inr (.inr (.inr ⟨c,hc,.inr rfl⟩))) λa h=>.inl ((xi (oT c.n L.t v) a).mp h)
  simp_all! [bo,qB,yT,bd,ok.va hc,lo]
  refine ⟨PY _ _,c.a,c.r,c.w,c.g,L.t,v,rfl,b.lg c hc,ok.ne c hc,Vh (ok.len c hc) (by decide),ok.HX,λl hl=>(ok.ck c hc l hl).Nr,?_⟩
  generalize put J c.r (.lst ((turned c.w L.t v).map aZ.V))=J1 at b1 mv1 ⊢
  simp_all! [b1.ob]
  refine ⟨e8 _ _ _ _,p,_,rfl,b1,ok1,λJ2 o' b2 mv2=>?_⟩
  exact q hn hv J2 _ b2 (cm.settled ok1 o') rfl rfl (mv1.trans mv2)
 ·rw [if_pos (habs.mpr hv)]
  simp_all! [fB]
  exact qf hn hv
def eL (t:Rat) (c:Cf):Cf:=if c.g.isNone=true then c.turn t (-c.cur.v) else c
def cn (t:Rat) (row:List Str) (c:Cf):Cf:=if c.n∈row then c.turn t (-c.cur.v) else c
theorem nH (t:Rat) (row:List Str) (c:Cf):(cn t row c).n=c.n∧(cn t row c).a=c.a∧(cn t row c).r=c.r∧(cn t row c).g=c.g:=by unfold cn;split <;> exact ⟨rfl,rfl,rfl,rfl⟩
theorem lK {L:Ln} (ok:bc L):L.cs.map (cn L.t L.row)=L.cs.map (eL L.t):=by
 refine Vl λc hc=>?_
 have h:c.n∈L.row↔c.g.isNone=true:=by
  rw [ok.rm,dR,U0]
  constructor
  ·rintro ⟨c',hc',e⟩
   have h':=Ln.cV.mp hc'
   rw [ok.uniq h'.1 hc e] at h'
   rw [h'.2];rfl
  ·intro e
   exact ⟨c,Ln.cV.mpr ⟨hc,by cases hg:c.g with | none=>rfl | some q=>rw [hg] at e;cases e⟩,rfl⟩
 unfold cn eL
 by_cases e:c.n∈L.row
 ·rw [if_pos e,if_pos (h.mp e)]
 ·rw [if_neg e,if_neg (λz=>e (h.mpr z))]
theorem bc.cn {L:Ln} (ok:bc L) (hlen:∀c∈L.cs,c.w.length < 200) (row:List Str):bc { L with cs:=L.cs.map (cn L.t row) }:=ok.map (nH L.t row) λx hx=>by
 unfold Ov.cn
 split
 ·exact ok.Mj hx (hlen x hx) (by have:=(ok.ck x hx _ (Cf.hE (ok.ne x hx)).2).v;omega)
 ·exact ok.Ll hx
abbrev jO:Stmt:=(L2.inClass (top 44) 4)
abbrev mh:List Str:=["self"]
theorem iM:L2.av ["self","name","pace"] ["self"] (L2.aj jO):=dC
def zQ (cN cL:Addr):cu:=λxs J Q E=>∃p L,xs=[.ref p]∧bh cN cL J p L∧cm L∧(∀c∈L.cs,c.w.length < 200)∧(∀J' L',bh cN cL J' p L'→cm L'→L'.cs=L.cs.map (eL L.t)→L'.t=L.t→Mv J J' (L.own p) (L'.own p)→Q .non J')
theorem uL {cN cL eC f:Addr} {fd:FuncData} (F:cg K "about" "Lane.about" jO f fd) (Z:bN mg) (au:dJ K mg "Lane" cN) (aD:aK K cN "row") (aP:aK K cN "logs") (az:aK K cN "now") (bB:bU P w K mg base cN 4 "leg_of" dS (lB cN cL eC)) (fv:bU P w K mg base cL 5 "turn" kP (x6 cL)) (bG:bU P w K mg base cN 7 "settle" dT (jk cN cL)):aO P w K mg base (cK P w) 8 f fd mh (dg K (zQ cN cL)):=by
 simp_arith [iM,(ai (eu b_ rfl (fj (aW au.cl aD (rv 0))) (bK (i:=1) iM.nd) (ai (aE (i:=2) iM.nd (aq ar (aV (pl:=_) bB B hr (rv 0) (af (rv 1) ah)) ag))
   (ak (aX (aV (pl:=_) fv B hr (aq cR (aW au.cl aP (rv 0)) (rv 1)) (af (aW au.cl az (rv 0)) (af (vM p9 (rv 2)) ah)))))))
   (ak (aX (dw (pl:=_) bG B hr (rv 0)))))]
 ·obtain ⟨p,L,rfl,_⟩:=h;rfl
 obtain ⟨p,L,rfl,b,ok,hlen,q⟩:=h
 refine hX ?_
 simp_all! [b.ob,b.rw,sC]
 have hid:L.cs.map (cn L.t (L.row.take 0))=L.cs:=by
  have:∀c∈L.cs,cn L.t (L.row.take 0) c=c:=λc _=>by unfold cn;rw [if_neg (by simp)]
  rw [Vl this,WY]
 obtain ⟨Inv,hInv⟩:∃Inv:Nat→Sr→Hq→Prop,∀i τ J',Inv i τ J'↔∃(u1 u2:Option PV),τ=[some (.ref p),u1,u2]∧bh cN cL J' p { L with cs:=L.cs.map (cn L.t (L.row.take i)) }∧Mv J J' (L.own p) (L.own p):=⟨_,λ_ _ _=>Iff.rfl⟩
 refine gA Inv ((hInv _ _ _).mpr ⟨_,_,rfl,by rw [hid];exact b,Mv.refl _ _⟩) (λi τ J' h=>?_) ?_ ?_
 ·obtain ⟨_,_,_,b',_⟩:=(hInv _ _ _).mp h
  have:=b'.rw
  simp only at this
  rw [this]
 ·intro i x τ J' hx hv
  obtain ⟨u1,u2,rfl,b',mv'⟩:=(hInv _ _ _).mp hv
  clear hv
  have hi:i < L.row.length:=by have:=(U1.mp hx).1;simpa using this
  have hget:L.row[i]?=some L.row[i]:=U2 hi
  rw [U8,hget] at hx
  cases hx
  have hn:L.row[i]∈L.row:=VG hi
  have et:L.row.take (i + 1)=L.row.take i ++ [L.row[i]]:=by rw [Vv,hget];rfl
  have hnd:(L.row.take (i + 1)).Nodup:=ok.rn.sublist (V9 _ _)
  rw [et] at hnd
  have hnew:=(gH hnd).2
  generalize L.row[i]=n at hn et hnew ⊢
  obtain ⟨c,hc,rfl,hg⟩:=ok.found hn
  have oki:=ok.tobc.cn hlen (L.row.take i)
  have ecc:cn L.t (L.row.take i) c=c:=by unfold cn;rw [if_neg hnew]
  have hci:c∈L.cs.map (cn L.t (L.row.take i)):=U0.mpr ⟨c,hc,ecc⟩
  simp_all! [b'.ob]
  refine ⟨e8 _ _ _ _,p,_,c.n,rfl,b',oki,λc' hc' e' hg'=>?_,λz=>absurd hn z⟩
  have ec':c'=c:=oki.uniq hc' hci e'
  subst ec'
  have hcv:=(ok.ck c' hc _ (Cf.hE (ok.ne c' hc)).2).v
  have lo:=(b'.lg c' hci).o
  have bo':=b'.ob
  have bd':=b'.dc
  simp only at bo' bd'
  simp_all! [md,bo',qB,yT,bd',lo]
  have hva:=oki.va hci
  simp only at hva
  simp_all! [hva,lo,bo',qB]
  refine ⟨PY _ _,c'.a,c'.r,c'.w,c'.g,L.t,-c'.cur.v,rfl,b'.lg c' hci,ok.ne c' hc,Vh (ok.len c' hc) (by decide),ok.HX,λl hl=>(ok.ck c' hc l hl).Nr,?_⟩
  have b1:=b'.turn oki hci (t:=L.t) (v:=-c'.cur.v)
  have em:(L.cs.map (cn L.t (L.row.take i))).map (dI c'.n L.t (-c'.cur.v))=L.cs.map (cn L.t (L.row.take (i + 1))):=by
   rw [U']
   refine Vl λx hx=>?_
   show dI c'.n L.t (-c'.cur.v) (cn L.t (L.row.take i) x)=_
   by_cases e:x.n=c'.n
   ·have:x=c':=ok.uniq hx hc e
    subst this
    rw [ecc]
    unfold dI Ov.cn
    rw [if_pos rfl,if_pos (by rw [et];simp)]
   ·unfold dI
    rw [if_neg (by rw [(nH L.t (L.row.take i) x).1];exact e)]
    unfold Ov.cn
    rw [et]
    by_cases e2:x.n∈L.row.take i
    ·rw [if_pos e2,if_pos (U9.mpr (.inl e2))]
    ·rw [if_neg e2,if_neg (λz=>by
      rcases U9.mp z with z | z
      ·exact e2 z
      ·exact e (by simpa using z))]
  simp only [em] at b1
  refine (hInv _ _ _).mpr ⟨_,_,rfl,b1,mv'.trans (gG (.inr (.inr (.inr ⟨c',hc,.inr rfl⟩))) λa h=>.inl h)⟩
 ·intro τ J' hv
  obtain ⟨u1,u2,rfl,b',mv'⟩:=(hInv _ _ _).mp hv
  rw [UZ,Vu,lK ok.tobc] at b'
  have oki:bc { L with cs:=L.cs.map (eL L.t) }:=by rw [← lK ok.tobc];exact ok.tobc.cn hlen L.row
  simp_all! [b'.ob]
  refine ⟨e8 _ _ _ _,p,_,rfl,b',oki,λJ2 o' b2 mv2=>?_⟩
  refine q J2 _ b2 (cm.settled oki o') rfl rfl (mv'.trans ⟨λa o e n=>mv2.keep a o e λz=>n ?_,λa h=>?_,mv2.mono⟩)
  ·rw [← lK ok.tobc] at z;exact (xi (nH L.t L.row) a).mp z
  ·rcases mv2.own a h with h' | h'
   ·rw [← lK ok.tobc] at h';exact .inl ((xi (nH L.t L.row) a).mp h')
   ·exact .inr h'
def bW (n:Str) (t:Rat) (c:Cf):Cf:=if c.n=n then { c with g:=some t } else c
theorem fJ (n:Str) (t:Rat) (c:Cf):(bW n t c).n=c.n∧(bW n t c).a=c.a∧(bW n t c).r=c.r∧(bW n t c).w=c.w:=by unfold bW;split <;> exact ⟨rfl,rfl,rfl,rfl⟩
theorem yP {L L':Ln} {n:Str} {t:Rat} (e:L'.cs=L.cs.map (bW n t)):L'.fs=L.fs.filter λx=>decide (x.1≠n):=by
 unfold Ln.fs Ln.EX
 rw [e,VH,U',VH,List.filter_filter]
 have e1:(λc:Cf=>c.g.isNone) ∘ bW n t=λc=>((λx:Str × aZ=>decide (x.1≠n)) ∘ λc:Cf=>(c.n,c.cur)) c && c.g.isNone:=by
  funext c
  show (bW n t c).g.isNone=(decide (c.n≠n) && c.g.isNone)
  unfold bW
  by_cases z:c.n=n
  ·rw [if_pos z];simp [z]
  ·rw [if_neg z];simp [z]
 rw [e1]
 refine Vl λc hc=>?_
 show ((bW n t c).n,(bW n t c).cur)=_
 unfold Cf.cur
 rw [(fJ n t c).1,(fJ n t c).2.2.2]
theorem zg {ks:List Ky} (h:(ks.map Ky.n).Nodup) (f:Ky→Bool):cI (ks.filter f)=(cI ks).filter f:=by
 have hs:((ks.filter f).map Ky.n).Nodup:=h.sublist (List.Sublist.map _ WC)
 refine oP (lt:=Ky.lt) Ky.Ii Ky.tr (cY hs) ((cY h).filter _) λx=>?_
 rw [bD,U_,U_,bD]
theorem zi {t:Rat} {fs:List (Str × aZ)} (h:(fs.map (·.1)).Nodup) (n:Str):cO t (fs.filter λx=>decide (x.1≠n))=(cO t fs).filter λx=>decide (x≠n):=by
 unfold cO
 have e:(fs.filter λx=>decide (x.1≠n)).map (key t)=(fs.map (key t)).filter λk=>decide (k.n≠n):=by rw [VH];rfl
 rw [e,zg (by rw [dz];exact h),VH]
 rfl
theorem erase_filter {l:List Str} (h:l.Nodup) {j:Nat} {n:Str} (hj:l[j]?=some n):l.eraseIdx j=l.filter λx=>decide (x≠n):=by
 obtain ⟨hl,e⟩:=U1.mp hj
 rw [List.eraseIdx_eq_take_drop_succ]
 have hd:l=l.take j ++ n :: l.drop (j + 1):=by rw [← e,← Wb hl,Ww]
 have hn:=h
 rw [hd,VZ] at hn
 have k1:∀x∈l.take j,x≠n:=λx hx=>hn.2.2 x hx n (by simp)
 have k2:∀x∈l.drop (j + 1),x≠n:=λx hx z=>(VY.mp hn.2.1).1 (by rw [← z];exact hx)
 conv=>rhs;rw [hd]
 rw [Wh,Vt,if_neg (by simp),VL.mpr λx hx=>decide_eq_true (k1 x hx),VL.mpr λx hx=>decide_eq_true (k2 x hx)]
theorem cm.leave {L:Ln} (ok:cm L) (n:Str):cm { L with cs:=L.cs.map (bW n L.t),row:=L.row.filter λx=>decide (x≠n) }:=by
 have hfs:Ln.fs { L with cs:=L.cs.map (bW n L.t),row:=L.row.filter λx=>decide (x≠n) }=L.fs.filter λx=>decide (x.1≠n):=yP (L:=L) (t:=L.t) rfl
 have mem:∀c∈L.cs.map (bW n L.t),∃c0∈L.cs,bW n L.t c0=c:=λc hc=>by obtain ⟨c0,h0,e⟩:=U0.mp hc;exact ⟨c0,h0,e⟩
 have hw:∀c,(bW n L.t c).w=c.w:=λc=>(fJ n L.t c).2.2.2
 refine ⟨⟨?_,?_,?_,?_,?_,?_,ok.t0,ok.ts,?_,?_,?_,?_⟩,?_⟩
 ·show ((L.cs.map (bW n L.t)).map Cf.n).Nodup
  rw [fb (λc=>(fJ n L.t c).1)];exact ok.nd
 ·intro c hc;obtain ⟨c0,h0,rfl⟩:=mem c hc;rw [hw];exact ok.ne c0 h0
 ·intro c hc l hl;obtain ⟨c0,h0,rfl⟩:=mem c hc;rw [hw] at hl;exact ok.le c0 h0 l hl
 ·intro c hc l hl;obtain ⟨c0,h0,rfl⟩:=mem c hc;rw [hw] at hl;exact ok.ck c0 h0 l hl
 ·intro c hc;obtain ⟨c0,h0,rfl⟩:=mem c hc;rw [hw];exact ok.len c0 h0
 ·intro c hc q e
  obtain ⟨c0,h0,rfl⟩:=mem c hc
  unfold bW at e
  split at e
  ·cases e;exact ⟨ok.ts,Rat.le_refl⟩
  ·exact ok.gz c0 h0 q e
 ·show (L.cs.map (bW n L.t)).length≤100
  rw [UZ];exact ok.many
 ·intro m
  rw [hfs]
  show m∈L.row.filter _↔_
  rw [U_,ok.rm,U0,U0]
  constructor
  ·rintro ⟨⟨x,hx,rfl⟩,k⟩;exact ⟨x,U_.mpr ⟨hx,k⟩,rfl⟩
  ·rintro ⟨x,hx,rfl⟩;exact ⟨⟨x,(U_.mp hx).1,rfl⟩,(U_.mp hx).2⟩
 ·exact ok.rn.sublist WC
 ·exact Vh (VM _ _) ok.rl
 ·rw [hfs]
  show L.row.filter _=_
  rw [zi ok.M3,← ok.row]
theorem Cc {α:Type} [DecidableEq α]:∀{l:List α} {x:α},x∈l→∃j:Nat,l[j]?=some x∧∀m:Nat,m < j→l[m]?≠some x
 | y :: l,x,h=>by
  by_cases e:y=x
  ·exact ⟨0,by rw [e];rfl,λm hm=>by omega⟩
  ·rcases Vb.mp h with h | h
   ·exact absurd h.symm e
   ·obtain ⟨j,h1,h2⟩:=Cc h
    refine ⟨j + 1,h1,λm hm=>?_⟩
    cases m with
    | zero=>intro z;exact e (Option.some.inj z)
    | succ m=>exact h2 m (by omega)
abbrev jS:Stmt:=(L2.inClass (top 44) 2)
abbrev iu:List Str:=["self","name"]
theorem vb:L2.av ["self","name"] ["self","name"] (L2.aj jS):=dC
def tQ (cN cL eC:Addr):cu:=λxs J Q E=>∃p L n,xs=[.ref p,.str n]∧bh cN cL J p L∧cm L∧(n ∉ L.row→E eC J)∧(n∈L.row→∀J' L',bh cN cL J' p L'→cm L'→L'.cs=L.cs.map (bW n L.t)→L'.t=L.t→Mv J J' (L.own p) (L'.own p)→Q .non J')
theorem uP {cN cL eC f:Addr} {fd:FuncData} (F:cg K "leave" "Lane.leave" jS f fd) (Z:bN mg) (au:dJ K mg "Lane" cN) (aP:aK K cN "logs") (az:aK K cN "now") (aD:aK K cN "row") (aS:bU P w K mg base cN 1 "must_be_there" bZ (oO cN cL eC)) (kI:bU P w K mg base cL 1 "leave" oh (zL cL)):aO P w K mg base (cK P w) 2 f fd iu (dg K (tQ cN cL eC)):=by
 simp_arith [vb,(ai (aX (aV (pl:=_) aS B hr (rv 0) (af (rv 1) ah)))
   (ai (aX (aV (pl:=_) kI B hr (aq cR (aW au.cl aP (rv 0)) (rv 1)) (af (aW au.cl az (rv 0)) ah)))
   (ak (aX (mC PySem.F.plainAttrs_list PySem.F.slot_list_remove PySem.F.type_list_remove D_ (aW au.cl aD (rv 0)) (af (rv 1) ah))))))]
 ·obtain ⟨p,L,n,rfl,_⟩:=h;rfl
 obtain ⟨p,L,n,rfl,b,ok,qc,q⟩:=h
 have bo:=b.ob
 have bd:=b.dc
 refine hX ?_
 simp_all! [bo]
 refine ⟨e8 _ _ _ _,p,L,n,rfl,b,λhn=>?_,qc⟩
 obtain ⟨c,hc,rfl,hg⟩:=ok.found hn
 have lo:=(b.lg c hc).o
 simp_all! [bo,qB,yT,bd,ok.va hc,lo]
 refine ⟨SK _ _,c.a,c.r,c.w,c.g,L.t,rfl,b.lg c hc,?_⟩
 simp_all! [aw (Ne.symm (b.RN hc)),bo,sC,aw (Ne.symm (b.SW hc)),b.rw]
 obtain ⟨j,h1,h2⟩:=Cc hn
 refine ⟨L.row,rfl,j,h1,h2,?_⟩
 rw [erase_filter ok.rn h1]
 have hn':=fJ c.n L.t
 have ok1:=ok.leave c.n
 refine q hn _ { L with cs:=L.cs.map (bW c.n L.t),row:=L.row.filter λx=>decide (x≠c.n) } ⟨?_,?_,ax,λx hx=>?_,?_,λx hx=>?_⟩ ok1 rfl rfl ?_
 ·rw [aw (Ne.symm b.JG),aw (Ne.symm (b.RN hc))];exact bo
 ·show put (put J c.a _) L.o _ L.d=_
  rw [aw b.SX,aw (Ne.symm (b.Um hc)),bd]
  show _=some (HQ.dct ((L.cs.map (bW c.n L.t)).map λc=>(c.n,PV.ref c.a)) L.e)
  rw [fb (f:=λc:Cf=>(c.n,PV.ref c.a)) (λx=>by rw [(hn' x).1,(hn' x).2.1])]
 ·obtain ⟨x0,h0,rfl⟩:=U0.mp hx
  have hl:=b.lg x0 h0
  refine ⟨?_,?_⟩
  ·rw [(hn' x0).2.1,(hn' x0).2.2.1,aw (b.SW h0)]
   by_cases e:x0.n=c.n
   ·have:x0=c:=ok.uniq h0 hc e
    subst this
    rw [ax]
    unfold bW;rw [if_pos rfl];rfl
   ·have ha:x0.a≠c.a:=λz=>by
     have hh:=hl.o
     have hh2:=(b.lg c hc).o
     rw [z,hh2] at hh
     have hrr:c.r=x0.r:=by
      have h3:=(HQ.ins.inj (Option.some.inj hh)).2
      have h4:=(List.cons.inj h3).1
      have h5:=(Prod.mk.inj h4).2
      exact PV.ref.inj h5
     obtain ⟨i,hi,rfl⟩:=Vy h0
     obtain ⟨j',hj',rfl⟩:=Vy hc
     have:=(VT (xs:=L.cs.map Cf.r) (i:=i) (j:=j') (h₀:=by simpa using hi) (h₁:=by simpa using hj') b.ap).mp (by rw [VO,VO];exact hrr.symm)
     subst this;exact e rfl
    rw [aw ha]
    unfold bW;rw [if_neg e];exact hl.o
  ·rw [(hn' x0).2.2.1,(hn' x0).2.2.2,aw (b.ao x0 h0),aw (λz=>by have h3:=hl.l;rw [z,lo] at h3;cases h3)];exact hl.l
 ·show ((L.cs.map (bW c.n L.t)).map Cf.r).Nodup
  rw [fb (λx=>(hn' x).2.2.1)];exact b.ap
 ·obtain ⟨x0,h0,rfl⟩:=U0.mp hx
  rw [(hn' x0).2.2.1];exact b.ao x0 h0
 ·have own':∀a,Ln.own { L with cs:=L.cs.map (bW c.n L.t),row:=L.row.filter λx=>decide (x≠c.n) } p a→L.own p a:=λa h=>by
   rcases h with h | h | h | ⟨x,hx,h⟩
   ·exact .inl h
   ·exact .inr (.inl h)
   ·exact .inr (.inr (.inl h))
   ·obtain ⟨c0,h0,rfl⟩:=U0.mp hx
    rw [(hn' c0).2.1,(hn' c0).2.2.1] at h
    exact .inr (.inr (.inr ⟨c0,h0,h⟩))
  refine (gG (S':=L.own p) (.inr (.inr (.inr ⟨c,hc,.inl rfl⟩))) λa h=>.inl h).trans (gG (.inr (.inr (.inl rfl))) λa h=>.inl (own' a h))
abbrev oG:Stmt:=(top 54)
abbrev fF:List Str:=["_law_cell_here","_law_many"]
theorem fm:L2.av ["_law_cell_here","_law_many","_law_signs","_law_row","_law_some","_law_body","_law_at_here","_law_out","_law_k"] ["_law_cell_here","_law_many"] (L2.aj oG):=dC
def C_:Sp:=λvs H Q _=>∃c m:Int,vs=[.int c,.int m]∧0≤m∧m≤36∧∀(r:Addr) (H':Hp) (xs:List Str),H r=none→bL H H'→H' r=some (.lst (xs.map V.str))→(xs.length:Int)=m→xs.Nodup→(∀x∈xs,good x=true)→Q (.ref r) H'
def menu:List Str:=["m","ab","a","zebra9","b0","0","abc","9zz","q7q7q7q7","aa","z","a1b2c3d4"]
def dt:Str:="abcdefghijklmnopqrstuvwxyz0123456789"
theorem Jx:menu.Nodup:=by decide +kernel
theorem Fp:dt.cps.toList.Nodup:=by decide +kernel
theorem lL:dt.cps.toList.length=36:=by decide +kernel
theorem MN {α:Type} {xs:List α} {j:Int} (h0:0≤j) (h1:j < xs.length):dF xs j=some (xs[j.toNat]'(by omega)):=by
 have h:=bA (xs:=xs) (j:=j.toNat) (U2 (by omega))
 rw [show ((j.toNat:Nat):Int)=j by omega] at h
 exact h
def Le {α:Type} (xs:List α) (z:α) (d:Int) (k:Nat):α:=xs.getD ((d + 5 * (k:Int)) % (xs.length:Int)).toNat z
section
variable {α:Type} {xs:List α} {z:α} (d:Int)
theorem rZ (h:0 < xs.length) (k:Nat):0≤(d + 5 * (k:Int)) % (xs.length:Int)∧(d + 5 * (k:Int)) % (xs.length:Int) < (xs.length:Int):=⟨Int.emod_nonneg _ (by omega),Int.emod_lt_of_pos _ (by omega)⟩
theorem nL (h:0 < xs.length) (k:Nat):xs[((d + 5 * (k:Int)) % (xs.length:Int)).toNat]?=some (Le xs z d k):=by
 have:=rZ d h k
 unfold Le
 rw [List.getD_eq_getElem?_getD,U2 (by omega)]
 rfl
theorem MW (h:0 < xs.length) (k:Nat):dF xs ((d + 5 * (k:Int)) % (xs.length:Int))=some (Le xs z d k):=by
 have:=bA (nL (z:=z) d h k)
 rwa [Int.toNat_of_nonneg (rZ d h k).1] at this
theorem B9 (h:0 < xs.length) (k:Nat):Le xs z d k∈xs:=U3 (nL d h k)
theorem Sn {M a b d u v:Int} (g:5 * u=1 + M * v) (a0:0≤a) (a1:a < M) (b0:0≤b) (b1:b < M) (e:(d + 5 * a) % M=(d + 5 * b) % M):a=b:=by
 have h:M ∣ 5 * (a - b):=by
  have:=Int.dvd_of_emod_eq_zero (Int.emod_eq_emod_iff_emod_sub_eq_zero.mp e)
  rwa [show d + 5 * a - (d + 5 * b)=5 * (a - b) by omega] at this
 obtain ⟨c,hc⟩:M ∣ a - b:=by
  obtain ⟨c,hc⟩:=h
  refine ⟨u * c - v * (a - b),?_⟩
  have h1:5 * u * (a - b)=u * (M * c):=by rw [← hc];grind
  rw [g] at h1
  grind
 rcases Int.lt_trichotomy c 0 with k | k | k
 ·have:M * c≤M * (-1):=Int.mul_le_mul_of_nonneg_left (by omega) (by omega)
  omega
 ·subst k;omega
 ·have:M * 1≤M * c:=Int.mul_le_mul_of_nonneg_left (by omega) (by omega)
  omega
theorem B8 (u v:Int) (hn:xs.Nodup) (g:5 * u=1 + (xs.length:Int) * v) {i j:Nat} (hi:i < xs.length) (hj:j < xs.length) (e:Le xs z d i=Le xs z d j):i=j:=by
 have h:0 < xs.length:=by omega
 have a:=nL (z:=z) d h i
 have b:=nL (z:=z) d h j
 rw [e] at a
 obtain ⟨a1,a2⟩:=U1.mp a
 obtain ⟨b1,b2⟩:=U1.mp b
 have e1:=(VT hn).mp (a2.trans b2.symm)
 have:=rZ d h i
 have:=rZ d h j
 exact Int.ofNat.inj (Sn g (Int.natCast_nonneg i) (Int.ofNat_lt.mpr hi) (Int.natCast_nonneg j) (Int.ofNat_lt.mpr hj) (show (d + 5 * (i:Int)) % _=(d + 5 * (j:Int)) % _ by omega))
end
theorem Gq:menu.length=12:=by decide +kernel
abbrev pick:Int→Nat→Str:=Le menu ""
theorem Kb (d:Int) (k:Nat):dF (menu.map V.str) ((d + 5 * (k:Int)) % 12)=some (.str (pick d k)):=by
 have h:=rZ (xs:=menu) d (by decide +kernel) k
 have g:=bA (xs:=menu.map V.str) (j:=((d + 5 * (k:Int)) % (menu.length:Int)).toNat) (by rw [U8,nL (xs:=menu) (z:="") d (by decide +kernel) k];rfl)
 rw [Int.toNat_of_nonneg h.1,Gq] at g
 exact g
theorem G0 (d:Int) {m:Nat} (hm:m≤12):((VA m).map (pick d)).Nodup:=by
 refine List.Pairwise.map (R:=λi j=>i < 12∧j < 12∧i≠j) _ (λi j ⟨a,b,c⟩ e=>c (B8 d 5 2 Jx (by decide +kernel) a b e)) ?_
 refine List.Pairwise.imp_of_mem (R:=λi j=>i≠j) (λ{i j} hi hj ne=>?_) (List.nodup_range)
 rw [V6] at hi hj
 exact ⟨by omega,by omega,ne⟩
theorem D9:∀x∈menu,good x=true:=by decide +kernel
theorem rT:∀c∈dt.cps.toList,eS cQ c=true:=by decide +kernel
theorem Ez (d:Int) (k:Nat):good (pick d k)=true:=D9 _ (B9 d (by decide +kernel) k)
theorem Jm {cs:List Nat} (h0:0 < cs.length) (h1:cs.length≤8) (h:∀c∈cs,eS cQ c=true):good ⟨cs.toArray⟩=true:=by
 unfold good
 rw [Vq,Vq]
 refine ⟨⟨decide_eq_true ?_,decide_eq_true ?_⟩,V4.mpr λc hc=>h c (by simpa using hc)⟩
 ·show 1≤cs.toArray.size;rw [U5];omega
 ·show cs.toArray.size≤8;rw [U5];omega
abbrev sign:Int→Nat→Nat:=Le dt.cps.toList 0
theorem KO (d:Int) (k:Nat):dF dt.cps.toList ((d + 5 * (k:Int)) % 36)=some (sign d k):=by
 have h:=MW (xs:=dt.cps.toList) (z:=0) d (by decide +kernel) k
 rw [lL] at h
 exact h
theorem EG (d:Int) (k:Nat):eS cQ (sign d k)=true:=rT _ (B9 d (by decide +kernel) k)
theorem Hu (d:Int) {i j:Nat} (hi:i < 36) (hj:j < 36) (e:sign d i=sign d j):i=j:=B8 d (-7) (-1) Fp (by decide +kernel) (by rw [lL];exact hi) (by rw [lL];exact hj) e
theorem HV {d:Int} {n:Nat} {xs:List Str} (hl:xs.length≤36) (h:∀k x,xs[k]?=some x→x.cps.toList[n]?=some (sign d k)):xs.Nodup:=by
 refine VF.mpr λi j hi hj hij e=>?_
 have a:=h i _ (U2 hi)
 have b:=h j _ (U2 hj)
 rw [e] at a
 rw [a] at b
 have:=Hu d (by omega) (by omega) (Option.some.inj b)
 omega
theorem Fy {xs:List V} {k:Int} (h:0≤k):o_ xs none (some k)=xs.take k.toNat:=by
 obtain ⟨j,rfl⟩:∃j:Nat,k=(j:Int):=⟨k.toNat,by omega⟩
 unfold o_
 rw [HT.zC,HT.xD,Wu,Int.toNat_natCast]
 rcases Nat.le_total j xs.length with e | e
 ·rw [Xh e]
  rfl
 ·rw [Nat.min_eq_right e,Nat.sub_zero,VR (U4 _),VR e]
theorem GK (cs:List Nat):((cs.map one).map (·.length)).sum=cs.length:=by
 induction cs with
 | nil=>rfl
 | cons c cs ih =>
  rw [U6,U6,List.sum_cons,ih,Vk]
  show 1 + cs.length=cs.length + 1
  omega
theorem Ra {ds:List Int} (hD:Dig ds [3,36,8,36,36,36,36,36,36,36,36,840]):∃(d0 d1 d2 d11:Int) (es:List Int),dF (ds.map V.int) 0=some (.int d0)∧dF (ds.map V.int) 1=some (.int d1)∧dF (ds.map V.int) 2=some (.int d2)∧dF (ds.map V.int) 11=some (.int d11) ∧
  o_ (ds.map V.int) (some 3) (some 11)=es.map V.int∧es.length=8∧(∀e∈es,0≤e∧e < 36)∧0≤d2∧d2 < 8:=by
 obtain ⟨d0,ds,rfl,_,_,hD⟩:=hD.cons
 obtain ⟨d1,ds,rfl,_,_,hD⟩:=hD.cons
 obtain ⟨d2,ds,rfl,d20,d21,hD⟩:=hD.cons
 have key:∀(n:Nat) {ds:List Int},Dig ds (VP n 36 ++ [840])→∃es d,ds=es ++ [d]∧es.length=n∧∀e∈es,0≤e∧e < 36:=by
  intro n
  induction n with
  | zero=>intro ds h;obtain ⟨d,ds,rfl,_,_,h⟩:=h.cons;cases h.nil;exact ⟨[],d,rfl,rfl,λe he=>by cases he⟩
  | succ n ih =>
   intro ds h
   obtain ⟨d,ds,rfl,h0,h1,h⟩:=h.cons
   obtain ⟨es,x,rfl,hl,he⟩:=ih h
   exact ⟨d :: es,x,rfl,congrArg Nat.succ hl,List.forall_mem_cons.mpr ⟨⟨h0,h1⟩,he⟩⟩
 obtain ⟨es,d11,rfl,hl,he⟩:=key 8 hD
 refine ⟨d0,d1,d2,d11,es,bA (j:=0) rfl,bA (j:=1) rfl,bA (j:=2) rfl,bA (j:=11) ?_,?_,hl,he,d20,d21⟩
 ·rw [U8,VB,VB,VB,VS (by omega),hl];rfl
 ·have h11:((d0 :: d1 :: d2 :: (es ++ [d11])).map V.int).length=12:=by simp [hl]
  unfold o_
  rw [show (some (3:Int))=some ((3:Nat):Int) from rfl,show (some (11:Int))=some ((11:Nat):Int) from rfl,HT.xD,HT.xD,h11]
  show List.take 8 ((es ++ [d11]).map V.int)=_
  rw [U7,List.take_append_of_le_length (by simp [hl]),VR (by simp [hl])]
theorem Jq {p q a b:Prop} [Decidable p] [Decidable q]:(if p then if q then a else b else b)=if p∧q then a else b:=by by_cases hp:p <;> by_cases hq:q <;> simp [hp,hq]
theorem Gy {f:Addr} {fd:FuncData} (F:cg K "_law_names" "_law_names" oG f fd) (Z:ES mg) (e9:t9 P w K mg base 1 "_law_digits" cZ (tO K)):aO P w K mg base rF 2 f fd fF C_:=by
 refine F.ok fm (λvs H Q E h=>?_) (λcdv A outer s H vs Q E hr h=>?_)
 ·obtain ⟨c,m,rfl,_⟩:=h
  rfl
 obtain ⟨c,m,rfl,m0,m1,q⟩:=h
 refine ⟨_,(QB.run (ba (c_ (i:=2) fm.nd rfl (Or.inr rfl) pI)
   (ba (c_ (i:=3) fm.nd rfl (Or.inr rfl) (zl e9 hr (by decide) rfl (aA (pv 0) (aA (jG (GR [.int 3,.int 36,.int 8,.int 36,.int 36,.int 36,.int 36,.int 36,.int 36,.int 36,.int 36,.int 840] rfl)) bj))))
   (ba (oA (LN (xu (d7 GL (cD gC (pv 3) aT (λ_ _=>rfl)) aT (fw _)) (q9 (d7 LH (pv 1) aT (fw _))))) (ba (c_ (i:=4) fm.nd rfl (Or.inr rfl) (jG (GR [.str "m",.str "ab",.str "a",.str "zebra9",.str "b0",.str "0",.str "abc",.str "9zz",.str "q7q7q7q7",.str "aa",.str "z",.str "a1b2c3d4"] rfl)))
   (bS (er (JW (aj oG) ["_law_cell_here","_law_many","_law_signs","_law_row","_law_some","_law_body","_law_at_here","_law_out","_law_k"] [("_law_row",3),("_law_some",4)] rfl rfl rfl (gj rfl Z.range (aA (pv 1) bj)) (λ_ _ _ _ _ _=>(cD gC (pv 2) (bH gK (bH jF (cD gC (pv 1) aT (λ_ _=>rfl)) (bH cU aT (pv 0))) aT) (λ_ _=>rfl))))))) f')
   (ba (Ke (i:=5) (aj oG) ["_law_cell_here","_law_many","_law_signs","_law_row","_law_some","_law_body","_law_at_here","_law_out","_law_k"] [("_law_signs",2)] rfl rfl rfl fm.nd rfl (Or.inl rfl) (n9 (kO xV (pv 3) (lT aT) (lT aT))) (λ_ _ _ _ _ _=>(cD F8 (pv 1) (pv 0) (λ_ _=>rfl))))
   (zp (oA (d7 GL (cD gC (pv 3) aT (λ_ _=>rfl)) aT (fw _)) (bS (c_ (i:=5) fm.nd rfl (Or.inl rfl) (kO xV (pv 5) qY (lT (bH jF (cD gC (pv 3) aT (λ_ _=>rfl)) aT))))) f')
   (ba (c_ (i:=6) fm.nd rfl (Or.inl rfl) (bH gK (cD gC (pv 3) aT (λ_ _=>rfl)) (bM ju rfl Z.len boot_len (aA (pv 5) bj))))
   (ba (c_ (i:=7) fm.nd rfl (Or.inl rfl) (jG bj))
   (ba (pJ PassesOwn.never rfl (gj rfl Z.range (aA (pv 1) bj)) (lS (i:=8) fm.nd rfl (Or.inl rfl)) (ba (xo (cD F8 (pv 2) (bH gK (bH jF (cD gC (pv 3) aT (λ_ _=>rfl)) (bH cU aT (pv 8))) aT) (λ_ _=>rfl)) (xj (pv 5) (pv 6) set_list))
   (bS (lU (sS PySem.F.plainAttrs_list PySem.F.slot_list_append PySem.F.type_list_append i5 (pv 7) (aA (sS PySem.F.plainAttrs_str PySem.F.slot_str_join PySem.F.type_str_join JC pI (aA (pv 5) bj)) bj))))))
   (bS (er (pv 7)))))))))))),?_⟩
 refine ⟨_,rfl,(by show 12≤sizeLine;decide),λp hp=>?_⟩
 have ss:=oK (ss:=[3,36,8,36,36,36,36,36,36,36,36,840]) (by decide)
 refine ⟨c,p,[3,36,8,36,36,36,36,36,36,36,36,840],rfl,dq.of aH,ss,by decide,λr H1 ds _ g1 hr1 hD=>?_⟩
 obtain ⟨d0,d1,d2,d11,es,at0,at1,at2,at11,hcut,el,be,d20,d21⟩:=Ra hD
 clear hD
 generalize ds.map V.int=row at hr1 at0 at1 at2 at11 hcut
 have g1:=(bL.new hp _).trans g1
 dsimp! [rJoin,hr1,at0,at1]
 rw [Jq]
 split
 ·refine ⟨(by show 12≤sizeLine;decide),λp2 hp2=>?_⟩
  have g2:=bL.new hp2 (.lst (menu.map V.str))
  have h2:(upd H1 p2 (.lst (menu.map V.str))) p2=some (.lst (menu.map V.str)):=aH
  have hr2:=g2 _ _ hr1
  refine ⟨_,rfl,m,rfl,by omega,by omega,λD hD=>?_⟩
  refine Gf (lo:=0) (n:=m.toNat) (λi H'=>bL (upd H1 p2 (.lst (menu.map V.str))) H'∧H' D=some (.lst (((VA i).map (pick d1)).map V.str))) ⟨bL.new hD _,aH⟩ ?_ ?_
  ·rintro i H' R hi ⟨g,hd⟩ k
   have hr3:=g _ _ hr2
   have h3:=g _ _ h2
   dsimp! [rJoin,hr3,h3,at1,Int.zero_add]
   refine ⟨.of (Bd.small (by decide) (by decide)) (Bd.small (x:=(i:Int)) (by omega) (by omega)),_,Kb d1 i,?_⟩
   refine k _ _ _ hd (by rw [UZ,UZ,Wt];exact bp (by omega)) ⟨g.OQ hD _,?_⟩
   rw [aH]
   simp [List.range_succ]
  ·rintro H' ⟨g,hd⟩
   exact q D H' _ (g1.free (g2.free hD)) (g1.trans (g2.trans g)) hd (by rw [UZ,Wt];omega) (G0 d1 (by omega)) (λx hx=>by obtain ⟨k,_,rfl⟩:=U0.mp hx;exact Ez d1 k)
 refine ⟨_,rfl,3,rfl,11,rfl,r,_,rfl,dq.of hr1,λp2 hp2=>⟨p2,rfl,⟨_,dq.of aH⟩,λD hD=>?_⟩⟩
 rw [hcut] at hD ⊢
 have g2:=bL.new hp2 (.lst (es.map V.int))
 have hr2:=g2 _ _ hr1
 have h2:(upd H1 p2 (.lst (es.map V.int))) p2=some (.lst (es.map V.int)):=aH
 have al:=lL
 have al2:dt.length≤sizeLine:=by decide +kernel
 refine Jt (K:=K) (a:=p2) (xs:=es.map V.int) (λi H'=>bL (upd H1 p2 (.lst (es.map V.int))) H'∧∃cs:List Nat,cs.length=i∧(∀c∈cs,eS cQ c=true)∧H' D=some (.lst ((cs.map one).map V.str)))
  ⟨bL.new hD _,[],rfl,(λc hc=>by cases hc),aH⟩ (λi H' _ ⟨g,_⟩=>dq.of (g _ _ h2)) ?_ ?_
 ·rintro i y H' R hi ⟨g,cs,hcs,hca,hd⟩ k
  have hil:=(U1.mp hi).1
  obtain ⟨z,rfl,hz⟩:=si hi
  obtain ⟨z0,z1⟩:=be z (U3 hz)
  have at1:=MN (xs:=dt.cps.toList) z0 (by rw [al];exact z1)
  dsimp! [rJoin]
  refine ⟨al2,_,at1,?_⟩
  refine k _ _ _ hd (by rw [UZ,UZ,hcs];rw [UZ] at hil;exact bp (by omega)) ⟨g.OQ hD _,cs ++ [dt.cps.toList[z.toNat]'(by rw [al];omega)],by rw [Vg,hcs];rfl,?_,?_⟩
  ·intro c hc
   rcases U9.mp hc with hc | hc
   ·exact hca c hc
   ·rw [Vc] at hc;subst hc;exact rT _ (VG _)
  rw [aH,U7,U7]
  rfl
 rintro H2 ⟨g,cs,hcs,hca,hd⟩
 have hr3:=g _ _ hr2
 have g:=g1.trans (g2.trans g)
 have hcs:cs.length=8:=hcs.trans ((UZ _).trans el)
 obtain ⟨M,hM⟩:∃M:L2.St→Hp→Prop,∀σ' H',M σ' H'↔∃(D:Addr) (cs:List Nat),σ'=[some (.int c),some (.int m),some (.str dt),some (.ref r),none,some (.ref D),none,none,none]∧bL H H'∧H D=none∧H' r=some (.lst row)∧D≠r∧0 < cs.length∧cs.length≤8∧(∀c∈cs,eS cQ c=true)∧H' D=some (.lst ((cs.map one).map V.str)):=⟨_,λ_ _=>Iff.rfl⟩
 have fD:H D=none:=g1.free (g2.free hD)
 have nDr:D≠r:=(bJ hr2 hD).symm
 refine ⟨M,?_,?_⟩
 ·dsimp! [rJoin,hr3,at0,at2]
  split
  ·refine ⟨_,dq.of hd,λp4 hp4=>(hM _ _).mpr ⟨p4,cs.take (d2 + 1).toNat,rfl,g.trans (bL.new hp4 _),g.free hp4,?_,?_,?_,?_,(λc hc=>hca c (VI hc)),?_⟩⟩
   ·exact (bL.new hp4 _) _ _ hr3
   ·exact (bJ hr3 hp4).symm
   ·rw [Vp];omega
   ·rw [Vp];omega
   ·rw [aH,Fy (by omega),V2,V2]
  ·exact (hM _ _).mpr ⟨D,cs,rfl,g,fD,hr3,nDr,by omega,by omega,hca,hd⟩
 clear hca hd hr3 g fD nDr hcs
 intro σ5 H5 hm
 obtain ⟨D,cs,rfl,g,fD,hr3,nDr,l0,l1,hca,hd⟩:=(hM _ _).mp hm
 clear hm hM M
 have e0s:(Str.ofString "").length=0:=by decide +kernel
 have hl:((cs.map one).map V.str).length=cs.length:=by rw [UZ,UZ]
 have hlp:(0:Int) < (((cs.map one).map V.str).length:Nat):=by rw [hl];omega
 have a0:=Int.emod_nonneg d11 (show (((cs.map one).map V.str).length:Int)≠0 by omega)
 have a1:=Int.emod_lt_of_pos d11 hlp
 refine ⟨_,rfl,r,_,11,_,rfl,rfl,hr3,at11,_,rfl,D,rfl,_,.inl (dq.of hd),_,_,rfl,rfl,hlp,?_⟩
 generalize hat:d11 % (((cs.map one).map V.str).length:Int)=at' at a0 a1
 rw [hl] at a1
 refine ⟨Vr _,λO hO=>?_⟩
 have gO:=bL.new hO (.lst [])
 have nOD:O≠D:=(bJ hd hO).symm
 have nOr:O≠r:=(bJ hr3 hO).symm
 have fO:H O=none:=g.free hO
 refine ⟨_,rfl,m,rfl,by omega,by omega,vD (lo:=0) (n:=m.toNat) (λi σ H'=>∃(v:Option V) (cs':List Nat) (xs:List Str),σ=[some (.int c),some (.int m),some (.str dt),some (.ref r),none,some (.ref D),some (.int at'),some (.ref O),v] ∧
  bL H H'∧H' r=some (.lst row)∧cs'.length=cs.length∧(∀c∈cs',eS cQ c=true)∧H' D=some (.lst ((cs'.map one).map V.str))∧H' O=some (.lst (xs.map V.str))∧xs.length=i∧(∀x∈xs,good x=true)∧∀k x,xs[k]?=some x→x.cps.toList[at'.toNat]?=some (sign d1 k)) ?_ ?_ ?_⟩
 ·exact ⟨none,cs,[],by rw [← hat];rfl,g.trans gO,gO _ _ hr3,rfl,hca,gO _ _ hd,aH,rfl,(λx hx=>by cases hx),λk x e=>by cases e⟩
 ·rintro i σ H' hi ⟨v,cs',xs,rfl,g',hr',hl',hca',hd',ho',hx,hxl,hs⟩
  have al2:dt.length≤sizeLine:=by decide +kernel
  have sg:=KO d1 i
  refine ⟨_,rfl,_,rfl,r,_,1,_,rfl,rfl,hr',at1,_,rfl,_,_,rfl,rfl,.of (Bd.small (by decide) (by decide)) (Bd.small (x:=0 + (i:Int)) (by omega) (by omega)),_,_,rfl,rfl,_,_,rfl,rfl,(show (0:Int) < 36 by decide),_,_,_,rfl,rfl,al2,(by rw [Int.zero_add];exact sg),?_⟩
  have ix:EV ((cs'.map one).map V.str).length at'=some at'.toNat:=by
   unfold EV
   rw [if_pos a0,if_pos (by rw [UZ,UZ,hl'];exact a1)]
  refine ⟨_,rfl,_,rfl,D,_,at',_,rfl,rfl,hd',ix,?_⟩
  have es:((cs'.map one).map V.str).set at'.toNat (.str ⟨#[sign d1 i]⟩)=((cs'.set at'.toNat (sign d1 i)).map one).map V.str:=by
   rw [List.map_set,List.map_set]
   rfl
  have gD:=bL.OQ fD g' (.lst (((cs'.map one).map V.str).set at'.toNat (.str ⟨#[sign d1 i]⟩)))
  have hD2:(upd H' D (.lst (((cs'.map one).map V.str).set at'.toNat (.str ⟨#[sign d1 i]⟩)))) D=some (.lst (((cs'.set at'.toNat (sign d1 i)).map one).map V.str)):=by rw [aH,es]
  have hr2:(upd H' D (.lst (((cs'.map one).map V.str).set at'.toNat (.str ⟨#[sign d1 i]⟩)))) r=_:=(aM nDr.symm).trans hr'
  have ho2:(upd H' D (.lst (((cs'.map one).map V.str).set at'.toNat (.str ⟨#[sign d1 i]⟩)))) O=_:=(aM nOD).trans ho'
  have lc:(cs'.set at'.toNat (sign d1 i)).length=cs.length:=by rw [We,hl']
  have hcn:∀c∈cs'.set at'.toNat (sign d1 i),eS cQ c=true:=λc hc=>by
   rcases List.mem_or_eq_of_mem_set hc with h | h
   ·exact hca' c h
   ·rw [h];exact EG d1 i
  refine ⟨_,rfl,.inl ⟨rfl,_,dq.of ho2⟩,rfl,_,rfl,_,D,(cs'.set at'.toNat (sign d1 i)).map one,rfl,rfl,dq.of hD2,?_,O,_,_,rfl,rfl,ho2,?_,?_⟩
  ·rw [GK,UZ,lc,e0s]
   omega
  ·rw [UZ,hx]
   exact bp (by omega)
  ·rw [join_ones]
   refine ⟨_,cs'.set at'.toNat (sign d1 i),xs ++ [⟨(cs'.set at'.toNat (sign d1 i)).toArray⟩],rfl,gD.OQ fO _,(aM nOr.symm).trans hr2,lc,hcn,(aM nOD.symm).trans hD2,?_,by rw [Vg,hx];rfl,?_,?_⟩
   ·rw [aH,U7]
    rfl
   ·intro x hx2
    rcases U9.mp hx2 with h | h
    ·exact hxl x h
    ·simp only [Vb,Vm,or_false] at h
     subst h
     exact Jm (by rw [lc];exact l0) (by rw [lc];exact l1) hcn
   ·intro k x e
    rcases WX k xs.length with hk | hk
    ·rw [VW hk] at e
     exact hs k x e
    ·rw [VS hk] at e
     have ek:k=i:=by
      cases hz:k - xs.length with
      | zero=>omega
      | succ z=>rw [hz] at e;cases e
     rw [show k - xs.length=0 by omega] at e
     have ex:=Option.some.inj e
     subst ex
     rw [ek]
     show (cs'.set at'.toNat (sign d1 i))[at'.toNat]?=some (sign d1 i)
     rw [Vn (by omega)]
 ·rintro σ H' ⟨v,cs',xs,rfl,g',hr',hl',hca',hd',ho',hx,hxl,hs⟩
  exact ⟨_,rfl,q O H' xs fO g' ho' (by omega) (HV (by omega) hs) hxl⟩
def zU:cu:=λxs J Q _=>∃c m:Int,xs=[.int c,.int m]∧0≤m∧m≤36∧∀ns:List Str,(ns.length:Int)=m→ns.Nodup→(∀x∈ns,good x=true)→Q (.fl (ns.map .str)) J
theorem vN {K:PySem.W.Frag} {J:Hq} {H:Hp}:∀ns:List Str,aU K J H (ns.map PV.str) (ns.map V.str)
 | []=>rfl
 | n :: ns=>⟨_,_,rfl,rfl,vN ns⟩
theorem A2 (C:t9 P w K mg base 2 "_law_names" fF C_):bx P w K mg base 2 "_law_names" fF zU:=C.lift λxs J vs H Q2 E2 Q E rs r ⟨c,m,ex,h0,h1,q⟩ kn=>by
 subst ex
 obtain ⟨v,u,rfl,r1,r2⟩:=j0 rs
 cases r1;cases r2
 exact ⟨c,m,rfl,h0,h1,λp H' ns hp s e hl nd lx=>kn (.fl (ns.map .str)) J (.ref p) H' ⟨p,_,rfl,.inl ⟨r.free hp,.inl e⟩,vN ns⟩ (r.same s) (.same s) (q ns hl nd lx)⟩
abbrev xK:Stmt:=(top 48)
abbrev my:List Str:=["_law_found"]
theorem Hs:L2.av ["_law_found"] ["_law_found"] (L2.aj xK):=dC
def tY:cu:=λxs J Q _=>∃i:Int,xs=[.int i]∧Q (.bl true) J
theorem El {f:Addr} {fd:FuncData} (F:cg K "_law_whole" "_law_whole" xK f fd) (Z:bN mg):aO P w K mg base (cK P w) 1 f fd my (dg K tY):=by
 simp_arith [Hs,(ak (ay (Bz (aI jv rfl Z.isinstance boot_isinstance (af (rv 0) (af (oC rfl Z.int boot_int) ah))) (xA (N7 (aI jv rfl Z.isinstance boot_isinstance (af (rv 0) (af (oC rfl Z.bool boot_bool) ah))))))))]
 ·obtain ⟨i,rfl,_⟩:=h;rfl
 obtain ⟨i,rfl,q⟩:=h
 refine hX ?_
 simp_arith! [bE]
 exact q
abbrev BF:Stmt:=(top 50)
abbrev jK:List Str:=["_law_found","_law_due"]
theorem KG:L2.av ["_law_found","_law_due"] ["_law_found","_law_due"] (L2.aj BF):=dC
def rj:cu:=λxs J Q _=>∃a:Rat,xs=[fr a,fr a]∧Q (.bl true) J
theorem GF {f:Addr} {fd:FuncData} (F:cg K "_law_part" "_law_part" BF f fd) (Z:bN mg) (BY:bx P w K mg base 1 "_law_whole" my tY):aO P w K mg base (cK P w) 2 f fd jK (dg K rj):=by
 simp_arith [KG,(ai (aR (cP (k8 (dj (bX (aI jv rfl Z.isinstance boot_isinstance (af (rv 0) (af (oC rfl Z.tuple boot_tuple) ah))))) (gQ (aB (h_ hr.aL) (aI bV rfl Z.len boot_len (af (rv 0) ah)) ag)))) (ak (ay ed)) aF)
   (ai (aR (cP (k8 (dj (bX (aQ BY B hr (af (aq ar (rv 0) ag) ah)))) (gQ (dj (bX (aQ BY B hr (af (aq ar (rv 0) ag) ah))))))) (ak (ay ed)) aF)
   (ak (ay (eQ (bT hr.aL) (rv 0) (rv 1))))))]
 ·obtain ⟨a,rfl,_⟩:=h;rfl
 obtain ⟨a,rfl,q⟩:=h
 refine hX ?_
 simp_arith! [bE,tY]
 exact q
abbrev tE:Stmt:=(top 55)
abbrev kQ:List Str:=["_law_number","_law_mode"]
theorem ED:L2.av ["_law_number","_law_mode"] ["_law_number","_law_mode"] (L2.aj tE):=dC
def vT:cu:=λxs J Q _=>∃n m:Int,xs=[.int n,.int m]∧0≤n∧∀v:Int,v.natAbs≤1000000→Q (.int v) J
theorem Bc {f:Addr} {fd:FuncData} (F:cg K "_law_placed" "_law_placed" tE f fd) (Z:bN mg):aO P w K mg base (cK P w) 1 f fd kQ (dg K vT):=by
 simp_arith [ED,(ai (aR (aB gL (rv 1) ag) (ak (ay (aG dD (aG eh (rv 0) ag) ag))) aF)
   (ai (aR (aB (bT hr.aL) (rv 1) ag) (ak (ay (aG dD (aG eh (rv 0) ag) ag))) aF)
   (ak (ay (aG dD (aG eh (rv 0) ag) ag)))))]
 ·obtain ⟨n,m,rfl,_⟩:=h;rfl
 obtain ⟨n,m,rfl,n0,q⟩:=h
 refine hX ?_
 simp_all! []
 split
 ·simp_all! [];exact ⟨by decide,q _ (by omega)⟩
 simp_all! []
 split
 ·simp_all! [];exact ⟨by decide,q _ (by omega)⟩
 ·simp_all! [];exact ⟨by decide,q _ (by omega)⟩
abbrev xI:Stmt:=(top 56)
abbrev mx:List Str:=["_law_number","_law_mode"]
theorem Ho:L2.av ["_law_number","_law_mode"] ["_law_number","_law_mode"] (L2.aj xI):=dC
def zV:cu:=λxs J Q _=>∃n m:Int,xs=[.int n,.int m]∧0≤n∧n < 2001∧∀v:Int,v.natAbs≤1000→Q (.int v) J
theorem Ek {f:Addr} {fd:FuncData} (F:cg K "_law_paced" "_law_paced" xI f fd) (Z:bN mg):aO P w K mg base (cK P w) 1 f fd mx (dg K zV):=by
 simp_arith [Ho,(ai (aR (aB gL (rv 1) ag) (ak (ay (aG dD (aG eh (rv 0) ag) ag))) aF)
   (ai (aR (aB (bT hr.aL) (rv 1) ag) (ak (ay (aG dD (aG eh (rv 0) ag) ag))) aF)
   (ak (ay (aG dD (aG eh (rv 0) ag) ag)))))]
 ·obtain ⟨n,m,rfl,_⟩:=h;rfl
 obtain ⟨n,m,rfl,n0,n1,q⟩:=h
 refine hX ?_
 simp_all! []
 split
 ·simp_all! [];exact ⟨by decide,q _ (by omega)⟩
 simp_all! []
 split
 ·simp_all! [];exact ⟨by decide,q _ (by omega)⟩
 ·simp_all! [];exact ⟨by decide,q _ (by omega)⟩
abbrev Ob:Stmt:=(top 59)
abbrev fz:List Str:=["_law_leg","_law_moment"]
theorem zG:L2.av ["_law_leg","_law_moment","_law_begun","_law_place","_law_way","_law_under"] ["_law_leg","_law_moment"] (L2.aj Ob):=dC
theorem NB {f:Addr} {fd:FuncData} (F:cg K "_law_at" "_law_at" Ob f fd) (Z:bN mg) (nA:bx P w K mg base 1 "_law_low" dU jX):aO P w K mg base (cK P w) 2 f fd fz (dg K j9):=by
 simp_arith [zG,(ai (aE (i:=2) zG.nd (aq ar (rv 0) ag))
   (ai (aE (i:=3) zG.nd (aq ar (rv 0) ag))
   (ai (aE (i:=4) zG.nd (aG bP (aq ar (rv 0) ag) (aG dD (aG bP (aq ar (rv 1) ag) (aq ar (rv 2) ag)) (aG bP (aq ar (rv 2) ag) (aq ar (rv 1) ag)))))
   (ai (aE (i:=5) zG.nd (aG bP (aq ar (rv 1) ag) (aq ar (rv 2) ag)))
   (ak (ay (aQ nA B hr (af (aG cX (aG bP (aq ar (rv 3) ag) (rv 5)) (aG bP (rv 4) (aq ar (rv 3) ag))) (af (aG bP (aq ar (rv 3) ag) (rv 5)) ah)))))))))]
 ·obtain ⟨l,t,rfl,_⟩:=h;rfl
 obtain ⟨l,m,rfl,sb,sp,sm,bv,q⟩:=h
 refine hX ?_
 simp_all! [Ct,Pt,md]
 have bn:Bd 1801 (m.num * l.m.den - l.m.num * m.den):=.sub (.mul sm.num sb.den (U4 _)) (.mul sb.num sm.den (U4 _))
 have bu:Bd 1800 ((m.den:Int) * l.m.den):=.mul sm.den sb.den
 have bw:Bd 1900 (l.v * (m.num * l.m.den - l.m.num * m.den)):=.mul bv bn
 refine ⟨.of sm.num sb.den,.of sb.num sm.den,.of bv bn,?_⟩
 simp_all! []
 refine ⟨.of sm.den sb.den,?_⟩
 simp_all! [jX]
 refine ⟨.of sp.num bu,.of bw sp.den,.of sp.den bu,Int.mul_pos (dB _) (Int.mul_pos (dB _) (dB _)),.mul sp.den bu,?_⟩
 rw [O9]
 exact q
abbrev xG:Stmt:=(top 57)
abbrev mw:List Str:=["_law_clock","_law_number","_law_bottom","_law_mode"]
theorem oJ:L2.av ["_law_clock","_law_number","_law_bottom","_law_mode","_law_under","_law_steps"] ["_law_clock","_law_number","_law_bottom","_law_mode"] (L2.aj xG):=dC
def C3:cu:=λxs J Q _=>∃(c:Rat) (n b m:Int),xs=[fr c,.int n,.int b,.int m]∧0≤n∧0≤b∧0≤m∧m < 4∧n < 2 ^ 60∧Sz 900 c∧∀q,Later c q→Q (fr q) J
theorem Ei {f:Addr} {fd:FuncData} (F:cg K "_law_later" "_law_later" xG f fd) (Z:bN mg) (nA:bx P w K mg base 1 "_law_low" dU jX):aO P w K mg base (cK P w) 2 f fd mw (dg K C3):=by
 simp_arith [oJ,(ai (aR (aB (bT hr.aL) (aG eh (rv 1) ag) ag) (ak (ay (rv 0))) aF)
   (ai (aE (i:=4) oJ.nd (aG cX ag (aG eh (rv 2) (aq ar (j8 (sZ [.int 4,.int 6,.int 60,.int 60] rfl [.int 4,.int 6,.int 60,.int 60] rfl)) (rv 3)))))
   (ai (aE (i:=5) oJ.nd (aG cX ag (aG eh (aG qT (rv 1) ag) (aG bP ag (rv 4)))))
   (fi (aR (aB (bT hr.aL) (rv 3) ag) (ak (aE (i:=5) oJ.nd (aG cX ag (aG eh (aG qT (rv 1) ag) (aG bP ag (rv 4)))))) aF)
   (ak (ay (aQ nA B hr (af (aG cX (aG qT (aG bP (aq ar (rv 0) ag) (rv 4)) (aq ar (rv 0) ag)) (rv 5)) (af (rv 4) ah)))))))))]
 ·obtain ⟨c,n,b,m,rfl,_⟩:=h;rfl
 obtain ⟨c,n,b,m,rfl,n0,b0,m0,m1,n2,sc,q⟩:=h
 refine hX ?_
 simp_all! []
 refine ⟨by decide,?_⟩
 split
 ·simp_all! []
  exact q c (.inl rfl)
 obtain ⟨x,hx,x0,x1⟩:∃x:Int,dF [PV.int 4,PV.int 6,PV.int 60,PV.int 60] m=some (.int x)∧1≤x∧x≤60:=by
  rcases (by omega:m=0∨m=1∨m=2∨m=3) with e | e | e | e <;> subst e
  ·exact ⟨4,d_ _ _,by decide,by decide⟩
  ·exact ⟨6,fZ _ _ _,by decide,by decide⟩
  ·exact ⟨60,ma _ _ _ _,by decide,by decide⟩
  ·exact ⟨60,Fs _ _ _ _ _,by decide,by decide⟩
 have u0:0≤b % x:=Int.emod_nonneg _ (by omega)
 have u1:b % x < x:=Int.emod_lt_of_pos _ (by omega)
 have bu:Bd 64 (1 + b % x):=.small (by omega) (by omega)
 have b8:Bd 9000 8:=(Bd.small (x:=8) (by decide) (by decide)).mono (by decide)
 simp_all! [hx]
 refine ⟨by omega,?_⟩
 simp_all! []
 refine ⟨⟨by decide,b8⟩,.of (.small (x:=2) (by decide) (by decide)) bu,by omega,?_⟩
 generalize hu:1 + b % x=u at *
 have k0:0≤n.fdiv 8:=by rw [Int.fdiv_eq_ediv_of_nonneg _ (by decide)];exact Int.ediv_nonneg n0 (by decide)
 obtain ⟨M,hM⟩:∃M:Sr→Hq→Prop,∀τ' J',M τ' J'↔∃s:Int,τ'=[some (fr c),some (.int n),some (.int b),some (.int m),some (.int u),some (.int s)]∧J'=J∧1≤s∧s≤500 * u:=⟨_,λ_ _=>Iff.rfl⟩
 simp_all! []
 refine ⟨M,?_,?_⟩
 ·simp_arith! [bE]
  have h2:0≤n.fdiv 8 % (2 * u):=Int.emod_nonneg _ (by omega)
  have h3:n.fdiv 8 % (2 * u) < 2 * u:=Int.emod_lt_of_pos _ (by omega)
  have h4:0≤n.fdiv 8 % (500 * u):=Int.emod_nonneg _ (by omega)
  have h5:n.fdiv 8 % (500 * u) < 500 * u:=Int.emod_lt_of_pos _ (by omega)
  split
  ·refine ⟨⟨by decide,b8⟩,.of (.small (x:=500) (by decide) (by decide)) bu,by omega,(hM _ _).mpr ⟨_,rfl,rfl,by omega,by omega⟩⟩
  ·exact (hM _ _).mpr ⟨_,rfl,rfl,by omega,by omega⟩
 ·intro τ' J' hm
  obtain ⟨s,rfl,rfl,s0,s1⟩:=(hM _ _).mp hm
  clear hm hM M
  simp_arith! [bE,jX]
  refine ⟨.of sc.num bu,⟨fu c,sc.den.mono (by decide)⟩,by omega,bu.mono (by decide),?_⟩
  obtain ⟨u',rfl⟩:=Int.eq_ofNat_of_zero_le (show 0≤u by omega)
  obtain ⟨s',rfl⟩:=Int.eq_ofNat_of_zero_le (show 0≤s by omega)
  exact q _ (.inr ⟨u',s',by omega,by omega,by omega,by omega,rfl⟩)
theorem vF {α:Type} {V:α→PV} {lt:α→α→Bool} {ys:List α} {b:α} {r:Addr} {sp:cu} {E2:Addr→Hq→Prop} {D:En} {τ:Sr} {J:Hq} {iO iA iR:Nat}
  (hO:τ[iO]?=some (some (.ref r))) (hR:τ[iR]?=some (some (V b))) (hA:τ[iA]?=some (some (.int 0))) (nO:iA≠iO) (nR:iA≠iR) (hJ:J r=some (.lst (ys.map V)))
  (hb:∀y∈ys,∀R:PV→Hq→Prop,R (.bl (lt y b)) J→sp [V y,V b] J R E2)
  (high:∀{i j:Nat} {x y:α},ys[i]?=some x→ys[j]?=some y→i≤j→lt x b=false→lt y b=false)
  (fin:∀j:Nat,j≤ys.length→(∀(k:Nat) y,k < j→ys[k]?=some y→lt y b=true)→(∀(k:Nat) y,j≤k→ys[k]?=some y→lt y b=false)→D.nx (τ.set iA (some (.int j))) J) :
  He (Km (rB (yh (G8 λi j=>.bl (decide (i < j))) (jL iA) (QD N1 (kZ (jL iO) uX)))) (rB (zu sp E2 (kZ (yh LU (jL iO) (jL iA)) (kZ (jL iR) uX))))) (uV (yh (G8 λi j=>.int (i + j)) (jL iA) (rC (.int 1))) (Ji iA)) D τ J:=by
 have hl:iA < τ.length:=(U1.mp hA).1
 have sO:∀x,(τ.set iA x)[iO]?=some (some (.ref r)):=λx=>by rw [VC nO];exact hO
 have sR:∀x,(τ.set iA x)[iR]?=some (some (V b)):=λx=>by rw [VC nR];exact hR
 have sA:∀x,(τ.set iA x)[iA]?=some x:=λx=>Vn hl
 refine ⟨λm τ' J'=>∃j:Nat,j≤ys.length∧m=ys.length - j∧τ'=τ.set iA (some (.int j))∧J'=J∧∀(k:Nat) y,k < j→ys[k]?=some y→lt y b=true,⟨ys.length,0,Vr _,rfl,?_,rfl,λk y hk=>by omega⟩,?_⟩
 ·have h2:=List.set_getElem_self hl
  rw [(U1.mp hA).2] at h2
  exact h2.symm
 rintro m τ' J' ⟨j,hj,rfl,rfl,rfl,hlow⟩
 simp_all! [sO,sA,hJ,UZ]
 by_cases c0:j < ys.length
 ·rw [if_pos (by omega)]
  obtain ⟨y,hy⟩:∃y,ys[j]?=some y:=⟨_,U2 c0⟩
  have ha:dF (ys.map V) (j:Int)=some (V y):=bA (by rw [U8,hy];rfl)
  simp_all! [sO,sA,sR,hJ,ha]
  refine hb y (U3 hy) _ ?_
  refine mU rfl ?_
  cases hc:lt y b with
  | true =>
   rw [if_pos rfl]
   obtain ⟨N,hN⟩:∃N:Sr→Hq→Prop,∀τ' J'',N τ' J''↔∃i:Nat,i≤ys.length∧ys.length - (j + 1)=ys.length - i∧τ'=τ.set iA (some (.int i))∧J''=J'∧∀(k:Nat) y,k < i→ys[k]?=some y→lt y b=true:=⟨_,λ_ _=>Iff.rfl⟩
   refine ⟨N,λτ'' J'' h=>⟨ys.length - (j + 1),by omega,(hN _ _).mp h⟩,?_⟩
   simp_arith! [bE,sA]
   refine (hN _ _).mpr ⟨j + 1,by omega,rfl,by rw [List.set_set,Int.natCast_succ],rfl,λk z hk e=>?_⟩
   rcases Wm (Nat.lt_succ_iff.mp hk) with h | h
   ·exact hlow k z h e
   ·subst h;rw [hy] at e;cases e;exact hc
  | false =>
   rw [if_neg (by decide)]
   exact fin j hj hlow λk z hk e=>high hy e hk hc
 ·rw [if_neg (by omega)]
  exact fin j hj hlow λk z hk e=>by rw [Vz (by omega)] at e;cases e
section
variable {X:Cx}
theorem nu.or {f:Value→Value→Sem Value} {q q':nG} (h:nu X f q) (h':nu X f q'):nu X f (λx y J Q=>q x y J Q∨q' x y J Q):=by
 obtain ⟨r,a,lr⟩:=h
 obtain ⟨r',a',lr'⟩:=h'
 refine ⟨λx y H Q=>r x y H Q∨r' x y H Q,λpins s σ H x y v u Q I rx ry h=>?_,λJ H x y v w Q2 Q rx ry rr h k=>?_⟩
 ·rcases h with h | h
  ·exact a pins s σ H x y v u Q I rx ry h
  ·exact a' pins s σ H x y v u Q I rx ry h
 ·rcases h with h | h
  ·exact .inl (lr J H x y v w Q2 Q rx ry rr h k)
  ·exact .inr (lr' J H x y v w Q2 Q rx ry rr h k)
end
def Ky.V (k:Ky):PV:=.tup [fr k.p,.int k.v,.str k.n]
theorem Pq (J:Hq) (k:Ky):fP J k.V (.int 0)=some (fr k.p):=d_ _ _
theorem Pr (J:Hq) (k:Ky):fP J k.V (.int 1)=some (.int k.v):=fZ _ _ _
theorem Lk (J:Hq) (k:Ky):fP J k.V (.int 2)=some (.str k.n):=ma _ _ _ _
theorem Rr (p:Rat) (v:Int) (n:Str):PV.tup [fr p,.int v,.str n]=(Ky.mk p v n).V:=rfl
theorem o9 (p q:Rat):(p.num * (q.den:Int) < q.num * (p.den:Int))=(p < q):=propext (Rat.lt_iff p q).symm
abbrev tw:Stmt:=(top 62)
abbrev gM:List Str:=["_law_one","_law_two"]
theorem pV:L2.av ["_law_one","_law_two","_law_here","_law_there"] ["_law_one","_law_two"] (L2.aj tw):=dC
def tN:cu:=λxs J Q _=>(∃a b:Ky,xs=[a.V,b.V]∧Sz 9000 a.p∧Sz 9000 b.p∧Q (.bl (a.lt b)) J)∨(∃a b:aJ,xs=[a.v,b.v]∧Sz 9000 a.m∧Sz 9000 b.m∧Q (.bl (a.lt b)) J)
theorem Bb {f:Addr} {fd:FuncData} (F:cg K "_law_before" "_law_before" tw f fd) (Z:bN mg):aO P w K mg base (cK P w) 1 f fd gM (dg K tN):=by
 simp_arith [pV,(ai (aE (i:=2) pV.nd (aG bP (aq ar (aq ar (rv 0) ag) ag) (aq ar (aq ar (rv 1) ag) ag)))
   (ai (aE (i:=3) pV.nd (aG bP (aq ar (aq ar (rv 1) ag) ag) (aq ar (aq ar (rv 0) ag) ag)))
   (ai (aR (aB (h_ hr.aL) (rv 2) (rv 3)) (ak (ay (eQ gL (rv 2) (rv 3)))) aF)
   (ai (aR (aB (h_ hr.aL) (aq ar (rv 0) ag) (aq ar (rv 1) ag)) (ak (ay (eQ (nu.or gL Bj) (aq ar (rv 0) ag) (aq ar (rv 1) ag)))) aF)
   (ak (ay (eQ Bj (aq ar (rv 0) ag) (aq ar (rv 1) ag))))))))]
 ·rcases h with ⟨a,b,rfl,_⟩ | ⟨a,b,rfl,_⟩ <;> rfl
 refine hX ?_
 rcases h with ⟨a,b,rfl,sa,sb,q⟩ | ⟨a,b,rfl,sa,sb,q⟩
 ·simp_arith! [bE,Pq,Pr,Lk]
  refine ⟨.of sa.num sb.den,.of sb.num sa.den,?_⟩
  unfold Ky.lt at q
  by_cases e:a.p=b.p
  ·rw [if_pos e] at q
   rw [if_pos ((lN _ _).mpr e)]
   by_cases k:a.v=b.v
   ·rw [if_pos k] at q ⊢;exact q
   ·rw [if_neg k] at q ⊢;exact .inl q
  ·rw [if_neg e] at q
   rw [if_neg (λz=>e ((lN _ _).mp z))]
   simp only [o9]
   exact q
 ·simp_arith! [bE,F3,F4,F7]
  refine ⟨.of sa.num sb.den,.of sb.num sa.den,?_⟩
  unfold aJ.lt at q
  by_cases e:a.m=b.m
  ·rw [if_pos e] at q
   rw [if_pos ((lN _ _).mpr e)]
   by_cases k:a.h=b.h
   ·rw [if_pos k] at q ⊢;exact q
   ·rw [if_neg k] at q ⊢;exact .inr q
  ·rw [if_neg e] at q
   rw [if_neg (λz=>e ((lN _ _).mp z))]
   simp only [o9]
   exact q
abbrev rb:Stmt:=(top 63)
abbrev iz:List Str:=["_law_legs","_law_moment"]
theorem jj:L2.av ["_law_legs","_law_moment","_law_out","_law_name","_law_row","_law_at_here"] ["_law_legs","_law_moment"] (L2.aj rb):=dC
def tT:cu:=λxs J Q _=>∃(D:Addr) (fs:List (Str × aZ)) (ep:Nat) (t:Rat),xs=[.ref D,fr t]∧J D=some (.dct (bC fs) ep)∧(fs.map (·.1)).Nodup∧fs.length≤100∧Sz 900 t∧(∀x∈fs,oX 900 x.2)∧Q (.fl ((cO t fs).map .str)) J
theorem Ej {f:Addr} {fd:FuncData} (F:cg K "_law_order" "_law_order" rb f fd) (Z:bN mg) (qv:bx P w K mg base 2 "_law_at" fz j9) (rG:bx P w K mg base 1 "_law_before" gM tN):aO P w K mg base (cK P w) 3 f fd iz (dg K tT):=by
 simp_arith [jj,(ai (aE (i:=2) jj.nd (mZ ah))
   (ai (eu b_ rfl (q_ (rv 0)) (bK (i:=3) jj.nd) (ai (aE (i:=4) jj.nd (cE (af (aQ qv B hr (af (aq cR (rv 0) (rv 3)) (af (rv 1) ah))) (af (aq ar (aq cR (rv 0) (rv 3)) ag) (af (rv 3) ah)))))
   (ai (aE (i:=5) jj.nd ag)
   (ai (k7 b_ (cP (dk (aB gL (rv 5) (aI bV rfl Z.len boot_len (af (rv 2) ah))) (cF (bX (aQ rG B hr (af (aq ar (rv 2) (rv 5)) (af (rv 4) ah))))))) (ak (aE (i:=5) jj.nd (aG cX (rv 5) ag))))
   (ak (aX (mC PySem.F.plainAttrs_list PySem.F.slot_list_insert PySem.F.type_list_insert lR (rv 2) (af (rv 5) (af (rv 4) ah)))))))))
   (ak (ay (Ma (L2.aj rb) ["_law_legs","_law_moment","_law_out","_law_name","_law_row","_law_at_here"] [] rfl rfl rfl (fj (rv 2)) (λ_ _ _ _ _ _=>(aq ar (rv 0) ag))))))),F]
 ·obtain ⟨D,fs,ep,t,rfl,_⟩:=h;rfl
 obtain ⟨D,fs,ep,t,rfl,hD,hnd,hlen,st,sl,q⟩:=h
 refine hX ?_
 simp_all! []
 intro r hr'
 have nDr:D≠r:=by intro e;subst e;rw [hD] at hr';cases hr'
 simp_all! [aw nDr,hD]
 have hkv:(bC fs).map (λkv=>PV.str kv.1)=fs.map λx=>PV.str x.1:=by unfold bC;rw [U'];rfl
 rw [hkv]
 obtain ⟨Inv,hInv⟩:∃Inv:Nat→Sr→Hq→Prop,∀i τ J',Inv i τ J'↔∃(u3 u4 u5:Option PV),τ=[some (.ref D),some (fr t),some (.ref r),u3,u4,u5]∧J'=put J r (.lst ((cI ((fs.take i).map (key t))).map Ky.V)):=⟨_,λ_ _ _=>Iff.rfl⟩
 refine gA Inv ((hInv _ _ _).mpr ⟨_,_,_,rfl,rfl⟩) (λi τ J' h=>?_) ?_ ?_
 ·obtain ⟨_,_,_,_,rfl⟩:=(hInv _ _ _).mp h
  rw [aw nDr];exact hD
 ·intro i x τ J' hx hv
  obtain ⟨u3,u4,u5,rfl,rfl⟩:=(hInv _ _ _).mp hv
  clear hv
  have hi:i < fs.length:=by have:=(U1.mp hx).1;simpa using this
  rw [U8,U2 hi] at hx
  cases hx
  rcases hfi:fs[i] with ⟨n,l⟩
  have hmem:(n,l)∈fs:=by rw [← hfi];exact VG hi
  have et:fs.take (i + 1)=fs.take i ++ [(n,l)]:=by rw [Vv,U2 hi,hfi];rfl
  have hndt:((fs.take i).map (·.1)).Nodup:=by rw [V2];exact hnd.sublist (V9 _ _)
  obtain ⟨ys,hys⟩:∃ys,cI ((fs.take i).map (key t))=ys:=⟨_,rfl⟩
  have srt:o7 Ky.lt ys:=by rw [← hys];exact cY (by rw [dz];exact hndt)
  have hyl:ys.length=i:=by rw [← hys,i7,UZ,Vp];omega
  have hym:∀y∈ys,Sz 9000 y.p:=λy hy=>by
   rw [← hys,bD,U0] at hy
   obtain ⟨x',hx',rfl⟩:=hy
   exact (kr (sl x' (VI hx')) st).mono (by decide)
  have en:cI ((fs.take (i + 1)).map (key t))=qz Ky.lt (key t (n,l)) ys:=by rw [et,U7,U6,VV,i8,hys]
  rw [hys]
  have hvn:lH (bC fs) n=some l.V:=fY (f:=aZ.V) hnd hmem
  have sll:=sl _ hmem
  simp_all! [aw nDr,hD,hvn]
  refine ⟨l,t,rfl,sll.m,sll.p,st,sll.v,?_⟩
  simp_all! [aw nDr,hD,hvn,md,Rr]
  have ek:(Ky.mk (l.at t) l.v n)=key t (n,l):=rfl
  rw [ek]
  have skn:Sz 9000 (key t (n,l)).p:=(kr sll st).mono (by decide)
  generalize key t (n,l)=kn at en skn ⊢
  refine vF (V:=Ky.V) (lt:=Ky.lt) (ys:=ys) (b:=kn) (iO:=2) (iA:=5) (iR:=4) rfl rfl rfl (by decide) (by decide) ax (λy hy R hR=>.inl ⟨y,kn,rfl,hym y hy,skn,hR⟩) (λhx hy h k=>EH (lt:=Ky.lt) Ky.tr srt hx hy h k) λj hj hlow hhigh=>?_
  simp_all! [ax]
  refine ⟨_,j,rfl,rfl,by rw [UZ];exact hj,bp (by rw [UZ];omega),by omega,?_⟩
  rw [fh]
  refine (hInv _ _ _).mpr ⟨_,_,_,rfl,?_⟩
  rw [en,← Cp hj hlow hhigh,U7,U6,V2,Wy]
 ·intro τ J' hv
  obtain ⟨u3,u4,u5,rfl,rfl⟩:=(hInv _ _ _).mp hv
  rw [UZ,Vu]
  simp_all! [uW,ax]
  refine ⟨λ_=>true,(λx=>match x with | .tup [_,_,n]=>n | _=>.non),⟨bp (by rw [UZ,i7,UZ];omega),λJ2 hs=>⟨hs _ _ ax,λx hx=>⟨⟨rfl,rfl⟩,λ_=>?_⟩⟩⟩,?_⟩
  ·obtain ⟨y,hy,rfl⟩:=U0.mp hx
   simp_arith! [bE,Lk]
   rfl
  ·rw [VL.mpr λ_ _=>rfl,U']
   have e:(cO t fs).map PV.str=(cI (fs.map (key t))).map ((λx=>match x with | .tup [_,_,n]=>n | _=>.non) ∘ Ky.V):=by unfold cO;rw [U'];rfl
   rw [e] at q
   exact Fg.less (i4 hr') q
abbrev xM:Stmt:=(top 51)
abbrev mz:List Str:=["_law_found","_law_due"]
theorem zJ:L2.av ["_law_found","_law_due","_law_one"] ["_law_found","_law_due"] (L2.aj xM):=dC
def De:cu:=λxs J Q _=>∃ss:List Str,xs=[.fl (ss.map .str),.fl (ss.map .str)]∧ss.length≤900∧Q (.bl true) J
theorem G5 (ss:List Str):jg (ss.map PV.str)=true:=by
 induction ss with
 | nil=>rfl
 | cons x ss ih=>rw [U6,pM,xt,ih];rfl
theorem FA (ss:List Str):eg (f6 (ss.map PV.str))≤1:=by
 induction ss with
 | nil=>simp [f6,eg]
 | cons x ss ih=>simp only [U6,f6,fS,eg,dep];omega
theorem B6 (ss:List Str):Ig (.fl (ss.map .str)):=⟨by unfold mB;exact G5 ss,by
 have:=FA ss
 simp only [fS,dep];omega⟩
theorem Em {f:Addr} {fd:FuncData} (F:cg K "_law_words" "_law_words" xM f fd) (Z:bN mg):aO P w K mg base (cK P w) 1 f fd mz (dg K De):=by
 simp_arith [zJ,(ai (aR (cP (k8 (dj (bX (aI jv rfl Z.isinstance boot_isinstance (af (rv 0) (af (oC rfl Z.list boot_list) ah))))) (gQ (aB (h_ hr.aL) (aI bV rfl Z.len boot_len (af (rv 0) ah)) (aI bV rfl Z.len boot_len (af (rv 1) ah)))))) (ak (ay ed)) aF)
   (ai (eu b_ rfl (fj (rv 0)) (bK (i:=2) zJ.nd) (ak (aR (dj (bX (aI jv rfl Z.isinstance boot_isinstance (af (rv 2) (af (oC rfl Z.str boot_str) ah))))) (ak (ay ed)) aF)))
   (ak (ay (eQ (bT hr.aL) (rv 0) (rv 1))))))]
 ·obtain ⟨ss,rfl,_⟩:=h;rfl
 obtain ⟨ss,rfl,hl,q⟩:=h
 refine hX ?_
 simp_all! [UZ]
 obtain ⟨Inv,hInv⟩:∃Inv:Nat→Sr→Hq→Prop,∀i τ J',Inv i τ J'↔∃u:Option PV,τ=[some (.fl (ss.map .str)),some (.fl (ss.map .str)),u]∧J'=J:=⟨_,λ_ _ _=>Iff.rfl⟩
 refine gA Inv ((hInv _ _ _).mpr ⟨_,rfl,rfl⟩) (λ_ _ _ _=>trivial) ?_ ?_
 ·intro i x τ J' hx hv
  obtain ⟨u,rfl,rfl⟩:=(hInv _ _ _).mp hv
  obtain ⟨y,_,rfl⟩:=U0.mp (U3 hx)
  simp_all! []
  exact (hInv _ _ _).mpr ⟨_,rfl,rfl⟩
 ·intro τ J' hv
  obtain ⟨u,rfl,rfl⟩:=(hInv _ _ _).mp hv
  simp_all! []
  refine ⟨B6 ss,(B6 ss).1,?_⟩
  rw [eq_self];exact q
abbrev pS:Stmt:=(top 52)
abbrev j6:List Str:=["_law_found","_law_due"]
theorem BJ:L2.av ["_law_found","_law_due"] ["_law_found","_law_due"] (L2.aj pS):=dC
def p5:cu:=λxs J Q _=>∃a:aJ,xs=[a.v,a.v]∧Q (.bl true) J
theorem y_ {f:Addr} {fd:FuncData} (F:cg K "_law_passrow" "_law_passrow" pS f fd) (Z:bN mg) (Ah:bx P w K mg base 2 "_law_part" jK rj):aO P w K mg base (cK P w) 3 f fd j6 (dg K p5):=by
 simp_arith [BJ,(ai (aR (cP (k8 (dj (bX (aI jv rfl Z.isinstance boot_isinstance (af (rv 0) (af (oC rfl Z.tuple boot_tuple) ah))))) (gQ (aB (h_ hr.aL) (aI bV rfl Z.len boot_len (af (rv 0) ah)) ag)))) (ak (ay ed)) aF)
   (ai (aR (cP (k8 (dj (bX (aI jv rfl Z.isinstance boot_isinstance (af (aq ar (rv 0) ag) (af (oC rfl Z.str boot_str) ah))))) (gQ (dj (bX (aI jv rfl Z.isinstance boot_isinstance (af (aq ar (rv 0) ag) (af (oC rfl Z.str boot_str) ah)))))))) (ak (ay ed)) aF)
   (ak (ay (Bz (aQ Ah B hr (af (aq ar (rv 0) ag) (af (aq ar (rv 1) ag) ah))) (xA (eQ (bT hr.aL) (rv 0) (rv 1))))))))]
 ·obtain ⟨a,rfl,_⟩:=h;rfl
 obtain ⟨a,rfl,q⟩:=h
 refine hX ?_
 simp_arith! [bE,rj,F3,F4,F7,Tz,Pz,Sj,LM,Sl]
 exact q
abbrev m9:Stmt:=(top 53)
abbrev je:List Str:=["_law_found","_law_due"]
theorem qr:L2.av ["_law_found","_law_due","_law_k"] ["_law_found","_law_due"] (L2.aj m9):=dC
def tU:cu:=λxs J Q _=>∃(rows:List aJ) (x:PV),xs=[x,.fl (rows.map aJ.v)]∧me J x=some (rows.map aJ.v)∧rows.length≤900∧Q (.bl true) J
theorem xa {f:Addr} {fd:FuncData} (F:cg K "_law_passrows" "_law_passrows" m9 f fd) (Z:bN mg) (Dw:bx P w K mg base 3 "_law_passrow" j6 p5):aO P w K mg base (cK P w) 4 f fd je (dg K tU):=by
 simp_arith [qr,(ai (aR (cP (k8 (dj (bX (aI jv rfl Z.isinstance boot_isinstance (af (rv 0) (af (oC rfl Z.list boot_list) ah))))) (gQ (aB (h_ hr.aL) (aI bV rfl Z.len boot_len (af (rv 0) ah)) (aI bV rfl Z.len boot_len (af (rv 1) ah)))))) (ak (ay ed)) aF)
   (ai (eu b_ rfl (gm rfl Z.range (af (aI bV rfl Z.len boot_len (af (rv 1) ah)) ah)) (bK (i:=2) qr.nd) (ak (aR (dj (bX (aQ Dw B hr (af (aq ar (rv 0) (rv 2)) (af (aq ar (rv 1) (rv 2)) ah))))) (ak (ay ed)) aF)))
   (ak (ay ed))))]
 ·obtain ⟨rows,x,rfl,_⟩:=h;rfl
 obtain ⟨rows,x,rfl,hx,hl,q⟩:=h
 refine hX ?_
 simp_arith! [bE,UZ,P0 hx,Gk hx]
 refine ⟨by omega,by omega,nN (λi τ J'=>∃u:Option PV,τ=[some x,some (.fl (rows.map aJ.v)),u]∧J'=J) ⟨none,rfl,rfl⟩ ?_ ?_⟩
 ·rintro i τ J' hi ⟨u,rfl,rfl⟩
  have hi:i < rows.length:=by omega
  have ha:dF (rows.map aJ.v) (0 + (i:Int))=some (rows[i].v):=by rw [Int.zero_add];exact Ft (U2 hi)
  simp_arith! [bE,Lv hx,ha,p5]
  exact ⟨_,rfl,rfl⟩
 ·rintro τ J' ⟨u,rfl,rfl⟩
  exact q
theorem rE {t p q:Rat} {v:Int} (hv:0 < v):Rat.divInt (t.num * ((p.den:Int) * (q.den:Int) * v) + (q.num * (p.den:Int) - p.num * (q.den:Int)) * (t.den:Int)) ((t.den:Int) * ((p.den:Int) * (q.den:Int) * v))=t + (q - p) / (v:Rat):=by
 have a:=cast_eq t
 have b:=cast_eq p
 have c:=cast_eq q
 have d:=eD t
 have e:=eD p
 have f:=eD q
 have k:(v:Rat)≠0:=de (by omega)
 rw [Rat.divInt_eq_div]
 simp only [Rat.intCast_mul,Rat.intCast_add,Rat.intCast_sub,a,b,c]
 generalize (((t.den:Int)):Rat)=x at d ⊢
 generalize (((p.den:Int)):Rat)=y at e ⊢
 generalize (((q.den:Int)):Rat)=z at f ⊢
 generalize (v:Rat)=w at k ⊢
 have h1:y * z≠0:=λh=>by rcases Rat.mul_eq_zero.mp h with h | h <;> contradiction
 have h2:y * z * w≠0:=λh=>by rcases Rat.mul_eq_zero.mp h with h | h <;> contradiction
 have h3:x * (y * z * w)≠0:=λh=>by rcases Rat.mul_eq_zero.mp h with h | h <;> contradiction
 grind
theorem oX.vn {l:aZ} (h:oX 240 l) {t:Rat} (st:Sz 240 t):Sz 790 (l.at t):=by
 have s1:Sz 481 (t - l.m):=st.sub h.m
 have s2:Sz 545 ((t - l.m) * (l.v:Rat)):=s1.mul h.v
 exact h.p.add s2
theorem Ds {t p q:Rat} {v:Int} (st:Sz 240 t) (sp:Sz 790 p) (sq:Sz 790 q) (bv:Bd 70 v) (hv:0 < v):Bd 1650 ((p.den:Int) * (q.den:Int) * v)∧Bd 1590 (q.num * (p.den:Int) - p.num * (q.den:Int))∧Bd 1900 ((t.den:Int) * ((p.den:Int) * (q.den:Int) * v))∧Sz 9000 (t + (q - p) / (v:Rat)):=by
 have h1:Bd 1650 ((p.den:Int) * (q.den:Int) * v):=.mul (.mul (k:=1580) sp.den sq.den) bv
 have h2:Bd 1590 (q.num * (p.den:Int) - p.num * (q.den:Int)):=.sub (Bd.mul (k:=1580) sq.num sp.den) (Bd.mul (k:=1580) sp.num sq.den)
 have h3:Bd 1900 ((t.den:Int) * ((p.den:Int) * (q.den:Int) * v)):=.mul st.den h1
 refine ⟨h1,h2,h3,?_⟩
 rw [← rE hv]
 have hd:0 < (t.den:Int) * ((p.den:Int) * (q.den:Int) * v):=Int.mul_pos (dB _) (Int.mul_pos (Int.mul_pos (dB _) (dB _)) hv)
 exact (Sz.div (n:=1901) (.add (Bd.mul (k:=1900) st.num h1) (Bd.mul (k:=1900) h2 st.den)) (h3.mono (by decide)) (by omega)).mono (by decide)
theorem rA (p q:Rat):(0 < q.num * (p.den:Int) - p.num * (q.den:Int))=(p < q):=by
 rw [← o9 p q];exact propext (by omega)
theorem cm.Ph {L:Ln} (ok:cm L):L.fs.length≤12:=by
 have:=ok.rl
 rw [ok.row,sL] at this;exact this
theorem AH (t:Rat) (ks:List Ky) (h:(ks.map Ky.n).Nodup):(fN t ks).length≤ks.length:=by
 rw [← t8 h]
 have h1:=pf t cT ((cI ks).zip (cI ks).tail)
 rw [Wj,i7] at h1
 omega
def Lb (t:Rat) (fs gs:List (Str × aZ)):Prop:=∀x,x∈fs.map (key t)↔x∈gs.map (key t)
abbrev pT:Stmt:=(top 66)
abbrev j7:List Str:=["_law_legs","_law_clock"]
theorem b7:L2.av ["_law_legs","_law_clock","_law_row","_law_out","_law_k","_law_here","_law_there","_law_pace","_law_top","_law_under","_law_when","_law_bell","_law_at_here"] ["_law_legs","_law_clock"] (L2.aj pT):=dC
def HD:cu:=λxs J Q _=>∃(D:Addr) (fs:List (Str × aZ)) (ep:Nat) (t:Rat),xs=[.ref D,fr t]∧J D=some (.dct (bC fs) ep)∧(fs.map (·.1)).Nodup∧fs.length≤20∧Sz 240 t∧(∀x∈fs,oX 240 x.2)∧Q (.fl ((fN t (fs.map (key t))).map aJ.v)) J
theorem za {f:Addr} {fd:FuncData} (F:cg K "_law_ringdue" "_law_ringdue" pT f fd) (Z:bN mg) (v_:bx P w K mg base 3 "_law_order" iz tT) (qv:bx P w K mg base 2 "_law_at" fz j9) (nA:bx P w K mg base 1 "_law_low" dU jX) (rG:bx P w K mg base 1 "_law_before" gM tN):aO P w K mg base (cK P w) 4 f fd j7 (dg K HD):=by
 simp_arith [b7,(ai (aE (i:=2) b7.nd (aQ v_ B hr (af (rv 0) (af (rv 1) ah))))
   (ai (aE (i:=3) b7.nd (mZ ah))
   (ai (eu b_ rfl (gm rfl Z.range (af (aG dD (aI bV rfl Z.len boot_len (af (rv 2) ah)) ag) ah)) (bK (i:=4) b7.nd) (ai (aE (i:=5) b7.nd (aQ qv B hr (af (aq cR (rv 0) (aq ar (rv 2) (rv 4))) (af (rv 1) ah))))
   (ai (aE (i:=6) b7.nd (aQ qv B hr (af (aq cR (rv 0) (aq ar (rv 2) (aG cX (rv 4) ag))) (af (rv 1) ah))))
   (ai (aE (i:=7) b7.nd (aG dD (aq ar (aq cR (rv 0) (aq ar (rv 2) (rv 4))) ag) (aq ar (aq cR (rv 0) (aq ar (rv 2) (aG cX (rv 4) ag))) ag)))
   (ak (aR (aB j3 (rv 7) ag) (ai (aE (i:=8) b7.nd (aG dD (aG bP (aq ar (rv 6) ag) (aq ar (rv 5) ag)) (aG bP (aq ar (rv 5) ag) (aq ar (rv 6) ag))))
   (ai (aE (i:=9) b7.nd (aG bP (aG bP (aq ar (rv 5) ag) (aq ar (rv 6) ag)) (rv 7)))
   (ai (aE (i:=10) b7.nd (aQ nA B hr (af (aG cX (aG bP (aq ar (rv 1) ag) (rv 9)) (aG bP (rv 8) (aq ar (rv 1) ag))) (af (aG bP (aq ar (rv 1) ag) (rv 9)) ah))))
   (ai (aE (i:=11) b7.nd (cE (af (rv 10) (af (aq ar (rv 2) (rv 4)) (af (aq ar (rv 2) (aG cX (rv 4) ag)) ah)))))
   (ai (aE (i:=12) b7.nd ag)
   (ai (k7 b_ (cP (dk (aB gL (rv 12) (aI bV rfl Z.len boot_len (af (rv 3) ah))) (cF (bX (aQ rG B hr (af (aq ar (rv 3) (rv 12)) (af (rv 11) ah))))))) (ak (aE (i:=12) b7.nd (aG cX (rv 12) ag))))
   (ak (aX (mC PySem.F.plainAttrs_list PySem.F.slot_list_insert PySem.F.type_list_insert lR (rv 3) (af (rv 12) (af (rv 11) ah))))))))))) aF))))))
   (ak (ay (rv 3)))))),F]
 ·obtain ⟨D,fs,ep,t,rfl,_⟩:=h;rfl
 obtain ⟨D,fs,ep,t,rfl,hD,hnd,hlen,st,sl,q⟩:=h
 refine hX ?_
 simp_all! []
 refine ⟨D,fs,ep,t,rfl,hD,hnd,by omega,st.mono (by decide),λx hx=>(sl x hx).mono (by decide),?_⟩
 simp_all! []
 intro r hr'
 have nDr:D≠r:=by intro e;subst e;rw [hD] at hr';cases hr'
 obtain ⟨ks,hks⟩:∃ks,cI (fs.map (key t))=ks:=⟨_,rfl⟩
 have hrow:(cO t fs).map PV.str=ks.map λk=>PV.str k.n:=by unfold cO;rw [hks,U'];rfl
 have hkn0:((fs.map (key t)).map Ky.n).Nodup:=by rw [dz];exact hnd
 have hks':o7 Ky.lt ks:=by rw [← hks];exact cY hkn0
 have hkn:(ks.map Ky.n).Nodup:=by rw [← hks];exact l3 (cY hkn0) (λx hx y hy e=>i6 hkn0 x ((bD _ _).mp hx) y ((bD _ _).mp hy) e)
 have hkd:ks.Nodup:=List.Pairwise.of_map Ky.n (λa b h e=>h (by rw [e])) hkn
 have hkl:ks.length=fs.length:=by rw [← hks,i7,UZ]
 have hkf:∀a∈ks,∃l,(a.n,l)∈fs∧a=key t (a.n,l):=λa ha=>by
  rw [← hks,bD] at ha
  obtain ⟨x,hx,rfl⟩:=U0.mp ha
  exact ⟨x.2,hx,rfl⟩
 have hmz:∀a∈ks,∀b∈ks,b.v < a.v→Sz 9000 (fc t a b):=λa ha b hb h=>by
  obtain ⟨l,hl,ea⟩:=hkf a ha
  obtain ⟨l',hl',eb⟩:=hkf b hb
  have hv:l'.v < l.v:=by rw [ea,eb] at h;exact h
  rw [ea,eb]
  exact (Ds (v:=l.v - l'.v) st ((sl _ hl).vn st) ((sl _ hl').vn st) (((sl _ hl).v.sub (k:=66) (sl _ hl').v).mono (by decide)) (by omega)).2.2.2
 rw [hrow]
 simp_all! [aw nDr,hD,UZ]
 generalize hps:ks.zip ks.tail=ps
 have hpl:ps.length=ks.length - 1:=by rw [← hps,Wj,List.length_tail];omega
 have hpm:∀x∈ps,x.1∈ks∧x.2∈ks:=λx hx=>by
  rw [← hps] at hx
  obtain ⟨i,h3,h4⟩:=dn.mp (show (x.1,x.2)∈_ from hx)
  exact ⟨U3 h3,U3 h4⟩
 have hup:∀i,∀x∈bY t cT (ps.take i),Sz 9000 x.m:=λi x hx=>by
  obtain ⟨p,hp',hc,rfl⟩:=iW _ hx
  have:=hpm p (VI hp')
  exact hmz _ this.1 _ this.2 (of_decide_eq_true hc)
 refine ⟨by omega,by omega,?_⟩
 have hrn:((ks.length:Int) - 1).toNat=ps.length:=by omega
 rw [hrn]
 obtain ⟨Inv,hInv⟩:∃Inv:Nat→Sr→Hq→Prop,∀i τ J',Inv i τ J'↔∃(u4 u5 u6 u7 u8 u9 u10 u11 u12:Option PV),τ=[some (.ref D),some (fr t),some (.fl (ks.map λk=>PV.str k.n)),some (.ref r),u4,u5,u6,u7,u8,u9,u10,u11,u12]∧J'=put J r (.lst ((bY t cT (ps.take i)).map aJ.v)):=⟨_,λ_ _ _=>Iff.rfl⟩
 refine nN Inv ((hInv _ _ _).mpr ⟨_,_,_,_,_,_,_,_,_,rfl,rfl⟩) ?_ ?_
 ·intro i τ J' hi hv
  obtain ⟨u4,u5,u6,u7,u8,u9,u10,u11,u12,rfl,rfl⟩:=(hInv _ _ _).mp hv
  clear hv
  have hpi:ps[i]?=some ps[i]:=U2 hi
  have et:ps.take (i + 1)=ps.take i ++ [ps[i]]:=by rw [Vv,hpi];rfl
  rcases hab:ps[i] with ⟨a,y⟩
  rw [hab] at hpi et
  have hpi0:=hpi
  rw [← hps] at hpi
  obtain ⟨ha,hb⟩:=VE.mp hpi
  rw [Wn] at hb
  simp only at ha hb
  have hak:=U3 ha
  have hbk:=U3 hb
  have srt:=iT t cT (ps.take i)
  have szs:=hup i
  have hle:=pf t cT (ps.take i)
  rw [Vp] at hle
  have ef2:bY t cT (ps.take (i + 1))=iB t cT (bY t cT (ps.take i)) (a,y):=by rw [et];exact eO _ _ _ _
  have hdr:du a.n y.n (bY t cT (ps.take i))=bY t cT (ps.take i):=by
   refine DT (p:=(a,y)) (yt.of hkn λp hp=>?_) λhm=>?_
   ·rcases U9.mp hp with hp | hp
    ·exact hpm p (VI hp)
    ·rw [Vc] at hp;subst hp;exact ⟨hak,hbk⟩
   ·obtain ⟨j,hj⟩:=Vi.mp hm
    rw [List.getElem?_take] at hj
    split at hj
    ·rename_i hji
     rw [← hps] at hj
     obtain ⟨h1,_⟩:=VE.mp hj
     simp only at h1
     obtain ⟨k1,e1⟩:=U1.mp h1
     obtain ⟨k2,e2⟩:=U1.mp ha
     have:=(VT hkd).mp (e1.trans e2.symm)
     omega
    ·cases hj
  generalize bY t cT (ps.take i)=rows at hle ef2 srt szs hdr ⊢
  obtain ⟨l,hmem,ea⟩:=hkf a hak
  obtain ⟨l',hmem',eb⟩:=hkf y hbk
  have hvn:lH (bC fs) a.n=some l.V:=fY (f:=aZ.V) hnd hmem
  have hvn':lH (bC fs) y.n=some l'.V:=fY (f:=aZ.V) hnd hmem'
  have sll:=sl _ hmem
  have sla:=sll.vn st
  have sll':=sl _ hmem'
  have sla':=sll'.vn st
  have h1:dF (ks.map λk=>PV.str k.n) (0 + (i:Int))=some (.str a.n):=by rw [Int.zero_add];exact bA (by rw [U8,ha];rfl)
  have h2:dF (ks.map λk=>PV.str k.n) (0 + (i:Int) + 1)=some (.str y.n):=by rw [Int.zero_add,show (i:Int) + 1=((i + 1:Nat):Int) by omega];exact bA (by rw [U8,hb];rfl)
  have eav:a.v=l.v:=by rw [ea];rfl
  have ebv:y.v=l'.v:=by rw [eb];rfl
  simp_all! [h1,aw nDr,hD,hvn]
  refine ⟨l,t,rfl,sll.m.mono (by decide),sll.p.mono (by decide),st.mono (by decide),sll.v,?_⟩
  simp_all! [h2,aw nDr,hD,hvn']
  refine ⟨l',t,rfl,sll'.m.mono (by decide),sll'.p.mono (by decide),st.mono (by decide),sll'.v,?_⟩
  simp_all! [h1,h2,aw nDr,hD,hvn,hvn',md]
  by_cases c1n:¬ 0 < l.v - l'.v
  ·rw [if_neg c1n]
   have hc:cT (a,y)=false:=decide_eq_false (λz=>by have:y.v < a.v:=z;omega)
   have e:iB t cT rows (a,y)=rows:=by unfold iB;rw [if_neg (by rw [hc];decide)]
   exact (hInv _ _ _).mpr ⟨_,_,_,_,_,_,_,_,_,rfl,by rw [ef2,e]⟩
  have c1:=Decidable.not_not.mp c1n
  rw [if_pos c1]
  have bv:Bd 70 (l.v - l'.v):=(sll.v.sub (k:=66) sll'.v).mono (by decide)
  obtain ⟨z1,z2,z3,z4⟩:=Ds st sla sla' bv c1
  have ew:t + (l'.at t - l.at t) / ((l.v - l'.v:Int):Rat)=fc t a y:=by rw [ea,eb];rfl
  have hd:0 < (t.den:Int) * (((l.at t).den:Int) * ((l'.at t).den:Int) * (l.v - l'.v)):=Int.mul_pos (dB _) (Int.mul_pos (Int.mul_pos (dB _) (dB _)) c1)
  simp_all! []
  refine ⟨.of sla'.num sla.den,.of sla.num sla'.den,?_⟩
  simp_all! []
  refine ⟨.of sla.den sla'.den,.of (Bd.mul (k:=1580) sla.den sla'.den) bv,?_⟩
  simp_all! [jX]
  refine ⟨.of st.num z1,.of z2 st.den,.of st.den z1,hd,z3.mono (by decide),?_⟩
  rw [rE c1,ew]
  rw [ew] at z4
  have hcp:cT (a,y)=true:=decide_eq_true (by show y.v < a.v;omega)
  have eput:iB t cT rows (a,y)=kg ⟨fc t a y,a.n,y.n⟩ rows:=by
   unfold iB
   rw [if_pos hcp]
   show kg _ (du a.n y.n rows)=_;rw [hdr];rfl
  generalize fc t a y=wh at z4 eput ⊢
  simp_all! [h1,h2,Mi]
  obtain ⟨row,hrow'⟩:∃row:aJ,aJ.mk wh a.n y.n=row:=⟨_,rfl⟩
  have erm:row.m=wh:=by rw [← hrow']
  rw [hrow'] at eput ⊢
  refine vF (V:=aJ.v) (lt:=aJ.lt) (ys:=rows) (b:=row) (iO:=3) (iA:=12) (iR:=11) rfl rfl rfl (by decide) (by decide) ax (λx hx R hR=>.inr ⟨x,row,rfl,szs x hx,by rw [erm];exact z4,hR⟩) (λhx hy h k=>zY srt hx hy h k) λj hj hlow hhigh=>?_
  simp_all! [ax]
  refine ⟨_,j,rfl,rfl,by rw [UZ];exact hj,bp (by rw [UZ];omega),by omega,?_⟩
  rw [fh]
  refine (hInv _ _ _).mpr ⟨_,_,_,_,_,_,_,_,_,rfl,?_⟩
  rw [ef2,eput,← Co hj hlow hhigh,U7,U6,V2,Wy]
 ·intro τ J' hv
  obtain ⟨u4,u5,u6,u7,u8,u9,u10,u11,u12,rfl,rfl⟩:=(hInv _ _ _).mp hv
  rw [Vu,← hps,← hks,t8 hkn0]
  simp_all! []
  exact Fg.qO (i4 hr') ax hr' q
abbrev tG:Stmt:=(top 67)
abbrev kR:List Str:=["_law_lane","_law_legs","_law_clock"]
theorem EE:L2.av ["_law_lane","_law_legs","_law_clock"] ["_law_lane","_law_legs","_law_clock"] (L2.aj tG):=dC
def zW (cN cL:Addr):cu:=λxs J Q _=>∃p L D ep gs,xs=[.ref p,.ref D,fr L.t]∧bh cN cL J p L∧cm L∧J D=some (.dct (bC gs) ep)∧(gs.map (·.1)).Nodup∧gs.length≤20∧(∀x∈gs,oX 240 x.2)∧Lb L.t L.fs gs∧Q (.bl true) J
theorem Be {cN cL f:Addr} {fd:FuncData} (F:cg K "_law_stands" "_law_stands" tG f fd) (Z:bN mg) (Ah:bx P w K mg base 2 "_law_part" jK rj) (Iq:bx P w K mg base 1 "_law_words" mz De) (v_:bx P w K mg base 3 "_law_order" iz tT) (Ai:bx P w K mg base 4 "_law_passrows" je tU) (Dx:bx P w K mg base 4 "_law_ringdue" j7 HD)
  (jA:bU P w K mg base cN 1 "clock" mj (zS cN cL)) (jC:bU P w K mg base cN 1 "order" mn (zT cN cL)) (jz:bU P w K mg base cN 7 "bells" mi (zR cN cL)):aO P w K mg base (cK P w) 8 f fd kR (dg K (zW cN cL)):=by
 simp_arith [EE,(ai (aR (dj (bX (aQ Ah B hr (af (dw (pl:=_) jA B hr (rv 0)) (af (rv 2) ah))))) (ak (ay ed)) aF)
   (ai (aR (dj (bX (aQ Iq B hr (af (dw (pl:=_) jC B hr (rv 0)) (af (aQ v_ B hr (af (rv 1) (af (rv 2) ah))) ah))))) (ak (ay ed)) aF)
   (ak (ay (aQ Ai B hr (af (dw (pl:=_) jz B hr (rv 0)) (af (aQ Dx B hr (af (rv 1) (af (rv 2) ah))) ah)))))))]
 ·obtain ⟨p,L,D,ep,gs,rfl,_⟩:=h;rfl
 obtain ⟨p,L,D,ep,gs,rfl,b,ok,hD,hnd,hgl,sg,same,q⟩:=h
 have bo:=b.ob
 have st:Sz 240 L.t:=(sD ok.ts).mono (by decide)
 have e1:cO L.t gs=L.row:=by rw [ok.row];exact zh hnd ok.M3 λx=>(same x).symm
 have e2:fN L.t (gs.map (key L.t))=fN L.t (L.fs.map (key L.t)):=AG (by rw [dz];exact hnd) ok.knd λx=>(same x).symm
 have hrl:=ok.rl
 have hbl:=AH L.t (L.fs.map (key L.t)) ok.knd
 rw [UZ] at hbl
 have hfl:=ok.Ph
 refine hX ?_
 simp_all! [bo]
 refine ⟨e8 _ _ _ _,p,L,rfl,b,L.t,rfl,?_⟩
 simp_all! [bo]
 refine ⟨e8 _ _ _ _,p,L,rfl,b,.inl ?_⟩
 refine ⟨D,gs,ep,L.t,rfl,hD,hnd,by omega,st.mono (by decide),λx hx=>(sg x hx).mono (by decide),?_⟩
 rw [e1]
 refine ⟨L.row,rfl,by omega,?_⟩
 simp_all! [bo]
 refine ⟨e8 _ _ _ _,p,L,rfl,b,ok,?_⟩
 refine ⟨D,gs,ep,L.t,rfl,hD,hnd,hgl,st,sg,?_⟩
 rw [e2]
 exact ⟨_,_,rfl,rfl,by omega,q⟩
def yj:List aZ→Prop
 | a :: b :: r=>b.p=a.at b.m∧yj (b :: r)
 | _=>True
theorem lM:∀(ls:List aZ) (l:aZ),yj (ls ++ [l])↔yj ls∧∀k,ls.getLast?=some k→l.p=k.at l.m
 | [],l=>⟨λ_=>⟨trivial,λk h=>nomatch h⟩,λ_=>trivial⟩
 | [a],l=>⟨λh=>⟨trivial,λk e=>by cases e;exact h.1⟩,λh=>⟨h.2 a rfl,trivial⟩⟩
 | a :: b :: r,l=>by
  have ih:=lM (b :: r) l
  show (b.p=a.at b.m∧yj ((b :: r) ++ [l]))↔_
  rw [ih,List.getLast?_cons_cons]
  constructor
  ·rintro ⟨h1,h2,h3⟩;exact ⟨⟨h1,h2⟩,h3⟩
  ·rintro ⟨⟨h1,h2⟩,h3⟩;exact ⟨h1,h2,h3⟩
def gu (l l':aZ):Prop:=l.v=l'.v∧∀t,l.at t=l'.at t
theorem gu.key {l l':aZ} (h:gu l l') (n:Str) (t:Rat):key t (n,l)=key t (n,l'):=by unfold Ov.key;simp only;rw [h.1,h.2 t]
theorem IV (l:aZ):l.at l.m=l.p:=by unfold aZ.at;grind
theorem CP {l l':aZ} {t:Rat} (hv:l.v=l'.v) (h:l.at t=l'.at t):gu l l':=⟨hv,λs=>by
 unfold aZ.at at h ⊢
 rw [hv] at h ⊢
 generalize (l'.v:Rat)=x at h ⊢
 grind⟩
theorem lF {rows:List aZ} {t:Rat} {v:Int} (h:yj rows) (ne:rows≠[]):yj (turned rows t v)∧∀l,rows.getLast?=some l→∀l',(turned rows t v).getLast?=some l'→gu ⟨t,l.at t,v⟩ l':=by
 obtain ⟨ls,l,rfl⟩:∃ls l,rows=ls ++ [l]:=⟨rows.dropLast,rows.getLast ne,(Vx ne).symm⟩
 obtain ⟨h1,h2⟩:=(lM ls l).mp h
 have new:∀{q:List aZ},(q ++ [aZ.mk t (l.at t) v]).getLast?=some (aZ.mk t (l.at t) v):=λ{q}=>Vw ..
 rw [ig]
 simp only [Vw,Option.some.injEq]
 split
 ·rename_i e
  have el:l.at t=l.p:=by rw [← e];exact IV l
  split
  ·rename_i ev
   refine ⟨h1,λl0 h0 l' h'=>?_⟩
   subst h0
   rw [h'] at ev
   have hv:l'.v=v:=Option.some.inj ev
   have hp:=h2 l' h'
   rw [e] at hp
   refine CP (t:=t) hv.symm ?_
   show l.at t + (t - t) * (v:Rat)=_
   rw [← hp,el];grind
  ·refine ⟨(lM _ _).mpr ⟨h1,λk hk=>?_⟩,λl0 h0 l' h'=>?_⟩
   ·show l.at t=k.at t
    rw [el,h2 k hk,e]
   ·subst h0
    rw [new] at h';cases h';exact ⟨rfl,λ_=>rfl⟩
 ·split
  ·rename_i ev
   refine ⟨h,λl0 h0 l' h'=>?_⟩
   subst h0
   rw [Vw] at h';cases h'
   refine CP (t:=t) ev.symm ?_
   show l.at t + (t - t) * (v:Rat)=_
   grind
  ·refine ⟨(lM _ _).mpr ⟨h,λk hk=>?_⟩,λl0 h0 l' h'=>?_⟩
   ·rw [Vw] at hk;cases hk;rfl
   ·subst h0
    rw [new] at h';cases h';exact ⟨rfl,λ_=>rfl⟩
structure Rl (L:Ln) (gs:List (Str × aZ)):Prop where
 nm:gs.map (·.1)=L.fs.map (·.1)
 ln:∀n l l',(n,l)∈gs→(n,l')∈L.fs→gu l l'
 ck:∀x∈gs,ub x.2
 le:∀x∈gs,x.2.m≤L.t
 ct:∀c∈L.cs,yj c.w
theorem Rl.same {L:Ln} {gs:List (Str × aZ)} (h:Rl L gs) (t:Rat):Lb t L.fs gs:=λx=>by
 have other:∀{as bs:List (Str × aZ)},as.map (·.1)=bs.map (·.1)→∀{n l},(n,l)∈as→∃l',(n,l')∈bs:=λ{as bs} e {n l} hm=>by
  have:n∈bs.map (·.1):=by rw [← e];exact U0.mpr ⟨_,hm,rfl⟩
  obtain ⟨y,hy,e'⟩:=U0.mp this
  exact ⟨y.2,by rw [← e'];exact hy⟩
 rw [U0,U0]
 constructor
 ·rintro ⟨⟨n,l⟩,hm,rfl⟩
  obtain ⟨l',hl'⟩:=other h.nm.symm hm
  exact ⟨(n,l'),hl',(h.ln n l' l hl' hm).key n t⟩
 ·rintro ⟨⟨n,l⟩,hm,rfl⟩
  obtain ⟨l',hl'⟩:=other h.nm hm
  exact ⟨(n,l'),hl',((h.ln n l l' hm hl').key n t).symm⟩
theorem Rl.sz {L:Ln} {gs:List (Str × aZ)} (h:Rl L gs):∀x∈gs,oX 240 x.2:=λx hx=>by
 have hk:=h.ck x hx
 exact ⟨hk.Ul.mono (by decide),hk.Uq.mono (by decide),.small (by have:=hk.v;omega) (by have:=hk.v;omega)⟩
theorem Rl.nd {L:Ln} {gs:List (Str × aZ)} (h:Rl L gs) (ok:bc L):(gs.map (·.1)).Nodup:=by rw [h.nm];exact ok.M3
theorem Rl.len {L:Ln} {gs:List (Str × aZ)} (h:Rl L gs):gs.length=L.fs.length:=by have:=congrArg V0 h.nm;rw [UZ,UZ] at this;exact this
theorem G3 {fs:List (Str × aZ)} {n:Str} {l:aZ} (hm:n∈fs.map (·.1)):vL (bC fs) n l.V=bC (fs.map λx=>if x.1=n then (x.1,l) else x):=by
 unfold vL bC
 rw [if_pos,U',U']
 ·refine Vl λx _=>?_
  show (if x.1=n then (x.1,l.V) else (x.1,x.2.V))=_
  show _=((if x.1=n then (x.1,l) else x).1,(if x.1=n then (x.1,l) else x).2.V)
  split <;> rfl
 ·obtain ⟨x,hx,e⟩:=U0.mp hm
  rw [Xb]
  exact ⟨(x.1,x.2.V),U0.mpr ⟨x,hx,rfl⟩,decide_eq_true e⟩
def vW (n:Str) (t:Rat) (v:Int) (gs:List (Str × aZ)):List (Str × aZ):=gs.map λx=>if x.1=n then (x.1,⟨t,x.2.at t,v⟩) else x
def kq (t:Rat) (gs:List (Str × aZ)):List (Str × aZ):=gs.map λx=>(x.1,⟨t,x.2.at t,-x.2.v⟩)
theorem FJ {L:Ln} {f:Cf→Cf} (hn:∀c,(f c).n=c.n∧(f c).a=c.a∧(f c).r=c.r∧(f c).g=c.g) {L':Ln} (e:L'.cs=L.cs.map f):L'.fs=L.EX.map λc=>(c.n,(f c).cur):=by
 unfold Ln.fs Ln.EX
 rw [e,VH,U']
 have e1:(λc:Cf=>c.g.isNone) ∘ f=λc=>c.g.isNone:=by funext c;show (f c).g.isNone=_;rw [(hn c).2.2.2]
 rw [e1]
 exact Vl λc _=>by show ((f c).n,(f c).cur)=_;rw [(hn c).1]
theorem yD {c:Cf} {t:Rat} {v:Int} (h:yj c.w) (ne:c.w≠[]):gu ⟨t,c.cur.at t,v⟩ (c.turn t v).cur:=by
 have h1:=(Cf.hE ne).1
 have h2:=(Cf.hE (c:=c.turn t v) (vX ne)).1
 exact (lF h ne).2 _ h1 _ h2
theorem gu.turn {l l':aZ} (h:gu l l') (t:Rat) (v:Int):gu ⟨t,l.at t,v⟩ ⟨t,l'.at t,v⟩:=by rw [h.2 t];exact ⟨rfl,λ_=>rfl⟩
theorem gu.trans {l l' l'':aZ} (h:gu l l') (k:gu l' l''):gu l l'':=⟨h.1.trans k.1,λt=>(h.2 t).trans (k.2 t)⟩
theorem Rl.turn {L L':Ln} {gs:List (Str × aZ)} (h:Rl L gs) (ok:bc L) {n:Str} {v:Int} (hv:v.natAbs≤1000) (e:L'.cs=L.cs.map (dI n L.t v)) (et:L'.t=L.t):Rl L' (vW n L.t v gs):=by
 have hn:=oT n L.t v
 have hfs:=FJ hn e
 have nm:(vW n L.t v gs).map (·.1)=gs.map (·.1):=by
  unfold vW;rw [U'];exact Vl λx _=>by show (if x.1=n then (x.1,_) else x).1=x.1;split <;> rfl
 refine ⟨?_,?_,?_,?_,?_⟩
 ·rw [nm,h.nm,hfs];unfold Ln.fs;rw [U',U'];rfl
 ·intro m l l' hl hl'
  obtain ⟨x,hx,ex⟩:=U0.mp hl
  rw [hfs] at hl'
  obtain ⟨c,hc,ec⟩:=U0.mp hl'
  have hcs:=(Ln.cV.mp hc).1
  have hold:(c.n,c.cur)∈L.fs:=U0.mpr ⟨c,hc,rfl⟩
  cases ec
  by_cases z:x.1=n
  ·rw [if_pos z] at ex
   have ex1:x.1=c.n:=(Prod.mk.inj ex).1
   have ex2:aZ.mk L.t (x.2.at L.t) v=l:=(Prod.mk.inj ex).2
   subst ex2
   have hs:=h.ln x.1 x.2 c.cur hx (by rw [ex1];exact hold)
   have zc:c.n=n:=by rw [← z];exact ex1.symm
   unfold dI
   rw [if_pos zc]
   exact (hs.turn L.t v).trans (yD (h.ct c hcs) (ok.ne c hcs))
  ·rw [if_neg z] at ex
   subst ex
   have zc:¬ c.n=n:=z
   unfold dI
   rw [if_neg zc]
   exact h.ln c.n l c.cur hx hold
 ·intro x hx
  obtain ⟨y,hy,rfl⟩:=U0.mp hx
  split
  ·exact (h.ck y hy).at (h.le y hy) ok.ts hv
  ·exact h.ck y hy
 ·intro x hx
  rw [et]
  obtain ⟨y,hy,rfl⟩:=U0.mp hx
  split
  ·exact Rat.le_refl
  ·exact h.le y hy
 ·intro c hc
  rw [e] at hc
  obtain ⟨c0,h0,rfl⟩:=U0.mp hc
  unfold dI
  split
  ·exact (lF (h.ct c0 h0) (ok.ne c0 h0)).1
  ·exact h.ct c0 h0
theorem yw (t:Rat) (c:Cf):(eL t c).n=c.n∧(eL t c).a=c.a∧(eL t c).r=c.r∧(eL t c).g=c.g:=by unfold eL;split <;> exact ⟨rfl,rfl,rfl,rfl⟩
theorem Rl.about {L L':Ln} {gs:List (Str × aZ)} (h:Rl L gs) (ok:bc L) (e:L'.cs=L.cs.map (eL L.t)) (et:L'.t=L.t):Rl L' (kq L.t gs):=by
 have hn:=yw L.t
 have hfs:=FJ hn e
 have nm:(kq L.t gs).map (·.1)=gs.map (·.1):=by
  unfold kq;rw [U'];rfl
 refine ⟨?_,?_,?_,?_,?_⟩
 ·rw [nm,h.nm,hfs];unfold Ln.fs;rw [U',U'];rfl
 ·intro m l l' hl hl'
  obtain ⟨x,hx,ex⟩:=U0.mp hl
  rw [hfs] at hl'
  obtain ⟨c,hc,ec⟩:=U0.mp hl'
  have hcs:=Ln.cV.mp hc
  have hold:(c.n,c.cur)∈L.fs:=U0.mpr ⟨c,hc,rfl⟩
  cases ec
  obtain ⟨xn,xl⟩:=x
  cases ex
  have hs:=h.ln c.n xl c.cur hx hold
  have ea:eL L.t c=c.turn L.t (-c.cur.v):=by unfold eL;rw [if_pos (by rw [hcs.2];rfl)]
  rw [ea,hs.1]
  exact (hs.turn L.t _).trans (yD (h.ct c hcs.1) (ok.ne c hcs.1))
 ·intro x hx
  obtain ⟨y,hy,rfl⟩:=U0.mp hx
  exact (h.ck y hy).at (h.le y hy) ok.ts (by have:=(h.ck y hy).v;omega)
 ·intro x hx
  rw [et]
  obtain ⟨y,hy,rfl⟩:=U0.mp hx
  exact Rat.le_refl
 ·intro c hc
  rw [e] at hc
  obtain ⟨c0,h0,rfl⟩:=U0.mp hc
  unfold eL
  split
  ·exact (lF (h.ct c0 h0) (ok.ne c0 h0)).1
  ·exact h.ct c0 h0
theorem Rl.join {L L':Ln} {gs:List (Str × aZ)} (h:Rl L gs) (ok':bc L') {n:Str} {x v:Int} (hv:v.natAbs≤1000) (hx:x.natAbs≤1000000) (j:L.joined n x v L') (t0:0≤L.t) (ts:Sc ij MM L.t) (hnew:n ∉ L.fs.map (·.1)):Rl L' (gs ++ [(n,⟨L.t,(x:Rat),v⟩)]):=by
 obtain ⟨a,r,ecs,et⟩:=j
 have efs:L'.fs=L.fs ++ [(n,⟨L.t,(x:Rat),v⟩)]:=Ce L ecs rfl
 refine ⟨?_,?_,?_,?_,?_⟩
 ·rw [efs,U7,U7,h.nm]
 ·intro m l l' hl hl'
  rw [efs] at hl'
  have h1:∀{k},(n,k)∈gs→False:=λhk=>hnew (by rw [← h.nm];exact U0.mpr ⟨_,hk,rfl⟩)
  have h2:∀{k},(n,k)∈L.fs→False:=λhk=>hnew (U0.mpr ⟨_,hk,rfl⟩)
  rcases U9.mp hl with hl | hl <;> rcases U9.mp hl' with hl' | hl'
  ·exact h.ln m l l' hl hl'
  ·rw [Vc] at hl';cases hl';exact (h1 hl).elim
  ·rw [Vc] at hl;cases hl;exact (h2 hl').elim
  ·rw [Vc] at hl hl';cases hl;cases hl';exact ⟨rfl,λ_=>rfl⟩
 ·intro y hy
  rcases U9.mp hy with hy | hy
  ·exact h.ck y hy
  ·rw [Vc] at hy;subst hy;exact ub.new t0 ts hx hv
 ·intro y hy
  rw [et]
  rcases U9.mp hy with hy | hy
  ·exact h.le y hy
  ·rw [Vc] at hy;subst hy;exact Rat.le_refl
 ·intro c hc
  rw [ecs] at hc
  rcases U9.mp hc with hc | hc
  ·exact h.ct c hc
  ·rw [Vc] at hc;subst hc;exact trivial
def pj (n:Str) (gs:List (Str × aZ)):List (Str × aZ):=gs.filter λx=>decide (x.1≠n)
theorem Rl.leave {L L':Ln} {gs:List (Str × aZ)} (h:Rl L gs) {n:Str} (e:L'.cs=L.cs.map (bW n L.t)) (et:L'.t=L.t):Rl L' (pj n gs):=by
 have hfs:L'.fs=L.fs.filter λx=>decide (x.1≠n):=yP e
 have hf:∀l:List (Str × aZ),(l.filter λx=>decide (x.1≠n)).map (·.1)=(l.map (·.1)).filter λy=>decide (y≠n):=λl=>by rw [VH];rfl
 refine ⟨?_,?_,?_,?_,?_⟩
 ·unfold pj;rw [hf,hfs,hf,h.nm]
 ·intro m l l' hl hl'
  rw [hfs] at hl'
  exact h.ln m l l' (U_.mp hl).1 (U_.mp hl').1
 ·intro x hx;exact h.ck x (U_.mp hx).1
 ·intro x hx;rw [et];exact h.le x (U_.mp hx).1
 ·intro c hc
  rw [e] at hc
  obtain ⟨c0,h0,rfl⟩:=U0.mp hc
  rw [(fJ n L.t c0).2.2.2];exact h.ct c0 h0
abbrev xE:Stmt:=(top 60)
abbrev mq:List Str:=["_law_legs","_law_clock","_law_deed_here"]
theorem zF:L2.av ["_law_legs","_law_clock","_law_deed_here","_law_name"] ["_law_legs","_law_clock","_law_deed_here"] (L2.aj xE):=dC
def gE (n:Str) (x v:Int):PV:=.tup [.str "join",.str n,.int x,.int v]
def j_ (n:Str) (v:Int):PV:=.tup [.str "turn",.str n,.int v]
def jq:PV:=.tup [.str "about"]
def il (n:Str):PV:=.tup [.str "leave",.str n]
def Lh (m:Rat):PV:=.tup [.str "go",fr m]
def xY:cu:=λxs J Q _=>∃(D:Addr) (gs:List (Str × aZ)) (ep:Nat) (t:Rat) (dv:PV),xs=[.ref D,fr t,dv]∧J D=some (.dct (bC gs) ep)∧(gs.map (·.1)).Nodup∧gs.length≤100∧Sz 900 t∧(∀x∈gs,oX 900 x.2) ∧
 ((∃n x v,dv=gE n x v∧n ∉ gs.map (·.1)∧∀ep',Q (fr t) (put J D (.dct (bC (gs ++ [(n,⟨t,(x:Rat),v⟩)])) ep'))) ∨
  (∃n v,dv=j_ n v∧n∈gs.map (·.1)∧∀ep',Q (fr t) (put J D (.dct (bC (vW n t v gs)) ep'))) ∨
  (dv=jq∧∀ep',Q (fr t) (put J D (.dct (bC (kq t gs)) ep'))) ∨
  (∃n,dv=il n∧n∈gs.map (·.1)∧∀ep',Q (fr t) (put J D (.dct (bC (pj n gs)) ep'))) ∨
  (∃m,dv=Lh m∧Q (fr m) J))
theorem Me:(("join":Str)="go")=False:=eq_false (by decide +kernel)
theorem Mg:(("turn":Str)="go")=False:=eq_false (by decide +kernel)
theorem Md:(("about":Str)="go")=False:=eq_false (by decide +kernel)
theorem MU {c:mI} {a u:iQ} {D:En} {τ:Sr} {J:Hq} (hc:∀R:Bool→Hq→Prop,R false J→c τ J R) (hu:u D τ J):Hc (By c a sY) u D τ J :=
 ⟨λτ' J'=>τ'=τ∧J'=J,hc _ (by rw [if_neg (by decide)];exact ⟨rfl,rfl⟩),λτ' J' h=>by obtain ⟨rfl,rfl⟩:=h;exact hu⟩
theorem f9 {c:mI} {a u:iQ} {D:En} {τ:Sr} {J:Hq} (M:Sr→Hq→Prop) (hc:∀R:Bool→Hq→Prop,R true J→c τ J R) (ha:a { D with nx:=M } τ J) (hu:∀τ' J',M τ' J'→u D τ' J'):Hc (By c a sY) u D τ J :=
 ⟨M,hc _ (by rw [if_pos rfl];exact ha),hu⟩
theorem Dt {x y:Str} {i:Nat} {dv:PV} {τ:Sr} {J:Hq} (h:τ[i]?=some (some dv)) (h0:fP J dv (.int 0)=some (.str x)) (R:Bool→Hq→Prop) (hr:R (decide (x=y)) J):rB (yh (LQ id) (yh LU (jL i) (rC (.int 0))) (rC (.str y))) τ J R :=
 NC h (kM h0 ⟨⟨rfl,by simp [fS,dep]⟩,rfl,mU rfl (by rw [eq_str];exact hr)⟩)
theorem dM {x y:Str} {i:Nat} {dv:PV} {τ:Sr} {J:Hq} {a u:iQ} {D:En} (h:τ[i]?=some (some dv)) (h0:fP J dv (.int 0)=some (.str x)) (n:decide (x=y)=false) (hu:u D τ J):Hc (By (rB (yh (LQ id) (yh LU (jL i) (rC (.int 0))) (rC (.str y)))) a sY) u D τ J:=MU (λR hr'=>Dt h h0 R (by rw [n];exact hr')) hu
theorem wG {x:Str} {i:Nat} {dv:PV} {τ:Sr} {J:Hq} (h:τ[i]?=some (some dv)) (h0:fP J dv (.int 0)=some (.str x)) (R:Bool→Hq→Prop) (hr:R true J):rB (yh (LQ id) (yh LU (jL i) (rC (.int 0))) (rC (.str x))) τ J R:=Dt h h0 R (by rw [decide_eq_true rfl];exact hr)
def ft (t:Rat) (gs:List (Str × aZ)) (i:Nat):List (Str × aZ):=kq t (gs.take i) ++ gs.drop i
theorem vm (t:Rat) (gs:List (Str × aZ)) (i:Nat):(ft t gs i).map (·.1)=gs.map (·.1):=by
 unfold ft kq
 rw [U7,U']
 have:((gs.take i).map ((λx:Str × aZ=>x.1) ∘ λx=>(x.1,(⟨t,x.2.at t,-x.2.v⟩:aZ))))=(gs.take i).map (·.1):=Vl λ_ _=>rfl
 rw [this,← U7,Ww]
theorem yx (t:Rat) (gs:List (Str × aZ)) (hnd:(gs.map (·.1)).Nodup) (i:Nat) (h:i < gs.length):(ft t gs i).map (λx=>if x.1=gs[i].1 then (x.1,(⟨t,gs[i].2.at t,-gs[i].2.v⟩:aZ)) else x)=ft t gs (i + 1):=by
 have hd:gs.drop i=gs[i] :: gs.drop (i + 1):=Wb h
 have ht:gs.take (i + 1)=gs.take i ++ [gs[i]]:=by rw [Vv,U2 h];rfl
 have hn2:(gs.map (·.1))=(gs.take i).map (·.1) ++ (gs[i].1 :: (gs.drop (i + 1)).map (·.1)):=by
  rw [← U6 (f:=λx:Str × aZ=>x.1),← hd,← U7,Ww]
 rw [hn2,VZ] at hnd
 unfold ft kq
 rw [hd,ht,U7,U7,U6,if_pos rfl,W7]
 congr 1
 ·rw [U']
  refine Vl λx hx=>?_
  show (if x.1=gs[i].1 then _ else _)=_
  rw [if_neg (hnd.2.2 x.1 (U0.mpr ⟨x,hx,rfl⟩) gs[i].1 (by simp))]
 ·show _ :: _=_ :: _
  congr 1
  have hno:=(VY.mp hnd.2.1).1
  have:∀x∈gs.drop (i + 1),(if x.1=gs[i].1 then (x.1,(⟨t,gs[i].2.at t,-gs[i].2.v⟩:aZ)) else x)=x:=λx hx=>if_neg λz=>hno (by rw [← z];exact U0.mpr ⟨x,hx,rfl⟩)
  rw [Vl this,WY]
  rfl
theorem Mf:(("leave":Str)="go")=False:=eq_false (by decide +kernel)
theorem Eg {f:Addr} {fd:FuncData} (F:cg K "_law_acted" "_law_acted" xE f fd) (Z:bN mg) (qv:bx P w K mg base 2 "_law_at" fz j9):aO P w K mg base (cK P w) 3 f fd mq (dg K xY):=by
 simp_arith [zF,(fi (aR (aB (bT hr.aL) (aq ar (rv 2) ag) bF) (ak (tu oQ (rv 0) (aq ar (rv 2) ag) (cE (af (rv 1) (af (cE (af (aq ar (rv 2) ag) (af ag ah))) (af (aq ar (rv 2) ag) ah)))))) aF)
   (fi (aR (aB (bT hr.aL) (aq ar (rv 2) ag) bF) (ak (aX (mC PySem.F.plainAttrs_dict PySem.F.slot_dict_pop PySem.F.type_dict_pop JB (rv 0) (af (aq ar (rv 2) ag) ah)))) aF)
   (fi (aR (aB (bT hr.aL) (aq ar (rv 2) ag) bF) (ak (tu oQ (rv 0) (aq ar (rv 2) ag) (cE (af (rv 1) (af (aQ qv B hr (af (aq cR (rv 0) (aq ar (rv 2) ag)) (af (rv 1) ah))) (af (aq ar (rv 2) ag) ah)))))) aF)
   (fi (aR (aB (bT hr.aL) (aq ar (rv 2) ag) bF) (ak (eu b_ rfl (fj (fC (rY rfl) rfl Z.list boot_list (af (rv 0) ah))) (bK (i:=3) zF.nd) (ak (tu oQ (rv 0) (rv 3) (cE (af (rv 1) (af (aQ qv B hr (af (aq cR (rv 0) (rv 3)) (af (rv 1) ah))) (af (vM p9 (aq ar (aq cR (rv 0) (rv 3)) ag)) ah)))))))) aF)
   (ai (aR (aB (bT hr.aL) (aq ar (rv 2) ag) bF) (ak (ay (aq ar (rv 2) ag))) aF)
   (ak (ay (rv 1))))))))]
 ·obtain ⟨D,gs,ep,t,dv,rfl,_⟩:=h;rfl
 obtain ⟨D,gs,ep,t,dv,rfl,hD,hnd,hlen,st,sl,h⟩:=h
 refine hX ?_
 rcases h with ⟨n,x,v,rfl,hn,q⟩ | ⟨n,v,rfl,hn,q⟩ | ⟨rfl,q⟩ | ⟨n,rfl,hn,q⟩ | ⟨m,rfl,q⟩
 ·have i0:∀J,fP J (gE n x v) (.int 0)=some (.str "join"):=λJ=>d_ _ _
  have i1:∀J,fP J (gE n x v) (.int 1)=some (.str n):=λJ=>fZ _ _ _
  have i2:∀J,fP J (gE n x v) (.int 2)=some (.int x):=λJ=>ma _ _ _ _
  have i3:∀J,fP J (gE n x v) (.int 3)=some (.int v):=λJ=>rfl
  refine f9 (λτ' J'=>∃ep',τ'=[some (.ref D),some (fr t),some (gE n x v),none]∧J'=put J D (.dct (bC (gs ++ [(n,⟨t,(x:Rat),v⟩)])) ep')) (wG rfl (i0 _)) ?_ ?_
  ·simp_all! [i1,i2,i3,hD,M5,vV]
   refine ⟨bp (by unfold bC;rw [UZ];omega),λep'=>⟨ep',?_⟩⟩
   have epu:vL (bC gs) n (aZ.mk t (x:Rat) v).V=bC (gs ++ [(n,⟨t,(x:Rat),v⟩)]):=xr (f:=aZ.V) (l:=⟨t,(x:Rat),v⟩) hn
   rw [epu]
  rintro τ' J' ⟨ep',rfl,rfl⟩
  refine dM rfl (i0 _) (by decide +kernel) ?_
  refine dM rfl (i0 _) (by decide +kernel) ?_
  refine dM rfl (i0 _) (by decide +kernel) ?_
  simp_all! [i0,Me,if_false]
  exact q ep'
 ·have i0:∀J,fP J (j_ n v) (.int 0)=some (.str "turn"):=λJ=>d_ _ _
  have i1:∀J,fP J (j_ n v) (.int 1)=some (.str n):=λJ=>fZ _ _ _
  have i2:∀J,fP J (j_ n v) (.int 2)=some (.int v):=λJ=>ma _ _ _ _
  refine dM rfl (i0 _) (by decide +kernel) ?_
  refine dM rfl (i0 _) (by decide +kernel) ?_
  refine f9 (λτ' J'=>∃ep',τ'=[some (.ref D),some (fr t),some (j_ n v),none]∧J'=put J D (.dct (bC (vW n t v gs)) ep')) (wG rfl (i0 _)) ?_ ?_
  ·obtain ⟨l,hl,hvl⟩:=yf (f:=aZ.V) hnd hn
   have hvl:lH (bC gs) n=some l.V:=hvl
   have sll:=sl _ hl
   simp_all! [i1,i2,hD,hvl]
   refine ⟨l,t,rfl,sll.m,sll.p,st,sll.v,?_⟩
   simp_all! [i1,i2,hD,vV]
   refine ⟨bp (by unfold bC;rw [UZ];omega),λep'=>⟨ep',?_⟩⟩
   rw [G3 hn]
   have:(gs.map λx=>if x.1=n then (x.1,(⟨t,l.at t,v⟩:aZ)) else x)=vW n t v gs:=Vl λx hx=>by
    by_cases z:x.1=n
    ·have hx':lH (bC gs) n=some x.2.V:=fY (f:=aZ.V) hnd (by rw [← z];exact hx)
     rw [hvl] at hx'
     have ex:l=x.2:=by have:=Option.some.inj hx';rw [O1] at this;exact this
     rw [if_pos z,if_pos z,ex]
    ·rw [if_neg z,if_neg z]
   rw [this]
  rintro τ' J' ⟨ep',rfl,rfl⟩
  refine dM rfl (i0 _) (by decide +kernel) ?_
  simp_all! [i0,Mg,if_false]
  exact q ep'
 ·have i0:∀J,fP J jq (.int 0)=some (.str "about"):=λJ=>d_ _ _
  refine dM rfl (i0 _) (by decide +kernel) ?_
  refine dM rfl (i0 _) (by decide +kernel) ?_
  refine dM rfl (i0 _) (by decide +kernel) ?_
  refine f9 (λτ' J'=>∃u ep',τ'=[some (.ref D),some (fr t),some jq,u]∧J'=put J D (.dct (bC (kq t gs)) ep')) (wG rfl (i0 _)) ?_ ?_
  ·simp_all! [hD]
   have hkv:(bC gs).map (λkv=>PV.str kv.1)=gs.map λx=>PV.str x.1:=by unfold bC;rw [U'];rfl
   rw [hkv]
   obtain ⟨Inv,hInv⟩:∃Inv:Nat→Sr→Hq→Prop,∀i τ J',Inv i τ J'↔∃(u:Option PV) (ep':Nat),τ=[some (.ref D),some (fr t),some jq,u]∧J'=put J D (.dct (bC (ft t gs i)) ep'):=⟨_,λ_ _ _=>Iff.rfl⟩
   refine gA Inv ((hInv _ _ _).mpr ⟨_,ep,rfl,by show J=put J D (.dct (bC gs) ep);rw [Bx hD]⟩) (λ_ _ _ _=>trivial) ?_ ?_
   ·intro i x τ J' hx hv
    obtain ⟨u,ep',rfl,rfl⟩:=(hInv _ _ _).mp hv
    clear hv
    have hi:i < gs.length:=by have:=(U1.mp hx).1;simpa using this
    rw [U8,U2 hi] at hx
    cases hx
    have hnd':((ft t gs i).map (·.1)).Nodup:=by rw [vm];exact hnd
    have hmem:gs[i]∈ft t gs i:=by unfold ft;rw [Wb hi];exact U9.mpr (.inr VD)
    have hva:lH (bC (ft t gs i)) gs[i].1=some gs[i].2.V:=fY (f:=aZ.V) hnd' hmem
    have hstep:=yx t gs hnd i hi
    have hin:gs[i].1∈(ft t gs i).map (·.1):=U0.mpr ⟨_,hmem,rfl⟩
    have hlen':(ft t gs i).length=gs.length:=by have:=congrArg V0 (vm t gs i);rw [UZ,UZ] at this;exact this
    have sll:=sl _ (VG hi)
    generalize gs[i]=y at hva hstep hin sll ⊢
    simp_all! [ax,hva]
    refine ⟨y.2,t,rfl,sll.m,sll.p,st,sll.v,?_⟩
    simp_all! [ax,hva,md,vV]
    refine ⟨bp (by unfold bC;rw [UZ];omega),λep2=>(hInv _ _ _).mpr ⟨_,ep2,rfl,?_⟩⟩
    rw [fh,G3 hin,hstep]
   ·intro τ J' hv
    obtain ⟨u,ep',rfl,rfl⟩:=(hInv _ _ _).mp hv
    refine ⟨u,rfl,ep',?_⟩
    rw [UZ]
    unfold ft
    rw [Vu,List.drop_length,VQ]
  rintro τ' J' ⟨u,ep',rfl,rfl⟩
  simp_all! [i0,Md,if_false]
  exact q ep'
 ·have i0:∀J,fP J (il n) (.int 0)=some (.str "leave"):=λJ=>d_ _ _
  have i1:∀J,fP J (il n) (.int 1)=some (.str n):=λJ=>fZ _ _ _
  refine dM rfl (i0 _) (by decide +kernel) ?_
  refine f9 (λτ' J'=>∃ep',τ'=[some (.ref D),some (fr t),some (il n),none]∧J'=put J D (.dct (bC (pj n gs)) ep')) (wG rfl (i0 _)) ?_ ?_
  ·obtain ⟨l,hl,hvl⟩:=yf (f:=aZ.V) hnd hn
   have hvl:lH (bC gs) n=some l.V:=hvl
   simp_all! [i1,hD,hvl]
   have edr:FC (bC gs) n=bC (pj n gs):=by unfold FC bC pj;rw [VH];rfl
   intro ep'
   exact ⟨ep',by rw [edr]⟩
  rintro τ' J' ⟨ep',rfl,rfl⟩
  refine dM rfl (i0 _) (by decide +kernel) ?_
  refine dM rfl (i0 _) (by decide +kernel) ?_
  simp_all! [i0,Mf,if_false]
  exact q ep'
 ·have i0:∀J,fP J (Lh m) (.int 0)=some (.str "go"):=λJ=>d_ _ _
  have i1:∀J,fP J (Lh m) (.int 1)=some (fr m):=λJ=>fZ _ _ _
  refine dM rfl (i0 _) (by decide +kernel) ?_
  refine dM rfl (i0 _) (by decide +kernel) ?_
  refine dM rfl (i0 _) (by decide +kernel) ?_
  refine dM rfl (i0 _) (by decide +kernel) ?_
  simp_all! [i0,i1,if_true]
  exact q
abbrev BC:Stmt:=(top 61)
abbrev ot:List Str:=["_law_lane","_law_deed_here"]
theorem KC:L2.av ["_law_lane","_law_deed_here"] ["_law_lane","_law_deed_here"] (L2.aj BC):=dC
def BO (cN cL T:Addr):cu:=λxs J Q _=>∃p L dv,xs=[.ref p,dv]∧bh cN cL J p L∧cm L ∧
 ((∃n x v,dv=gE n x v∧J T=some .tab∧good n=true∧OK x v∧n ∉ L.cs.map Cf.n∧L.row.length < 12∧L.cs.length < 100∧n.length≤sizeLine∧∀J' L',bh cN cL J' p L'→cm L'→L.joined n x v L'→Mv J J' (L.own p) (L'.own p)→Q (.fl []) J') ∨
  (∃n v,dv=j_ n v∧n∈L.row∧v.natAbs≤1000∧(∀c∈L.cs,c.w.length < 200)∧∀J' L',bh cN cL J' p L'→cm L'→L'.cs=L.cs.map (dI n L.t v)→L'.t=L.t→Mv J J' (L.own p) (L'.own p)→Q (.fl []) J') ∨
  (dv=jq∧(∀c∈L.cs,c.w.length < 200)∧∀J' L',bh cN cL J' p L'→cm L'→L'.cs=L.cs.map (eL L.t)→L'.t=L.t→Mv J J' (L.own p) (L'.own p)→Q (.fl []) J') ∨
  (∃n,dv=il n∧n∈L.row∧∀J' L',bh cN cL J' p L'→cm L'→L'.cs=L.cs.map (bW n L.t)→L'.t=L.t→Mv J J' (L.own p) (L'.own p)→Q (.fl []) J') ∨
  (∃m:Rat,dv=Lh m∧iY m.num m.den=true∧L.t≤m∧∀J' o',bh cN cL J' p { L with t:=m,o:=o',row:=cO m L.fs }→cm { L with t:=m,o:=o',row:=cO m L.fs }→Mv J J' (L.own p) (Ln.own { L with t:=m,o:=o',row:=cO m L.fs } p)→Q (.fl ((qi L.t (L.fs.map (key L.t)) m).map aJ.v)) J'))
theorem GC {cN cL T eB eF eT eU eC eM eP f:Addr} {fd:FuncData} (F:cg K "_law_done" "_law_done" BC f fd) (Z:bN mg) (eX:bU P w K mg base cN 8 "join" jI (x8 cN cL T eB eF eT eU)) (d4:bU P w K mg base cN 2 "leave" iu (tQ cN cL eC)) (eY:bU P w K mg base cN 8 "turn" jJ (x9 cN cL eC eF)) (jy:bU P w K mg base cN 8 "about" mh (zQ cN cL)) (jB:bU P w K mg base cN 8 "go_to" ml (Mc cN cL eM eP)):aO P w K mg base (cK P w) 9 f fd ot (dg K (BO cN cL T)):=by
 simp_arith [KC,(fi (aR (aB (bT hr.aL) (aq ar (rv 1) ag) bF) (ak (aX (aV (pl:=_) eX B hr (rv 0) (af (aq ar (rv 1) ag) (af (aq ar (rv 1) ag) (af (aq ar (rv 1) ag) ah)))))) aF)
   (fi (aR (aB (bT hr.aL) (aq ar (rv 1) ag) bF) (ak (aX (aV (pl:=_) d4 B hr (rv 0) (af (aq ar (rv 1) ag) ah)))) aF)
   (fi (aR (aB (bT hr.aL) (aq ar (rv 1) ag) bF) (ak (aX (aV (pl:=_) eY B hr (rv 0) (af (aq ar (rv 1) ag) (af (aq ar (rv 1) ag) ah))))) aF)
   (fi (aR (aB (bT hr.aL) (aq ar (rv 1) ag) bF) (ak (aX (dw (pl:=_) jy B hr (rv 0)))) aF)
   (ai (aR (aB (bT hr.aL) (aq ar (rv 1) ag) bF) (ak (ay (aV (pl:=_) jB B hr (rv 0) (af (aq ar (rv 1) ag) ah)))) aF)
   (ak (ay (j8 ah))))))))]
 ·obtain ⟨p,L,dv,rfl,_⟩:=h;rfl
 obtain ⟨p,L,dv,rfl,b,ok,h⟩:=h
 have bo:=b.ob
 refine hX ?_
 rcases h with ⟨n,x,v,rfl,hT,hg,hb,hn,hr12,hc,hl,q⟩ | ⟨n,v,rfl,hn,hv,hw,q⟩ | ⟨rfl,hw,q⟩ | ⟨n,rfl,hn,q⟩ | ⟨m,rfl,hg,hm,q⟩
 ·have i0:∀J,fP J (gE n x v) (.int 0)=some (.str "join"):=λJ=>d_ _ _
  have i1:∀J,fP J (gE n x v) (.int 1)=some (.str n):=λJ=>fZ _ _ _
  have i2:∀J,fP J (gE n x v) (.int 2)=some (.int x):=λJ=>ma _ _ _ _
  have i3:∀J,fP J (gE n x v) (.int 3)=some (.int v):=λJ=>rfl
  refine f9 (λτ' J'=>τ'=[some (.ref p),some (gE n x v)]∧Q (.fl []) J') (wG rfl (i0 _)) ?_ ?_
  ·simp_all! [bo,i1,i2,i3]
   exact ⟨e8 _ _ _ _,p,L,n,x,v,rfl,b,ok,hT,hl,hc,(λz=>by rw [hg] at z;cases z),(λ_ z=>absurd hb z),(λ_ _ z=>absurd z hn),(λ_ _ _ z=>by omega),λ_ _ _ _ J1 L1 b1 ok1 jn mv=>q J1 L1 b1 ok1 jn mv⟩
  rintro τ' J' ⟨rfl,hq⟩
  refine dM rfl (i0 _) (by decide +kernel) ?_
  refine dM rfl (i0 _) (by decide +kernel) ?_
  refine dM rfl (i0 _) (by decide +kernel) ?_
  simp_all! [i0,Me,if_false]
  exact hq
 ·have i0:∀J,fP J (j_ n v) (.int 0)=some (.str "turn"):=λJ=>d_ _ _
  have i1:∀J,fP J (j_ n v) (.int 1)=some (.str n):=λJ=>fZ _ _ _
  have i2:∀J,fP J (j_ n v) (.int 2)=some (.int v):=λJ=>ma _ _ _ _
  refine dM rfl (i0 _) (by decide +kernel) ?_
  refine dM rfl (i0 _) (by decide +kernel) ?_
  refine f9 (λτ' J'=>τ'=[some (.ref p),some (j_ n v)]∧Q (.fl []) J') (wG rfl (i0 _)) ?_ ?_
  ·simp_all! [bo,i1,i2]
   exact ⟨e8 _ _ _ _,p,L,n,v,rfl,b,ok,hw,λz=>absurd hn z,λ_ z=>absurd hv z,λ_ _ J1 L1 b1 ok1 e t1 mv=>q J1 L1 b1 ok1 e t1 mv⟩
  rintro τ' J' ⟨rfl,hq⟩
  refine dM rfl (i0 _) (by decide +kernel) ?_
  simp_all! [i0,Mg,if_false]
  exact hq
 ·have i0:∀J,fP J jq (.int 0)=some (.str "about"):=λJ=>d_ _ _
  refine dM rfl (i0 _) (by decide +kernel) ?_
  refine dM rfl (i0 _) (by decide +kernel) ?_
  refine dM rfl (i0 _) (by decide +kernel) ?_
  refine f9 (λτ' J'=>τ'=[some (.ref p),some (jq)]∧Q (.fl []) J') (wG rfl (i0 _)) ?_ ?_
  ·simp_all! [bo]
   exact ⟨e8 _ _ _ _,p,L,rfl,b,ok,hw,λJ1 L1 b1 ok1 e t1 mv=>q J1 L1 b1 ok1 e t1 mv⟩
  rintro τ' J' ⟨rfl,hq⟩
  simp_all! [i0,Md,if_false]
  exact hq
 ·have i0:∀J,fP J (il n) (.int 0)=some (.str "leave"):=λJ=>d_ _ _
  have i1:∀J,fP J (il n) (.int 1)=some (.str n):=λJ=>fZ _ _ _
  refine dM rfl (i0 _) (by decide +kernel) ?_
  refine f9 (λτ' J'=>τ'=[some (.ref p),some (il n)]∧Q (.fl []) J') (wG rfl (i0 _)) ?_ ?_
  ·simp_all! [bo,i1]
   exact ⟨e8 _ _ _ _,p,L,n,rfl,b,ok,λz=>absurd hn z,λ_ J1 L1 b1 ok1 e t1 mv=>q J1 L1 b1 ok1 e t1 mv⟩
  rintro τ' J' ⟨rfl,hq⟩
  refine dM rfl (i0 _) (by decide +kernel) ?_
  refine dM rfl (i0 _) (by decide +kernel) ?_
  simp_all! [i0,Mf,if_false]
  exact hq
 ·have i0:∀J,fP J (Lh m) (.int 0)=some (.str "go"):=λJ=>d_ _ _
  have i1:∀J,fP J (Lh m) (.int 1)=some (fr m):=λJ=>fZ _ _ _
  refine dM rfl (i0 _) (by decide +kernel) ?_
  refine dM rfl (i0 _) (by decide +kernel) ?_
  refine dM rfl (i0 _) (by decide +kernel) ?_
  refine dM rfl (i0 _) (by decide +kernel) ?_
  simp_all! [i0,i1,if_true,bo]
  refine ⟨e8 _ _ _ _,p,L,m.num,m.den,rfl,b,ok,(λz=>by rw [hg] at z;cases z),λm' e1 e2 _=>?_⟩
  obtain rfl:m'=m:=Rat.ext e1 (by omega)
  exact ⟨λz=>absurd z (Rat.not_lt.mpr hm),λ_ J1 o1 b1 ok1 mv1=>q J1 o1 b1 ok1 mv1⟩
abbrev xF:Stmt:=(top 58)
abbrev oq:List Str:=["_law_row","_law_mode","_law_names_here","_law_used","_law_legs","_law_clock"]
theorem rg:L2.av ["_law_row","_law_mode","_law_names_here","_law_used","_law_legs","_law_clock","_law_there","_law_fresh","_law_name"] ["_law_row","_law_mode","_law_names_here","_law_used","_law_legs","_law_clock"] (L2.aj xF):=dC
def E8 (names used:List Str) (gs:List (Str × aZ)) (t:Rat) (dv:PV):Prop :=
 (∃n x v,dv=gE n x v∧n∈names∧n ∉ used∧gs.length < 12∧x.natAbs≤1000000∧v.natAbs≤1000) ∨
 (∃n v,dv=j_ n v∧n∈gs.map (·.1)∧v.natAbs≤1000)∨dv=jq∨(∃n,dv=il n∧n∈gs.map (·.1))∨∃m,dv=Lh m∧Later t m
def Hw:cu:=λxs J Q _=>∃(r0 r1 r2 r3 r4 r5 m:Int) (names used:List Str) (U D:Addr) (gs:List (Str × aZ)) (ep:Nat) (t:Rat),xs=[.fl [.int r0,.int r1,.int r2,.int r3,.int r4,.int r5],.int m,.fl (names.map .str),.ref U,.ref D,fr t]∧J U=some (.lst (used.map .str))∧J D=some (.dct (bC gs) ep)∧names.length≤40∧gs.length≤100 ∧
 0≤r1∧0≤r2∧0≤r3∧r3 < 2001∧0≤r4∧r4 < 2 ^ 60∧0≤r5∧0≤m∧m < 4∧Sz 900 t∧∀dv,E8 names used gs t dv→Q dv J
theorem jw {c:mI} {a u:iQ} {D:En} {τ:Sr} {J:Hq} (b:Prop) [Decidable b] (hc:∀R:Bool→Hq→Prop,R (decide b) J→c τ J R) (h1:b→∀N,a { D with nx:=N } τ J) (h2:¬ b→u D τ J):bE (By c a sY) u D τ J:=by
 refine hc _ ?_
 by_cases h:b
 ·rw [decide_eq_true h,if_pos rfl];exact h1 h _
 ·rw [decide_eq_false h,if_neg (by decide)];exact h2 h
theorem uY {R:Bool→Hq→Prop} {b c:Bool} {J:Hq} (h:R b J) (e:b=true↔c=true):R c J:=by rw [← VX.mpr e];exact h
theorem n_ {xs:List Str} {r:Int} (h0:0≤r) (hl:0 < xs.length):∃n∈xs,dF (xs.map PV.str) (r % (xs.length:Int))=some (.str n):=by
 obtain ⟨j,hj⟩:∃j:Nat,r % (xs.length:Int)=j:=⟨(r % (xs.length:Int)).toNat,by have:=Int.emod_nonneg r (b:=(xs.length:Int)) (by omega);omega⟩
 have hjl:j < xs.length:=by have:=Int.emod_lt_of_pos r (b:=(xs.length:Int)) (by omega);omega
 exact ⟨xs[j],VG hjl,by rw [hj];exact bA (by rw [U8,U2 hjl];rfl)⟩
theorem GB {f:Addr} {fd:FuncData} (F:cg K "_law_deed" "_law_deed" xF f fd) (Z:bN mg) (EY:bx P w K mg base 1 "_law_placed" kQ vT) (BX:bx P w K mg base 1 "_law_paced" mx zV) (Ip:bx P w K mg base 2 "_law_later" mw C3):aO P w K mg base (cK P w) 3 f fd oq (dg K Hw):=by
 simp_arith [rg,(ai (aE (i:=6) rg.nd (fC (rY rfl) rfl Z.list boot_list (af (rv 4) ah)))
   (ai (Hj (i:=7) (L2.aj xF) ["_law_row","_law_mode","_law_names_here","_law_used","_law_legs","_law_clock","_law_there","_law_fresh","_law_name"] [("_law_used",3)] rfl rfl rfl rg.nd rfl (Or.inl rfl) (fj (rv 2)) (λ_ _ _ _ _ _=>(rv 0)) (λ_ _ _ _ _ _=>(aB qV (rv 0) (rv 1))))
   (ai (aR (cP (dk (aB j3 (aI bV rfl Z.len boot_len (af (rv 7) ah)) ag) (dk (aB gL (aI bV rfl Z.len boot_len (af (rv 6) ah)) ag) (cF (cP (k8 (aB gL (aq ar (rv 0) ag) ag) (gQ (cP (dk (aB gL (aI bV rfl Z.len boot_len (af (rv 6) ah)) ag) (cF (aB gL (aq ar (rv 0) ag) ag))))))))))) (ai (aE (i:=8) rg.nd (aq ar (rv 7) (aG eh (aq ar (rv 0) ag) (aI bV rfl Z.len boot_len (af (rv 7) ah)))))
   (ak (ay (cE (af bF (af (rv 8) (af (aQ EY B hr (af (aq ar (rv 0) ag) (af (rv 1) ah))) (af (aQ BX B hr (af (aq ar (rv 0) ag) (af (rv 1) ah))) ah)))))))) aF)
   (ai (aR (cP (dk (aB GO (aq ar (rv 0) ag) (cE (af ag (af ag ah)))) (cF (aB j3 (aI bV rfl Z.len boot_len (af (rv 6) ah)) ag)))) (ak (ay (cE (af bF (af (aq ar (rv 6) (aG eh (aq ar (rv 0) ag) (aI bV rfl Z.len boot_len (af (rv 6) ah)))) (af (aQ BX B hr (af (aq ar (rv 0) ag) (af (rv 1) ah))) ah)))))) aF)
   (ai (aR (cP (dk (aB (bT hr.aL) (aq ar (rv 0) ag) ag) (cF (aB j3 (aI bV rfl Z.len boot_len (af (rv 6) ah)) ag)))) (ak (ay (cE (af bF (af (aq ar (rv 6) (aG eh (aq ar (rv 0) ag) (aI bV rfl Z.len boot_len (af (rv 6) ah)))) ah))))) aF)
   (ai (aR (aB (bT hr.aL) (aq ar (rv 0) ag) ag) (ak (ay (cE (af bF ah)))) aF)
   (ak (ay (cE (af bF (af (aQ Ip B hr (af (rv 5) (af (aq ar (rv 0) ag) (af (aq ar (rv 0) ag) (af (rv 1) ah))))) ah)))))))))))]
 ·obtain ⟨r0,r1,r2,r3,r4,r5,m,names,used,U,D,gs,ep,t,rfl,_⟩:=h;rfl
 obtain ⟨r0,r1,r2,r3,r4,r5,m,names,used,U,D,gs,ep,t,rfl,hU,hD,hnl,hgl,r10,r20,r30,r31,r40,r41,r50,m0,m1,st,q⟩:=h
 have hkv:(bC gs).map (λkv=>PV.str kv.1)=(gs.map (·.1)).map PV.str:=by unfold bC;rw [U',U'];rfl
 refine hX ?_
 simp_all! [hD,hkv,uW]
 obtain ⟨pn,hpn⟩:∃pn:Str→Bool,∀x,pn x=!decide (x∈used):=⟨_,λ_=>rfl⟩
 refine ⟨λx=>match x with | .str s=>pn s | _=>false,id,⟨by rw [UZ];exact VN hnl (by decide),λJ' sub=>⟨trivial,λx hx=>?_⟩⟩,?_⟩
 ·obtain ⟨s,hs,rfl⟩:=U0.mp hx
  have hU':=sub _ _ hU
  simp_all! [pX]
  refine ⟨⟨s,used,rfl,by show (match J' U with | some (.lst xs)=>some xs | _=>none)=_;rw [hU'],mU rfl ⟨(hpn s).symm,rfl⟩⟩,λ_=>trivial⟩
 have ef:((names.map PV.str).filter λx=>match x with | .str s=>pn s | _=>false).map id=(names.filter pn).map PV.str:=by rw [List.map_id,VH];rfl
 rw [ef]
 have hfr:∀n∈names.filter pn,n∈names∧n ∉ used:=λn hn=>by
  obtain ⟨h1,h2⟩:=U_.mp hn
  rw [hpn] at h2
  exact ⟨h1,by simpa using h2⟩
 generalize names.filter pn=fresh at hfr ⊢
 have gl:(gs.map (·.1)).length=gs.length:=UZ _
 generalize hgn:gs.map (·.1)=gn at gl q ⊢
 refine hNq _ _ ?_
 clear hNq Nq
 refine jw (0 < fresh.length∧gs.length < 12∧(r0 < 3∨gs.length < 2∧r0 < 8)) (λR hR=>?_) (λhb N=>?_) (λhb=>?_)
 ·simp_arith! [bE,UZ]
  (repeat' (first | split | simp_arith! [bE,UZ])) <;> exact uY hR (by simp only [decide_eq_true_eq,Vd,eq_self,iff_true,iff_false];omega)
 ·obtain ⟨n,hn,ha⟩:=n_ r10 hb.1
  simp_all! [UZ,ha]
  refine ⟨by omega,?_⟩
  simp_all! []
  refine ⟨r2,m,rfl,r20,λx hx=>⟨r3,m,rfl,r30,r31,λv hv=>?_⟩⟩
  exact q _ (.inl ⟨n,x,v,rfl,(hfr n hn).1,(hfr n hn).2,hb.2.1,hx,hv⟩)
 refine jw ((r0=3∨r0=4)∧0 < gs.length) (λR hR=>?_) (λhb N=>?_) (λhb=>?_)
 ·simp_all! [UZ]
  refine ⟨r0,[3,4],rfl,rfl,mU rfl ?_⟩
  (repeat' (first | split | simp_arith! [bE,UZ])) <;> exact uY hR (by simp only [decide_eq_true_eq,Vd,id_eq,Vb,Vm,or_false,eq_self,iff_true,iff_false] at *;omega)
 ·obtain ⟨n,hn,ha⟩:=n_ (xs:=gn) r10 (by omega)
  simp_all! [UZ,ha]
  refine ⟨by omega,?_⟩
  simp_all! []
  refine ⟨r3,m,rfl,r30,r31,λv hv=>?_⟩
  exact q _ (.inr (.inl ⟨n,v,rfl,by rw [hgn];exact hn,hv⟩))
 refine jw (r0=5∧2 < gs.length) (λR hR=>?_) (λhb N=>?_) (λhb=>?_)
 ·simp_arith! [bE,UZ]
  (repeat' (first | split | simp_arith! [bE,UZ])) <;> exact uY hR (by simp only [decide_eq_true_eq,Vd,eq_self,iff_true,iff_false];omega)
 ·obtain ⟨n,hn,ha⟩:=n_ (xs:=gn) r10 (by omega)
  simp_all! [UZ,ha]
  exact ⟨by omega,q _ (.inr (.inr (.inr (.inl ⟨n,rfl,by rw [hgn];exact hn⟩))))⟩
 refine jw (r0=6) (λR hR=>?_) (λhb N=>?_) (λhb=>?_)
 ·simp_arith! [bE]
  exact uY hR (by simp only [decide_eq_true_eq,Vd])
 ·simp_all! []
  exact q _ (.inr (.inr (.inl rfl)))
 simp_all! []
 exact ⟨t,r4,r5,m,rfl,r40,r50,m0,m1,r41,st,λm' hm'=>q _ (.inr (.inr (.inr (.inr ⟨m',rfl,hm'⟩))))⟩
theorem FR {m:Rat} (h0:0≤m) (hd:m.den≤60) (h1:m.num≤1000000 * (m.den:Int)):iY m.num m.den=true:=by
 refine decide_eq_true ⟨by omega,by have:=m.den_pos;omega,?_,Rat.num_nonneg.mpr h0,h1⟩
 have:=m.reduced
 unfold Int.gcd
 exact this
theorem DZ {c q:Rat} (h:Later c q) (hc:c.den≤60):q.den≤60:=by
 rcases h with rfl | ⟨u,s,u0,u1,s0,s1,rfl⟩
 ·exact hc
 ·have:=wA (t:=(c.num * (u:Int)).fdiv (c.den:Int) + (s:Int)) (b:=(u:Int)) (by omega)
  omega
theorem Ng {q:Rat}:q.num≤1000000 * (q.den:Int)↔q≤1000000:=by
 rw [Rat.le_iff]
 have h3:(1000000:Rat).num=1000000:=rfl
 have h4:((1000000:Rat).den:Int)=1:=rfl
 rw [h3,h4]
 omega
abbrev BI:Stmt:=(top 65)
abbrev oz:List Str:=["_law_lane","_law_names_here","_law_cells","_law_mode"]
theorem ie:L2.av ["_law_lane","_law_names_here","_law_cells","_law_mode","_law_legs","_law_used","_law_clock","_law_cell_here","_law_row","_law_deed_here"] ["_law_lane","_law_names_here","_law_cells","_law_mode"] (L2.aj BI):=dC
structure Wk (cN cL:Addr) (J0:Hq) (S0:Addr→Prop) (J:Hq) (p:Addr) (L:Ln) (D U:Addr) (gs:List (Str × aZ)) (ep:Nat) (used:List Str) (k:Nat):Prop where
 b:bh cN cL J p L
 ok:cm L
 rl:Rl L gs
 hD:J D=some (.dct (bC gs) ep)
 hU:J U=some (.lst (used.map .str))
 nD:¬ L.own p D
 nU:¬ L.own p U
 mv:Mv J0 J S0 (λa=>L.own p a∨a=D∨a=U)
 td:L.t.den≤60
 tl:L.t≤((500 * k:Nat):Rat)
 wl:∀c∈L.cs,c.w.length≤1 + k
theorem Rl.go {L:Ln} {gs:List (Str × aZ)} (h:Rl L gs) {m:Rat} (hm:L.t≤m) {o:Addr} {row:List Str}:Rl { L with t:=m,o:=o,row:=row } gs:=⟨h.nm,h.ln,h.ck,λx hx=>Rat.le_trans (h.le x hx) hm,h.ct⟩
theorem F' {c q:Rat} (h:Later c q) (c0:0≤c):q≤c + 500:=by
 rcases h with rfl | ⟨u,s,u0,u1,s0,s1,rfl⟩
 ·grind
 rw [Rat.divInt_eq_div]
 have hu:(0:Rat) < ((u:Int):Rat):=by exact_mod_cast (show (0:Int) < u by omega)
 have h1:((s:Int):Rat)≤500 * ((u:Int):Rat):=by exact_mod_cast (show (s:Int)≤500 * u by omega)
 have hd:(0:Rat) < ((c.den:Int):Rat):=by exact_mod_cast (show (0:Int) < c.den by have:=c.den_pos;omega)
 have h2:((((c.num * (u:Int)).fdiv (c.den:Int)):Int):Rat)≤c * ((u:Int):Rat):=by
  have e1:(c.num * (u:Int)).fdiv (c.den:Int) * (c.den:Int)≤c.num * u:=by
   rw [Int.fdiv_eq_ediv_of_nonneg _ (by omega)]
   exact Int.ediv_mul_le _ (by have:=c.den_pos;omega)
  have e2:((((c.num * (u:Int)).fdiv (c.den:Int)):Int):Rat) * ((c.den:Int):Rat)≤(c.num:Rat) * ((u:Int):Rat):=by
   rw [← Rat.intCast_mul,← Rat.intCast_mul];exact Rat.intCast_le_intCast.mpr e1
  have e3:(c.num:Rat)=c * ((c.den:Int):Rat):=cast_eq c
  rw [e3] at e2
  generalize ((((c.num * (u:Int)).fdiv (c.den:Int)):Int):Rat)=x at e2 ⊢
  generalize ((c.den:Int):Rat)=y at e2 hd
  generalize ((u:Int):Rat)=z at e2 ⊢
  by_cases k:c * z < x
  ·have:0 < (x - c * z) * y:=Rat.mul_pos (by grind) hd
   grind
  ·grind
 rw [Rat.intCast_add]
 generalize ((((c.num * (u:Int)).fdiv (c.den:Int)):Int):Rat)=a at h2 ⊢
 generalize ((s:Int):Rat)=x at h1 ⊢
 generalize ((u:Int):Rat)=y at h1 h2 hu ⊢
 have e:(a + x) / y * y=a + x:=by grind
 generalize (a + x) / y=z at e ⊢
 by_cases k:c + 500 < z
 ·have:0 < (z - (c + 500)) * y:=Rat.mul_pos (by grind) hu
  grind
 ·grind
section
variable {cN cL:Addr} {J0 J:Hq} {S0:Addr→Prop} {p:Addr} {L:Ln} {D U:Addr} {gs:List (Str × aZ)} {ep:Nat} {used:List Str} {k:Nat}
theorem Wk.ne (h:Wk cN cL J0 S0 J p L D U gs ep used k):U≠D:=λe=>by have:=h.hU;rw [e,h.hD] at this;cases this
theorem Wk.kept (h:Wk cN cL J0 S0 J p L D U gs ep used k) {T:Addr} {o:HQ} (hT:J0 T=some o) (nT:¬ S0 T):J T=some o:=h.mv.keep _ _ hT nT
theorem Wk.next (h:Wk cN cL J0 S0 J p L D U gs ep used k) {J1:Hq} {L1:Ln} {gs1:List (Str × aZ)} {k1:Nat} (b1:bh cN cL J1 p L1) (ok1:cm L1) (mv:Mv J J1 (L.own p) (L1.own p)) (rl1:Rl L1 gs1) (td:L1.t.den≤60) (tl:L1.t≤((500 * k1:Nat):Rat)) (wl:∀c∈L1.cs,c.w.length≤1 + k1) (ep':Nat):Wk cN cL J0 S0 (put J1 D (.dct (bC gs1) ep')) p L1 D U gs1 ep' used k1:=by
 have new:∀{x o},J x=some o→¬ L.own p x→¬ L1.own p x:=λhx nx z=>by
  rcases mv.own _ z with q | q
  ·exact nx q
  ·rw [hx] at q;cases q
 have nD1:=new h.hD h.nD
 have hD1:=mv.keep _ _ h.hD h.nD
 have hU1:=mv.keep _ _ h.hU h.nU
 have mv1:Mv J J1 (λa=>L.own p a∨a=D∨a=U) (λa=>L1.own p a∨a=D∨a=U) :=
  ⟨λa o e n=>mv.keep a o e λz=>n (.inl z),λa z=>z.elim (λz=>(mv.own a z).imp .inl id) (λz=>.inl (.inr z)),mv.mono⟩
 refine ⟨b1.keep λa u ow e=>?_,ok1,rl1,ax,?_,nD1,new h.hU h.nU,(h.mv.trans mv1).trans (gG (.inr (.inl rfl)) λa z=>.inl z),td,tl,wl⟩
 ·rw [aw (λz=>by subst z;exact nD1 ow)];exact e
 ·rw [aw h.ne];exact hU1
theorem Wk.push (h:Wk cN cL J0 S0 J p L D U gs ep used k) (n:Str):Wk cN cL J0 S0 (put J U (.lst ((used ++ [n]).map .str))) p L D U gs ep (used ++ [n]) k:=by
 refine ⟨h.b.keep λa u ow e=>?_,h.ok,h.rl,?_,ax,h.nD,h.nU,h.mv.trans (gG (.inr (.inr rfl)) λa z=>.inl z),h.td,h.tl,h.wl⟩
 ·rw [aw (λz=>by subst z;exact h.nU ow)];exact e
 ·rw [aw (λe=>h.ne e.symm)];exact h.hD
theorem Wk.up (h:Wk cN cL J0 S0 J p L D U gs ep used k):Sz 900 L.t∧(gs.map (·.1)).Nodup∧gs.length≤12∧∀x∈gs,oX 900 x.2 :=
 ⟨h.ok.HX,h.rl.nd h.ok.tobc,by rw [h.rl.len];exact h.ok.Ph,λx hx=>(h.rl.sz x hx).mono (by decide)⟩
end
theorem Ba {q:Rat} {k:Nat} (hk:k≤2000) (h:q≤((500 * k:Nat):Rat)):q≤1000000:=by
 refine Rat.le_trans h ?_
 have:((500 * k:Nat):Rat)≤((1000000:Nat):Rat):=by exact_mod_cast (show 500 * k≤1000000 by omega)
 exact this
theorem Dg {a b:Rat} {k:Nat} (h:b≤a + 500) (ha:a≤((500 * k:Nat):Rat)):b≤((500 * (k + 1):Nat):Rat):=by
 have e:((500 * (k + 1):Nat):Rat)=((500 * k:Nat):Rat) + 500:=by
  rw [show 500 * (k + 1)=500 * k + 500 by omega];exact Rat.natCast_add _ _
 rw [e];grind
theorem KP {a:Rat} {k:Nat} (ha:a≤((500 * k:Nat):Rat)):a≤((500 * (k + 1):Nat):Rat):=Dg (a:=a) (by grind) ha
theorem Ck {n:Str} (hg:good n=true):n.length≤sizeLine:=by
 have h8:n.cps.size≤8:=by
  unfold good at hg
  rw [Vq,Vq] at hg
  exact of_decide_eq_true hg.1.2
 exact Vh h8 (by decide)
theorem EO {cN cL T p D U:Addr} {J0 J:Hq} {S0:Addr→Prop} {L:Ln} {gs:List (Str × aZ)} {ep:Nat} {used names:List Str} {i:Nat} {dv:PV} {E2:Addr→Hq→Prop} {Dn:En} {τ:Sr} {iL iU iD iC iV:Nat}
  (hL:τ[iL]?=some (some (.ref p))) (hU:τ[iU]?=some (some (.ref U))) (hDt:τ[iD]?=some (some (.ref D))) (hC:τ[iC]?=some (some (fr L.t))) (hV:τ[iV]?=some (some dv))
  (wk:Wk cN cL J0 S0 J p L D U gs ep used i) (hun:L.cs.map Cf.n=used) (hus:∀n∈used,n∈names) (hul:used.length≤i) (hi:i < 90) (hng:∀n∈names,good n=true) (hT:J0 T=some .tab) (nT:¬ S0 T) (hdv:E8 names used gs L.t dv)
  (fin:∀J1 L1 gs1 ep1 used1 t1,L1.t=t1→Wk cN cL J0 S0 J1 p L1 D U gs1 ep1 used1 (i + 1)→L1.cs.map Cf.n=used1→(∀n∈used1,n∈names)→used1.length≤i + 1→Dn.nx (τ.set iC (some (fr t1))) J1) :
  Hc (By (rB (yh (LQ id) (yh LU (jL iV) (rC (.int 0))) (rC (.str "join")))) (CL (Te "list" xx (jL iU) (kZ (yh LU (jL iV) (rC (.int 1))) uX))) sY)
   (bE (CL (zu (BO cN cL T) E2 (kZ (jL iL) (kZ (jL iV) uX)))) (uV (zu xY E2 (kZ (jL iD) (kZ (jL iC) (kZ (jL iV) uX)))) (Ji iC))) Dn τ J:=by
 obtain ⟨st,gnd,gl,gsz⟩:=wk.up
 have hT':∀{J1:Hq} {L1 gs1 ep1 us k1},Wk cN cL J0 S0 J1 p L1 D U gs1 ep1 us k1→J1 T=some .tab:=λwk'=>wk'.kept hT nT
 have hw200:∀c∈L.cs,c.w.length < 200:=λc hc=>by have:=wk.wl c hc;omega
 have tl1:L.t≤((500 * (i + 1):Nat):Rat):=KP wk.tl
 have hfl:L.fs.length=gs.length:=wk.rl.len.symm
 have hrow:∀n,n∈gs.map (·.1)→n∈L.row:=λn hn=>(wk.ok.rm n).mpr (by rw [← wk.rl.nm];exact hn)
 rcases hdv with ⟨n,x,v,rfl,hn,hnu,hgl,hx,hv⟩ | ⟨n,v,rfl,hn,hv⟩ | rfl | ⟨n,rfl,hn⟩ | ⟨m',rfl,hm'⟩
 ·have i0:∀J,fP J (gE n x v) (.int 0)=some (.str "join"):=λJ=>d_ _ _
  have i1:∀J,fP J (gE n x v) (.int 1)=some (.str n):=λJ=>fZ _ _ _
  refine f9 (λτ' J2=>τ'=τ∧J2=put J U (.lst ((used ++ [n]).map .str))) (wG hV (i0 _)) ?_ ?_
  ·simp_all! [hU,hV,i1,wk.hU,UZ]
   exact ⟨Vf (show used.length < 100 by omega) (by decide),by rw [U7];rfl⟩
  rintro τ' J2 ⟨rfl,rfl⟩
  have wk2:=wk.push n
  generalize put J U (.lst ((used ++ [n]).map .str))=J2 at wk2 ⊢
  have hnc:n ∉ L.cs.map Cf.n:=by rw [hun];exact hnu
  have hcl':L.cs.length < 100:=by have:=congrArg V0 hun;rw [UZ] at this;omega
  have hnf:n ∉ L.fs.map (·.1):=λz=>hnc (by
   rw [dR,U0] at z
   obtain ⟨c',hc',e'⟩:=z
   exact U0.mpr ⟨c',(Ln.cV.mp hc').1,e'⟩)
  simp_all! [hL,hDt,hC,hV]
  refine ⟨p,L,_,rfl,wk2.b,wk2.ok,.inl ⟨n,x,v,rfl,hT' wk2,hng n hn,⟨hx,hv⟩,hnc,by rw [wk.ok.row,sL];omega,hcl',Ck (hng n hn),λJ3 L3 b3 ok3 jn mv3=>?_⟩⟩
  have rl3:=wk2.rl.join ok3.tobc hv hx jn wk.ok.t0 wk.ok.ts hnf
  obtain ⟨a,r,ecs,et⟩:=jn
  simp_all! [hL,hDt,hC,hV]
  refine ⟨D,gs,ep,L.t,_,rfl,mv3.keep _ _ wk2.hD wk2.nD,gnd,by omega,st,gsz,.inl ⟨n,x,v,rfl,by rw [wk.rl.nm];exact hnf,λep'=>?_⟩⟩
  refine fin _ L3 _ ep' (used ++ [n]) _ et (wk2.next b3 ok3 mv3 rl3 (by rw [et];exact wk.td) (by rw [et];exact tl1) (λc hc=>?_) ep') ?_ (λy hy=>?_) (by rw [Vg];show used.length + 1≤_;omega)
  ·rw [ecs] at hc
   rcases U9.mp hc with hc | hc
   ·have:=wk.wl c hc;omega
   ·rw [Vc] at hc;subst hc;show 1≤_;omega
  ·rw [ecs,U7,hun];rfl
  ·rcases U9.mp hy with hy | hy
   ·exact hus y hy
   ·rw [Vc] at hy;subst hy;exact hn
 ·have i0:∀J,fP J (j_ n v) (.int 0)=some (.str "turn"):=λJ=>d_ _ _
  refine dM hV (i0 _) (by decide +kernel) ?_
  simp_all! [hL,hDt,hC,hV]
  refine ⟨p,L,_,rfl,wk.b,wk.ok,.inr (.inl ⟨n,v,rfl,hrow n hn,hv,hw200,λJ3 L3 b3 ok3 e t1 mv3=>?_⟩)⟩
  simp_all! [hL,hDt,hC,hV]
  refine ⟨D,gs,ep,L.t,_,rfl,mv3.keep _ _ wk.hD wk.nD,gnd,by omega,st,gsz,.inr (.inl ⟨n,v,rfl,hn,λep'=>?_⟩)⟩
  refine fin _ L3 _ ep' used _ t1 (wk.next b3 ok3 mv3 (wk.rl.turn wk.ok.tobc hv e t1) (by rw [t1];exact wk.td) (by rw [t1];exact tl1) (λc hc=>?_) ep') (by rw [e,fb (λc=>(oT n L.t v c).1)];exact hun) hus (by omega)
  rw [e] at hc
  obtain ⟨c0,h0,rfl⟩:=U0.mp hc
  have h1:=wk.wl c0 h0
  unfold dI
  split
  ·have:=nq c0.w L.t v
   show (turned c0.w L.t v).length≤_
   omega
  ·omega
 ·have i0:∀J,fP J jq (.int 0)=some (.str "about"):=λJ=>d_ _ _
  refine dM hV (i0 _) (by decide +kernel) ?_
  simp_all! [hL,hDt,hC,hV]
  refine ⟨p,L,_,rfl,wk.b,wk.ok,.inr (.inr (.inl ⟨rfl,hw200,λJ3 L3 b3 ok3 e t1 mv3=>?_⟩))⟩
  simp_all! [hL,hDt,hC,hV]
  refine ⟨D,gs,ep,L.t,_,rfl,mv3.keep _ _ wk.hD wk.nD,gnd,by omega,st,gsz,.inr (.inr (.inl ⟨rfl,λep'=>?_⟩))⟩
  refine fin _ L3 _ ep' used _ t1 (wk.next b3 ok3 mv3 (wk.rl.about wk.ok.tobc e t1) (by rw [t1];exact wk.td) (by rw [t1];exact tl1) (λc hc=>?_) ep') (by rw [e,fb (λc=>(yw L.t c).1)];exact hun) hus (by omega)
  rw [e] at hc
  obtain ⟨c0,h0,rfl⟩:=U0.mp hc
  have h1:=wk.wl c0 h0
  unfold eL
  split
  ·have:=nq c0.w L.t (-c0.cur.v)
   show (turned c0.w L.t (-c0.cur.v)).length≤_
   omega
  ·omega
 ·have i0:∀J,fP J (il n) (.int 0)=some (.str "leave"):=λJ=>d_ _ _
  refine dM hV (i0 _) (by decide +kernel) ?_
  simp_all! [hL,hDt,hC,hV]
  refine ⟨p,L,_,rfl,wk.b,wk.ok,.inr (.inr (.inr (.inl ⟨n,rfl,hrow n hn,λJ3 L3 b3 ok3 e t1 mv3=>?_⟩)))⟩
  simp_all! [hL,hDt,hC,hV]
  refine ⟨D,gs,ep,L.t,_,rfl,mv3.keep _ _ wk.hD wk.nD,gnd,by omega,st,gsz,.inr (.inr (.inr (.inl ⟨n,rfl,hn,λep'=>?_⟩)))⟩
  refine fin _ L3 _ ep' used _ t1 (wk.next b3 ok3 mv3 (wk.rl.leave e t1) (by rw [t1];exact wk.td) (by rw [t1];exact tl1) (λc hc=>?_) ep') (by rw [e,fb (λc=>(fJ n L.t c).1)];exact hun) hus (by omega)
  rw [e] at hc
  obtain ⟨c0,h0,rfl⟩:=U0.mp hc
  have h1:=wk.wl c0 h0
  rw [(fJ n L.t c0).2.2.2];omega
 ·have i0:∀J,fP J (Lh m') (.int 0)=some (.str "go"):=λJ=>d_ _ _
  refine dM hV (i0 _) (by decide +kernel) ?_
  have tl3:=Dg (F' hm' wk.ok.t0) wk.tl
  have td3:=DZ hm' wk.td
  have hg:iY m'.num m'.den=true:=FR (Rat.le_trans wk.ok.t0 (hm'.le)) td3 (Ng.mpr (Ba (by omega) tl3))
  simp_all! [hL,hDt,hC,hV]
  refine ⟨p,L,_,rfl,wk.b,wk.ok,.inr (.inr (.inr (.inr ⟨m',rfl,hg,hm'.le,λJ3 o3 b3 ok3 mv3=>?_⟩)))⟩
  simp_all! [hL,hDt,hC,hV]
  have hD3:=mv3.keep _ _ wk.hD wk.nD
  refine ⟨D,gs,ep,L.t,_,rfl,hD3,gnd,by omega,st,gsz,.inr (.inr (.inr (.inr ⟨m',rfl,?_⟩)))⟩
  have w3:=wk.next b3 ok3 mv3 (wk.rl.go hm'.le) td3 tl3 (λc hc=>by have:=wk.wl c hc;omega) ep
  rw [Bx hD3] at w3
  exact fin _ _ _ ep used _ rfl w3 hun hus (by omega)
def HE (cN cL T:Addr):cu:=λxs J Q _=>∃(p:Addr) (L0:Ln) (names:List Str) (cells:List Int) (m:Int),xs=[.ref p,.fl (names.map .str),.fl (cells.map .int),.int m]∧bh cN cL J p L0∧cm L0∧L0.cs=[]∧L0.t=0∧J T=some .tab∧names.length≤40∧(∀n∈names,good n=true)∧cells.length≤40∧0≤m∧m < 4 ∧
 ∀J' L D U gs ep used,Wk cN cL J (L0.own p) J' p L D U gs ep used cells.length→L.cs.map Cf.n=used→(∀n∈used,n∈names)→used.length≤cells.length→Q (.tup [.ref D,fr L.t,.ref U]) J'
theorem GH {cN cL T f:Addr} {fd:FuncData} (F:cg K "_law_walk" "_law_walk" BI f fd) (Z:bN mg) (e9:bx P w K mg base 1 "_law_digits" cZ BN) (Ml:bx P w K mg base 3 "_law_deed" oq Hw) (Mm:bx P w K mg base 9 "_law_done" ot (BO cN cL T)) (Im:bx P w K mg base 3 "_law_acted" mq xY):aO P w K mg base (cK P w) 10 f fd oz (dg K (HE cN cL T)):=by
 simp_arith [ie,(ai (aE (i:=4) ie.nd CO)
   (ai (aE (i:=5) ie.nd (mZ ah))
   (ai (aE (i:=6) ie.nd (cE (af ag (af ag ah))))
   (ai (eu b_ rfl (fj (rv 2)) (bK (i:=7) ie.nd) (ai (aE (i:=8) ie.nd (aQ e9 B hr (af (rv 7) (af (j8 (sZ [.int 10,.int 97,.int 2000001,.int 2001,.int 400000,.int 60] rfl [.int 10,.int 97,.int 2000001,.int 2001,.int 400000,.int 60] rfl)) ah))))
   (ai (aE (i:=9) ie.nd (aQ Ml B hr (af (rv 8) (af (rv 3) (af (rv 1) (af (rv 5) (af (rv 4) (af (rv 6) ah))))))))
   (fi (aR (aB (bT hr.aL) (aq ar (rv 9) ag) bF) (ak (aX (mC PySem.F.plainAttrs_list PySem.F.slot_list_append PySem.F.type_list_append pA (rv 5) (af (aq ar (rv 9) ag) ah)))) aF)
   (ai (aX (aQ Mm B hr (af (rv 0) (af (rv 9) ah))))
   (ak (aE (i:=6) ie.nd (aQ Im B hr (af (rv 4) (af (rv 6) (af (rv 9) ah)))))))))))
   (ak (ay (cE (af (rv 4) (af (rv 6) (af (rv 5) ah))))))))))]
 ·obtain ⟨p,L0,names,cells,m,rfl,_⟩:=h;rfl
 obtain ⟨p,L0,names,cells,m,rfl,b,ok,cs0,t0,hT,hnl,hng,hcl,m0,m1,q⟩:=h
 refine hX ?_
 simp_all! []
 intro D hD ep
 simp_all! []
 intro U hU
 have nDU:D≠U:=λe=>by subst e;rw [ax] at hU;cases hU
 have hU0:J U=none:=by rw [aw (λe=>nDU e.symm)] at hU;exact hU
 have w0:Wk cN cL J (L0.own p) (put (put J D (.dct [] ep)) U (.lst [])) p L0 D U [] ep [] 0:=by
  refine ⟨(b.fresh hD).fresh hU,ok,⟨by unfold Ln.fs Ln.EX;rw [cs0];rfl,(by simp),(by simp),(by simp),(by rw [cs0];simp)⟩,by rw [aw nDU];exact ax,ax,λz=>b.some z hD,λz=>b.some z hU0,?_,by rw [t0];decide,by rw [t0];decide,by rw [cs0];simp⟩
  have hh:=(Mv.Eb (S:=L0.own p) (o:=.dct [] ep) hD).trans (Mv.Eb (o:=.lst []) hU)
  exact ⟨hh.keep,λa z=>hh.own a (z.elim (λz=>.inl (.inl z)) λz=>z.elim (λz=>.inl (.inr z)) .inr),hh.mono⟩
 generalize put (put J D (.dct [] ep)) U (.lst [])=J1 at w0 ⊢
 clear hU hU0
 simp_all! []
 obtain ⟨Inv,hInv⟩:∃Inv:Nat→Sr→Hq→Prop,∀i τ J',Inv i τ J'↔∃(L:Ln) (gs:List (Str × aZ)) (ep:Nat) (used:List Str) (u7 u8 u9:Option PV),τ=[some (.ref p),some (.fl (names.map .str)),some (.fl (cells.map .int)),some (.int m),some (.ref D),some (.ref U),some (fr L.t),u7,u8,u9]∧Wk cN cL J (L0.own p) J' p L D U gs ep used i∧L.cs.map Cf.n=used∧(∀n∈used,n∈names)∧used.length≤i:=⟨_,λ_ _ _=>Iff.rfl⟩
 refine gA Inv ((hInv _ _ _).mpr ⟨L0,[],ep,[],_,_,_,by rw [t0];rfl,w0,by rw [cs0];rfl,(by simp),U4 _⟩) (λ_ _ _ _=>trivial) ?_ ?_
 ·intro i x τ J' hx hv
  obtain ⟨L,gs,ep,used,u7,u8,u9,rfl,wk,hun,hus,hul⟩:=(hInv _ _ _).mp hv
  clear hv
  have hi:i < cells.length:=by have:=(U1.mp hx).1;simpa using this
  rw [U8,U2 hi] at hx
  cases hx
  generalize cells[i]=c
  simp_all! []
  refine ⟨c,[10,97,2000001,2001,400000,60],rfl,oK (by decide),by decide,λds hG=>?_⟩
  obtain ⟨r0,ds,rfl,_,_,hG⟩:=hG.cons
  obtain ⟨r1,ds,rfl,r10,_,hG⟩:=hG.cons
  obtain ⟨r2,ds,rfl,r20,_,hG⟩:=hG.cons
  obtain ⟨r3,ds,rfl,r30,r31,hG⟩:=hG.cons
  obtain ⟨r4,ds,rfl,r40,r41,hG⟩:=hG.cons
  obtain ⟨r5,ds,rfl,r50,_,hG⟩:=hG.cons
  cases hG.nil
  obtain ⟨st,gnd,gl,gsz⟩:=wk.up
  simp_all! []
  refine ⟨r0,r1,r2,r3,r4,r5,m,names,used,U,D,gs,ep,L.t,rfl,wk.hU,wk.hD,hnl,by omega,r10,r20,r30,r31,r40,by omega,r50,m0,m1,st,λdv hdv=>?_⟩
  refine hNq _ _ ?_
  clear hNq Nq
  refine EO (iL:=0) (iU:=5) (iD:=4) (iC:=6) (iV:=9) rfl rfl rfl rfl rfl wk hun hus hul (by omega) hng hT (b.Ny hT) hdv λJ1 L1 gs1 ep1 used1 t1 e1 wk1 h1 h2 h3=>?_
  subst e1
  exact (hInv _ _ _).mpr ⟨L1,gs1,ep1,used1,_,_,_,rfl,wk1,h1,h2,h3⟩
 ·intro τ J' hv
  obtain ⟨L,gs,ep,used,u7,u8,u9,rfl,wk,hun,hus,hul⟩:=(hInv _ _ _).mp hv
  simp_all! []
  rw [UZ] at wk hul
  exact q J' L D U gs ep used wk hun hus hul
def yB (ns:List Int) (k:Int):Int:=if k < (ns.length:Int) then ns.getD k.toNat 0 else 5 + 17 * k
def CU:cu:=λxs J Q _=>∃(ns:List Int) (k:Int),xs=[.fl (ns.map .int),.int k]∧0≤k∧k < 1000∧Q (.int (yB ns k)) J
theorem GA {f:Addr} {fd:FuncData} (F:cg K "_law_cell" "_law_cell" BB f fd) (Z:bN mg):aO P w K mg base (cK P w) 1 f fd om (dg K CU):=by
 simp_arith [KA,(ai (aR (aB gL (rv 1) (aI bV rfl Z.len boot_len (af (rv 0) ah))) (ak (ay (aq ar (rv 0) (rv 1)))) aF)
   (ak (ay (aG cX ag (aG bP ag (rv 1))))))]
 ·obtain ⟨ns,k,rfl,_⟩:=h;rfl
 obtain ⟨ns,k,rfl,h0,h1,q⟩:=h
 unfold yB at q
 refine hX ?_
 simp_arith! [bE,UZ]
 split
 ·rename_i c
  rw [if_pos c] at q
  obtain ⟨j,rfl⟩:=Int.eq_ofNat_of_zero_le h0
  have hj:j < ns.length:=by omega
  refine kM (x:=.int ns[j]) (bA (by rw [U8,U2 hj];rfl)) ?_
  simpa [XE,hj] using q
 ·rename_i c
  rw [if_neg c] at q
  exact ⟨.of (.small (x:=17) (by decide) (by decide)) (.small (x:=k) (by omega) (by omega)),q⟩
def Se:PV→Int
 | .int i=>i
 | _=>0
theorem Fx (ss:List Str):mL (ss.map .str) none (some (-1))=(ss.dropLast).map PV.str:=by
 unfold mL
 rw [HT.zC,Wu,Nat.sub_zero,List.map_dropLast,Wv]
 have e:HT.eR (ss.map PV.str).length (ss.map PV.str).length (some (-1))=(ss.map PV.str).length - 1:=by
  show (if (-1:Int) < 0 then (-1 + ((ss.map PV.str).length:Int)).toNat else min (-1:Int).toNat (ss.map PV.str).length)=_
  rw [if_pos (by decide)];omega
 rw [e]
def AS:List Str:=["BadName","Taken","Full","NoCraft","TooFar","BadMoment","Past","NotThere","NoWatch","NoTale"]
theorem M1:∀i,i < 10→hW i≠"":=by decide +kernel
theorem Jf (i:Nat) (hi:i < 10):AS.map (λx=>decide (x=hW i))=(VA 10).map λj=>decide (i=j):=by
 have:∀i,i < 10→AS.map (λx=>decide (x=hW i))=(VA 10).map λj=>decide (i=j):=by decide +kernel
 exact this i hi
def jl (i:Nat):Str:=if i < 10 then hW i else ""
def gy (i:Nat):List PV:=if i < 10 then ik i else []
theorem rW (j:Nat):Ig (.fl (gy j)):=by
 unfold gy
 split
 ·exact ⟨by simp [ik,G4,pM,Bv,zq (λk=>PV.bl (decide (j=k))) (λk=>Bv _)],by simp [ik,fS,f6,dep,eg,VA,List.range.loop]⟩
 ·exact ⟨by simp [G4,zr],by simp [fS,f6,dep,eg]⟩
abbrev ra:Stmt:=(top 64)
abbrev mr:List Str:=["_law_due"]
theorem zI:L2.av ["_law_due","_law_some"] ["_law_due"] (L2.aj ra):=dC
def Sf:PV→Str
 | .str x=>x
 | _=>""
def zK:cu:=λxs J Q _=>∃i,xs=[.str (jl i)]∧Q (.fl (gy i)) J
theorem Eh {f:Addr} {fd:FuncData} (F:cg K "_law_flags" "_law_flags" ra f fd) (Z:bN mg):aO P w K mg base (cK P w) 1 f fd mr (dg K zK):=by
 simp_arith [zI,(ai (aE (i:=1) zI.nd (j8 (sZ [.str "BadName",.str "Taken",.str "Full",.str "NoCraft",.str "TooFar",.str "BadMoment",.str "Past",.str "NotThere",.str "NoWatch",.str "NoTale"] rfl [.str "BadName",.str "Taken",.str "Full",.str "NoCraft",.str "TooFar",.str "BadMoment",.str "Past",.str "NotThere",.str "NoWatch",.str "NoTale"] rfl)))
   (ai (aR (aB (bT hr.aL) (rv 0) bF) (ak (ay (j8 ah))) aF)
   (ak (ay (aG xh (j8 (af ed ah)) (Ma (L2.aj ra) ["_law_due","_law_some"] [("_law_due",0)] rfl rfl rfl (fj (rv 1)) (λ_ _ _ _ _ _=>(eQ (bT hr.aL) (rv 0) (rv 1)))))))))]
 ·obtain ⟨i,rfl,_⟩:=h;rfl
 obtain ⟨i,rfl,q⟩:=h
 refine hX ?_
 simp_all! []
 by_cases hi:i < 10
 ·unfold jl gy at *
  rw [if_pos hi] at q ⊢
  rw [if_neg (M1 i hi)]
  simp_all! [uW]
  refine ⟨λ_=>true,λx=>.bl (decide (Sf x=hW i)),⟨by decide +kernel,λJ' _=>⟨trivial,λx hx=>⟨⟨rfl,rfl⟩,λ_=>?_⟩⟩⟩,?_⟩
  ·obtain ⟨y,hy,rfl⟩:∃y∈AS,x=.str y:=by
    simp only [Vb,Vm,or_false] at hx
    rcases hx with h | h | h | h | h | h | h | h | h | h <;> subst h <;> exact ⟨_,by decide +kernel,rfl⟩
   simp_arith! [bE,Sf]
   exact rfl
  ·have e:(([.str "BadName",.str "Taken",.str "Full",.str "NoCraft",.str "TooFar",.str "BadMoment",.str "Past",.str "NotThere",.str "NoWatch",.str "NoTale"]:List PV).filter λ_=>true).map (λx=>PV.bl (decide (Sf x=hW i)))=(VA 10).map λj=>PV.bl (decide (i=j)):=by
    have:=congrArg (Xt PV.bl) (Jf i hi)
    rw [U',U'] at this
    exact this
   simp_arith! [bE,e]
   refine ⟨by rw [UZ,Wt];exact di (by decide),q⟩
 ·unfold jl gy at *
  rw [if_neg hi] at q ⊢
  rw [if_pos rfl]
  simp_all! []
  exact q
abbrev iG:Stmt:=(L2.inClass (top 44) 21)
abbrev fg:List Str:=["self","name"]
theorem tJ:L2.av ["self","name"] ["self","name"] (L2.aj iG):=dC
def oN (cN cL eC:Addr):cu:=λxs J Q E=>∃p L n,xs=[.ref p,.str n]∧bh cN cL J p L∧bc L∧(∀c∈L.cs,c.n=n→Q (.ref c.a) J)∧(n ∉ L.cs.map Cf.n→E eC J)
theorem sH {cN cL eC f:Addr} {fd:FuncData} (F:cg K "log_of" "Lane.log_of" iG f fd) (Z:bN mg) (au:dJ K mg "Lane" cN) (aP:aK K cN "logs") (gi:Own K mg "NoCraft" eC):aO P w K mg base (cK P w) 1 f fd fg (dg K (oN cN cL eC)):=by
 simp_arith [tJ,(ai (aR (aB n8 (rv 1) (aW au.cl aP (rv 0))) (ak (dX gi rfl cA B.kn rfl (af bF ah))) aF)
   (ak (ay (aq cR (aW au.cl aP (rv 0)) (rv 1)))))]
 ·obtain ⟨p,L,n,rfl,_⟩:=h;rfl
 obtain ⟨p,L,n,rfl,b,ok,q,qe⟩:=h
 have bo:=b.ob
 have bd:=b.dc
 refine hX ?_
 simp_all! [bo,yT,bd,ok.UB]
 by_cases c:n∈L.cs.map Cf.n
 ·rw [if_pos (by simpa using c)]
  obtain ⟨c0,hc,rfl⟩:=U0.mp c
  simp_all! [bo,yT,bd,ok.va hc]
  exact q c0 hc rfl
 ·rw [if_neg (by simpa using c)]
  simp_all! [fB]
  exact qe c
abbrev lh:Stmt:=(L2.inClass (top 44) 17)
abbrev oa:List Str:=["self","name"]
theorem xO:L2.av ["self","name"] ["self","name"] (L2.aj lh):=dC
def C8 (cN cL eC:Addr):cu:=λxs J Q E=>∃p L n,xs=[.ref p,.str n]∧bh cN cL J p L∧bc L∧(∀c∈L.cs,c.n=n→Q (gv c.g) J)∧(n ∉ L.cs.map Cf.n→E eC J)
theorem wV {cN cL eC f:Addr} {fd:FuncData} (F:cg K "left" "Lane.left" lh f fd) (Z:bN mg) (au:dJ K mg "Lane" cN) (cf:bU P w K mg base cN 1 "log_of" fg (oN cN cL eC)) (mS:bU P w K mg base cL 1 "left" qj (C1 cL)):aO P w K mg base (cK P w) 2 f fd oa (dg K (C8 cN cL eC)):=by
 simp_arith [xO,(ak (ay (dw (pl:=_) mS B hr (aV (pl:=_) cf B hr (rv 0) (af (rv 1) ah)))))]
 ·obtain ⟨p,L,n,rfl,_⟩:=h;rfl
 obtain ⟨p,L,n,rfl,b,ok,q,qe⟩:=h
 have bo:=b.ob
 refine hX ?_
 simp_all! [bo]
 refine ⟨e8 _ _ _ _,p,L,n,rfl,b,ok,λc hc e=>?_,qe⟩
 have lo:=(b.lg c hc).o
 simp_all! [lo]
 exact ⟨SN _ _,c.a,c.r,c.w,c.g,rfl,b.lg c hc,q c hc e⟩
abbrev gR:Stmt:=(L2.inClass (top 44) 16)
abbrev j4:List Str:=["self","name"]
theorem qH:L2.av ["self","name"] ["self","name"] (L2.aj gR):=dC
def C6 (cN cL eC:Addr):cu:=λxs J Q E=>∃p L n,xs=[.ref p,.str n]∧bh cN cL J p L∧bc L∧(∀c∈L.cs,c.n=n→Q (.fl (c.w.map aZ.V)) J∨∀l,J l=none→Q (.ref l) (put J l (.lst (c.w.map aZ.V))))∧(n ∉ L.cs.map Cf.n→E eC J)
theorem qD {cN cL eC f:Addr} {fd:FuncData} (F:cg K "history" "Lane.history" gR f fd) (Z:bN mg) (au:dJ K mg "Lane" cN) (cf:bU P w K mg base cN 1 "log_of" fg (oN cN cL eC)) (mT:bU P w K mg base cL 1 "legs" qk (C2 cL)):aO P w K mg base (cK P w) 2 f fd j4 (dg K (C6 cN cL eC)):=by
 simp_arith [qH,(ak (ay (dw (pl:=_) mT B hr (aV (pl:=_) cf B hr (rv 0) (af (rv 1) ah)))))]
 ·obtain ⟨p,L,n,rfl,_⟩:=h;rfl
 obtain ⟨p,L,n,rfl,b,ok,q,qe⟩:=h
 have bo:=b.ob
 refine hX ?_
 simp_all! [bo]
 refine ⟨e8 _ _ _ _,p,L,n,rfl,b,ok,λc hc e=>?_,qe⟩
 have lo:=(b.lg c hc).o
 simp_all! [lo]
 exact ⟨SM _ _,c.a,c.r,c.w,c.g,rfl,b.lg c hc,q c hc e⟩
theorem Cf.FQ {L:Ln} (ok:bc L) {c:Cf} (hc:c∈L.cs) (hg:c.g≠none):there c.w c.g L.t=false:=by
 obtain ⟨q,e⟩:=Option.ne_none_iff_exists'.mp hg
 obtain ⟨l,ls,ew⟩:=V_ (ok.ne c hc)
 rw [e,ew]
 unfold there
 have h:=(ok.gz c hc q e).2
 simp only [WA,O_]
 rw [decide_eq_false (Rat.not_lt.mpr h),Wa]
abbrev fV:Stmt:=(L2.inClass (top 44) 18)
abbrev jb:List Str:=["self","name","moment"]
theorem ji:L2.av ["self","name","moment","log"] ["self","name","moment"] (L2.aj fV):=dC
def tS (cN cL eC eN:Addr):cu:=λxs J Q E=>∃(p:Addr) (L:Ln) (n:Str) (q:Rat),xs=[.ref p,.str n,fr q]∧bh cN cL J p L∧bc L∧Sz 900 q∧(n ∉ L.cs.map Cf.n→E eC J)∧(n∈L.cs.map Cf.n→L.t < q→E eN J) ∧
 (∀c∈L.cs,c.n=n→q≤L.t→(there c.w c.g q=true→∀l,sx c.w q=some l→Q (fr (l.at q)) J)∧(there c.w c.g q=false→E eN J))
theorem pD {cN cL eC eN f:Addr} {fd:FuncData} (F:cg K "place_at" "Lane.place_at" fV f fd) (Z:bN mg) (au:dJ K mg "Lane" cN) (az:aK K cN "now") (fq:Own K mg "NotThere" eN) (cf:bU P w K mg base cN 1 "log_of" fg (oN cN cL eC)) (kJ:bU P w K mg base cL 5 "place" oi (zM cL eN)) (dO:bx P w K mg base 1 "less" fG dm):aO P w K mg base (cK P w) 6 f fd jb (dg K (tS cN cL eC eN)):=by
 simp_arith [ji,(ai (aE (i:=3) ji.nd (aV (pl:=_) cf B hr (rv 0) (af (rv 1) ah)))
   (ai (aR (bX (aQ dO B hr (af (aW au.cl az (rv 0)) (af (rv 2) ah)))) (ak (dX fq rfl cA B.kn rfl (af bF ah))) aF)
   (ak (ay (aV (pl:=_) kJ B hr (rv 3) (af (rv 2) ah))))))]
 ·obtain ⟨p,L,n,q',rfl,_⟩:=h;rfl
 obtain ⟨p,L,n,q',rfl,b,ok,sq,qe,ql,q⟩:=h
 have bo:=b.ob
 refine hX ?_
 simp_all! [bo]
 refine ⟨e8 _ _ _ _,p,L,n,rfl,b,ok,λc hc e=>?_,qe⟩
 have hn:n∈L.cs.map Cf.n:=U0.mpr ⟨c,hc,e⟩
 have q:=q c hc e
 have lo:=(b.lg c hc).o
 simp_all! [bo,qB,dm]
 refine ⟨ok.HX.mono (by decide),sq.mono (by decide),?_⟩
 by_cases c1:L.t < q'
 ·rw [if_pos c1]
  simp_all! [fB]
  exact ql hn c1
 ·rw [if_neg c1]
  have q:=q (Rat.not_lt.mp c1)
  simp_all! [lo]
  exact ⟨SQ _ _,c.a,c.r,c.w,c.g,q',rfl,b.lg c hc,ok.ne c hc,Vh (ok.len c hc) (by decide),sq,λl hl=>(ok.ck c hc l hl).Nr,λu hu=>(sD (ok.gz c hc u hu).1).mono (by decide),q.1,q.2⟩
def dQ (L:Ln) (w:Int) (n n':Str) (v:Int) (later:Bool):Nat :=
 if w < 3 then (if n ∉ L.row∨(w=2∧n' ∉ L.row) then 3 else 10)
 else if w < 6 then (if n ∉ L.cs.map Cf.n then 3 else if w=5∧(later=true∨n ∉ L.row) then 7 else 10)
 else (if n ∉ L.row then 3 else if w=6∧¬ v.natAbs≤1000 then 4 else 10)
abbrev Hl:Stmt:=(top 70)
abbrev qm:List Str:=["_law_lane","_law_what","_law_name","_law_other","_law_pace","_law_moment"]
theorem Oc:L2.av ["_law_lane","_law_what","_law_name","_law_other","_law_pace","_law_moment"] ["_law_lane","_law_what","_law_name","_law_other","_law_pace","_law_moment"] (L2.aj Hl):=dC
def Hv (cN cL eC eF eN:Addr):cu:=λxs J Q E=>∃(p:Addr) (L:Ln) (w:Int) (n n':Str) (v:Int) (q:Rat),xs=[.ref p,.int w,.str n,.str n',.int v,fr q]∧bh cN cL J p L∧cm L∧(∀c∈L.cs,c.w.length < 200)∧0≤w∧w < 8∧L.t≤q∧Sz 900 q ∧
 (dQ L w n n' v (decide (L.t < q))=10→w < 6∧Q .non J)∧(dQ L w n n' v (decide (L.t < q))=3→E eC J)∧(dQ L w n n' v (decide (L.t < q))=4→E eF J)∧(dQ L w n n' v (decide (L.t < q))=7→E eN J)
theorem JL {cN cL eC eF eN f:Addr} {fd:FuncData} (F:cg K "_law_ask" "_law_ask" Hl f fd) (Z:bN mg) (kH:bU P w K mg base cN 2 "rank" og (C9 cN cL eC)) (d5:bU P w K mg base cN 5 "place" iw (tR cN cL eC)) (bO:bU P w K mg base cN 6 "meets" eG (lD cN cL eC)) (gF:bU P w K mg base cN 2 "history" j4 (C6 cN cL eC)) (kG:bU P w K mg base cN 2 "left" oa (C8 cN cL eC)) (fR:bU P w K mg base cN 6 "place_at" jb (tS cN cL eC eN)) (eY:bU P w K mg base cN 8 "turn" jJ (x9 cN cL eC eF)) (d4:bU P w K mg base cN 2 "leave" iu (tQ cN cL eC)):aO P w K mg base (cK P w) 9 f fd qm (dg K (Hv cN cL eC eF eN)):=by
 simp_arith [Oc,(ak (aR (aB (bT hr.aL) (rv 1) ag) (ak (aX (aV (pl:=_) kH B hr (rv 0) (af (rv 2) ah)))) (ak (aR (aB (bT hr.aL) (rv 1) ag) (ak (aX (aV (pl:=_) d5 B hr (rv 0) (af (rv 2) ah)))) (ak (aR (aB (bT hr.aL) (rv 1) ag) (ak (aX (aV (pl:=_) bO B hr (rv 0) (af (rv 2) (af (rv 3) ah))))) (ak (aR (aB (bT hr.aL) (rv 1) ag) (ak (aX (aV (pl:=_) gF B hr (rv 0) (af (rv 2) ah)))) (ak (aR (aB (bT hr.aL) (rv 1) ag) (ak (aX (aV (pl:=_) kG B hr (rv 0) (af (rv 2) ah)))) (ak (aR (aB (bT hr.aL) (rv 1) ag) (ak (aX (aV (pl:=_) fR B hr (rv 0) (af (rv 2) (af (rv 5) ah))))) (ak (aR (aB (bT hr.aL) (rv 1) ag) (ak (aX (aV (pl:=_) eY B hr (rv 0) (af (rv 2) (af (rv 4) ah))))) (ak (aX (aV (pl:=_) d4 B hr (rv 0) (af (rv 2) ah))))))))))))))))))]
 ·obtain ⟨p,L,w',n,n',v,q',rfl,_⟩:=h;rfl
 obtain ⟨p,L,w',n,n',v,q',rfl,b,ok,hw,w0,w1,hq,sq,q10,q3,q4,q7⟩:=h
 have bo:=b.ob
 refine hX ?_
 have lk:∀(m:Str),(m == ("now":Str))=false→(m == ("logs":Str))=false→(m == ("row":Str))=false→([("now",fr L.t),("logs",.ref L.d),("row",.ref L.o)]:List (Str × PV)).lookup m=none:=λm h1 h2 h3=>e8 m _ _ _ h1 h2 h3
 have row_of:∀{c:Cf} {m:Str},c∈L.cs→c.n=m→c.g=none→m∈L.row:=λhc e hg=>(ok.rm _).mpr (by rw [dR];exact U0.mpr ⟨_,Ln.cV.mpr ⟨hc,hg⟩,e⟩)
 unfold dQ at q10 q3 q4 q7
 rcases (by omega:w'=0∨w'=1∨w'=2∨w'=3∨w'=4∨w'=5∨w'=6∨w'=7) with rfl | rfl | rfl | rfl | rfl | rfl | rfl | rfl
 ·simp_all! [bo]
  refine ⟨lk _ (by decide +kernel) (by decide +kernel) (by decide +kernel),p,L,n,rfl,b,λj h1 h2=>?_,λhn=>q3 (by simp [hn])⟩
  have hm:=U3 h1
  exact (q10 (by simp [hm])).2
 ·simp_all! [bo]
  refine ⟨lk _ (by decide +kernel) (by decide +kernel) (by decide +kernel),p,L,n,rfl,b,ok.tobc,λc hc e hg=>?_,λhn=>q3 (by simp [hn])⟩
  have hm:=row_of hc e hg
  exact (q10 (by simp [hm])).2
 ·simp_all! [bo]
  refine ⟨lk _ (by decide +kernel) (by decide +kernel) (by decide +kernel),p,L,n,n',rfl,b,ok.tobc,λc hc c' hc' e e' hg hg'=>?_,λhn=>q3 (by rw [if_pos (by decide),if_pos (hn.imp id λz=>⟨rfl,z⟩)])⟩
  have hm:=row_of hc e hg
  have hm':=row_of hc' e' hg'
  exact (q10 (by simp [hm,hm'])).2
 ·simp_all! [bo]
  refine ⟨lk _ (by decide +kernel) (by decide +kernel) (by decide +kernel),p,L,n,rfl,b,ok.tobc,λc hc e=>.inl ?_,λhn=>q3 (by rw [if_neg (by decide),if_pos (by decide),if_pos hn])⟩
  have hm:n∈L.cs.map Cf.n:=U0.mpr ⟨c,hc,e⟩
  exact (q10 (by rw [if_neg (by decide),if_pos (by decide),if_neg (λz=>z hm),if_neg (λz=>absurd z.1 (by decide))])).2
 ·simp_all! [bo]
  refine ⟨lk _ (by decide +kernel) (by decide +kernel) (by decide +kernel),p,L,n,rfl,b,ok.tobc,λc hc e=>?_,λhn=>q3 (by rw [if_neg (by decide),if_pos (by decide),if_pos hn])⟩
  have hm:n∈L.cs.map Cf.n:=U0.mpr ⟨c,hc,e⟩
  exact (q10 (by rw [if_neg (by decide),if_pos (by decide),if_neg (λz=>z hm),if_neg (λz=>absurd z.1 (by decide))])).2
 ·simp_all! [bo]
  refine ⟨lk _ (by decide +kernel) (by decide +kernel) (by decide +kernel),p,L,n,q',rfl,b,ok.tobc,sq,λhn=>q3 (by rw [if_neg (by decide),if_pos (by decide),if_pos hn]),λhn hl=>q7 (by rw [if_neg (by decide),if_pos (by decide),if_neg (λz=>z hn),if_pos ⟨rfl,.inl (decide_eq_true hl)⟩]),λc hc e hle=>?_⟩
  have hm:n∈L.cs.map Cf.n:=U0.mpr ⟨c,hc,e⟩
  obtain rfl:q'=L.t:=Rat.le_antisymm hle hq
  refine ⟨λhth l hl=>?_,λhth=>?_⟩
  ·have hg:c.g=none:=by
    by_cases z:c.g=none
    ·exact z
    ·rw [Cf.FQ ok.tobc hc z] at hth;cases hth
   have hr:=row_of hc e hg
   refine (q10 (by rw [if_neg (by decide),if_pos (by decide),if_neg (λz=>z hm),if_neg (λz=>z.2.elim (λh=>absurd (of_decide_eq_true h) Rat.lt_irrefl) (λh=>h hr))])).2
  ·refine q7 (by rw [if_neg (by decide),if_pos (by decide),if_neg (λz=>z hm),if_pos ⟨rfl,.inr λhr=>?_⟩])
   obtain ⟨c1,hc1,e1,hg1⟩:=ok.found hr
   cases ok.uniq hc1 hc (e1.trans e.symm)
   rw [ok.there hc hg1] at hth;cases hth
 ·simp_all! [bo]
  refine ⟨lk _ (by decide +kernel) (by decide +kernel) (by decide +kernel),p,L,n,v,rfl,b,ok,hw,λhn=>q3 (by rw [if_neg (by decide),if_neg (by decide),if_pos hn]),λhn hv=>q4 (by rw [if_neg (by decide),if_neg (by decide),if_neg (λz=>z hn),if_pos ⟨rfl,hv⟩]),λhn hv=>absurd (q10 (by rw [if_neg (by decide),if_neg (by decide),if_neg (λz=>z hn),if_neg (λz=>z.2 hv)])).1 (by decide)⟩
 ·simp_all! [bo]
  refine ⟨lk _ (by decide +kernel) (by decide +kernel) (by decide +kernel),p,L,n,rfl,b,ok,λhn=>q3 (by rw [if_neg (by decide),if_neg (by decide),if_pos hn]),λhn=>absurd (q10 (by rw [if_neg (by decide),if_neg (by decide),if_neg (λz=>z hn),if_neg (λz=>absurd z.1 (by decide))])).1 (by decide)⟩
theorem UI {F:List Value→Prop} (h:∀a b c d e f g,F [a,b,c,d,e,f,g]):∀us:List Value,us.length=7→F us:=MJ λa=>RJ (F:=λus=>F (a :: us)) (h a)
abbrev BH:Stmt:=(top 71)
abbrev oy:List Str:=["_law_lane","_law_what","_law_name","_law_other","_law_pace","_law_moment"]
theorem rh:L2.av ["_law_lane","_law_what","_law_name","_law_other","_law_pace","_law_moment","_law_said_here","e"] ["_law_lane","_law_what","_law_name","_law_other","_law_pace","_law_moment"] (L2.aj BH):=dC
def Dc (cN cL:Addr):cu:=λxs J Q E=>∃(p:Addr) (L:Ln) (w:Int) (n n':Str) (v:Int) (q:Rat),xs=[.ref p,.int w,.str n,.str n',.int v,fr q]∧bh cN cL J p L∧cm L∧(∀c∈L.cs,c.w.length < 200)∧0≤w∧w < 8∧L.t≤q∧Sz 900 q ∧
 (dQ L w n n' v (decide (L.t < q))=10→w < 6)∧Q (.fl (gy (dQ L w n n' v (decide (L.t < q))))) J
theorem GG {cN cL f W:Addr} {c:Nat→Addr} {fd:FuncData} (F:cg K "_law_said" "_law_said" BH f fd) (Z:bN mg) (Er:DD K mg W c) (OT:bx P w K mg base 9 "_law_ask" qm (Hv cN cL (c 3) (c 4) (c 7))):aO P w K mg base (cK P w) 10 f fd oy (dg K (Dc cN cL)):=by
 simp_arith [rh]
 ·obtain ⟨p,L,w',n,n',v,q',rfl,_⟩:=h;rfl
 obtain ⟨p,L,w',n,n',v,q',rfl,b,ok,hw,w0,w1,hq,sq,h10,q⟩:=h
 refine ⟨_,(ai (aE (i:=6) rh.nd (j8 ah))
   (ai (N' (i:=7) (n:=6) Er rfl Er.mW rh.nd rfl (by decide) rfl (λ_ _ _ _ _ hx=>(ak (aX (aQ OT hx hr (af (rv 0) (af (rv 1) (af (rv 2) (af (rv 3) (af (rv 4) (af (rv 5) ah))))))))))
   (λ_ _=>(bS (c_ (i:=6) rh.nd rfl (Or.inl rfl) (jG (aA (bM (cW (K:=K) rfl) rfl Z.isinstance boot_isinstance (aA (pv 7) (aA (qW (v:=.ty "ValueError") rfl Er.nV PyProof.Rows.Boot.«ValueError» rfl) bj))) (aA (bM (cW (K:=K) rfl) rfl Z.isinstance boot_isinstance (aA (pv 7) (aA (dH (v:=.ref (c 0)) rfl (Er.own 0 (by decide)).mg rfl) bj))) (aA (bM (cW (K:=K) rfl) rfl Z.isinstance boot_isinstance (aA (pv 7) (aA (dH (v:=.ref (c 1)) rfl (Er.own 1 (by decide)).mg rfl) bj))) (aA (bM (cW (K:=K) rfl) rfl Z.isinstance boot_isinstance (aA (pv 7) (aA (dH (v:=.ref (c 2)) rfl (Er.own 2 (by decide)).mg rfl) bj))) (aA (bM (cW (K:=K) rfl) rfl Z.isinstance boot_isinstance (aA (pv 7) (aA (dH (v:=.ref (c 3)) rfl (Er.own 3 (by decide)).mg rfl) bj))) (aA (bM (cW (K:=K) rfl) rfl Z.isinstance boot_isinstance (aA (pv 7) (aA (dH (v:=.ref (c 4)) rfl (Er.own 4 (by decide)).mg rfl) bj))) (aA (bM (cW (K:=K) rfl) rfl Z.isinstance boot_isinstance (aA (pv 7) (aA (dH (v:=.ref (c 5)) rfl (Er.own 5 (by decide)).mg rfl) bj))) (aA (bM (cW (K:=K) rfl) rfl Z.isinstance boot_isinstance (aA (pv 7) (aA (dH (v:=.ref (c 6)) rfl (Er.own 6 (by decide)).mg rfl) bj))) (aA (bM (cW (K:=K) rfl) rfl Z.isinstance boot_isinstance (aA (pv 7) (aA (dH (v:=.ref (c 7)) rfl (Er.own 7 (by decide)).mg rfl) bj))) (aA (bM (cW (K:=K) rfl) rfl Z.isinstance boot_isinstance (aA (pv 7) (aA (dH (v:=.ref (c 8)) rfl (Er.own 8 (by decide)).mg rfl) bj))) (aA (bM (cW (K:=K) rfl) rfl Z.isinstance boot_isinstance (aA (pv 7) (aA (dH (v:=.ref (c 9)) rfl (Er.own 9 (by decide)).mg rfl) bj))) bj))))))))))))))) (λj hj σ H ea D h1 h2 q=>HJ Er hj h1 h2 q))
   (ak (ay (rv 6))))),?_⟩
 simp_all! []
 have f3:gy 3=ik 3:=rfl
 have f4:gy 4=ik 4:=rfl
 have f7:gy 7=ik 7:=rfl
 have f10:gy 10=[]:=rfl
 refine ⟨p,L,w',n,n',v,q',rfl,b,ok,hw,w0,w1,hq,sq,λe=>⟨h10 e,hNq _ _ ?_⟩,λe=>⟨3,by decide,rfl,hNq _ _ ?_⟩,λe=>⟨4,by decide,rfl,hNq _ _ ?_⟩,λe=>⟨7,by decide,rfl,hNq _ _ ?_⟩⟩
 ·rw [e,f10] at q;simp_arith! [bE];exact q
 ·rw [e,f3] at q;exact q
 ·rw [e,f4] at q;exact q
 ·rw [e,f7] at q;exact q
abbrev m6:Stmt:=(top 72)
abbrev jc:List Str:=["_law_what","_law_name","_law_other","_law_pace","_law_later_here","_law_legs","_law_used"]
theorem zH:L2.av ["_law_what","_law_name","_law_other","_law_pace","_law_later_here","_law_legs","_law_used"] ["_law_what","_law_name","_law_other","_law_pace","_law_later_here","_law_legs","_law_used"] (L2.aj m6):=dC
def Hx:cu:=λxs J Q _=>∃(L:Ln) (w:Int) (n n':Str) (v:Int) (later:Bool) (D U:Addr) (gs:List (Str × aZ)) (ep:Nat) (used:List Str),xs=[.int w,.str n,.str n',.int v,.bl later,.ref D,.ref U]∧0≤w∧w < 8∧J D=some (.dct (bC gs) ep)∧J U=some (.lst (used.map .str))∧(gs.map (·.1)).Nodup∧(∀m,m∈gs.map (·.1)↔m∈L.row)∧L.cs.map Cf.n=used∧Q (.str (jl (dQ L w n n' v later))) J
theorem w9 {f:Addr} {fd:FuncData} (F:cg K "_law_due_word" "_law_due_word" m6 f fd) (Z:bN mg):aO P w K mg base (cK P w) 1 f fd jc (dg K Hx):=by
 simp_arith [zH,(ai (aR (cP (k8 (cP (dk (aB gL (rv 0) ag) (cF (aB n8 (rv 1) (rv 5))))) (gQ (cP (dk (aB (bT hr.aL) (rv 0) ag) (cF (aB n8 (rv 2) (rv 5)))))))) (ak (ay bF)) aF)
   (ai (aR (cP (dk (aB GO (rv 0) (cE (af ag (af ag (af ag ah))))) (cF (aB qV (rv 1) (rv 6))))) (ak (ay bF)) aF)
   (ai (aR (cP (dk (aB (bT hr.aL) (rv 0) ag) (cF (cP (k8 (Hk (rv 4)) (gQ (aB n8 (rv 1) (rv 5)))))))) (ak (ay bF)) aF)
   (ai (aR (cP (dk (aB j3 (rv 0) ag) (cF (aB n8 (rv 1) (rv 5))))) (ak (ay bF)) aF)
   (ai (aR (cP (dk (aB (bT hr.aL) (rv 0) ag) (cF (aB j3 (aI o8 rfl Z.abs boot_abs (af (rv 3) ah)) ag)))) (ak (ay bF)) aF)
   (ak (ay bF)))))))]
 ·obtain ⟨L,w',n,n',v,l,D,U,gs,ep,used,rfl,_⟩:=h;rfl
 obtain ⟨L,w',n,n',v,l,D,U,gs,ep,used,rfl,w0,w1,hD,hU,gnd,hg,hun,q⟩:=h
 refine hX ?_
 have w3:jl 3="NoCraft":=by decide +kernel
 have w4:jl 4="TooFar":=by decide +kernel
 have w7:jl 7="NotThere":=by decide +kernel
 have w10:jl 10="":=by decide +kernel
 have hv:∀m,(lH (bC gs) m).isSome=decide (m∈L.row):=λm=>by
  unfold bC
  rw [vZ (f:=aZ.V) gnd]
  exact decide_eq_decide.mpr (hg m)
 have hsq:Oi J (.ref U)=some (used.map .str):=BQ hU
 refine jw ((w' < 3∧n ∉ L.row)∨(w'=2∧n' ∉ L.row)) (λR hR=>?_) (λhb N=>?_) (λhb=>?_)
 ·simp_arith! [bE,hD,hv]
  (repeat' split) <;> exact uY hR (by simp only [decide_eq_true_eq,Ws,decide_eq_false_iff_not,Vd,eq_self,iff_true,iff_false];simp_all <;> omega)
 ·have e:dQ L w' n n' v l=3:=by
   unfold dQ
   rcases hb with ⟨a,b⟩ | ⟨a,b⟩
   ·rw [if_pos a,if_pos (.inl b)]
   ·rw [if_pos (by omega),if_pos (.inr ⟨a,b⟩)]
  rw [e,w3] at q
  simp_arith! [bE]
  exact q
 have h1:w' < 3→dQ L w' n n' v l=10:=λa=>by
  unfold dQ
  rw [if_pos a,if_neg (λz=>hb (z.elim (λz=>.inl ⟨a,z⟩) .inr))]
 clear hb
 refine jw ((w'=3∨w'=4∨w'=5)∧n ∉ used) (λR hR=>?_) (λhb N=>?_) (λhb=>?_)
 ·simp_arith! [bE]
  refine ⟨w',[3,4,5],rfl,rfl,mU rfl ?_⟩
  simp_arith! [bE]
  split
  ·refine ⟨n,used,rfl,hsq,mU rfl ?_⟩
   exact uY hR (by simp_all)
  ·exact uY hR (by simp_all)
 ·have e:dQ L w' n n' v l=3:=by
   unfold dQ
   rw [if_neg (by omega),if_pos (by omega),hun,if_pos hb.2]
  rw [e,w3] at q
  simp_arith! [bE]
  exact q
 refine jw (w'=5∧(l=true∨n ∉ L.row)) (λR hR=>?_) (λhc N=>?_) (λhc=>?_)
 ·simp_arith! [bE,hD,hv]
  (repeat' (first | split | simp_arith! [bE,hD,hv])) <;> exact uY hR (by simp_all)
 ·have e:dQ L w' n n' v l=7:=by
   unfold dQ
   rw [if_neg (by omega),if_pos (by omega),hun,if_neg (λz=>hb ⟨.inr (.inr hc.1),z⟩),if_pos hc]
  rw [e,w7] at q
  simp_arith! [bE]
  exact q
 have h2:¬ w' < 3→w' < 6→dQ L w' n n' v l=10:=λa b=>by
  unfold dQ
  rw [if_neg a,if_pos b,hun,if_neg (λz=>hb ⟨by omega,z⟩),if_neg hc]
 clear hb hc
 refine jw (5 < w'∧n ∉ L.row) (λR hR=>?_) (λhb N=>?_) (λhb=>?_)
 ·simp_arith! [bE,hD,hv]
  (repeat' (first | split | simp_arith! [bE,hD,hv])) <;> exact uY hR (by simp_all <;> (intro z;omega))
 ·have e:dQ L w' n n' v l=3:=by
   unfold dQ
   rw [if_neg (by omega),if_neg (by omega),if_pos hb.2]
  rw [e,w3] at q
  simp_arith! [bE]
  exact q
 refine jw (w'=6∧¬ v.natAbs≤1000) (λR hR=>?_) (λhc N=>?_) (λhc=>?_)
 ·simp_arith! [bE]
  (repeat' (first | split | simp_arith! [bE])) <;> exact uY hR (by simp only [decide_eq_true_eq,Vd,eq_self,iff_true,iff_false];omega)
 ·have e:dQ L w' n n' v l=4:=by
   unfold dQ
   rw [if_neg (by omega),if_neg (by omega),if_neg (λz=>hb ⟨by omega,z⟩),if_pos hc]
  rw [e,w4] at q
  simp_arith! [bE]
  exact q
 have e:dQ L w' n n' v l=10:=by
  by_cases a:w' < 3
  ·exact h1 a
  by_cases b:w' < 6
  ·exact h2 a b
  unfold dQ
  rw [if_neg a,if_neg b,if_neg (λz=>hb ⟨by omega,z⟩),if_neg hc]
 rw [e,w10] at q
 simp_arith! [bE]
 exact q
theorem Gi {a b:Int} (hb:1≤b):((Rat.divInt a b).num=a∧((Rat.divInt a b).den:Int)=b)↔Int.gcd a b=1:=by
 constructor
 ·rintro ⟨h1,h2⟩
  have:=(Rat.divInt a b).reduced
  rw [h1] at this
  have e:(Rat.divInt a b).den=b.natAbs:=by omega
  rw [e] at this
  exact this
 ·intro h
  have e:Rat.divInt a b=⟨a,b.toNat,by omega,by unfold Int.gcd at h;rw [Nat.Coprime,show b.toNat=b.natAbs by omega];exact h⟩:=by
   have:(⟨a,b.toNat,by omega,by unfold Int.gcd at h;rw [Nat.Coprime,show b.toNat=b.natAbs by omega];exact h⟩:Rat)=Rat.divInt a (b.toNat:Int):=(Rat.mk_eq_divInt ..)
   rw [this,show ((b.toNat:Nat):Int)=b by omega]
  rw [e]
  exact ⟨rfl,by show ((b.toNat:Nat):Int)=b;omega⟩
theorem DO (p q:Rat):(p.num * (q.den:Int) < q.num * (p.den:Int))=(p < q):=propext (Rat.lt_iff p q).symm
theorem Gs {l l' k k':aZ} (h:gu l k) (h':gu l' k') (t:Rat):qC t l l'=qC t k k':=by
 unfold qC j2
 rw [h.1,h'.1,h.2 0,h'.2 0]
theorem Gr {l l':aZ} (t:Rat) (hv:l.v≠l'.v):j2 l l'=t + (l'.at t - l.at t) / ((l.v - l'.v:Int):Rat):=by
 unfold j2 aZ.at
 have k:((l.v - l'.v:Int):Rat)≠0:=de (by omega)
 rw [Rat.intCast_sub] at k ⊢
 generalize (l.v:Rat)=x at k ⊢
 generalize (l'.v:Rat)=y at k ⊢
 grind
theorem Jz {l l':aZ} {t:Rat} (h:0 < (l.v - l'.v) * ((l'.at t).num * ((l.at t).den:Int) - (l.at t).num * ((l'.at t).den:Int))):qC t l l'=some (t + (l'.at t - l.at t) / ((l.v - l'.v:Int):Rat)):=by
 have hv:l.v≠l'.v:=λe=>by rw [e,Int.sub_self,Int.zero_mul] at h;omega
 unfold qC
 have hm:=Gr (l:=l) (l':=l') t hv
 have hpos:0 < (l'.at t - l.at t) / ((l.v - l'.v:Int):Rat):=by
  rcases Int.lt_or_gt_of_ne (show l.v - l'.v≠0 by omega) with c | c
  ·have h2:(l'.at t).num * ((l.at t).den:Int) - (l.at t).num * ((l'.at t).den:Int) < 0:=by
    by_cases z:(l'.at t).num * ((l.at t).den:Int) - (l.at t).num * ((l'.at t).den:Int) < 0
    ·exact z
    ·have:=Int.mul_nonneg (show 0≤-(l.v - l'.v) by omega) (show 0≤(l'.at t).num * ((l.at t).den:Int) - (l.at t).num * ((l'.at t).den:Int) by omega)
     rw [Int.neg_mul] at this;omega
   have h3:l'.at t < l.at t:=by have:=rA (l'.at t) (l.at t);rw [← this];omega
   have h4:0 < (l.at t - l'.at t) / ((l'.v - l.v:Int):Rat):=s_ (by grind) (by exact_mod_cast (show (0:Int) < l'.v - l.v by omega))
   have k:((l.v - l'.v:Int):Rat)≠0:=de (by omega)
   have k':((l'.v - l.v:Int):Rat)≠0:=de (by omega)
   rw [Rat.intCast_sub] at k k' h4 ⊢
   generalize (l.v:Rat)=x at k k' h4 ⊢
   generalize (l'.v:Rat)=y at k k' h4 ⊢
   generalize l.at t=a at h4 ⊢
   generalize l'.at t=b at h4 ⊢
   have:(b - a) / (x - y)=(a - b) / (y - x):=by grind
   rw [this];exact h4
  ·have h2:0 < (l'.at t).num * ((l.at t).den:Int) - (l.at t).num * ((l'.at t).den:Int):=by
    by_cases z:0 < (l'.at t).num * ((l.at t).den:Int) - (l.at t).num * ((l'.at t).den:Int)
    ·exact z
    ·have:=Int.mul_nonneg (show 0≤l.v - l'.v by omega) (show 0≤-((l'.at t).num * ((l.at t).den:Int) - (l.at t).num * ((l'.at t).den:Int)) by omega)
     rw [Int.mul_neg] at this;omega
   have h3:l.at t < l'.at t:=by have:=rA (l.at t) (l'.at t);rw [← this];omega
   exact s_ (by grind) (by exact_mod_cast (show (0:Int) < l.v - l'.v by omega))
 rw [if_pos ⟨hv,by rw [hm];grind⟩,hm]
theorem Nu {l l':aZ} {t:Rat} (h:¬ 0 < (l.v - l'.v) * ((l'.at t).num * ((l.at t).den:Int) - (l.at t).num * ((l'.at t).den:Int))):qC t l l'=none:=by
 unfold qC
 refine if_neg λ⟨hv,hm⟩=>h ?_
 rw [Gr t hv] at hm
 have hq:0 < (l'.at t - l.at t) / ((l.v - l'.v:Int):Rat):=by grind
 rcases Int.lt_or_gt_of_ne (show l.v - l'.v≠0 by omega) with c | c
 ·have h3:l'.at t < l.at t:=by
   by_cases z:l'.at t < l.at t
   ·exact z
   ·have k':(0:Rat) < ((l'.v - l.v:Int):Rat):=by exact_mod_cast (show (0:Int) < l'.v - l.v by omega)
    have e:(l'.at t - l.at t) / ((l.v - l'.v:Int):Rat) * ((l'.v - l.v:Int):Rat)=-(l'.at t - l.at t):=by
     have k2:((l.v - l'.v:Int):Rat)≠0:=de (by omega)
     rw [Rat.intCast_sub] at k2 ⊢
     rw [Rat.intCast_sub]
     generalize (l.v:Rat)=x at k2 ⊢
     generalize (l'.v:Rat)=y at k2 ⊢
     grind
    have:=Rat.mul_pos hq k'
    rw [e] at this
    grind
  have h4:=(rA (l'.at t) (l.at t)).symm ▸ h3
  have:=Int.mul_pos (show 0 < -(l.v - l'.v) by omega) h4
  generalize (l'.at t).num * ((l.at t).den:Int)=x at this ⊢
  generalize (l.at t).num * ((l'.at t).den:Int)=y at this ⊢
  generalize l.v - l'.v=z at this ⊢
  rw [Int.neg_mul,← Int.mul_neg,Int.neg_sub] at this
  exact this
 ·have h3:l.at t < l'.at t:=by
   by_cases z:l.at t < l'.at t
   ·exact z
   ·have k':(0:Rat) < ((l.v - l'.v:Int):Rat):=by exact_mod_cast (show (0:Int) < l.v - l'.v by omega)
    have e:(l'.at t - l.at t) / ((l.v - l'.v:Int):Rat) * ((l.v - l'.v:Int):Rat)=l'.at t - l.at t:=by
     have k2:((l.v - l'.v:Int):Rat)≠0:=de (by omega)
     generalize ((l.v - l'.v:Int):Rat)=x at k2 ⊢
     grind
    have:=Rat.mul_pos hq k'
    rw [e] at this
    grind
  have h4:=(rA (l.at t) (l'.at t)).symm ▸ h3
  exact Int.mul_pos c h4
theorem MZ {t p q:Rat} {w v:Int} (hv:(if w < 0 then -w else w)=v) (c:0 < w * (q.num * (p.den:Int) - p.num * (q.den:Int))):Rat.divInt (t.num * ((p.den:Int) * (q.den:Int) * v) + (if q.num * (p.den:Int) - p.num * (q.den:Int) < 0 then -(q.num * (p.den:Int) - p.num * (q.den:Int)) else q.num * (p.den:Int) - p.num * (q.den:Int)) * (t.den:Int)) ((t.den:Int) * ((p.den:Int) * (q.den:Int) * v))=t + (q - p) / (w:Rat):=by
 by_cases z:w < 0
 ·rw [if_pos z] at hv
  subst hv
  have h2:q.num * (p.den:Int) - p.num * (q.den:Int) < 0:=by
   by_cases y:q.num * (p.den:Int) - p.num * (q.den:Int) < 0
   ·exact y
   ·have:=Int.mul_nonneg (show 0≤-w by omega) (show 0≤q.num * (p.den:Int) - p.num * (q.den:Int) by omega)
    rw [Int.neg_mul] at this;omega
  rw [if_pos h2,Int.neg_sub,Int.mul_comm (p.den:Int) (q.den:Int),rE (p:=q) (q:=p) (show 0 < -w by omega)]
  congr 1
  have k:(w:Rat)≠0:=de (by omega)
  rw [Rat.intCast_neg]
  generalize (w:Rat)=x at k ⊢
  grind
 ·rw [if_neg z] at hv
  subst hv
  have z':w≠0:=λe=>by rw [e,Int.zero_mul] at c;omega
  have h2:¬ q.num * (p.den:Int) - p.num * (q.den:Int) < 0:=λy=>by
   have:=Int.mul_nonneg (show 0≤w by omega) (show 0≤-(q.num * (p.den:Int) - p.num * (q.den:Int)) by omega)
   rw [Int.mul_neg] at this;omega
  rw [if_neg h2,rE (show 0 < w by omega)]
abbrev BE:Stmt:=(top 68)
abbrev ou:List Str:=["_law_legs","_law_clock","_law_one","_law_other"]
theorem lY:L2.av ["_law_legs","_law_clock","_law_one","_law_other","_law_here","_law_there","_law_pace","_law_top","_law_under"] ["_law_legs","_law_clock","_law_one","_law_other"] (L2.aj BE):=dC
def HC:cu:=λxs J Q _=>∃(D:Addr) (gs:List (Str × aZ)) (ep:Nat) (t:Rat) (n n':Str) (l l':aZ),xs=[.ref D,fr t,.str n,.str n']∧J D=some (.dct (bC gs) ep)∧(gs.map (·.1)).Nodup∧(n,l)∈gs∧(n',l')∈gs∧(∀x∈gs,oX 240 x.2)∧Sz 240 t∧Q (gv (qC t l l')) J
theorem GD {f:Addr} {fd:FuncData} (F:cg K "_law_next" "_law_next" BE f fd) (Z:bN mg) (qv:bx P w K mg base 2 "_law_at" fz j9) (nA:bx P w K mg base 1 "_law_low" dU jX):aO P w K mg base (cK P w) 3 f fd ou (dg K HC):=by
 simp_arith [lY,(ai (aE (i:=4) lY.nd (aQ qv B hr (af (aq cR (rv 0) (rv 2)) (af (rv 1) ah))))
   (ai (aE (i:=5) lY.nd (aQ qv B hr (af (aq cR (rv 0) (rv 3)) (af (rv 1) ah))))
   (ai (aE (i:=6) lY.nd (aG dD (aq ar (aq cR (rv 0) (rv 2)) ag) (aq ar (aq cR (rv 0) (rv 3)) ag)))
   (ai (aE (i:=7) lY.nd (aG dD (aG bP (aq ar (rv 5) ag) (aq ar (rv 4) ag)) (aG bP (aq ar (rv 4) ag) (aq ar (rv 5) ag))))
   (ai (aR (aB GP (aG bP (rv 6) (rv 7)) ag) (ak (ay k4)) aF)
   (ai (aE (i:=8) lY.nd (aG bP (aG bP (aq ar (rv 4) ag) (aq ar (rv 5) ag)) (aI o8 rfl Z.abs boot_abs (af (rv 6) ah))))
   (ak (ay (aQ nA B hr (af (aG cX (aG bP (aq ar (rv 1) ag) (rv 8)) (aG bP (aI o8 rfl Z.abs boot_abs (af (rv 7) ah)) (aq ar (rv 1) ag))) (af (aG bP (aq ar (rv 1) ag) (rv 8)) ah)))))))))))]
 ·obtain ⟨D,gs,ep,t,n,n',l,l',rfl,_⟩:=h;rfl
 obtain ⟨D,gs,ep,t,n,n',l,l',rfl,hD,gnd,hm,hm',gsz,st2,q⟩:=h
 refine hX ?_
 have hvn:lH (bC gs) n=some l.V:=fY (f:=aZ.V) gnd hm
 have hvn':lH (bC gs) n'=some l'.V:=fY (f:=aZ.V) gnd hm'
 have sll:=gsz _ hm
 have sll':=gsz _ hm'
 have sla:=sll.vn st2
 have sla':=sll'.vn st2
 simp_all! [hD,hvn]
 refine ⟨l,t,rfl,sll.m.mono (by decide),sll.p.mono (by decide),st2.mono (by decide),sll.v,?_⟩
 simp_all! [hD,hvn']
 refine ⟨l',t,rfl,sll'.m.mono (by decide),sll'.p.mono (by decide),st2.mono (by decide),sll'.v,?_⟩
 simp_all! [hD,hvn,hvn',md]
 refine ⟨.of sla'.num sla.den,.of sla.num sla'.den,?_⟩
 have bv:Bd 70 (l.v - l'.v):=(sll.v.sub (k:=66) sll'.v).mono (by decide)
 have bt:Bd 1590 ((l'.at t).num * ((l.at t).den:Int) - (l.at t).num * ((l'.at t).den:Int)):=.sub (Bd.mul (k:=1580) sla'.num sla.den) (Bd.mul (k:=1580) sla.num sla'.den)
 simp_all! []
 refine ⟨.of bv bt,?_⟩
 by_cases c:0 < (l.v - l'.v) * ((l'.at t).num * ((l.at t).den:Int) - (l.at t).num * ((l'.at t).den:Int))
 ·rw [Jz c] at q
  rw [if_neg (by omega)]
  obtain ⟨v,hv0,hva⟩:∃v:Int,0 < v∧(if l.v - l'.v < 0 then -(l.v - l'.v) else l.v - l'.v)=v:=⟨_,by have hv:l.v - l'.v≠0:=(λe=>by rw [e,Int.zero_mul] at c;omega);split <;> omega,rfl⟩
  have bv':Bd 70 v:=by rw [← hva];split;exact bv.neg;exact bv
  have z1:Bd 1650 (((l.at t).den:Int) * ((l'.at t).den:Int) * v):=.mul (.mul (k:=1580) sla.den sla'.den) bv'
  have z3:Bd 1900 ((t.den:Int) * (((l.at t).den:Int) * ((l'.at t).den:Int) * v)):=.mul st2.den z1
  have bt':Bd 1590 (if (l'.at t).num * ((l.at t).den:Int) - (l.at t).num * ((l'.at t).den:Int) < 0 then -((l'.at t).num * ((l.at t).den:Int) - (l.at t).num * ((l'.at t).den:Int)) else (l'.at t).num * ((l.at t).den:Int) - (l.at t).num * ((l'.at t).den:Int)):=by split;exact bt.neg;exact bt
  have hd:0 < (t.den:Int) * (((l.at t).den:Int) * ((l'.at t).den:Int) * v):=Int.mul_pos (dB _) (Int.mul_pos (Int.mul_pos (dB _) (dB _)) hv0)
  have hw:=MZ (t:=t) (p:=l.at t) (q:=l'.at t) hva c
  simp_all! [hva]
  refine ⟨.of sla.den sla'.den,.of (Bd.mul (k:=1580) sla.den sla'.den) bv',?_⟩
  simp_all! [jX]
  refine ⟨.of st2.num z1,.of bt' st2.den,.of st2.den z1,hd,z3.mono (by decide),?_⟩
  rw [hw]
  exact q
 ·rw [Nu c] at q
  rw [if_pos (by omega)]
  simp_all! []
  exact q
theorem Ld (g:Option Rat):Ig (gv g):=by
 cases g with
 | none=>exact ⟨by simp [gv,mB],by simp [gv,fS,dep]⟩
 | some q=>exact (Lc q).mpr True.intro
abbrev gT:Stmt:=(top 69)
abbrev fK:List Str:=["_law_lane","_law_legs","_law_clock"]
theorem fW:L2.av ["_law_lane","_law_legs","_law_clock","_law_name","_law_other"] ["_law_lane","_law_legs","_law_clock"] (L2.aj gT):=dC
def tV (cN cL:Addr):cu:=λxs J Q _=>∃p L D gs ep,xs=[.ref p,.ref D,fr L.t]∧bh cN cL J p L∧cm L∧J D=some (.dct (bC gs) ep)∧Rl L gs∧Q (.bl true) J
theorem pE {cN cL eC f:Addr} {fd:FuncData} (F:cg K "_law_placed_right" "_law_placed_right" gT f fd) (Z:bN mg) (qv:bx P w K mg base 2 "_law_at" fz j9) (Mn:bx P w K mg base 3 "_law_next" ou HC) (d5:bU P w K mg base cN 5 "place" iw (tR cN cL eC)) (bO:bU P w K mg base cN 6 "meets" eG (lD cN cL eC)):aO P w K mg base (cK P w) 7 f fd fK (dg K (tV cN cL)):=by
 simp_arith [fW,(ai (eu b_ rfl (q_ (rv 1)) (bK (i:=3) fW.nd) (ai (aR (aB (h_ hr.aL) (aV (pl:=_) d5 B hr (rv 0) (af (rv 3) ah)) (aQ qv B hr (af (aq cR (rv 1) (rv 3)) (af (rv 2) ah)))) (ak (ay ed)) aF)
   (ak (eu b_ rfl (q_ (rv 1)) (bK (i:=4) fW.nd) (ak (aR (aB (h_ hr.aL) (aV (pl:=_) bO B hr (rv 0) (af (rv 3) (af (rv 4) ah))) (aQ Mn B hr (af (rv 1) (af (rv 2) (af (rv 3) (af (rv 4) ah)))))) (ak (ay ed)) aF))))))
   (ak (ay ed)))]
 ·obtain ⟨p,L,D,gs,ep,rfl,_⟩:=h;rfl
 obtain ⟨p,L,D,gs,ep,rfl,b,ok,hD,rl,q⟩:=h
 refine hX ?_
 have bo:=b.ob
 have gnd:=rl.nd ok.tobc
 have gsz:=rl.sz
 have st2:Sz 240 L.t:=(sD ok.ts).mono (by decide)
 have hkv:(bC gs).map (λkv=>PV.str kv.1)=gs.map λx=>PV.str x.1:=by unfold bC;rw [U'];rfl
 have lk:∀(m:Str),(m == ("now":Str))=false→(m == ("logs":Str))=false→(m == ("row":Str))=false→([("now",fr L.t),("logs",.ref L.d),("row",.ref L.o)]:List (Str × PV)).lookup m=none:=λm h1 h2 h3=>e8 m _ _ _ h1 h2 h3
 have onm:∀{m:Str} {k:aZ},(m,k)∈gs→m∈L.row:=λhm=>(ok.rm _).mpr (by rw [← rl.nm];exact U0.mpr ⟨_,hm,rfl⟩)
 have ofs:∀{c:Cf},c∈L.cs→c.g=none→(c.n,c.cur)∈L.fs:=λhc hg=>U0.mpr ⟨_,Ln.cV.mpr ⟨hc,hg⟩,rfl⟩
 simp_all! [hD,hkv]
 obtain ⟨Inv,hInv⟩:∃Inv:Nat→Sr→Hq→Prop,∀i τ J',Inv i τ J'↔∃u3 u4:Option PV,τ=[some (.ref p),some (.ref D),some (fr L.t),u3,u4]∧J'=J:=⟨_,λ_ _ _=>Iff.rfl⟩
 refine gA Inv ((hInv _ _ _).mpr ⟨_,_,rfl,rfl⟩) (λi τ J' h=>?_) ?_ ?_
 ·obtain ⟨_,_,_,rfl⟩:=(hInv _ _ _).mp h
  exact hD
 ·intro i x τ J' hx hv
  obtain ⟨u3,u4,rfl,rfl⟩:=(hInv _ _ _).mp hv
  clear hv
  obtain ⟨⟨n,l⟩,hm,rfl⟩:=U0.mp (U3 hx)
  clear hx
  have sll:=gsz _ hm
  have hvn:lH (bC gs) n=some l.V:=fY (f:=aZ.V) gnd hm
  simp_all! [bo]
  refine ⟨lk _ (by decide +kernel) (by decide +kernel) (by decide +kernel),p,L,n,rfl,b,ok.tobc,λc hc e hg=>?_,λz=>absurd (onm hm) z⟩
  have es:l.at L.t=c.cur.at L.t:=(rl.ln n l c.cur hm (by rw [← e];exact ofs hc hg)).2 _
  rw [← es]
  simp_all! [hD,hvn]
  refine ⟨l,L.t,rfl,sll.m.mono (by decide),sll.p.mono (by decide),ok.HX,sll.v,?_⟩
  simp_all! [hD,hkv]
  obtain ⟨In2,hIn2⟩:∃In2:Nat→Sr→Hq→Prop,∀i τ Ja,In2 i τ Ja↔∃u4:Option PV,τ=[some (.ref p),some (.ref D),some (fr L.t),some (.str n),u4]∧Ja=J':=⟨_,λ_ _ _=>Iff.rfl⟩
  refine gA In2 ((hIn2 _ _ _).mpr ⟨_,rfl,rfl⟩) (λi τ Ja h=>?_) ?_ ?_
  ·obtain ⟨_,_,rfl⟩:=(hIn2 _ _ _).mp h
   exact hD
  ·intro j x τ Ja hx hv
   obtain ⟨u4,rfl,rfl⟩:=(hIn2 _ _ _).mp hv
   clear hv
   obtain ⟨⟨n',l'⟩,hm',rfl⟩:=U0.mp (U3 hx)
   clear hx
   simp_all! [bo]
   refine ⟨lk _ (by decide +kernel) (by decide +kernel) (by decide +kernel),p,L,n,n',rfl,b,ok.tobc,λc hc c' hc' e e' hg hg'=>?_,λz=>(z.elim (λz=>absurd (onm hm) z) λz=>absurd (onm hm') z)⟩
   subst e e'
   rw [← Gs (rl.ln _ _ _ hm (ofs hc hg)) (rl.ln _ _ _ hm' (ofs hc' hg')) L.t]
   simp_all! []
   refine ⟨D,gs,ep,L.t,c.n,c'.n,l,l',rfl,hD,gnd,hm,hm',gsz,st2,?_⟩
   refine ⟨Ld _,(Ld _).1,?_⟩
   rw [eq_self]
   simp_all! []
   exact (hIn2 _ _ _).mpr ⟨_,rfl,rfl⟩
  ·intro τ Ja hv
   obtain ⟨u4,rfl,rfl⟩:=(hIn2 _ _ _).mp hv
   exact (hInv _ _ _).mpr ⟨_,_,rfl,rfl⟩
 ·intro τ J' hv
  obtain ⟨u3,u4,rfl,rfl⟩:=(hInv _ _ _).mp hv
  simp_all! []
  exact q
theorem Mv.fresh {J J':Hq} {S S':Addr→Prop} (mv:Mv J J' S S') {x:Addr} {o:HQ} (hx:J x=some o) (nx:¬ S x):¬ S' x:=λz=>by
 rcases mv.own _ z with q | q
 ·exact nx q
 ·rw [hx] at q;cases q
structure Sd (cN cL:Addr) (J:Hq) (p:Addr) (L:Ln) (D T:Addr) (gs:List (Str × aZ)) (ep:Nat):Prop where
 b:bh cN cL J p L
 ok:cm L
 rl:Rl L gs
 hD:J D=some (.dct (bC gs) ep)
 nD:¬ L.own p D
 hT:J T=some .tab
 nT:¬ L.own p T
theorem Sd.go {cN cL:Addr} {J J':Hq} {p:Addr} {L:Ln} {D T:Addr} {gs:List (Str × aZ)} {ep:Nat} (s:Sd cN cL J p L D T gs ep) {m:Rat} (hm:L.t≤m) {o':Addr} (b':bh cN cL J' p { L with t:=m,o:=o',row:=cO m L.fs }) (ok':cm { L with t:=m,o:=o',row:=cO m L.fs }) (mv:Mv J J' (L.own p) (Ln.own { L with t:=m,o:=o',row:=cO m L.fs } p)):Sd cN cL J' p { L with t:=m,o:=o',row:=cO m L.fs } D T gs ep :=
 ⟨b',ok',s.rl.go hm,mv.keep _ _ s.hD s.nD,mv.fresh s.hD s.nD,mv.keep _ _ s.hT s.nT,mv.fresh s.hT s.nT⟩
theorem Je (L:Ln) (w:Int) (n n':Str) (v:Int) (l:Bool):dQ L w n n' v l=3∨dQ L w n n' v l=4∨dQ L w n n' v l=7∨dQ L w n n' v l=10:=by
 unfold dQ
 repeat' split
 all_goals simp
theorem ER {L:Ln} {w:Int} {n n':Str} {v:Int} {l:Bool}:(jl (dQ L w n n' v l)="")=(dQ L w n n' v l=10):=by
 have e3:¬ jl 3="":=by decide +kernel
 have e4:¬ jl 4="":=by decide +kernel
 have e7:¬ jl 7="":=by decide +kernel
 have e10:jl 10="":=by decide +kernel
 apply propext
 rcases Je L w n n' v l with e | e | e | e <;> rw [e]
 ·exact ⟨λz=>absurd z e3,λz=>by omega⟩
 ·exact ⟨λz=>absurd z e4,λz=>by omega⟩
 ·exact ⟨λz=>absurd z e7,λz=>by omega⟩
 ·exact ⟨λ_=>rfl,λ_=>e10⟩
theorem Js (t:Rat) (l:Bool):∃q:Rat,PV.tup [.int (t.num + (if l=true then 1 else 0) * (t.den:Int)),.int (t.den:Int)]=fr q∧t≤q∧decide (t < q)=l∧(Sz 240 t→Sz 900 q):=by
 cases l with
 | false=>exact ⟨t,by simp [fr],Rat.le_refl,decide_eq_false Rat.lt_irrefl,λh=>h.mono (by decide)⟩
 | true =>
  have g:Int.gcd (t.num + 1 * (t.den:Int)) (t.den:Int)=1:=by
   rw [Int.one_mul,Int.gcd_add_self_left]
   exact t.reduced
  have e:=(Gi (a:=t.num + 1 * (t.den:Int)) (b:=(t.den:Int)) (by have:=dB t;omega)).mpr g
  have lt:t < Rat.divInt (t.num + 1 * (t.den:Int)) (t.den:Int):=by
   rw [← DO,e.1,e.2]
   have h:=dB t
   have h2:0 < (t.den:Int) * (t.den:Int):=Int.mul_pos h h
   rw [Int.one_mul,Int.add_mul]
   omega
  refine ⟨_,?_,Rat.le_of_lt lt,decide_eq_true lt,λh=>⟨by rw [e.1];exact h.num.add (by rw [Int.one_mul];exact h.den),by rw [e.2];exact h.den.mono (by decide)⟩⟩
  unfold fr
  rw [e.1,e.2]
  rfl
def MO:List Str:=["","A","a b","abcdefghi"]
theorem Qn {A B C D:PV} {j:Int} (h0:0≤j) (h1:j < 4):∃x,dF [A,B,C,D] j=some x∧(x=A∨x=B∨x=C∨x=D):=by
 rcases (by omega:j=0∨j=1∨j=2∨j=3) with e | e | e | e <;> subst e
 ·exact ⟨A,rfl,.inl rfl⟩
 ·exact ⟨B,rfl,.inr (.inl rfl)⟩
 ·exact ⟨C,rfl,.inr (.inr (.inl rfl))⟩
 ·exact ⟨D,rfl,.inr (.inr (.inr rfl))⟩
abbrev vQ:Stmt:=(top 73)
abbrev NY:List Str:=["_law_script"]
theorem cJ:L2.av ["_law_script","_law_head","_law_names_here","_law_lane","_law_cells","_law_legs","_law_clock","_law_used","_law_fresh","_law_bad","_law_k","_law_row","_law_some","_law_name","_law_other","_law_pace","_law_later_here","_law_moment","_law_what","_law_due"] ["_law_script"] (L2.aj vQ):=dC
theorem JM {cN cL T eB eF eT eU f:Addr} {fd:FuncData} (F:cg K "law" "law" vQ f fd) (Z:bN mg) (v8:bx P w K mg base 1 "_law_cell" om CU) (e9:bx P w K mg base 1 "_law_digits" cZ BN) (v9:bx P w K mg base 2 "_law_names" fF zU) (Mo:bx P w K mg base 10 "_law_walk" oz (HE cN cL T)) (Ax:Ay P w K mg base cN 1 "Lane" i9 (C7 cN cL)) (Af:bx P w K mg base 1 "_law_due_word" jc Hx) (EZ:bx P w K mg base 10 "_law_said" oy (Dc cN cL)) (Io:bx P w K mg base 1 "_law_flags" mr zK) (yi:bx P w K mg base 8 "_law_stands" kR (zW cN cL)) (rH:bx P w K mg base 7 "_law_placed_right" fK (tV cN cL)) (eX:bU P w K mg base cN 8 "join" jI (x8 cN cL T eB eF eT eU)) :
  aO P w K mg base (cK P w) 11 f fd NY (dg K (BP [T])):=by
 simp_arith [cJ,(ai (aE (i:=1) cJ.nd (aQ e9 B hr (af (aQ v8 B hr (af (rv 0) (af ag ah))) (af (j8 (af ag (af ag (af ag ah)))) ah))))
   (ai (aE (i:=2) cJ.nd (aQ v9 B hr (af (aQ v8 B hr (af (rv 0) (af ag ah))) (af (aG cX ag (aq ar (rv 1) ag)) ah))))
   (ai (aE (i:=3) cJ.nd (tj Ax B hr))
   (ai (Rb (i:=4) (L2.aj vQ) ["_law_script","_law_head","_law_names_here","_law_lane","_law_cells","_law_legs","_law_clock","_law_used","_law_fresh","_law_bad","_law_k","_law_row","_law_some","_law_name","_law_other","_law_pace","_law_later_here","_law_moment","_law_what","_law_due"] [("_law_script",0)] rfl rfl rfl cJ.nd rfl (Or.inl rfl) (gm rfl Z.range (af (aq ar (rv 1) ag) ah)) (λ_ _ _ _ _ _=>(aQ v8 Pd hr (af (rv 1) (af (aG cX ag (rv 0)) ah)))))
   (ai (xC (aQ Mo B hr (af (rv 3) (af (jh HF (rv 2) lV (lW (vM p9 ag))) (af (rv 4) (af (aq ar (rv 1) ag) ah))))) (tq (n:=3) rfl (dy (bK (i:=5) cJ.nd) (dy (bK (i:=6) cJ.nd) (dy (bK (i:=7) cJ.nd) oF)))))
   (ai (Hj (i:=8) (L2.aj vQ) ["_law_script","_law_head","_law_names_here","_law_lane","_law_cells","_law_legs","_law_clock","_law_used","_law_fresh","_law_bad","_law_k","_law_row","_law_some","_law_name","_law_other","_law_pace","_law_later_here","_law_moment","_law_what","_law_due"] [("_law_used",7)] rfl rfl rfl cJ.nd rfl (Or.inl rfl) (fj (rv 2)) (λ_ _ _ _ _ _=>(rv 0)) (λ_ _ _ _ _ _=>(aB qV (rv 0) (rv 1))))
   (ai (aE (i:=9) cJ.nd (j8 (sZ [.str "",.str "A",.str "a b",.str "abcdefghi"] rfl [.str "",.str "A",.str "a b",.str "abcdefghi"] rfl)))
   (ai (eu b_ rfl (gm rfl Z.range (af ag ah)) (bK (i:=10) cJ.nd) (ai (aE (i:=11) cJ.nd (aQ e9 B hr (af (aQ v8 B hr (af (rv 0) (af (aG cX ag (rv 10)) ah))) (af (j8 (sZ [.int 4,.int 4,.int 97,.int 97,.int 4003] rfl [.int 4,.int 4,.int 97,.int 97,.int 4003] rfl)) ah))))
   (ai (aE (i:=12) cJ.nd (j8 (af (aG xh (rv 7) (rv 9)) (af (rv 8) (af (aG xh (fC (rY rfl) rfl Z.list boot_list (af (rv 5) ah)) (rv 8)) (af (rv 9) ah))))))
   (ai (aE (i:=13) cJ.nd (aq ar (aq ar (rv 12) (aq ar (rv 11) ag)) (aG eh (aq ar (rv 11) ag) (aI bV rfl Z.len boot_len (af (aq ar (rv 12) (aq ar (rv 11) ag)) ah)))))
   (ai (aE (i:=14) cJ.nd (aq ar (aq ar (rv 12) (aq ar (rv 11) ag)) (aG eh (aq ar (rv 11) ag) (aI bV rfl Z.len boot_len (af (aq ar (rv 12) (aq ar (rv 11) ag)) ah)))))
   (ai (aE (i:=15) cJ.nd (aG dD (aq ar (rv 11) ag) ag))
   (ai (aE (i:=16) cJ.nd (eQ (bT hr.aL) (aG eh (aq ar (rv 11) ag) ag) ag))
   (ai (aE (i:=17) cJ.nd (cE (af (aG cX (aq ar (rv 6) ag) (aG bP (fC MT rfl Z.int boot_int (af (rv 16) ah)) (aq ar (rv 6) ag))) (af (aq ar (rv 6) ag) ah))))
   (ai (eu b_ rfl (gm rfl Z.range (af ag ah)) (bK (i:=18) cJ.nd) (ai (aE (i:=19) cJ.nd (aQ Af B hr (af (rv 18) (af (rv 13) (af (rv 14) (af (rv 15) (af (rv 16) (af (rv 5) (af (rv 7) ah)))))))))
   (ai (aR (cP (dk (aB (bT hr.aL) (rv 19) bF) (cF (aB j3 (rv 18) ag)))) (ak zy) aF)
   (ak (aR (aB (h_ hr.aL) (aQ EZ B hr (af (rv 3) (af (rv 18) (af (rv 13) (af (rv 14) (af (rv 15) (af (rv 17) ah))))))) (aQ Io B hr (af (rv 19) ah))) (ak (ay ed)) aF)))))
   (ak (aR (dj (bX (aQ yi B hr (af (rv 3) (af (rv 5) (af (rv 6) ah)))))) (ak (ay ed)) aF)))))))))))
   (ai (aR (dj (bX (aQ rH B hr (af (rv 3) (af (rv 5) (af (rv 6) ah)))))) (ak (ay ed)) aF)
   (ai (aE (i:=13) cJ.nd (aq ar (rv 8) (aG dD (aI bV rfl Z.len boot_len (af (rv 8) ah)) ag)))
   (ai (aR (aB CA (aI IY rfl Z.len boot_len (af (rv 5) ah)) ag) (ak (ay ed)) aF)
   (ai (aX (aV (pl:=_) eX B hr (rv 3) (af (rv 13) (af ag (af ag ah)))))
   (ai (tu oQ (rv 5) (rv 13) (cE (af (rv 6) (af (cE (af ag (af ag ah))) (af ag ah)))))
   (ai (eu b_ rfl (gm rfl Z.range (af ag ah)) (bK (i:=18) cJ.nd) (ak (aR (aB (h_ hr.aL) (aQ EZ B hr (af (rv 3) (af (rv 18) (af (rv 13) (af (rv 13) (af ag (af (rv 6) ah))))))) (j8 ah)) (ak (ay ed)) aF)))
   (ak (ay (aQ yi B hr (af (rv 3) (af (rv 5) (af (rv 6) ah))))))))))))))))))))]
 ·obtain ⟨ns,rfl,_⟩:=h;rfl
 obtain ⟨ns,rfl,hl,hT,hJ,q⟩:=h
 have hT:J T=some .tab:=hT T (by simp)
 refine hX ?_
 simp_all! []
 refine ⟨ns,0,rfl,by decide,by decide,_,[21,7,4],rfl,oK (by decide),by decide,λds hD=>?_⟩
 obtain ⟨d0,ds,rfl,d00,d01,hD⟩:=hD.cons
 obtain ⟨d1,ds,rfl,d10,d11,hD⟩:=hD.cons
 obtain ⟨d2,ds,rfl,d20,d21,hD⟩:=hD.cons
 cases hD.nil
 simp_all! []
 refine ⟨ns,1,rfl,by decide,by decide,_,3 + d1,rfl,by omega,by omega,λnames nl nd ng=>?_⟩
 simp_all! []
 intro p hp
 refine ⟨p,rfl,ax,λJ1 d e o b mv=>?_⟩
 have mvJ:Mv J J1 (λ_=>False) (Ln.own ⟨0,d,e,o,[],[]⟩ p):=by
  refine (Mv.Eb (S:=λ_=>False) hp).trans ⟨λa u h n=>mv.keep a u h λz=>n (.inr z),λa z=>(mv.own a z).imp .inr id,mv.mono⟩
 have ok0:cm ⟨0,d,e,o,[],[]⟩:=⟨⟨List.nodup_nil,(by simp),(by simp),(by simp),(by simp),(by simp),Rat.le_refl,UW _,(by show 0≤100;decide),(by intro n;simp [Ln.fs,Ln.EX]),List.nodup_nil,(by show 0≤12;decide)⟩,rfl⟩
 have hT1:J1 T=some .tab:=mvJ.keep _ _ hT λz=>z
 simp_all! [uW]
 refine ⟨by omega,by omega,λ_=>true,λx=>.int (yB ns (8 + Se x)),⟨by rw [iZ];exact bp (by omega),λJ' _=>⟨trivial,λx hx=>⟨⟨rfl,rfl⟩,λ_=>?_⟩⟩⟩,?_⟩
 ·obtain ⟨i,hi⟩:=Vi.mp hx
  obtain ⟨i1,rfl⟩:=(sk _ _ _ _).mp hi
  simp_all! []
  exact ⟨ns,_,rfl,by omega,by omega,rfl,rfl⟩
 obtain ⟨cs,hcs,hcl⟩:∃cs:List Int,((sj 0 d0.toNat).filter λ_=>true).map (λx=>PV.int (yB ns (8 + Se x)))=cs.map .int∧cs.length≤21:=⟨((sj 0 d0.toNat).filter λ_=>true).map (λx=>yB ns (8 + Se x)),by rw [U'];rfl,by
  rw [UZ]
  exact Vh (VM _ _) (by rw [iZ];omega)⟩
 rw [hcs]
 simp_all! [Fx]
 have hnl:names.dropLast.length≤40:=by rw [WZ];omega
 refine ⟨p,_,names.dropLast,cs,d2,rfl,b,ok0,rfl,rfl,hT1,hnl,(λn hn=>ng n (List.dropLast_subset _ hn)),by omega,d20,d21,λJ2 L D U gs ep used wk hun hus hul=>?_⟩
 have hT2:J2 T=some .tab:=wk.kept hT1 (b.Ny hT1)
 obtain ⟨st,gnd,gl,gsz⟩:=wk.up
 clear mvJ mv hcs
 have nT2:¬ L.own p T:=λz=>by
  rcases wk.mv.own T (.inl z) with h | h
  ·exact b.Ny hT1 h
  ·rw [hT1] at h;cases h
 have hU2:=wk.hU
 have nU2:=wk.nU
 have sd:Sd cN cL J2 p L D T gs ep:=⟨wk.b,wk.ok,wk.rl,wk.hD,wk.nD,hT2,nT2⟩
 have hw200:∀c∈L.cs,c.w.length < 200:=λc hc=>by have:=wk.wl c hc;omega
 have hlen:used.length≤21:=by omega
 clear wk hT2 nT2 st gsz
 have hkv:(bC gs).map (λkv=>PV.str kv.1)=(gs.map (·.1)).map PV.str:=by unfold bC;rw [U',U'];rfl
 simp_all! [uW]
 obtain ⟨pn,hpn⟩:∃pn:Str→Bool,∀x,pn x=!decide (x∈used):=⟨_,λ_=>rfl⟩
 refine ⟨λx=>match x with | .str s=>pn s | _=>false,id,⟨by rw [UZ];exact bp (by omega),λJ' sub=>⟨trivial,λx hx=>?_⟩⟩,?_⟩
 ·obtain ⟨s,hs,rfl⟩:=U0.mp hx
  have hU':=sub _ _ hU2
  simp_all! [pX]
  refine ⟨⟨s,used,rfl,BQ hU',mU rfl ⟨(hpn s).symm,rfl⟩⟩,λ_=>trivial⟩
 have ef:((names.map PV.str).filter λx=>match x with | .str s=>pn s | _=>false).map id=(names.filter pn).map PV.str:=by rw [List.map_id,VH];rfl
 rw [ef]
 have hfr:∀n∈names.filter pn,n∈names∧n ∉ used:=λn hn=>by
  obtain ⟨h1,h2⟩:=U_.mp hn
  rw [hpn] at h2
  exact ⟨h1,by simpa using h2⟩
 have hfl:0 < (names.filter pn).length:=by
  have hne:names≠[]:=λe=>by rw [e] at nl;simp at nl;omega
  refine List.length_pos_of_mem (a:=names.getLast hne) (U_.mpr ⟨Xe hne,?_⟩)
  rw [hpn]
  have:names.getLast hne ∉ names.dropLast:=λh=>by
   have e:=Vx hne
   rw [← e] at nd
   exact (gH nd).2 h
  simp only [Ws,decide_eq_false_iff_not]
  exact λh=>this (hus _ h)
 have hfm:(names.filter pn).length≤20:=Vh (VM _ _) (by omega)
 generalize names.filter pn=fresh at hfr hfl hfm ⊢
 simp_all! []
 have hD:=sd.hD
 have hlU:me J2 (.ref U)=some (used.map .str):=by unfold me;simp only [hU2]
 have hg:∀m,m∈gs.map (·.1)↔m∈L.row:=λm=>by rw [sd.rl.nm];exact (sd.ok.rm m).symm
 have hgl:(gs.map (·.1)).length≤12:=by rw [UZ];exact gl
 refine ⟨by decide,by decide,?_⟩
 obtain ⟨Inv,hInv⟩:∃Inv:Nat→Sr→Hq→Prop,∀i τ J',Inv i τ J'↔∃(u10 u11 u12 u13 u14 u15 u16 u17 u18 u19:Option PV),τ=[some (.fl (ns.map .int)),some (.fl [.int d0,.int d1,.int d2]),some (.fl (names.map .str)),some (.ref p),some (.fl (cs.map .int)),some (.ref D),some (fr L.t),some (.ref U),some (.fl (fresh.map .str)),some (.fl [.str "",.str "A",.str "a b",.str "abcdefghi"]),u10,u11,u12,u13,u14,u15,u16,u17,u18,u19]∧J'=J2:=⟨_,λ_ _ _=>Iff.rfl⟩
 refine nN Inv ((hInv _ _ _).mpr ⟨_,_,_,_,_,_,_,_,_,_,rfl,rfl⟩) ?_ ?_
 ·intro i τ J' hi hv
  obtain ⟨u10,u11,u12,u13,u14,u15,u16,u17,u18,u19,rfl,rfl⟩:=(hInv _ _ _).mp hv
  clear hv
  simp_all! []
  refine ⟨ns,2 + (0 + (i:Int)),rfl,by omega,by omega,_,[4,4,97,97,4003],rfl,oK (by decide),by decide,λds hQ=>?_⟩
  obtain ⟨e0,ds,rfl,e00,e01,hQ⟩:=hQ.cons
  obtain ⟨e1,ds,rfl,e10,e11,hQ⟩:=hQ.cons
  obtain ⟨e2,ds,rfl,e20,e21,hQ⟩:=hQ.cons
  obtain ⟨e3,ds,rfl,e30,e31,hQ⟩:=hQ.cons
  obtain ⟨e4,ds,rfl,e40,e41,hQ⟩:=hQ.cons
  cases hQ.nil
  simp_all! []
  refine ⟨_,hlU,by rw [UZ];exact di (by omega),?_⟩
  simp_all! [hD,hkv]
  refine ⟨by simp only [UZ];exact di (by omega),?_⟩
  have hbad:([.str "",.str "A",.str "a b",.str "abcdefghi"]:List PV)=MO.map .str:=rfl
  have hS:∀{j:Int},0≤j→j < 4→∃S:List Str,dF ([PV.fl (used.map .str ++ [.str "",.str "A",.str "a b",.str "abcdefghi"]),.fl (fresh.map .str),.fl ((gs.map (·.1)).map .str ++ fresh.map .str),.fl [.str "",.str "A",.str "a b",.str "abcdefghi"]]:List PV) j=some (.fl (S.map .str))∧0 < S.length:=λ{j} h0 h1=>by
   obtain ⟨x,hx,h⟩:=Qn (A:=.fl (used.map .str ++ [.str "",.str "A",.str "a b",.str "abcdefghi"])) (B:=.fl (fresh.map .str)) (C:=.fl ((gs.map (·.1)).map .str ++ fresh.map .str)) (D:=.fl [.str "",.str "A",.str "a b",.str "abcdefghi"]) h0 h1
   rw [hx]
   rcases h with rfl | rfl | rfl | rfl
   ·exact ⟨used ++ MO,by rw [hbad,U7],by rw [Vg];show 0 < used.length + 4;omega⟩
   ·exact ⟨fresh,rfl,hfl⟩
   ·exact ⟨gs.map (·.1) ++ fresh,by rw [U7],by rw [Vg];omega⟩
   ·exact ⟨MO,rfl,by decide⟩
  obtain ⟨S,hS0,hSl⟩:=hS e00 e01
  obtain ⟨S',hS1,hSl'⟩:=hS e10 e11
  obtain ⟨n,_,hn⟩:=n_ e20 hSl
  obtain ⟨n',_,hn'⟩:=n_ e30 hSl'
  clear hS
  simp_all! []
  obtain ⟨SL,hSL⟩:∃SL:List PV,SL=[PV.fl (used.map .str ++ [.str "",.str "A",.str "a b",.str "abcdefghi"]),.fl (fresh.map .str),.fl ((gs.map (·.1)).map .str ++ fresh.map .str),.fl [.str "",.str "A",.str "a b",.str "abcdefghi"]]:=⟨_,rfl⟩
  rw [← hSL] at hS0 hS1 ⊢
  clear hSL
  simp_all! [hS0,UZ]
  refine ⟨by omega,?_⟩
  simp_all! [hn,hS1,UZ]
  refine ⟨by omega,?_⟩
  simp_all! [hn']
  refine ⟨by decide,?_⟩
  obtain ⟨l,hl⟩:∃l:Bool,decide (e4 % 2=1)=l:=⟨_,rfl⟩
  have st2:Sz 240 L.t:=(sD sd.ok.ts).mono (by decide)
  obtain ⟨q0,hq0,hq1,hq2,hq3⟩:=Js L.t l
  have hq3:=hq3 st2
  simp_all! [hl]
  refine ⟨l,rfl,?_⟩
  simp_all! []
  refine ⟨.of (m:=64) (by split <;> exact .small (by decide) (by decide)) st2.den,?_⟩
  simp_all! [hl]
  rw [hq0]
  obtain ⟨In2,hIn2⟩:∃In2:Nat→Sr→Hq→Prop,∀j τ Ja,In2 j τ Ja↔∃(u18 u19:Option PV),τ=[some (.fl (ns.map .int)),some (.fl [.int d0,.int d1,.int d2]),some (.fl (names.map .str)),some (.ref p),some (.fl (cs.map .int)),some (.ref D),some (fr L.t),some (.ref U),some (.fl (fresh.map .str)),some (.fl [.str "",.str "A",.str "a b",.str "abcdefghi"]),some (.int (0 + (i:Int))),some (.fl [.int e0,.int e1,.int e2,.int e3,.int e4]),some (.fl SL),some (.str n),some (.str n'),some (.int (e4 - 2001)),some (.bl l),some (fr q0),u18,u19]∧Ja=J':=⟨_,λ_ _ _=>Iff.rfl⟩
  simp_all! []
  refine ⟨by decide,by decide,?_⟩
  refine nN In2 ((hIn2 _ _ _).mpr ⟨_,_,rfl,rfl⟩) ?_ ?_
  ·intro j τ Ja hj hv
   obtain ⟨v18,v19,rfl,rfl⟩:=(hIn2 _ _ _).mp hv
   clear hv
   have hj:j < 8:=hj
   simp_all! []
   refine ⟨L,0 + (j:Int),n,n',e4 - 2001,l,D,U,gs,ep,used,rfl,by omega,by omega,hD,hU2,gnd,hg,hun,?_⟩
   simp_all! [ER]
   have old:∀{x:Option PV},In2 (j + 1) [some (.fl (ns.map .int)),some (.fl [.int d0,.int d1,.int d2]),some (.fl (names.map .str)),some (.ref p),some (.fl (cs.map .int)),some (.ref D),some (fr L.t),some (.ref U),some (.fl (fresh.map .str)),some (.fl [.str "",.str "A",.str "a b",.str "abcdefghi"]),some (.int (0 + (i:Int))),some (.fl [.int e0,.int e1,.int e2,.int e3,.int e4]),some (.fl SL),some (.str n),some (.str n'),some (.int (e4 - 2001)),some (.bl l),some (fr q0),some (.int (0 + (j:Int))),x] Ja:=(hIn2 _ _ _).mpr ⟨_,_,rfl,rfl⟩
   by_cases hc:dQ L (0 + (j:Int)) n n' (e4 - 2001) l=10→0 + (j:Int) < 6
   ·have hB:∀A B:Prop,(if dQ L (0 + (j:Int)) n n' (e4 - 2001) l=10 then (if 5 < 0 + (j:Int) then A else B) else B)=B:=λA B=>by
     split
     ·rename_i c
      rw [if_neg (by have:=hc c;omega)]
     ·rfl
    rw [hB]
    clear hB
    simp_all! []
    refine ⟨p,L,0 + (j:Int),n,n',e4 - 2001,q0,rfl,sd.b,sd.ok,hw200,by omega,by omega,hq1,hq3,by rw [hq2];exact hc,?_⟩
    rw [hq2]
    simp_all! []
    refine ⟨_,rfl,?_⟩
    simp_all! []
    refine ⟨rW _,(rW _).1,?_⟩
    rw [eq_self]
    simp_all! []
    exact old
   ·have hc:=Classical.not_imp.mp hc
    rw [if_pos hc.1,if_pos (by omega)]
    exact old
  ·intro τ Ja hv
   obtain ⟨v18,v19,rfl,rfl⟩:=(hIn2 _ _ _).mp hv
   clear hv hIn2 In2
   simp_all! []
   refine ⟨p,L,D,ep,gs,rfl,sd.b,sd.ok,hD,gnd,by omega,sd.rl.sz,sd.rl.same _,?_⟩
   simp_all! []
   exact (hInv _ _ _).mpr ⟨_,_,_,_,_,_,_,_,_,_,rfl,rfl⟩
 ·intro τ J' hv
  obtain ⟨u10,u11,u12,u13,u14,u15,u16,u17,u18,u19,rfl,rfl⟩:=(hInv _ _ _).mp hv
  clear hv hInv Inv
  simp_all! []
  refine ⟨p,L,D,gs,ep,rfl,sd.b,sd.ok,hD,sd.rl,?_⟩
  obtain ⟨n,hnf,hn⟩:∃n∈fresh,dF (fresh.map PV.str) ((fresh.length:Int) - 1)=some (.str n):=by
   have h:fresh.length - 1 < fresh.length:=by omega
   refine ⟨fresh[fresh.length - 1],VG h,?_⟩
   rw [show ((fresh.length:Int) - 1)=((fresh.length - 1:Nat):Int) by omega]
   exact bA (by rw [U8,U2 h];rfl)
  have hll:(bC gs).length=gs.length:=by unfold bC;rw [UZ]
  have hgn:=ng n (hfr n hnf).1
  have hnc:n ∉ L.cs.map Cf.n:=by rw [hun];exact (hfr n hnf).2
  have hng:n ∉ gs.map (·.1):=λz=>hnc (by
   rw [sd.rl.nm,dR] at z
   obtain ⟨c',hc',e'⟩:=U0.mp z
   exact U0.mpr ⟨c',(Ln.cV.mp hc').1,e'⟩)
  simp_all! [hn,UZ,hD,hll]
  by_cases c12:(12:Int)≤(gs.length:Int)
  ·rw [if_pos c12]
   simp_all! []
   exact q J' (by simpa using sd.hT)
  rw [if_neg c12]
  simp_all! [sd.b.ob]
  have hrow:L.row.length=gs.length:=by rw [sd.ok.row,sL];exact sd.rl.len.symm
  have hcs:=congrArg V0 hun
  rw [UZ] at hcs
  refine ⟨e8 _ _ _ _,p,L,n,3,1,rfl,sd.b,sd.ok,sd.hT,Ck hgn,by omega,(λz=>by rw [hgn] at z;cases z),(λ_ z=>absurd ⟨by decide,by decide⟩ z),(λ_ _ z=>absurd z hnc),(λ_ _ _ z=>by omega),λ_ _ _ _ J3 L3 b3 ok3 jn mv3=>?_⟩
  have rl3:=sd.rl.join ok3.tobc (v:=1) (x:=3) (by decide) (by decide) jn sd.ok.t0 sd.ok.ts (λz=>hng (by rw [sd.rl.nm];exact z))
  obtain ⟨a,r,ecs,et⟩:=jn
  have hD3:=mv3.keep _ _ hD sd.nD
  have nD3:=mv3.fresh hD sd.nD
  have hT3:=mv3.keep _ _ sd.hT sd.nT
  have nTD:T≠D:=λe=>by have:=sd.hT;rw [e,hD] at this;cases this
  simp_all! [hD3]
  refine ⟨bp (by omega),λep'=>?_⟩
  have epu:vL (bC gs) n (.tup [fr L.t,.tup [.int 3,.int 1],.int 1])=bC (gs ++ [(n,⟨L.t,((3:Int):Rat),1⟩)]):=by
   unfold bC
   rw [show (PV.tup [fr L.t,.tup [.int 3,.int 1],.int 1])=(aZ.mk L.t ((3:Int):Rat) 1).V from rfl,xr (f:=aZ.V) hng]
  rw [epu]
  have b4:bh cN cL (put J3 D (.dct (bC (gs ++ [(n,⟨L.t,((3:Int):Rat),1⟩)])) ep')) p L3:=b3.keep λa u ow e=>by rw [aw (λz=>by subst z;exact nD3 ow)];exact e
  have hT4:(put J3 D (.dct (bC (gs ++ [(n,⟨L.t,((3:Int):Rat),1⟩)])) ep')) T=some .tab:=by rw [aw nTD];exact hT3
  have hD4:(put J3 D (.dct (bC (gs ++ [(n,⟨L.t,((3:Int):Rat),1⟩)])) ep')) D=_:=ax
  have hl4:(gs ++ [(n,(⟨L.t,((3:Int):Rat),1⟩:aZ))]).length≤20:=by rw [Vg];show gs.length + 1≤20;omega
  have hc3:(⟨n,a,r,[⟨L.t,((3:Int):Rat),1⟩],none⟩:Cf)∈L3.cs:=by rw [ecs];simp
  have hm3:n∈L3.cs.map Cf.n:=U0.mpr ⟨_,hc3,rfl⟩
  have hr3:n∈L3.row:=(ok3.rm n).mpr (by rw [dR];exact U0.mpr ⟨_,Ln.cV.mpr ⟨hc3,rfl⟩,rfl⟩)
  have hw3:∀c∈L3.cs,c.w.length < 200:=λc hc=>by
   rw [ecs] at hc
   rcases U9.mp hc with h | h
   ·exact hw200 c h
   ·rw [Vc] at h;subst h;show 1 < 200;decide
  have h10:∀w:Int,w < 6→dQ L3 w n n 0 (decide (L3.t < L3.t))=10:=λw hw=>by
   rw [decide_eq_false Rat.lt_irrefl]
   unfold dQ
   by_cases z3:w < 3
   ·rw [if_pos z3,if_neg (λz=>z.elim (λz=>z hr3) (λz=>z.2 hr3))]
   ·rw [if_neg z3,if_pos hw,if_neg (λz=>z hm3),if_neg (λz=>z.2.elim (λz=>nomatch z) (λz=>z hr3))]
  generalize gs ++ [(n,(⟨L.t,((3:Int):Rat),1⟩:aZ))]=gs4 at rl3 b4 hT4 hD4 hl4 ⊢
  generalize put J3 D (.dct (bC gs4) ep')=J4 at b4 hT4 hD4 ⊢
  clear b3 mv3 hD3 nD3 hT3 epu
  rw [← et]
  simp_all! []
  refine ⟨by decide,by decide,?_⟩
  obtain ⟨In3,hIn3⟩:∃In3:Nat→Sr→Hq→Prop,∀j τ Ja,In3 j τ Ja↔∃(v10 v11 v12 v14 v15 v16 v17 v18 v19:Option PV),τ=[some (.fl (ns.map .int)),some (.fl [.int d0,.int d1,.int d2]),some (.fl (names.map .str)),some (.ref p),some (.fl (cs.map .int)),some (.ref D),some (fr L3.t),some (.ref U),some (.fl (fresh.map .str)),some (.fl [.str "",.str "A",.str "a b",.str "abcdefghi"]),v10,v11,v12,some (.str n),v14,v15,v16,v17,v18,v19]∧Ja=J4:=⟨_,λ_ _ _=>Iff.rfl⟩
  refine nN In3 ((hIn3 _ _ _).mpr ⟨_,_,_,_,_,_,_,_,_,rfl,rfl⟩) ?_ ?_
  ·intro j τ Ja hj hv
   obtain ⟨v10,v11,v12,v14,v15,v16,v17,v18,v19,rfl,rfl⟩:=(hIn3 _ _ _).mp hv
   clear hv
   have hj:j < 6:=hj
   have h10:=h10 (0 + (j:Int)) (by omega)
   simp_all! []
   refine ⟨p,L3,0 + (j:Int),n,n,0,L3.t,rfl,b4,ok3,hw3,by omega,by omega,Rat.le_refl,ok3.HX,λ_=>by omega,?_⟩
   rw [h10]
   have f10:gy 10=[]:=rfl
   have hcm:=rW 10
   rw [f10] at hcm ⊢
   simp_all! []
   refine ⟨hcm,hcm.1,?_⟩
   rw [eq_self]
   simp_all! []
   exact (hIn3 _ _ _).mpr ⟨_,_,_,_,_,_,_,_,_,rfl,rfl⟩
  ·intro τ Ja hv
   obtain ⟨v10,v11,v12,v14,v15,v16,v17,v18,v19,rfl,rfl⟩:=(hIn3 _ _ _).mp hv
   clear hv hIn3 In3
   simp_all! []
   exact ⟨p,L3,D,ep',gs4,rfl,b4,ok3,hD4,rl3.nd ok3.tobc,hl4,rl3.sz,rl3.same _,q Ja (by simpa using hT4)⟩
end
theorem MH {P:Program} {w:World} {K:PySem.W.Frag} {mg:Str→Option Value} (Z:bN mg) {W:Addr} {c:Nat→Addr} (Er:DD K mg W c) (N:rR K mg) {jZ:Tok} (gB:mg "FARTHEST"=some (.int 1000000 jZ)) {gq:Tok} (eV:mg "FASTEST"=some (.int 1000 gq)) {oR:Tok} (kC:mg "FINEST"=some (.int 60 oR)) {oS:Tok} (kD:mg "LATEST"=some (.int 1000000 oS)) {l4:Tok} (iX:mg "LONGEST"=some (.int 8 l4)) {yd:Tok} (sf:mg "MOST"=some (.int 12 yd)) {rq:Tok} (nQ:mg "SIGNS"=some (.str "abcdefghijklmnopqrstuvwxyz0123456789" rq)) (X_Log:∃C,dJ K mg "Log" C∧aK K C "rows"∧aK K C "gone"∧dA K C "__init__" "Log.__init__" gS∧dA K C "turn" "Log.turn" m5∧dA K C "leave" "Log.leave" lq∧dA K C "left" "Log.left" m3∧dA K C "legs" "Log.legs" m4∧dA K C "there" "Log.there" lz∧dA K C "leg_at" "Log.leg_at" jW∧dA K C "place" "Log.place" ly) (X_Lane:∃C,dJ K mg "Lane" C∧aK K C "now"∧aK K C "logs"∧aK K C "row"∧dA K C "__init__" "Lane.__init__" fT∧dA K C "must_be_there" "Lane.must_be_there" dY∧dA K C "leg_of" "Lane.leg_of" iF∧dA K C "settle" "Lane.settle" fH∧dA K C "join" "Lane.join" k_∧dA K C "clock" "Lane.clock" jQ∧dA K C "order" "Lane.order" jU∧dA K C "place" "Lane.place" jV∧dA K C "log_of" "Lane.log_of" iG∧dA K C "left" "Lane.left" lh∧dA K C "history" "Lane.history" gR∧dA K C "rank" "Lane.rank" lj∧dA K C "place_at" "Lane.place_at" fV∧dA K C "meets" "Lane.meets" jT∧dA K C "foretold" "Lane.foretold" fU∧dA K C "go_to" "Lane.go_to" jR∧dA K C "bells" "Lane.bells" jP∧dA K C "turn" "Lane.turn" lp∧dA K C "about" "Lane.about" jO∧dA K C "leave" "Lane.leave" jS) (X_Bells:∃C,dJ K mg "Bells" C∧aK K C "rows"∧dA K C "__init__" "Bells.__init__" fE∧dA K C "drop" "Bells.drop" gh∧dA K C "put" "Bells.put" k9∧dA K C "told" "Bells.told" jN) (Mp:Def K mg "_law_cell" BB) (E4:Def K mg "_law_digits" tD) (E6:Def K mg "shared" tF) (Al:Def K mg "fraction" m7) (OW:Def K mg "_law_low" Hm) (Ms:Def K mg "less" BD) (Mw:Def K mg "plus" BG) (Iy:Def K mg "minus" xH) (IC:Def K mg "times" xJ) {g9:Addr} (g7:Ap K mg "good_name" ia g9) (Iz:Def K mg "_law_names" oG) (Ao:Def K mg "place_on" m_) (Dy:Def K mg "last_by" pQ) (uh:Def K mg "lies_behind" iI) (Am:Def K mg "in_order" m8) (ui:Def K mg "rings_ahead" iJ) (Dz:Def K mg "meeting" pR) (nC:Def K mg "in_lowest_terms" fk) (ug:Def K mg "good_moment" iH) (ID:Def K mg "_law_whole" xK) (Mu:Def K mg "_law_part" BF) (IE:Def K mg "_law_words" xM) (DA:Def K mg "_law_passrow" pS) (An:Def K mg "_law_passrows" m9) (E5:Def K mg "_law_placed" tE) (IB:Def K mg "_law_paced" xI) (R5:Def K mg "_law_at" Ob) (Iw:Def K mg "_law_later" xG) (E3:Def K mg "_law_before" tw) (IA:Def K mg "_law_order" rb) (DB:Def K mg "_law_ringdue" pT) (E7:Def K mg "_law_stands" tG) (Iv:Def K mg "_law_flags" ra) (OU:Def K mg "_law_ask" Hl) (Mx:Def K mg "_law_said" BH) (Ak:Def K mg "_law_due_word" m6) (Mt:Def K mg "_law_next" BE) (rJ:Def K mg "_law_placed_right" gT) (Iu:Def K mg "_law_acted" xE) (Mr:Def K mg "_law_done" BC) (Mq:Def K mg "_law_deed" xF) (My:Def K mg "_law_walk" BI) {f:Addr} {fd:FuncData} (F:cg K "law" "law" vQ f fd) (base:Heap) (Bm:BMain mg base) :
  aO P w K mg base (cK P w) 11 f fd ["_law_script"] (dg K (BP [g9])):=by
 obtain ⟨yz,bz,aY,bR,qx,yr,wj,yp,yq,wo,uB,wm⟩:=X_Log
 obtain ⟨Sh,au,az,aP,aD,oZ,ka,rM,rQ,wc,uv,uz,uA,rO,wd,qw,we,o5,uy,o4,uw,uu,wg,ur,ux⟩:=X_Lane
 obtain ⟨RK,bQ,a_,nF,uo,wb,uq⟩:=X_Bells
 have ko:=Er.own 5 (by decide)
 have o6:=Er.own 0 (by decide)
 have Az:=Er.own 2 (by decide)
 have gi:=Er.own 3 (by decide)
 have fq:=Er.own 7 (by decide)
 have AA:=Er.own 6 (by decide)
 have wq:=Er.own 1 (by decide)
 have iP:=Er.own 4 (by decide)
 have Mz:=Mp.eA (P:=P) (w:=w) (base:=base) (λ_ _ F=>GA F Z) λ_ _ _ _ _ _=>iS λ_ _=>rfl
 have e9:=E4.Fv (P:=P) (w:=w) (base:=base) (λ_ _ F=>Ee F Z.toES) λ_ _ _ _ _ _=>iS λ_ _=>rfl
 have yn:=yR e9
 have iN:=E6.Fv (P:=P) (w:=w) (base:=base) (λ_ _ F=>Ef F Z.toES) λ_ _ _ _ _ _=>iS λ_ _=>rfl
 have Ff:=yS iN
 have cj:=Al.Fv (λ_ _ F=>y6 F Z.toES iN) λ_ _ _ _ _ _=>iS λ_ _=>rfl
 have Au:=uH cj
 have nA:=OW.Fv (P:=P) (w:=w) (base:=base) (λ_ _ F=>NA F Z.toES) λ_ _ _ _ _ _=>iS λ_ _=>rfl
 have BZ:=Gh nA
 have dO:=Ms.Fv (P:=P) (w:=w) (base:=base) (λ_ _ F=>JJ F Z.toES) λ_ _ _ _ _ _=>iS λ_ _=>rfl
 have mF:=D5 dO
 have Aj:=Mw.Fv (λ_ _ F=>JK F Z.toES cj) λ_ _ _ _ _ _=>iS λ_ _=>rfl
 have nB:=Iy.Fv (λ_ _ F=>Gx F Z.toES cj) λ_ _ _ _ _ _=>iS λ_ _=>rfl
 have wa:=IC.Fv (λ_ _ F=>Gz F Z.toES cj) λ_ _ _ _ _ _=>iS λ_ _=>rfl
 have MD:=D6 Aj
 have B0:=AZ nB
 have IM:=A3 wa
 have km:=g7.Fv (P:=P) (w:=w) (base:=base) (λ_ _ _ F=>w8 F Z.toES Bm iX nQ) λ_ _ _ _ _ _=>Ac λ_=>rfl
 have yo:=sy km
 have v9:=Iz.Fv (λ_ _ F=>Gy F Z.toES e9) λ_ _ _ _ _ _=>iS λ_ _=>rfl
 have IK:=A2 v9
 have gr:=Ao.eA (λ_ _ F=>xb F Z MD B0 IM) λ_ _ _ _ _ _=>iS λ_ _=>rfl
 have DE:=Dy.eA (λ_ _ F=>y8 F Z mF) λ_ _ _ _ _ _=>iS λ_ _=>rfl
 have uk:=uh.eA (λ_ _ F=>qF F Z gr mF) λ_ _ _ _ _ _=>T_ λ_ _ _ _ _=>rfl
 have Av:=Am.eA (λ_ _ F=>w_ F Z uk) λ_ _ _ _ _ _=>iS λ_ _=>rfl
 have Fi:=qx.SV (P:=P) (w:=w) (base:=base) bz (λ_ _ F=>yZ F bz aY bR) λ_ _ _ _ _ _=>MI λ_ _ _ _=>rfl
 have fv:=yr.n6 (mg:=mg) bz.cl (λ_ _ F=>y4 F Z bz aY gr) λ_ _ _ _ _ _=>IU λ_ _ _=>rfl
 have kI:=wj.n6 (P:=P) (w:=w) (base:=base) (mg:=mg) bz.cl (λ_ _ F=>wY F Z bz bR) λ_ _ _ _ _ _=>iS λ_ _=>rfl
 have mS:=yp.n6 (P:=P) (w:=w) (base:=base) (mg:=mg) bz.cl (λ_ _ F=>y0 F Z bz bR) λ_ _ _ _ _ _=>Ac λ_=>rfl
 have mT:=yq.n6 (P:=P) (w:=w) (base:=base) (mg:=mg) bz.cl (λ_ _ F=>y3 F Z bz aY) λ_ _ _ _ _ _=>Ac λ_=>rfl
 have kK:=wo.n6 (mg:=mg) bz.cl (λ_ _ F=>w6 F Z bz aY bR mF) λ_ _ _ _ _ _=>iS λ_ _=>rfl
 have d6:=uB.n6 (mg:=mg) bz.cl (λ_ _ F=>uT F Z bz aY fq kK DE) λ_ _ _ _ _ _=>iS λ_ _=>rfl
 have kJ:=wm.n6 (mg:=mg) bz.cl (λ_ _ F=>wZ F Z d6 gr) λ_ _ _ _ _ _=>iS λ_ _=>rfl
 have Ax:=oZ.SV (P:=P) (w:=w) (base:=base) au (λ_ _ F=>wR F (cL:=yz) N au az aP aD) λ_ _ _ _ _ _=>Ac λ_=>rfl
 have aS:=ka.n6 (P:=P) (w:=w) (base:=base) (mg:=mg) au.cl (λ_ _ F=>ki F Z (cL:=yz) au aD gi) λ_ _ _ _ _ _=>iS λ_ _=>rfl
 have bB:=rM.n6 (mg:=mg) au.cl (λ_ _ F=>sG F Z au aP az aS d6) λ_ _ _ _ _ _=>iS λ_ _=>rfl
 have bG:=rQ.n6 (mg:=mg) au.cl (λ_ _ F=>sI F Z au aD az bB Av) λ_ _ _ _ _ _=>Ac λ_=>rfl
 have eX:=wc.n6 (mg:=mg) au.cl (λ_ _ F=>wU F Z au aD az aP gB eV sf o6 iP wq Az yo Fi bG) λ_ _ _ _ _ _=>MI λ_ _ _ _=>rfl
 have jA:=uv.n6 (P:=P) (w:=w) (base:=base) (mg:=mg) au.cl (λ_ _ F=>uN F Z (cL:=yz) au az) λ_ _ _ _ _ _=>Ac λ_=>rfl
 have jC:=uz.n6 (P:=P) (w:=w) (base:=base) (mg:=mg) au.cl (λ_ _ F=>uR F Z (cL:=yz) au aD) λ_ _ _ _ _ _=>Ac λ_=>rfl
 have d5:=uA.n6 (mg:=mg) au.cl (λ_ _ F=>uS F Z au az bB gr) λ_ _ _ _ _ _=>iS λ_ _=>rfl
 have cf:=rO.n6 (P:=P) (w:=w) (base:=base) (mg:=mg) au.cl (λ_ _ F=>sH F Z (cL:=yz) au aP gi) λ_ _ _ _ _ _=>iS λ_ _=>rfl
 have kG:=wd.n6 (mg:=mg) au.cl (λ_ _ F=>wV F Z au cf mS) λ_ _ _ _ _ _=>iS λ_ _=>rfl
 have gF:=qw.n6 (mg:=mg) au.cl (λ_ _ F=>qD F Z au cf mT) λ_ _ _ _ _ _=>iS λ_ _=>rfl
 have kH:=we.n6 (mg:=mg) au.cl (λ_ _ F=>wW F Z au aD aS) λ_ _ _ _ _ _=>iS λ_ _=>rfl
 have fR:=o5.n6 (mg:=mg) au.cl (λ_ _ F=>pD F Z au az fq cf kJ mF) λ_ _ _ _ _ _=>IU λ_ _ _=>rfl
 have um:=ui.eA (λ_ _ F=>qG F Z mF) λ_ _ _ _ _ _=>iS λ_ _=>rfl
 have lJ:=nF.SV (P:=P) (w:=w) (base:=base) bQ (λ_ _ F=>uJ F bQ a_) λ_ _ _ _ _ _=>Ac λ_=>rfl
 have jx:=uo.n6 (P:=P) (w:=w) (base:=base) (mg:=mg) bQ.cl (λ_ _ F=>uI F Z bQ a_) λ_ _ _ _ _ _=>IU λ_ _ _=>rfl
 have eW:=wb.n6 (mg:=mg) bQ.cl (λ_ _ F=>wQ F Z bQ a_ jx um) λ_ _ _ _ _ _=>MI λ_ _ _ _=>rfl
 have d3:=uq.n6 (P:=P) (w:=w) (base:=base) (mg:=mg) bQ.cl (λ_ _ F=>uK F Z bQ a_) λ_ _ _ _ _ _=>Ac λ_=>rfl
 have DF:=Dz.eA (λ_ _ F=>y9 F Z N gr B0 Au) λ_ _ _ _ _ _=>iS λ_ _=>rfl
 have bO:=uy.n6 (mg:=mg) au.cl (λ_ _ F=>uQ F Z au az bB DF mF) λ_ _ _ _ _ _=>IU λ_ _ _=>rfl
 have nE:=nC.eA (λ_ _ F=>l8 F Z Ff) λ_ _ _ _ _ _=>Ac λ_=>rfl
 have uj:=ug.eA (λ_ _ F=>qE F Z kC kD nE) λ_ _ _ _ _ _=>Ac λ_=>rfl
 have fQ:=o4.n6 (mg:=mg) au.cl (λ_ _ F=>pB F Z au az aD ko AA uj mF lJ bO eW d3) λ_ _ _ _ _ _=>iS λ_ _=>rfl
 have jB:=uw.n6 (mg:=mg) au.cl (λ_ _ F=>uO F Z au az fQ bG) λ_ _ _ _ _ _=>iS λ_ _=>rfl
 have jz:=uu.n6 (mg:=mg) au.cl (λ_ _ F=>uM F Z au aD lJ bO eW d3) λ_ _ _ _ _ _=>Ac λ_=>rfl
 have eY:=wg.n6 (mg:=mg) au.cl (λ_ _ F=>wX F Z au aP az eV iP aS fv bG) λ_ _ _ _ _ _=>IU λ_ _ _=>rfl
 have jy:=ur.n6 (mg:=mg) au.cl (λ_ _ F=>uL F Z au aD aP az bB fv bG) λ_ _ _ _ _ _=>Ac λ_=>rfl
 have d4:=ux.n6 (mg:=mg) au.cl (λ_ _ F=>uP F Z au aP az aD aS kI) λ_ _ _ _ _ _=>iS λ_ _=>rfl
 have IP:=ID.eA (P:=P) (w:=w) (base:=base) (λ_ _ F=>El F Z) λ_ _ _ _ _ _=>Ac λ_=>rfl
 have Fd:=Mu.eA (λ_ _ F=>GF F Z IP) λ_ _ _ _ _ _=>iS λ_ _=>rfl
 have IQ:=IE.eA (P:=P) (w:=w) (base:=base) (λ_ _ F=>Em F Z) λ_ _ _ _ _ _=>iS λ_ _=>rfl
 have DG:=DA.eA (λ_ _ F=>y_ F Z Fd) λ_ _ _ _ _ _=>iS λ_ _=>rfl
 have Aw:=An.eA (λ_ _ F=>xa F Z DG) λ_ _ _ _ _ _=>iS λ_ _=>rfl
 have Fe:=E5.eA (P:=P) (w:=w) (base:=base) (λ_ _ F=>Bc F Z) λ_ _ _ _ _ _=>iS λ_ _=>rfl
 have IL:=IB.eA (P:=P) (w:=w) (base:=base) (λ_ _ F=>Ek F Z) λ_ _ _ _ _ _=>iS λ_ _=>rfl
 have Fc:=R5.eA (λ_ _ F=>NB F Z BZ) λ_ _ _ _ _ _=>iS λ_ _=>rfl
 have IJ:=Iw.eA (λ_ _ F=>Ei F Z BZ) λ_ _ _ _ _ _=>MI λ_ _ _ _=>rfl
 have ym:=E3.eA (P:=P) (w:=w) (base:=base) (λ_ _ F=>Bb F Z) λ_ _ _ _ _ _=>iS λ_ _=>rfl
 have B1:=IA.eA (λ_ _ F=>Ej F Z Fc ym) λ_ _ _ _ _ _=>iS λ_ _=>rfl
 have DH:=DB.eA (λ_ _ F=>za F Z B1 Fc BZ ym) λ_ _ _ _ _ _=>iS λ_ _=>rfl
 have Fh:=E7.eA (λ_ _ F=>Be F Z Fd IQ B1 Aw DH jA jC jz) λ_ _ _ _ _ _=>IU λ_ _ _=>rfl
 have II:=Iv.eA (P:=P) (w:=w) (base:=base) (λ_ _ F=>Eh F Z) λ_ _ _ _ _ _=>Ac λ_=>rfl
 have OX:=OU.eA (λ_ _ F=>JL F Z kH d5 bO gF kG fR eY d4) λ_ _ _ _ _ _=>RJ λ_ _ _ _ _ _=>rfl
 have ME:=Mx.eA (λ_ _ F=>GG F Z Er OX) λ_ _ _ _ _ _=>RJ λ_ _ _ _ _ _=>rfl
 have As:=Ak.eA (P:=P) (w:=w) (base:=base) (λ_ _ F=>w9 F Z) λ_ _ _ _ _ _=>UI λ_ _ _ _ _ _ _=>rfl
 have MC:=Mt.eA (λ_ _ F=>GD F Z Fc BZ) λ_ _ _ _ _ _=>MI λ_ _ _ _=>rfl
 have rL:=rJ.eA (λ_ _ F=>pE F Z Fc MC d5 bO) λ_ _ _ _ _ _=>IU λ_ _ _=>rfl
 have IH:=Iu.eA (λ_ _ F=>Eg F Z Fc) λ_ _ _ _ _ _=>IU λ_ _ _=>rfl
 have MB:=Mr.eA (λ_ _ F=>GC F Z eX d4 eY jy jB) λ_ _ _ _ _ _=>iS λ_ _=>rfl
 have MA:=Mq.eA (λ_ _ F=>GB F Z Fe IL IJ) λ_ _ _ _ _ _=>RJ λ_ _ _ _ _ _=>rfl
 have MF:=My.eA (λ_ _ F=>GH F Z yn MA MB IH) λ_ _ _ _ _ _=>MI λ_ _ _ _=>rfl
 exact JM F Z Mz yn IK MF Ax As ME II Fh rL eX
end Ov
namespace PySem.W.Fast
def tw4134352460376811726:=0
def tw17576793018474605246:=0
def tw3697707289239251572:=0
def tw10085750531961655732:=0
def tw5016009270634248581:=0
def tw1485983632954494975:=0
def tw11246825361588939587:=0
def tw11984092529242025757:=0
def tw15761724693876276809:=0
def tw17121884291473150300:=0
def tw5912108104595320965:=0
def tw12180337797092627153:=0
def tw5118024794104387322:=0
def tw4103121437477370997:=0
def tw12639859740717056356:=0
def tw6602829712653655306:=0
def tw10262235924934382790:=0
def tw16419193078415959371:=0
def tw15662056890995931596:=0
def tw7621827793136714362:=0
def tw18373687279644353225:=0
def tw1632842524732290402:=0
def tw8489861690299365737:=0
def tw16922660811899252603:=0
def tw14481229186953170430:=0
def tw15658663395056665544:=0
def tw16964202574869873737:=0
def tw17487037474450046799:=0
def tw3947950960872898835:=0
def tw699331788814268521:=0
def tw13725267005756329292:=0
def tw8259894350681783123:=0
def tw944770964552865296:=0
def tw108866733318192590:=0
def tw9777000601729157783:=0
def tw317944260280918592:=0
def tw16678134316795960435:=0
def tw15219853119488385098:=0
def tw15204772508658966375:=0
def tw7896126719958839912:=0
def tw3316420259224200159:=0
def tw9792928002063223059:=0
def tw14826826751625426645:=0
def tw867207085406502913:=0
def tw12659074995853196637:=0
def tw9243903399394766929:=0
def tw366432942280531343:=0
def tw3215171889334768439:=0
def tw6712705317727071043:=0
def tw16125022198628802274:=0
def tw13250755744175498658:=0
def tw2127573034509530833:=0
def tw6476419884301640442:=0
def tw11189234621692516006:=0
def tw458075482146044421:=0
def tw1242149056396926969:=0
def tw6632358267542255852:=0
def tw6547709878828708460:=0
def tw8756785073087269:=0
def tw15342234279521286134:=0
def tw13678434842600343941:=0
def tw18338123965143106793:=0
def tw322415287497444243:=0
def tw14445937975945653800:=0
def tw5038301128712577544:=0
def tw18401666327779426724:=0
def tw12605210069451073533:=0
def tw3054468886863282993:=0
def tw12222588046914109619:=0
def tw2267151535456640311:=0
def tw287174078461912216:=0
def tw14653619984093170771:=0
def tw2179835922296873659:=0
def tw6758137421591177013:=0
def tw10900122013042099892:=0
def tw2625261495424346934:=0
def tw14854262210671712079:=0
def tw4584889604846605371:=0
def tw1772228482112542385:=0
def tw13033007181535799671:=0
def tw17161933519453189376:=0
def tw15242019462835824500:=0
def tw5882714058176370959:=0
def tw9878620351824604814:=0
def tw17940677976167782147:=0
def tw2906603903592607053:=0
def tw5720882825623980917:=0
def tw4521671555777704769:=0
def tw1817718504927162463:=0
def tw17968217744813829970:=0
def tw386690419079044567:=0
def tw807255794603342783:=0
def tw854334104396045420:=0
def tw17127599860817980080:=0
def tw6904370538536344088:=0
def tw15027759211790874581:=0
def tw6820514498123089565:=0
def tw10585247710029991430:=0
def tw9708473990563818704:=0
def tw11121889015740471077:=0
def tw9469287745522395193:=0
def tw2875105946450980819:=0
def tw14124369647659438840:=0
def tw10867489608149773639:=0
def tw11025270863244114979:=0
def tw11754584292229763085:=0
def tw2300729381606019683:=0
def tw18315522369965057906:=0
def tw17458055296166167510:=0
def tw3505543938023309873:=0
def tw98226469052393985:=0
def tw9466288128517749551:=0
def tw1034669219262902602:=0
def tw11823163968888036945:=0
def tw14839229989707143861:=0
def tw8034566490458976115:=0
def tw6687481045163450881:=0
def tw1903758227073317461:=0
def tw2877106740105944957:=0
def tw162383747245209575:=0
def tw14661172134663394431:=0
def tw7925537317487250750:=0
def tw2008394982070373671:=0
def tw1669569628128825936:=0
def tw1887262868661712055:=0
def tw7142727651970167464:=0
def tw10881893273194981699:=0
def tw7457844383681309517:=0
def tw2275883728540059347:=0
def tw447903601317072741:=0
def tw4519716899141192762:=0
def tw15842925540239759274:=0
def tw11303775323605504600:=0
def tw4157995726630442568:=0
def tw6226602685135511556:=0
def tw9772454662295985624:=0
def tw7473612866171026506:=0
def tw5089228647133930700:=0
def tw3315846103243343771:=0
def tw17863323618307665922:=0
def tw12219803805322100371:=0
def tw9004066643393652081:=0
def tw7851418442513721837:=0
def tw14484650829761017828:=0
def tw3292667150304023891:=0
def tw11438364486765799367:=0
def tw9407557120044454866:=0
def tw3391391522244944494:=0
def tw4677768347275043201:=0
def tw13180343433661360890:=0
def tw14241481175380827962:=0
def tw12020906269049920599:=0
def tw7236327732815472028:=0
def tw16541157178021058874:=0
def tw2611987177633845459:=0
def tw8934938349762929421:=0
def tw8369372875997954953:=0
def tw3809389717488705513:=0
def tw16702865165861189553:=0
def tw17555670497837495627:=0
def tw14554457691133210051:=0
def tw11036737925523279371:=0
def tw5328093882726397919:=0
def tw2112115687017134764:=0
def tw6571494455738925027:=0
def tw3014518074451109816:=0
def tw4670604993401892886:=0
def tw17690467283433619466:=0
def tw3321064294888479146:=0
def tw12352460423316869717:=0
def tw9936205987321244336:=0
def tw2625481896049086696:=0
def tw13926385425440164578:=0
def tw5379169551780931257:=0
def tw14984107919518817329:=0
def tw9857495394871788344:=0
def tw1130961078033729225:=0
def tw5880877739829966933:=0
def tw298830344879056496:=0
def tw4754398367205219205:=0
def tw3871794528405733409:=0
def tw12175538964959315510:=0
def tw6573052404204724040:=0
def tw13093839569477394306:=0
def tw5140347558161579347:=0
def tw1519992253158445316:=0
def tw11025881371749275740:=0
def tw10070393819789437102:=0
def tw8011133569815096953:=0
def tw16212767804254724180:=0
def tw2477909965486359614:=0
def tw7221560330819198026:=0
def tw10384323126786579316:=0
def tw15939203867325220234:=0
def tw14788983593386770473:=0
def tw18367122833175206068:=0
def tw17676761204750358402:=0
end PySem.W.Fast
open PySem PySem.W PyProof.Rows
set_option hygiene false
local macro_rules | `(tactic| simp_arith)=>`(tactic| (dsimp only [L2.Fb];refine' Ov.MX KX G ?a ?l ?c ?k;(case a=>k_is);(case l=>k_is);(case c=>k_is);(case k=>k_is)))
set_option maxRecDepth 100000 in
set_option maxHeartbeats 0 in
theorem PySem.Challenge.cw_overhaul_k18_nobody_so_called_holds : PySem.Challenge.rw_overhaul_k18_nobody_so_called.Holds := by
 w_on;o_law;k_head;(case hw=>w_witness2)
 k_fill
 refine Ov.H_ (l:=PySem.Challenge.rw_overhaul_k18_nobody_so_called) (n:=63) (k:=11) (x:="_law_script") (sp:=Ov.Hz) ["good_name"] rfl (by decide) rfl ⟨rfl,by decide,by decide⟩ (λw h Y=>PySem.W.kIn_of Y) ?Nm ?F (λtabs K H a ns hl hT hS hA hK=>⟨a,ns,rfl,hS,hl,hT,hA,hK,λ_ e=>⟨rfl,e⟩⟩)
 case Nm=>decide +kernel
 case F =>
  intro w mg fa h KX G hmg
  obtain ⟨g9,g7⟩:∃T,Ov.Ap (L2.Fb KX) mg "good_name" Ov.ia T:=by
   dsimp only [L2.Fb]
   refine' ⟨_,Ov.I_ KX G ?ga ?gl ?gc ?gk ?gt ?gp ?gb ?ge ?go⟩
   (case ga=>k_is);(case gl=>k_is);(case gc=>k_is);(case gk=>k_is);(case gt=>k_is);(case gp=>rfl);(case gb=>kernel_rfl);(case ge=>decide);(case go=>kernel_rfl)
  have OV:Ov.Def (L2.Fb KX) mg "law" Ov.vQ:=by simp_arith
  have Z:Ov.bN mg:=by
   refine' ⟨Ov.ES.mk (PySem.W.mg_none_of KX G ?z0) (PySem.W.mg_none_of KX G ?z1) (PySem.W.mg_none_of KX G ?z2) (PySem.W.mg_none_of KX G ?z3) (PySem.W.mg_none_of KX G ?z4) (PySem.W.mg_none_of KX G ?z5) (PySem.W.mg_none_of KX G ?z6) (PySem.W.mg_none_of KX G ?z7) (PySem.W.mg_none_of KX G ?z8) (PySem.W.mg_none_of KX G ?z9),PySem.W.mg_none_of KX G ?w0,PySem.W.mg_none_of KX G ?w1,PySem.W.mg_none_of KX G ?w2,PySem.W.mg_none_of KX G ?w3,PySem.W.mg_none_of KX G ?w4⟩
   (case z0=>k_is);(case z1=>k_is);(case z2=>k_is);(case z3=>k_is);(case z4=>k_is);(case z5=>k_is);(case z6=>k_is);(case z7=>k_is);(case z8=>k_is);(case z9=>k_is);(case w0=>k_is);(case w1=>k_is);(case w2=>k_is);(case w3=>k_is);(case w4=>k_is)
  obtain ⟨W,c,Er⟩:∃W c,Ov.DD (L2.Fb KX) mg W c:=by
   dsimp only [L2.Fb]
   refine' Ov.Jg KX G ?v ?w ?a0 ?a1 ?a2 ?a3 ?a4 ?a5 ?a6 ?a7 ?a8 ?a9 ?b
   (case v=>k_is);(case w=>k_is);(case a0=>k_is);(case a1=>k_is);(case a2=>k_is);(case a3=>k_is);(case a4=>k_is);(case a5=>k_is);(case a6=>k_is);(case a7=>k_is);(case a8=>k_is);(case a9=>k_is)
   (case b=>kernel_rfl)
  have N:Ov.rR (L2.Fb KX) mg:=by
   dsimp only [L2.Fb]
   refine' Ov.Ec KX G ?a ?l
   (case a=>k_is);(case l=>k_is)
  obtain ⟨jZ,gB⟩:∃t,mg "FARTHEST"=some (.int 1000000 t):=by
   refine' Ov.const_int KX G ?cz ?cw
   (case cz=>k_is);(case cw=>kernel_rfl)
  obtain ⟨gq,eV⟩:∃t,mg "FASTEST"=some (.int 1000 t):=by
   refine' Ov.const_int KX G ?cz ?cw
   (case cz=>k_is);(case cw=>kernel_rfl)
  obtain ⟨oR,kC⟩:∃t,mg "FINEST"=some (.int 60 t):=by
   refine' Ov.const_int KX G ?cz ?cw
   (case cz=>k_is);(case cw=>kernel_rfl)
  obtain ⟨oS,kD⟩:∃t,mg "LATEST"=some (.int 1000000 t):=by
   refine' Ov.const_int KX G ?cz ?cw
   (case cz=>k_is);(case cw=>kernel_rfl)
  obtain ⟨l4,iX⟩:∃t,mg "LONGEST"=some (.int 8 t):=by
   refine' Ov.const_int KX G ?cz ?cw
   (case cz=>k_is);(case cw=>kernel_rfl)
  obtain ⟨yd,sf⟩:∃t,mg "MOST"=some (.int 12 t):=by
   refine' Ov.const_int KX G ?cz ?cw
   (case cz=>k_is);(case cw=>kernel_rfl)
  obtain ⟨rq,nQ⟩:∃t,mg "SIGNS"=some (.str "abcdefghijklmnopqrstuvwxyz0123456789" t):=by
   refine' Ov.DN KX G ?cz ?cw
   (case cz=>k_is);(case cw=>kernel_rfl)
  obtain ⟨fd,F,hb⟩:=Ov.Nf OV hmg (λ_ _ _ _ _ _ _=>rfl)
  exact ⟨fd,[g9],hb,(λT hT=>by simp only [Vb,Vm,or_false] at hT;rcases hT with rfl <;> first | exact ⟨_,by simp,_,g7⟩),λbase _ _ Bm=>Ov.D1 (Ov.MH Z Er N gB eV kC kD iX sf nQ (by dsimp only [L2.Fb];refine' ⟨_,Ov.wI KX G ?a ?pg ?hd ?po ?sa ?mk ?kc,?n0,?n1,Ov.bq ?m0a ?m0i ?m0l ?m0c ?m0k,Ov.bq ?m1a ?m1i ?m1l ?m1c ?m1k,Ov.bq ?m2a ?m2i ?m2l ?m2c ?m2k,Ov.bq ?m3a ?m3i ?m3l ?m3c ?m3k,Ov.bq ?m4a ?m4i ?m4l ?m4c ?m4k,Ov.bq ?m5a ?m5i ?m5l ?m5c ?m5k,Ov.bq ?m6a ?m6i ?m6l ?m6c ?m6k,Ov.bq ?m7a ?m7i ?m7l ?m7c ?m7k⟩;(case a=>k_is);(case pg=>k_is);(case hd=>k_is);(case po=>k_is);(case sa=>k_is);(case mk=>k_is);(case kc=>k_is);(case n0=>(show PySem.W.findIn _ _ _=_;k_is));(case n1=>(show PySem.W.findIn _ _ _=_;k_is));(case m0a=>k_is);(case m0i=>k_is);(case m0l=>k_is);(case m0c=>k_is);(case m0k=>k_is);(case m1a=>k_is);(case m1i=>k_is);(case m1l=>k_is);(case m1c=>k_is);(case m1k=>k_is);(case m2a=>k_is);(case m2i=>k_is);(case m2l=>k_is);(case m2c=>k_is);(case m2k=>k_is);(case m3a=>k_is);(case m3i=>k_is);(case m3l=>k_is);(case m3c=>k_is);(case m3k=>k_is);(case m4a=>k_is);(case m4i=>k_is);(case m4l=>k_is);(case m4c=>k_is);(case m4k=>k_is);(case m5a=>k_is);(case m5i=>k_is);(case m5l=>k_is);(case m5c=>k_is);(case m5k=>k_is);(case m6a=>k_is);(case m6i=>k_is);(case m6l=>k_is);(case m6c=>k_is);(case m6k=>k_is);(case m7a=>k_is);(case m7i=>k_is);(case m7l=>k_is);(case m7c=>k_is);(case m7k=>k_is)) (by dsimp only [L2.Fb];refine' ⟨_,Ov.wI KX G ?a ?pg ?hd ?po ?sa ?mk ?kc,?n0,?n1,?n2,Ov.bq ?m0a ?m0i ?m0l ?m0c ?m0k,Ov.bq ?m1a ?m1i ?m1l ?m1c ?m1k,Ov.bq ?m2a ?m2i ?m2l ?m2c ?m2k,Ov.bq ?m3a ?m3i ?m3l ?m3c ?m3k,Ov.bq ?m4a ?m4i ?m4l ?m4c ?m4k,Ov.bq ?m5a ?m5i ?m5l ?m5c ?m5k,Ov.bq ?m6a ?m6i ?m6l ?m6c ?m6k,Ov.bq ?m7a ?m7i ?m7l ?m7c ?m7k,Ov.bq ?m8a ?m8i ?m8l ?m8c ?m8k,Ov.bq ?m9a ?m9i ?m9l ?m9c ?m9k,Ov.bq ?m10a ?m10i ?m10l ?m10c ?m10k,Ov.bq ?m11a ?m11i ?m11l ?m11c ?m11k,Ov.bq ?m12a ?m12i ?m12l ?m12c ?m12k,Ov.bq ?m13a ?m13i ?m13l ?m13c ?m13k,Ov.bq ?m14a ?m14i ?m14l ?m14c ?m14k,Ov.bq ?m15a ?m15i ?m15l ?m15c ?m15k,Ov.bq ?m16a ?m16i ?m16l ?m16c ?m16k,Ov.bq ?m17a ?m17i ?m17l ?m17c ?m17k,Ov.bq ?m18a ?m18i ?m18l ?m18c ?m18k,Ov.bq ?m19a ?m19i ?m19l ?m19c ?m19k⟩;(case a=>k_is);(case pg=>k_is);(case hd=>k_is);(case po=>k_is);(case sa=>k_is);(case mk=>k_is);(case kc=>k_is);(case n0=>(show PySem.W.findIn _ _ _=_;k_is));(case n1=>(show PySem.W.findIn _ _ _=_;k_is));(case n2=>(show PySem.W.findIn _ _ _=_;k_is));(case m0a=>k_is);(case m0i=>k_is);(case m0l=>k_is);(case m0c=>k_is);(case m0k=>k_is);(case m1a=>k_is);(case m1i=>k_is);(case m1l=>k_is);(case m1c=>k_is);(case m1k=>k_is);(case m2a=>k_is);(case m2i=>k_is);(case m2l=>k_is);(case m2c=>k_is);(case m2k=>k_is);(case m3a=>k_is);(case m3i=>k_is);(case m3l=>k_is);(case m3c=>k_is);(case m3k=>k_is);(case m4a=>k_is);(case m4i=>k_is);(case m4l=>k_is);(case m4c=>k_is);(case m4k=>k_is);(case m5a=>k_is);(case m5i=>k_is);(case m5l=>k_is);(case m5c=>k_is);(case m5k=>k_is);(case m6a=>k_is);(case m6i=>k_is);(case m6l=>k_is);(case m6c=>k_is);(case m6k=>k_is);(case m7a=>k_is);(case m7i=>k_is);(case m7l=>k_is);(case m7c=>k_is);(case m7k=>k_is);(case m8a=>k_is);(case m8i=>k_is);(case m8l=>k_is);(case m8c=>k_is);(case m8k=>k_is);(case m9a=>k_is);(case m9i=>k_is);(case m9l=>k_is);(case m9c=>k_is);(case m9k=>k_is);(case m10a=>k_is);(case m10i=>k_is);(case m10l=>k_is);(case m10c=>k_is);(case m10k=>k_is);(case m11a=>k_is);(case m11i=>k_is);(case m11l=>k_is);(case m11c=>k_is);(case m11k=>k_is);(case m12a=>k_is);(case m12i=>k_is);(case m12l=>k_is);(case m12c=>k_is);(case m12k=>k_is);(case m13a=>k_is);(case m13i=>k_is);(case m13l=>k_is);(case m13c=>k_is);(case m13k=>k_is);(case m14a=>k_is);(case m14i=>k_is);(case m14l=>k_is);(case m14c=>k_is);(case m14k=>k_is);(case m15a=>k_is);(case m15i=>k_is);(case m15l=>k_is);(case m15c=>k_is);(case m15k=>k_is);(case m16a=>k_is);(case m16i=>k_is);(case m16l=>k_is);(case m16c=>k_is);(case m16k=>k_is);(case m17a=>k_is);(case m17i=>k_is);(case m17l=>k_is);(case m17c=>k_is);(case m17k=>k_is);(case m18a=>k_is);(case m18i=>k_is);(case m18l=>k_is);(case m18c=>k_is);(case m18k=>k_is);(case m19a=>k_is);(case m19i=>k_is);(case m19l=>k_is);(case m19c=>k_is);(case m19k=>k_is)) (by dsimp only [L2.Fb];refine' ⟨_,Ov.wI KX G ?a ?pg ?hd ?po ?sa ?mk ?kc,?n0,Ov.bq ?m0a ?m0i ?m0l ?m0c ?m0k,Ov.bq ?m1a ?m1i ?m1l ?m1c ?m1k,Ov.bq ?m2a ?m2i ?m2l ?m2c ?m2k,Ov.bq ?m3a ?m3i ?m3l ?m3c ?m3k⟩;(case a=>k_is);(case pg=>k_is);(case hd=>k_is);(case po=>k_is);(case sa=>k_is);(case mk=>k_is);(case kc=>k_is);(case n0=>(show PySem.W.findIn _ _ _=_;k_is));(case m0a=>k_is);(case m0i=>k_is);(case m0l=>k_is);(case m0c=>k_is);(case m0k=>k_is);(case m1a=>k_is);(case m1i=>k_is);(case m1l=>k_is);(case m1c=>k_is);(case m1k=>k_is);(case m2a=>k_is);(case m2i=>k_is);(case m2l=>k_is);(case m2c=>k_is);(case m2k=>k_is);(case m3a=>k_is);(case m3i=>k_is);(case m3l=>k_is);(case m3c=>k_is);(case m3k=>k_is)) (by simp_arith) (by simp_arith) (by simp_arith) (by simp_arith) (by simp_arith) (by simp_arith) (by simp_arith) (by simp_arith) (by simp_arith) g7 (by simp_arith) (by simp_arith) (by simp_arith) (by simp_arith) (by simp_arith) (by simp_arith) (by simp_arith) (by simp_arith) (by simp_arith) (by simp_arith) (by simp_arith) (by simp_arith) (by simp_arith) (by simp_arith) (by simp_arith) (by simp_arith) (by simp_arith) (by simp_arith) (by simp_arith) (by simp_arith) (by simp_arith) (by simp_arith) (by simp_arith) (by simp_arith) (by simp_arith) (by simp_arith) (by simp_arith) (by simp_arith) (by simp_arith) (by simp_arith) (by simp_arith) (by simp_arith) F base Bm)⟩
