import PyProof.Rows.All
import Wide.All
import OpenK.AllK
import Wide.FinOn
import Lean
import PyProof.EqAt
import PyProof.EqKinds
import PyProof.TupleCall
import PyProof.NeKinds
import PyProof.CompFree
import PyProof.CompMap
import PyProof.ListRange
import PyProof.Rows.SortWalk
import PyProof.ExcArgsOwn
import PyProof.ExcAttrAll.ValueError
import KE.KTryMore
import PyProof.GenCompD
import PyProof.StrWalks
import PyProof.ConsumeS
import PyProof.StrOps2
import KE.KRevIter
import PyProof.ZipIter
import PyProof.DictWalks
import PyProof.DictCompW
import PyProof.DictRoads
import PyProof.MeetsDictList
import KE.KDictList
import PyProof.EnumFor
import PyProof.EnumMake
import PyProof.WalksEnum
import KE.KDictOf
import PySem.Challenge.RW_overhaul_k30_lanes_apart
noncomputable section
set_option compiler.extract_closed false
set_option Elab.async false
set_option linter.all false
set_option maxRecDepth 100000
open List renaming length_map→Us,getElem?_eq_getElem→Ut,getElem?_eq_some_iff→Uu,mem_map→Uv,mem_of_getElem?→Uw,size_toArray→Uy,getElem?_map→Uz,map_append→UA,map_cons→UB,map_map→UC,mem_append→UD,mem_filter→UE,mem_append_right→UG,mem_singleton→UH,mem_cons→UI,mem_iff_getElem?→UN,length_append→UP,length_cons→UQ,length_take→UR,map_congr_left→US,not_mem_nil→UT,getElem?_set_self→UU,mem_cons_of_mem→UW,take_length→UY,take_add_one→U0,lookup_cons→U1,filter_cons→U2,getLast?_concat→U3,getElem_of_mem→U4,getElem?_eq_none→U6,getElem_mem→U9,getElem?_cons_succ→U_,getElem?_set_ne→U',mem_cons_self→Va,range→Vb,getElem?_zip_eq_some→Vc,pairwise_iff_getElem→Vd,filter_eq_self→Ve,dropLast_concat_getLast→Vf,filter_map→Vg,mem_of_mem_take→Vh,length_filter_le→Vj,length→Vl,getElem_map→Vm,replicate→Vn,map_nil→Vo,nodup_append→Vp,append_nil→Vq,take_of_length_le→Vr,getElem?_append_right→Vs,getElem_inj→Vt,length_drop→Vu,map_take→Vw,getElem?_append_left→Vx,nodup_cons→Vz,take_sublist→VA,all_eq_true→VC,mem_range→VE,cons_lt_cons_iff→VG,exists_cons_of_ne_nil→VH,mem_append_left→VI,drop_eq_getElem_cons→VJ,filterMap_cons→VM,length_set→VN,any_cons→VO,getElem?_cons_zero→VP,map→VQ,filter_append→VR,length_nil→VS,length_zip→VT,pairwise_cons→VU,getElem?_tail→VW,map_drop→VX,lookup→VY,eraseIdxIfInBounds_toArray→VZ,length_range→V1,drop_zero→V2,dropLast_eq_take→V4,take_append_drop→V5,dropLast_concat→V6,mem_map_of_mem→V8,filter_sublist→V9,mem_filterMap→V',getElem?_drop→Wa,getElem?_eq_none_iff→Wb,mem_of_find?_eq_some→Wc,foldl_append→We,getElem?_replicate→Wf,eraseIdx_cons_succ→Wg,lookup_eq_some_iff→Wh,any_eq_true→Wj,filter_eq_nil_iff→Wl,of_mem_zip→Wn,length_replicate→Wo,filter_nil→Wr,head?_cons→Wu,map_id'→Wv,length_dropLast→Ww,pairwise_append→Wx,dropLast_subset→Wy,nodup_nil→Wz,getElem?_range→WA,all_cons→WB,zip_cons_cons→WC,find?_eq_none→WD,append_assoc→WH,nil_lt_cons→WM,mem_flatMap→WN,forIn_cons→WR,find?_some→WT,getD→Xb
open Nat renaming le_refl→Ux,lt_of_lt_of_le→UL,le_trans→UM,ne_of_lt→UO,zero_le→UZ,lt_of_le_of_lt→Vk,lt_irrefl→Vv,le_add_right→VD,lt_succ_self→VL,lt_or_eq_of_le→VV,not_lt_zero→V7,le_of_lt→V_,mul_div_cancel_left→Wi,ne_of_gt→Wm,lt_or_ge→Wt,lt_trichotomy→WG,min_self→WJ,min_eq_left→WU
open Bool renaming false_ne_true→UJ,false_eq_true→UK,and_eq_true→UX,eq_iff_iff→Vy,and_true→VB,decide_and→VF,eq_false_iff→V0,and_false→V3,beq_eq_decide_eq→Ws,not_eq_true'→WE
open Option renaming some→Vi,isSome_iff_exists→Wd,map_some→Wq,getD_none→WK
namespace L2
open PySem PySem.Spec PyProof.Rows
abbrev Key:=Sum Int Str
def KZ:Key→Value→Bool
 | .inl k,v=>Value.isInt k v
 | .inr x,v=>Value.isStrOf x v
def R9 (w:World):Key→Int
 | .inl k=>hashInt k
 | .inr x=>hashStr w x
theorem cH:∀{k:Key} {v:Value},KZ k v=true→(∃i t,k=Sum.inl i∧v=Value.int i t)∨(∃x t,k=Sum.inr x∧v=Value.str x t)
 | .inl i,v,h=>by
  obtain ⟨t,e⟩:=Value.isInt_shape (k:=i) (v:=v) h
  exact .inl ⟨i,t,rfl,e⟩
 | .inr x,v,h=>by
  obtain ⟨t,e⟩:=Value.isStrOf_shape (x:=x) (v:=v) h
  exact .inr ⟨x,t,rfl,e⟩
theorem MO (a b:Int):decide ((Sum.inl a:Key)=Sum.inl b)=(a == b):=by
 by_cases e:a=b
 ·subst e;simp
 ·have h:¬ (Sum.inl a:Key)=Sum.inl b:=λq=>e (Sum.inl.inj q)
  rw [decide_eq_false h]
  exact (beq_eq_false_iff_ne.mpr e).symm
theorem MR (a b:Str):decide ((Sum.inr a:Key)=Sum.inr b)=decide (a=b):=by
 by_cases e:a=b
 ·subst e;simp
 ·have h:¬ (Sum.inr a:Key)=Sum.inr b:=λq=>e (Sum.inr.inj q)
  rw [decide_eq_false h,decide_eq_false e]
theorem MP (a:Int) (b:Str):decide ((Sum.inl a:Key)=Sum.inr b)=false:=decide_eq_false (λq=>nomatch q)
theorem MQ (a:Str) (b:Int):decide ((Sum.inr a:Key)=Sum.inl b)=false:=decide_eq_false (λq=>nomatch q)
def Jf (prog:Program) (w:World):PySem.KeyKind prog w Key where
 is:=KZ
 hash:=R9 w
 inj:=λv a b ha hb=>by
  rcases cH ha with ⟨i,t,rfl,rfl⟩ | ⟨x,t,rfl,rfl⟩
  ·rcases cH hb with ⟨j,u,rfl,e⟩ | ⟨y,u,rfl,e⟩
   ·injection e with e1 _;rw [e1]
   ·exact nomatch e
  ·rcases cH hb with ⟨j,u,rfl,e⟩ | ⟨y,u,rfl,e⟩
   ·exact nomatch e
   ·injection e with e1 _;rw [e1]
 byValue:=λk v h=>by
  rcases cH h with ⟨i,t,rfl,rfl⟩ | ⟨x,t,rfl,rfl⟩ <;> rfl
 pyHash:=λhv h=>by
  rcases cH hv with ⟨i,t,rfl,rfl⟩ | ⟨x,t,rfl,rfl⟩
  ·exact wpAny_pyHash_int h
  ·exact wpAny_pyHash_str h
 eqBool:=λhu hv h=>by
  rcases cH hu with ⟨i,t,rfl,rfl⟩ | ⟨x,t,rfl,rfl⟩
  ·rcases cH hv with ⟨j,u,rfl,rfl⟩ | ⟨y,u,rfl,rfl⟩
   ·rw [MO] at h;exact wpAny_eqBool_int h
   ·rw [MP] at h;exact SeqAt.EqAt.int_str i t y u _ _ _ _ h
  ·rcases cH hv with ⟨j,u,rfl,rfl⟩ | ⟨y,u,rfl,rfl⟩
   ·rw [MQ] at h;exact SeqAt.EqAt.str_int x t j u _ _ _ _ h
   ·rw [MR] at h;exact wpAny_eqBool_str h
 «strs»:=λk x t v h=>by
  rcases cH h with ⟨i,u,rfl,e⟩ | ⟨y,u,rfl,e⟩
  ·exact nomatch e
  ·injection e with e1 _
   subst e1
   cases v <;> rfl
end L2
namespace L2
open PySem PySem.Spec PyProof.Rows
inductive V where
 | non | bl (b:Bool) | int (i:Int) | str (x:Str) | byt (b:Array UInt8) | flt (b:UInt64) | ref (a:Addr) | ty (n:String)
 deriving DecidableEq
def RelV:V→Value→Prop
 | .non,u=>u=Value.none
 | .bl b,u=>u=Value.bool b
 | .int i,u=>∃t,u=Value.int i t
 | .str x,u=>∃t,u=Value.str x t
 | .byt b,u=>∃t,u=Value.bytes b t
 | .flt b,u=>∃t,u=Value.float b t
 | .ref a,u=>u=Value.ref a
 | .ty n,u=>u=Value.type n
abbrev Vals:List V→List Value→Prop:=Paired RelV
theorem Vals.length {xs:List V} {us:List Value} (r:Vals xs us):xs.length=us.length:=Paired.length r
theorem Vals.get:∀{xs:List V} {us:List Value} {i:Nat} {x:V},Vals xs us→xs[i]?=some x→∃u,us[i]?=some u∧RelV x u
 | _,_,_,_,.nil,e=>by simp at e
 | _,_,0,_,.cons r _,e=>by simp at e;subst e;exact ⟨_,rfl,r⟩
 | _,_,i + 1,x,.cons _ t,e=>by
  obtain ⟨u,h1,h2⟩:=Vals.get (i:=i) (x:=x) t (by simpa using e)
  exact ⟨u,by simpa using h1,h2⟩
theorem Vals.set {x:V} {u:Value} (r:RelV x u):∀{xs:List V} {us:List Value} (i:Nat),Vals xs us→Vals (xs.set i x) (us.set i u)
 | _,_,_,.nil=>.nil
 | _,_,0,.cons _ t=>.cons r t
 | _,_,i + 1,.cons q t=>.cons q (Vals.set r i t)
theorem Vals.append:∀{xs ys:List V} {us ws:List Value},Vals xs us→Vals ys ws→Vals (xs ++ ys) (us ++ ws)
 | _,_,_,_,.nil,s=>s
 | _,_,_,_,.cons r t,s=>.cons r (Vals.append t s)
theorem Vals.take:∀{xs:List V} {us:List Value} (n:Nat),Vals xs us→Vals (xs.take n) (us.take n)
 | _,_,0,_=>.nil
 | _,_,_ + 1,.nil=>.nil
 | _,_,n + 1,.cons r t=>.cons r (Vals.take n t)
theorem Vals.drop:∀{xs:List V} {us:List Value} (n:Nat),Vals xs us→Vals (xs.drop n) (us.drop n)
 | _,_,0,r=>r
 | _,_,_ + 1,.nil=>.nil
 | _,_,n + 1,.cons _ t=>Vals.drop n t
def ue:Option V→Option Value→Prop
 | some v,some u=>RelV v u
 | none,none=>True
 | _,_=>False
def KV {κ:Type}:List (κ × V)→List (κ × Value)→Prop:=Paired λ(p:κ × V) (q:κ × Value)=>p.1=q.1∧RelV p.2 q.2
def kV:Key→V
 | .inl i=>.int i
 | .inr x=>.str x
inductive HO where
 | lst (xs:List V)
 | tup (xs:List V)
 | dK (kvs:List (Key × V)) | dE (kvs:List (Str × V)) (ep:Nat)
 | set (S:Int→Bool) (n:Nat)
 | ins (C dx:Addr) (fs:List (Str × V))
 | own (x:Addr)
 | xd (fs:List (Str × V))
 | met (f x:Addr)
 | Ow (lo hi:Int)
 | qJ (o:Obj) (u:HO)
 | tbl (ps:Array Value)
 | ext (φ:Heap→Prop)
abbrev Hp:=Addr→Option HO
def upd (H:Hp) (a:Addr) (o:HO):Hp:=λb=>if b=a then some o else H b
theorem aG {H:Hp} {a:Addr} {o:HO}:upd H a o a=some o:=by unfold upd;rw [if_pos rfl]
theorem aM {H:Hp} {a b:Addr} {o:HO} (h:b≠a):upd H a o b=H b:=by unfold upd;rw [if_neg h]
theorem bI {H:Hp} {a b:Addr} {o:HO} (h:H a=some o) (h':H b=none):a≠b:=by
 intro e;subst e;rw [h] at h';cases h'
section
variable (P:Program) (w:World)
def dB (H:Hp) (h:Heap) (a:Addr):HO→Prop
 | .lst xs=>xs.length≤sizeLine∧∃(its:List Value) (n:Nat),Vals xs its∧h.get? a=some { cls:=.type "list",data:=.seq its.toArray n }
 | .tup xs=>xs.length≤sizeLine∧∃its:List Value,Vals xs its∧IsTup h a its.toArray
 | .dK kvs=>kvs.length≤sizeLine∧(a == sysModules)=false∧∃vs,KV kvs vs∧h.DictOf (Jf P w) a vs
 | .dE kvs ep=>kvs.length≤sizeLine∧(a == sysModules)=false∧∃vs,KV kvs vs∧h.DictAt (strKind P w) a vs ep
 | .set S n=>h.SetOf (intKind P w) a S n
 | .ins C dx fs=>H dx=some (.own a)∧fs.length≤1000∧dx≠a∧h.get? a=some (PySem.W.instObj C dx) ∧
   ∃mA,h.Ns1 dx mA∧(∀f,ue (fs.lookup f) (mA f))∧PySem.Within mA (fs.map (·.1))
 | .own _=>∃o,h.get? a=some o
 | .xd fs=>∃mA,h.Ns1 a mA∧∀f,ue (fs.lookup f) (mA f)
 | .Ow lo hi=>∃t u v,h.get? a=some { cls:=.type "range",data:=.fields #[.int lo t,.int hi u,.int 1 v] }
 | .qJ o u=>h.get? a=some o∧dB H h a u
 | .tbl ps=>h.get? a=some { cls:=.none,data:=.fields ps }
 | .met f x=>h.get? a=some (PySem.W.methodObj (.ref f) (.ref x))
 | .ext φ=>φ h∧(∃o,h.get? a=some o)∧∀h1 h2:Heap,φ h1→(∀o,h1.get? a=some o→h2.get? a=some o)→φ h2
def nu (H:Hp) (h:Heap):Prop:=∀a o,H a=some o→dB P w H h a o
end
section
variable {P:Program} {w:World} {H H':Hp} {h h':Heap} {a:Addr} {o:HO}
theorem dB.lt (x:dB P w H h a o):a < h.objs.size:=by
 cases o with
 | lst xs=>obtain ⟨_,_,_,_,e⟩:=x;exact Heap.lt_size e
 | tup xs=>obtain ⟨_,_,_,p⟩:=x;exact p.lt
 | dK kvs=>obtain ⟨_,_,_,_,o,_,_,e,_⟩:=x;exact Heap.lt_size e
 | dE kvs ep=>obtain ⟨_,_,_,_,o,_,e,_⟩:=x;exact Heap.lt_size e
 | set S n=>obtain ⟨o,_,_,_,e,_⟩:=x;exact Heap.lt_size e
 | ins C dx fs=>obtain ⟨_,_,_,e,_⟩:=x;exact Heap.lt_size e
 | own y=>obtain ⟨_,e⟩:=x;exact Heap.lt_size e
 | xd fs=>obtain ⟨_,⟨_,_,_,e,_⟩,_⟩:=x;exact Heap.lt_size e
 | Ow lo hi=>obtain ⟨_,_,_,e⟩:=x;exact Heap.lt_size e
 | qJ ob u=>obtain ⟨e,_⟩:=x;exact Heap.lt_size e
 | tbl ps=>exact Heap.lt_size (show h.get? a=some _ from x)
 | met f y=>exact Heap.lt_size (show h.get? a=some _ from x)
 | ext φ=>obtain ⟨_,⟨_,e⟩,_⟩:=x;exact Heap.lt_size e
theorem dB.pS (x:dB P w H h a o) (k:∀b u,(b=a∨H b=some (.own a))→h.get? b=some u→h'.get? b=some u)
  (ho:∀b,H b=some (.own a)→H' b=some (.own a)) (ht:∀b xs,H b=some (.tup xs)→H' b=some (.tup xs)):dB P w H' h' a o:=by
 induction o with
 | lst xs=>obtain ⟨z,its,n,r,e⟩:=x;exact ⟨z,its,n,r,k _ _ (.inl rfl) e⟩
 | tup xs=>obtain ⟨z,its,r,ob,e,c⟩:=x;exact ⟨z,its,r,ob,k _ _ (.inl rfl) e,c⟩
 | dK kvs=>obtain ⟨z,y,vs,r,ob,es,ep,e,c⟩:=x;exact ⟨z,y,vs,r,ob,es,ep,k _ _ (.inl rfl) e,c⟩
 | dE kvs ep=>obtain ⟨z,y,vs,r,ob,es,e,c⟩:=x;exact ⟨z,y,vs,r,ob,es,k _ _ (.inl rfl) e,c⟩
 | set S n=>obtain ⟨ob,es,ep,t,e,c⟩:=x;exact ⟨ob,es,ep,t,k _ _ (.inl rfl) e,c⟩
 | ins C dx fs =>
  obtain ⟨d,z,ne,e,mA,⟨od,es,ep,e2,c⟩,r⟩:=x
  exact ⟨ho _ d,z,ne,k _ _ (.inl rfl) e,mA,⟨od,es,ep,k _ _ (.inr d) e2,c⟩,r⟩
 | own y=>obtain ⟨ob,e⟩:=x;exact ⟨ob,k _ _ (.inl rfl) e⟩
 | xd fs=>obtain ⟨mA,⟨od,es,ep,e,c⟩,r⟩:=x;exact ⟨mA,⟨od,es,ep,k _ _ (.inl rfl) e,c⟩,r⟩
 | Ow lo hi=>obtain ⟨t,u,v,e⟩:=x;exact ⟨t,u,v,k _ _ (.inl rfl) e⟩
 | qJ ob u ih=>obtain ⟨e,q⟩:=x;exact ⟨k _ _ (.inl rfl) e,ih q⟩
 | tbl ps =>
  have e:h.get? a=some { cls:=.none,data:=.fields ps }:=x
  show h'.get? a=some { cls:=.none,data:=.fields ps }
  exact k a _ (.inl rfl) e
 | met f y =>
  have e:h.get? a=some (PySem.W.methodObj (.ref f) (.ref y)):=x
  show h'.get? a=some (PySem.W.methodObj (.ref f) (.ref y))
  exact k a _ (.inl rfl) e
 | ext φ=>obtain ⟨p,⟨o,e⟩,st⟩:=x;exact ⟨st _ _ p λo q=>k _ _ (.inl rfl) q,⟨o,k _ _ (.inl rfl) e⟩,st⟩
theorem nu.lt (x:nu P w H h) (e:H a=some o):a < h.objs.size:=(x a o e).lt
theorem nu.fresh (x:nu P w H h) (e:h.objs.size≤a):H a=none:=by
 cases q:H a with
 | none=>rfl
 | some u=>exact absurd (UL (x.lt q) e) (Vv _)
theorem nu.kept (x:nu P w H h) (k:∀b u,h.get? b=some u→h'.get? b=some u):nu P w H h':=λa o e =>
 (x a o e).pS (λb u _ q=>k b u q) (λ_ q=>q) λ_ _ q=>q
theorem nu.laid (x:nu P w H h) (k:∀b u,h.get? b=some u→h'.get? b=some u) (hp:h.objs.size≤a) (new:dB P w (upd H a o) h' a o):nu P w (upd H a o) h':=λb u e=>by
 have hn:=x.fresh hp
 by_cases hb:b=a
 ·subst hb;rw [aG] at e;cases e;exact new
 ·rw [aM hb] at e
  exact (x b u e).pS (λc v _ q=>k c v q) (λc q=>by rw [aM (bI q hn)];exact q) λc xs q=>by rw [aM (bI q hn)];exact q
end
def Rd (H:Hp) (a:Addr) (u:HO):Prop:=H a=some u∨∃o,H a=some (.qJ o u)
theorem Rd.ok {P:Program} {w:World} {H:Hp} {h:Heap} {a:Addr} {u:HO} (r:Rd H a u) (x:nu P w H h):dB P w H h a u:=by
 rcases r with r | ⟨o,r⟩
 ·exact x a u r
 ·obtain ⟨_,q⟩:=x a _ r
  exact q
def Q5:Option HO→Prop
 | some (.lst _)=>True
 | some (.dK _)=>True
 | some (.dE _ _)=>True
 | some (.set _ _)=>True
 | some (.ins _ _ _)=>True
 | some (.ext _)=>True
 | _=>False
section
variable {P:Program} {w:World} {H:Hp} {h h':Heap} {x e:Addr} {o':HO}
theorem nu.write (ok:nu P w H h) (mu:Q5 (H x)) (he:e=x∨H e=some (.own x)) (k:∀b u,b≠e→h.get? b=some u→h'.get? b=some u) (heo:∃u,h'.get? e=some u)
  (new:dB P w (upd H x o') h' x o'):nu P w (upd H x o') h':=λb u q=>by
 have nown:∀c y,H c=some (.own y)→c≠x:=λc y r z=>by subst z;rw [r] at mu;exact mu
 have ntup:∀c xs,H c=some (.tup xs)→c≠x:=λc xs r z=>by subst z;rw [r] at mu;exact mu
 by_cases hb:b=x
 ·subst hb;rw [aG] at q;cases q;exact new
 ·rw [aM hb] at q
  by_cases hbe:b=e
  ·have q':H b=some (.own x):=by
    rcases he with z | z
    ·exact absurd (hbe.trans z) hb
    ·rw [hbe];exact z
   rw [q] at q';cases q'
   obtain ⟨v,hv⟩:=heo
   exact ⟨v,by rw [hbe];exact hv⟩
  ·refine (ok b u q).pS (λc v hc r=>k c v ?_ r) (λc r=>by rw [aM (nown c b r)];exact r) λc xs r=>by rw [aM (ntup c xs r)];exact r
   rcases hc with rfl | hc
   ·exact hbe
   ·rintro rfl
    rcases he with z | z
    ·exact nown c b hc z
    ·rw [hc] at z;cases z;exact hb rfl
end
structure Un (fs ex:List Addr) (H H':Hp) (h h':Heap):Prop where
 keep:∀b o,h.get? b=some o→H b=none→b ∉ fs→b ∉ ex→h'.get? b=some o
 slot:∀b o,h.get? b=some o→H b=none→b∈fs→b ∉ ex→∃sl,h'.get? b=some { o with slots:=sl }
 free:∀b o,h.get? b=some o→H b=none→b ∉ ex→H' b=none
 there:∀b o,h.get? b=some o→b ∉ ex→∃o',h'.get? b=some o'
 tups:∀b xs,H b=some (.tup xs)→H' b=some (.tup xs)
 frzs:∀b o u,H b=some (.qJ o u)→H' b=some (.qJ o u)
 tbls:∀b ps,H b=some (.tbl ps)→∃more,H' b=some (.tbl (ps ++ more))
section
variable {fs fs' ex ex':List Addr} {H H1 H2:Hp} {h h1 h2 h':Heap} {a x e:Addr} {o:HO}
theorem Un.any (u:Un fs ex H H1 h h1) {b:Addr} {ob:Obj} (q:h.get? b=some ob) (n:H b=none) (hx:b ∉ ex):∃sl,h1.get? b=some { ob with slots:=sl }:=by
 by_cases hb:b∈fs
 ·exact u.slot b ob q n hb hx
 ·exact ⟨ob.slots,u.keep b ob q n hb hx⟩
theorem Un.kept (k:∀b u,h.get? b=some u→h'.get? b=some u):Un fs ex H H h h' :=
 ⟨λb ob q _ _ _=>k b ob q,λb ob q _ _ _=>⟨ob.slots,k b ob q⟩,λ_ _ _ n _=>n,λb ob q _=>⟨ob,k b ob q⟩,λ_ _ q=>q,λ_ _ _ q=>q,λ_ ps q=>⟨#[],by rw [q];simp⟩⟩
theorem Un.refl:Un fs ex H H h h:=Un.kept λ_ _ q=>q
theorem Un.laid (k:∀b u,h.get? b=some u→h'.get? b=some u) (hp:h.objs.size≤a) (hn:H a=none):Un fs ex H (upd H a o) h h' where
 keep:=λb u q _ _ _=>k b u q
 slot:=λb u q _ _ _=>⟨u.slots,k b u q⟩
 free:=λb u q n _=>by rw [aM (UO (UL (Heap.lt_size q) hp))];exact n
 there:=λb u q _=>⟨u,k b u q⟩
 tups:=λb xs q=>by rw [aM (bI q hn)];exact q
 frzs:=λb u xs q=>by rw [aM (bI q hn)];exact q
 tbls:=λb ps q=>⟨#[],by rw [aM (bI q hn),q];simp⟩
theorem Un.write (mu:Q5 (H x)) (he:e=x∨H e=some (.own x)) (k:∀b u,b≠e→h.get? b=some u→h'.get? b=some u) (heo:∃u,h'.get? e=some u):Un fs ex H (upd H x o) h h':=by
 have hx:∀b,H b=none→b≠x:=λb n z=>by subst z;rw [n] at mu;exact mu
 have hb:∀b,H b=none→b≠e:=λb n z=>by
  subst z
  rcases he with r | r
  ·exact hx b n r
  ·rw [n] at r;cases r
 have hm:∀b u,H b=some u→¬ Q5 (some u)→b≠x:=λb u q nm z=>by subst z;rw [q] at mu;exact nm mu
 refine ⟨λb u q n _ _=>k b u (hb b n) q,λb u q n _ _=>⟨u.slots,k b u (hb b n) q⟩,λb u q n _=>by rw [aM (hx b n)];exact n,λb u q _=>?_,
  λb xs q=>by rw [aM (hm b _ q λz=>z)];exact q,λb u xs q=>by rw [aM (hm b _ q λz=>z)];exact q,λb ps q=>⟨#[],by rw [aM (hm b _ q λz=>z),q];simp⟩⟩
 by_cases hbe:b=e
 ·subst hbe;exact heo
 ·exact ⟨u,k b u hbe q⟩
end
def Rp (h:Heap) (H:Hp):List Addr:=(Vb h.objs.size).filter λa=>(H a).isSome
def uh (h:Heap) (H:Hp):Heap:=PySem.W.hideAll h (Rp h H)
theorem DN (h:Heap) (H:Hp):(uh h H).objs.size=h.objs.size:=PySem.W.hideAll_size _ _
theorem FN {h:Heap} {H:Hp} {b:Addr} {o:Obj} (e:h.get? b=some o) (n:H b=none):(uh h H).get? b=some o :=
 PySem.W.hideAll_get _ e λhm=>by
  have q:(H b).isSome=true:=(UE.mp hm).2
  rw [n] at q;simp at q
theorem Jn {h:Heap} {H:Hp} {b:Addr} {o:Obj} (e:(uh h H).get? b=some o):h.get? b=some o∧H b=none:=by
 have e':h.get? b=some o:=PySem.W.of_hideAll (Rp h H) e
 refine ⟨e',?_⟩
 cases q:H b with
 | none=>rfl
 | some x =>
  have hm:b∈Rp h H:=UE.mpr ⟨VE.mpr (Heap.lt_size e'),by simp [q]⟩
  have z:(uh h H).get? b=none:=PySem.W.hideAll_none (Rp h H) hm
  rw [z] at e;cases e
def Iy (g h:Heap) (L:Addr):List (Addr × Obj):=(Vb h.objs.size).filterMap λa=>if a=L∨(g.get? a).isSome=true then none else (h.get? a).map λo=>(a,o)
def rest (g h:Heap) (L d:Addr):List (Addr × Obj):=(Iy g h L).filter λp=>decide (p.1≠d)
end L2
namespace L2
open PySem PySem.Spec PyProof.Rows
structure Mod (K:PySem.W.Frag) (mg:Str→Option Value) (base:Heap):Prop where
 kin:K.In base
 glob:base.Ns mainGlobals mg
 blt:∃mb,base.Ns builtinsNs mb∧∀x:Str,x≠"__name__"→mb x=bootBuiltins x
 nolimit:base.NoLimit
structure Cx where
 prog:Program
 w:World
 K:PySem.W.Frag
 mg:Str→Option Value
 base:Heap
 A:Around
 N:List Str
 s₀:Shared
 H₀:Hp
 env:Env
 outer:List Env
 stack:List Env
 ex:List Addr
 fn:Str→Bool
 calm:Bool
 pn:List (Addr × Obj)
 xe:Value→Shared→Prop
def j6 (l:List Env):List Addr:=l.filterMap (·.frame)
abbrev Cx.fs (X:Cx):List Addr:=j6 X.outer
def xY (sc:Scope) (x:Str):Prop:=sc.names.lookup x=some .local∨sc.names.lookup x=some .cell∨sc.names.lookup x=some .free
def Loc (sc:Scope) (x:Str):Prop:=sc.names.lookup x=some .local∨sc.names.lookup x=some .cell
def Look (env:Env) (h:Heap) (m:Str→Option Value) (x:Str) (u:Value):Prop :=
 (env.kindOf x=some .local∧m x=some u)∨((env.kindOf x=some .cell∨env.kindOf x=some .free)∧∃c,env.cells.lookup x=some c∧h.IsCell c (some u))
structure Cx.Ok (X:Cx):Prop where
 mod:Mod X.K X.mg X.base
 kind:X.env.scope.kind=.function
 glob:X.env.globals=mainGlobals
 blt:X.env.builtins=builtinsNs
 above:X.s₀.heap.objs.size≤X.env.locals
 inj:∀x y c,X.env.cells.lookup x=some c→X.env.cells.lookup y=some c→x=y
 has:∀x,(X.env.kindOf x=some .cell∨X.env.kindOf x=some .free)→∃c,X.env.cells.lookup x=some c
 cab:∀x c,X.fn x=true→X.env.cells.lookup x=some c→X.s₀.heap.objs.size≤c
 hd:X.calm=true→X.A.handled=none
 frames:X.A.frames=some X.stack
 stk:X.stack=X.outer∨(X.stack=X.env :: X.outer∧X.env.frame=some X.env.locals)
 exf:∀b∈X.ex,b≠X.env.locals∧∀x c,X.env.cells.lookup x=some c→c≠b
 bs:∀b o,X.base.get? b=some o→X.s₀.heap.get? b=some o∧X.H₀ b=none
 bsz:X.base.objs.size≤X.s₀.heap.objs.size
 noex:∀b o,X.base.get? b=some o→b ∉ X.ex
 exfs:∀b∈X.ex,b ∉ X.fs
 mM:X.s₀.heap.FunFrames X.base X.outer
 frf:∀b∈X.fs,X.H₀ b=none
structure Inv (X:Cx) (pins:List (Addr × Obj)) (σ:List (Option V)) (H:Hp) (s:Shared):Prop where
 ok:X.Ok
 os:s.os=X.s₀.os
 bare:AllBare s.gens
 base:Un X.fs X.ex X.H₀ H X.s₀.heap s.heap
 loc:∃m,s.heap.Ns X.env.locals m∧∀(i:Nat) (x:Str) (v:V),X.N[i]?=some x→σ[i]?=some (some v)→xY X.env.scope x→∃u,RelV v u∧Look X.env s.heap m x u
 cell:∀x c,X.env.cells.lookup x=some c→∃v,s.heap.IsCell c v
 free:H X.env.locals=none
 freeC:∀x c,X.env.cells.lookup x=some c→H c=none
 pin:∀p∈X.pn ++ pins,s.heap.get? p.1=some p.2∧H p.1=none∧p.1≠X.env.locals∧p.1 ∉ X.fs∧∀v,p.2.data≠.cell v
 hok:nu X.prog X.w H s.heap
 len:σ.length=X.N.length
section
variable {X:Cx} {pins:List (Addr × Obj)} {σ:List (Option V)} {H H':Hp} {s:Shared} {h':Heap}
theorem Cx.Ok.Sl (ok:X.Ok) {b:Addr} {o:Obj} (e:X.base.get? b=some o):b ∉ X.fs:=λhb=>by
 have:=(ok.mM.mem hb).1
 rw [e] at this;cases this
theorem Inv.bs (I:Inv X pins σ H s):∀b o,X.base.get? b=some o→s.heap.get? b=some o∧H b=none:=λb o e =>
 ⟨I.base.keep b o (I.ok.bs b o e).1 (I.ok.bs b o e).2 (I.ok.Sl e) (I.ok.noex b o e),I.base.free b o (I.ok.bs b o e).1 (I.ok.bs b o e).2 (I.ok.noex b o e)⟩
theorem Inv.bk (I:Inv X pins σ H s):∀b o,X.base.get? b=some o→s.heap.get? b=some o:=λb o e=>(I.bs b o e).1
theorem Inv.mod (I:Inv X pins σ H s):Mod X.K X.mg X.base:=I.ok.mod
theorem Inv.mO (I:Inv X pins σ H s):X.K.In s.heap:=I.ok.mod.kin.keeps I.bk
theorem Inv.nolimit (I:Inv X pins σ H s):s.heap.NoLimit:=I.ok.mod.nolimit.keeps I.bk
theorem Inv.fr (I:Inv X pins σ H s):∃m,Fr X.base X.env.locals s.heap m :=
 let ⟨m,hn,_⟩:=I.loc
 ⟨m,hn,I.bk,UM I.ok.bsz I.ok.above⟩
theorem Inv.lt (I:Inv X pins σ H s):X.env.locals < s.heap.objs.size:=let ⟨_,hn,_⟩:=I.loc;hn.lt
theorem Inv.sz (I:Inv X pins σ H s):X.s₀.heap.objs.size≤s.heap.objs.size:=UM I.ok.above (V_ I.lt)
theorem Inv.Sm (I:Inv X pins σ H s) {a:Addr} (h:s.heap.objs.size≤a):a ∉ X.fs:=λhb=>by
 obtain ⟨_,o,ho,_⟩:=I.ok.mM.mem hb
 exact absurd (UL (Heap.lt_size ho) (UM I.sz h)) (Vv _)
theorem Inv.IB (I:Inv X pins σ H s):∀x c,X.env.cells.lookup x=some c→c≠X.env.locals:=λx c e z=>by
 obtain ⟨v,o,ho,hd⟩:=I.cell x c e
 obtain ⟨m,⟨o',es,ep,ho',hd',_⟩,_⟩:=I.loc
 rw [z,ho'] at ho;cases ho;rw [hd'] at hd;cases hd
theorem Inv.mM (I:Inv X pins σ H s):s.heap.FunFrames X.base X.outer:=by
 have all:∀(l:List Env),(∀b∈j6 l,b∈X.fs)→X.s₀.heap.FunFrames X.base l→s.heap.FunFrames X.base l:=by
  intro l
  induction l with
  | nil=>intro _ _;trivial
  | cons env r ih =>
   intro hs hl
   obtain ⟨hk,⟨L,o,hf,hn,ho,hd⟩,hr⟩:=hl
   have hL:L∈X.fs:=hs L (by unfold j6;rw [VM,hf];exact Va)
   obtain ⟨sl,e⟩:=I.base.slot L o ho (I.ok.frf L hL) hL λz=>I.ok.exfs L z hL
   exact ⟨hk,⟨L,_,hf,hn,e,hd⟩,ih (λb hb=>hs b (by unfold j6;rw [VM,hf];exact UW _ hb)) hr⟩
 exact all X.outer (λ_ hb=>hb) I.ok.mM
theorem Inv.stack (I:Inv X pins σ H s):s.heap.FunFrames X.base X.stack:=by
 rcases I.ok.stk with e | ⟨e,hf⟩
 ·rw [e];exact I.mM
 ·rw [e]
  obtain ⟨m,hn,_⟩:=I.loc
  refine .cons (by rw [I.ok.kind];decide) hf hn ?_ I.mM
  exact Heap.get?_none_of_le (UM I.ok.bsz I.ok.above)
theorem Inv.pT (I:Inv X pins σ H s):∀b∈j6 X.stack,b∈X.env.locals :: X.fs:=λb hb=>by
 rcases I.ok.stk with e | ⟨e,hf⟩
 ·rw [e] at hb;exact UW _ hb
 ·rw [e] at hb
  unfold j6 at hb
  rw [VM,hf] at hb
  exact hb
theorem Inv.xP (I:Inv X pins σ H s):∀b∈j6 X.stack,H b=none:=λb hb=>by
 rcases UI.mp (I.pT b hb) with e | hb
 ·rw [e];exact I.free
 ·obtain ⟨_,o,ho,_⟩:=I.ok.mM.mem hb
  exact I.base.free b o ho (I.ok.frf b hb) λz=>I.ok.exfs b z hb
theorem Inv.step {g':Array GenState} {t':Nat} {d':Drawn} {ch:List Addr} (I:Inv X pins σ H s)
  (hch:∀b∈ch,(b∈X.ex∨X.s₀.heap.objs.size≤b)∧b≠X.env.locals∧(∀x c,X.env.cells.lookup x=some c→c≠b)∧∀p∈X.pn ++ pins,p.1≠b)
  (keep:∀b o,b≠X.env.locals→b ∉ X.fs→b ∉ ch→s.heap.get? b=some o→H b=none→h'.get? b=some o)
  (slot:∀b o,b≠X.env.locals→b∈X.fs→b ∉ ch→s.heap.get? b=some o→H b=none→∃sl,h'.get? b=some { o with slots:=sl }) (free:∀b o,b ∉ ch→s.heap.get? b=some o→H b=none→H' b=none)
  (there:∀b o,b ∉ ch→s.heap.get? b=some o→∃o',h'.get? b=some o')
  (tups:∀b xs,H b=some (.tup xs)→H' b=some (.tup xs)) (frzs:∀b o u,H b=some (.qJ o u)→H' b=some (.qJ o u)) (tbls:∀b ps,H b=some (.tbl ps)→∃more,H' b=some (.tbl (ps ++ more)))
  (ns:∀m,s.heap.Ns X.env.locals m→h'.Ns X.env.locals m) (hok:nu X.prog X.w H' h') (hg:AllBare g') :
  Inv X pins σ H' { s with heap:=h',gens:=g',drawn:=d',toks:=t' }:=by
 have neL:∀b o,X.s₀.heap.get? b=some o→b≠X.env.locals:=λb o e=>UO (UL (Heap.lt_size e) I.ok.above)
 have neC:∀b o,X.s₀.heap.get? b=some o→b ∉ X.ex→b ∉ ch:=λb o e hx hb=>by
  rcases (hch b hb).1 with z | z
  ·exact hx z
  ·exact absurd (UL (Heap.lt_size e) z) (Vv _)
 have cellK:∀x c,X.env.cells.lookup x=some c→∀v,s.heap.IsCell c v→h'.IsCell c v:=λx c e v ⟨o,ho,hd⟩=>by
  have nch:c ∉ ch:=λz=>(hch c z).2.2.1 x c e rfl
  by_cases hc:c∈X.fs
  ·obtain ⟨sl,q⟩:=slot c o (I.IB x c e) hc nch ho (I.freeC x c e)
   exact ⟨_,q,hd⟩
  ·exact ⟨o,keep c o (I.IB x c e) hc nch ho (I.freeC x c e),hd⟩
 refine ⟨I.ok,I.os,hg,⟨λb o e n hb hx=>?_,λb o e n hb hx=>?_,λb o e n hx=>?_,λb o e hx=>?_,λb xs e=>tups b xs (I.base.tups b xs e),λb o xs e=>frzs b o xs (I.base.frzs b o xs e),λb ps e=>?_⟩,?_,λx c e=>?_,?_,λx c e=>?_,λp hp=>?_,hok,I.len⟩
 ·exact keep b o (neL b o e) hb (neC b o e hx) (I.base.keep b o e n hb hx) (I.base.free b o e n hx)
 ·obtain ⟨sl,e1⟩:=I.base.slot b o e n hb hx
  obtain ⟨sl',e2⟩:=slot b _ (neL b o e) hb (neC b o e hx) e1 (I.base.free b o e n hx)
  exact ⟨sl',e2⟩
 ·obtain ⟨o',e1⟩:=I.base.there b o e hx
  exact free b o' (neC b o e hx) e1 (I.base.free b o e n hx)
 ·obtain ⟨o',e1⟩:=I.base.there b o e hx
  exact there b o' (neC b o e hx) e1
 ·obtain ⟨m1,e1⟩:=I.base.tbls b ps e
  obtain ⟨m2,e2⟩:=tbls b _ e1
  exact ⟨m1 ++ m2,by rw [e2,Array.append_assoc]⟩
 ·obtain ⟨m,hn,hl⟩:=I.loc
  refine ⟨m,ns m hn,λi x v e1 e2 e3=>?_⟩
  obtain ⟨u,r,l⟩:=hl i x v e1 e2 e3
  refine ⟨u,r,?_⟩
  rcases l with l | ⟨k,c,e,z⟩
  ·exact .inl l
  ·exact .inr ⟨k,c,e,cellK x c e _ z⟩
 ·obtain ⟨v,z⟩:=I.cell x c e
  exact ⟨v,cellK x c e v z⟩
 ·obtain ⟨m,⟨o,_,_,ho,_⟩,_⟩:=I.loc
  exact free _ o (λz=>(hch _ z).2.1 rfl) ho I.free
 ·obtain ⟨v,o,ho,hd⟩:=I.cell x c e
  exact free c o (λz=>(hch c z).2.2.1 x c e rfl) ho (I.freeC x c e)
 ·obtain ⟨e,n,ne,nf,d⟩:=I.pin p hp
  have nch:p.1 ∉ ch:=λz=>(hch p.1 z).2.2.2 p hp rfl
  exact ⟨keep p.1 p.2 ne nf nch e n,free p.1 p.2 nch e n,ne,nf,d⟩
theorem Inv.un {t':Nat} (I:Inv X pins σ H s) (u:Un X.fs [] H H' s.heap h') (hok:nu X.prog X.w H' h'):Inv X pins σ H' { s with heap:=h',toks:=t' }:=by
 obtain ⟨m,⟨o,es,ep,ho,r⟩,_⟩:=id I.loc
 obtain ⟨sl,hL⟩:=u.any ho I.free (by simp)
 exact I.step (g':=s.gens) (d':=s.drawn) (ch:=[]) (λ_ z=>nomatch z) (λb o _ hb _ e n=>u.keep b o e n hb (by simp)) (λb o _ hb _ e n=>u.slot b o e n hb (by simp)) (λb o _ e n=>u.free b o e n (by simp)) (λb o _ e=>u.there b o e (by simp)) u.tups u.frzs u.tbls (λm' hm=>by
  obtain ⟨o',es',ep',ho',r'⟩:=hm
  rw [ho] at ho';cases ho'
  exact ⟨_,es',ep',hL,r'⟩) hok I.bare
theorem Inv.call {g':Array GenState} {t':Nat} {d':Drawn} {ch:List Addr} (I:Inv X pins σ H s) (u:Un (j6 X.stack) ch H H' s.heap h') (hok:nu X.prog X.w H' h') (hg:AllBare g')
  (hch:∀b∈ch,(b∈X.ex∨X.s₀.heap.objs.size≤b)∧b≠X.env.locals∧(∀x c,X.env.cells.lookup x=some c→c≠b)∧∀p∈X.pn ++ pins,p.1≠b) :
  Inv X pins σ H' { s with heap:=h',gens:=g',drawn:=d',toks:=t' }:=by
 obtain ⟨m,⟨o,es,ep,ho,r⟩,_⟩:=id I.loc
 obtain ⟨sl,hL⟩:=u.any ho I.free λz=>(hch _ z).2.1 rfl
 exact I.step (ch:=ch) hch (λb o hL hb hc e n=>u.keep b o e n (λz=>(UI.mp (I.pT b z)).elim hL hb) hc) (λb o _ _ hc e n=>u.any e n hc) (λb o hc e n=>u.free b o e n hc) (λb o hc e=>u.there b o e hc) u.tups u.frzs u.tbls (λm' hm=>by
  obtain ⟨o',es',ep',ho',r'⟩:=hm
  rw [ho] at ho';cases ho'
  exact ⟨_,es',ep',hL,r'⟩) hok hg
theorem Inv.turned {t':Nat} {it:Addr} (I:Inv X pins σ H s) (k:∀b o,b≠it→s.heap.get? b=some o→h'.get? b=some o) (hn:H it=none) (hL:it≠X.env.locals)
  (h1:it∈X.ex∨X.s₀.heap.objs.size≤it) (h2:∀x c,X.env.cells.lookup x=some c→c≠it) (h3:∀p∈X.pn ++ pins,p.1≠it):Inv X pins σ H { s with heap:=h',toks:=t' }:=by
 have nit:∀b u,H b=some u→b≠it:=λb u e z=>by rw [z,hn] at e;cases e
 refine I.step (g':=s.gens) (d':=s.drawn) (ch:=[it]) (λb hb=>?_) (λb o _ _ hc e _=>k b o (λz=>hc (by simp [z])) e) (λb o _ _ hc e _=>⟨o.slots,k b o (λz=>hc (by simp [z])) e⟩) (λ_ _ _ _ n=>n)
  (λb o hc e=>⟨o,k b o (λz=>hc (by simp [z])) e⟩) (λ_ _ e=>e) (λ_ _ _ e=>e) (λb ps e=>⟨#[],by rw [e];simp⟩) (λm hm=>?_) (λb u e=>?_) I.bare
 ·have e:b=it:=by simpa using hb
  subst e
  exact ⟨h1,hL,h2,h3⟩
 ·obtain ⟨o,es,ep,ho,r⟩:=hm
  exact ⟨o,es,ep,k _ o (Ne.symm hL) ho,r⟩
 ·refine (I.hok b u e).pS (λc v hc q=>k c v ?_ q) (λ_ q=>q) λ_ _ q=>q
  rcases hc with z | z
  ·rw [z];exact nit b u e
  ·exact nit c _ z
theorem Inv.tok (I:Inv X pins σ H s) (t:Nat):Inv X pins σ H { s with toks:=t }:=I.un (h':=s.heap) (t':=t) Un.refl I.hok
theorem Inv.kept {t':Nat} (I:Inv X pins σ H s) (k:∀b u,s.heap.get? b=some u→h'.get? b=some u):Inv X pins σ H { s with heap:=h',toks:=t' }:=I.un (Un.kept k) (I.hok.kept k)
theorem Inv.laid {a:Addr} {o:HO} {t':Nat} (I:Inv X pins σ H s) (k:∀b u,s.heap.get? b=some u→h'.get? b=some u) (hp:s.heap.objs.size≤a) (new:dB X.prog X.w (upd H a o) h' a o) :
  Inv X pins σ (upd H a o) { s with heap:=h',toks:=t' }:=I.un (Un.laid k hp (I.hok.fresh hp)) (I.hok.laid k hp new)
theorem Inv.write {x e:Addr} {o:HO} {t':Nat} (I:Inv X pins σ H s) (mu:Q5 (H x)) (he:e=x∨H e=some (.own x)) (k:∀b u,b≠e→s.heap.get? b=some u→h'.get? b=some u) (heo:∃u,h'.get? e=some u)
  (new:dB X.prog X.w (upd H x o) h' x o):Inv X pins σ (upd H x o) { s with heap:=h',toks:=t' }:=I.un (Un.write mu he k heo) (I.hok.write mu he k heo new)
theorem Inv.weak {σ':List (Option V)} (I:Inv X pins σ H s) (hl:σ'.length=σ.length) (w:∀(i:Nat) v,σ'[i]?=some (some v)→σ[i]?=some (some v)):Inv X pins σ' H s :=
 ⟨I.ok,I.os,I.bare,I.base,let ⟨m,hn,hl'⟩:=I.loc;⟨m,hn,λi x v e1 e2 e3=>hl' i x v e1 (w i v e2) e3⟩,I.cell,I.free,I.freeC,I.pin,I.hok,hl.trans I.len⟩
theorem Inv.Cr {pins':List (Addr × Obj)} (I:Inv X pins σ H s) (h:∀p∈pins',s.heap.get? p.1=some p.2∧H p.1=none∧p.1≠X.env.locals∧p.1 ∉ X.fs∧∀v,p.2.data≠.cell v):Inv X pins' σ H s :=
 ⟨I.ok,I.os,I.bare,I.base,I.loc,I.cell,I.free,I.freeC,λp hp=>(UD.mp hp).elim (λz=>I.pin p (VI _ z)) (h p),I.hok,I.len⟩
theorem se {N:List Str} (hN:N.Nodup) {i j:Nat} {x:Str} (a:N[i]?=some x) (b:N[j]?=some x):i=j:=by
 obtain ⟨h1,e1⟩:=Uu.mp a
 obtain ⟨h2,e2⟩:=Uu.mp b
 exact (Vt hN).mp (e1.trans e2.symm)
theorem vB {M:Model} {A:Around} {E:Value→Shared→Prop} {i:Nat} {x:Str} {v:V} {u:Value} {Q:Unit→Shared→Prop} (I:Inv X pins σ H s) (hN:X.N.Nodup) (hi:X.N[i]?=some x) (hx:Loc X.env.scope x) (r:RelV v u)
  (h:∀s',Inv X pins (σ.set i (some v)) H s'→(∃a,Heap.SameBut a s.heap s'.heap∧(a=X.env.locals∨X.env.cells.lookup x=some a))→Q () s') (hf:X.fn x=true∨X.env.scope.names.lookup x=some .local:=by first | exact .inl rfl | exact .inr rfl | assumption):wpAny M A (storeName X.env x u) Q E s:=by
 obtain ⟨m,hn,hl⟩:=id I.loc
 have hcls:(X.env.scope.kind == .class || (X.env.scope.kind == .module && X.env.locals != X.env.globals))=false:=by rw [I.ok.kind];rfl
 have hiσ:i < σ.length:=by rw [I.len];exact (Uu.mp hi).1
 have IB:=I.IB
 have tracked:∀{a:Addr} {h':Heap},(∃o,s.heap.get? a=some o∧H a=none)→Heap.SameBut a s.heap h'→nu X.prog X.w H h':=λ{a h'} ha hs b ob e=>by
  obtain ⟨_,_,hfree⟩:=ha
  refine (I.hok b ob e).pS (λc w' hc q=>(hs.2 c ?_).trans q) (λ_ q=>q) λ_ _ q=>q
  rintro rfl
  rcases hc with rfl | hc
  ·rw [hfree] at e;cases e
  ·rw [hfree] at hc;cases hc
 rcases hx with hk | hk
 ·refine wpAny_storeName_local hk hn (λh' hn' hs=>?_) hcls
  obtain ⟨oL,_,_,hoL,_⟩:=id hn
  refine h _ ⟨I.ok,I.os,I.bare,⟨λb o e n hb hx=>?_,λb o e n hb hx=>?_,I.base.free,λb o e hx=>?_,I.base.tups,I.base.frzs,I.base.tbls⟩,⟨_,hn',λj y v' e1 e2 e3=>?_⟩,λy c e=>?_,I.free,I.freeC,λp hp=>?_,tracked ⟨oL,hoL,I.free⟩ hs,by simpa using I.len⟩ ⟨_,hs,.inl rfl⟩
  ·exact (hs.2 b (UO (UL (Heap.lt_size e) I.ok.above))).trans (I.base.keep b o e n hb hx)
  ·obtain ⟨sl,e1⟩:=I.base.slot b o e n hb hx
   exact ⟨sl,(hs.2 b (UO (UL (Heap.lt_size e) I.ok.above))).trans e1⟩
  ·obtain ⟨o',e1⟩:=I.base.there b o e hx
   exact ⟨o',(hs.2 b (UO (UL (Heap.lt_size e) I.ok.above))).trans e1⟩
  ·by_cases hj:j=i
   ·subst hj
    rw [hi] at e1;cases e1
    rw [UU hiσ] at e2
    cases e2
    exact ⟨u,r,.inl ⟨hk,by simp⟩⟩
   ·rw [U' (Ne.symm hj)] at e2
    obtain ⟨u',r',q⟩:=hl j y v' e1 e2 e3
    refine ⟨u',r',?_⟩
    rcases q with ⟨k,e⟩ | ⟨k,c,e,z⟩
    ·refine .inl ⟨k,?_⟩
     have:y≠x:=λe=>hj (se hN e1 (e ▸ hi))
     simp [this,e]
    ·exact .inr ⟨k,c,e,z.sameBut hs (IB y c e)⟩
  ·obtain ⟨w',z⟩:=I.cell y c e
   exact ⟨w',z.sameBut hs (IB y c e)⟩
  ·obtain ⟨e,n,ne,nf,d⟩:=I.pin p hp
   exact ⟨(hs.2 p.1 ne).trans e,n,ne,nf,d⟩
 ·have hfn:X.fn x=true:=by
   rcases hf with z | z
   ·exact z
   ·rw [z] at hk;cases hk
  obtain ⟨c,hc⟩:=I.ok.has x (.inl hk)
  obtain ⟨w',z⟩:=I.cell x c hc
  refine wpAny_storeName_cell I.ok.kind hk hc z (λh' hc' hs=>?_)
  obtain ⟨oc,hoc,hocd⟩:=id z
  refine h { s with heap:=h' } ⟨I.ok,I.os,I.bare,⟨λb o e n hb hx=>?_,λb o e n hb hx=>?_,I.base.free,λb o e hx=>?_,I.base.tups,I.base.frzs,I.base.tbls⟩,⟨m,hn.sameBut hs (Ne.symm (IB x c hc)),λj y v' e1 e2 e3=>?_⟩,λy c' e=>?_,I.free,I.freeC,λp hp=>?_,tracked ⟨oc,hoc,I.freeC x c hc⟩ hs,by simpa using I.len⟩ ⟨c,hs,.inr hc⟩
  ·exact (hs.2 b (UO (UL (Heap.lt_size e) (I.ok.cab x c hfn hc)))).trans (I.base.keep b o e n hb hx)
  ·obtain ⟨sl,e1⟩:=I.base.slot b o e n hb hx
   exact ⟨sl,(hs.2 b (UO (UL (Heap.lt_size e) (I.ok.cab x c hfn hc)))).trans e1⟩
  ·obtain ⟨o',e1⟩:=I.base.there b o e hx
   exact ⟨o',(hs.2 b (UO (UL (Heap.lt_size e) (I.ok.cab x c hfn hc)))).trans e1⟩
  ·by_cases hj:j=i
   ·subst hj
    rw [hi] at e1;cases e1
    rw [UU hiσ] at e2
    cases e2
    exact ⟨u,r,.inr ⟨.inl hk,c,hc,hc'⟩⟩
   ·rw [U' (Ne.symm hj)] at e2
    obtain ⟨u',r',q⟩:=hl j y v' e1 e2 e3
    refine ⟨u',r',?_⟩
    rcases q with q | ⟨k,c',e,z'⟩
    ·exact .inl q
    ·refine .inr ⟨k,c',e,z'.sameBut hs ?_⟩
     rintro rfl
     exact hj (se hN e1 (I.ok.inj _ _ _ e hc ▸ hi))
  ·by_cases hcc:c'=c
   ·subst hcc;exact ⟨_,hc'⟩
   ·obtain ⟨w2,z2⟩:=I.cell y c' e
    exact ⟨w2,z2.sameBut hs hcc⟩
  ·obtain ⟨e,n,ne,nf,d⟩:=I.pin p hp
   refine ⟨(hs.2 p.1 ?_).trans e,n,ne,nf,d⟩
   intro q
   rw [q,hoc] at e
   have q':oc=p.2:=Option.some.inj e
   exact d w' (by rw [← q'];exact hocd)
theorem fJ {M:Model} {A:Around} {E:Value→Shared→Prop} {i:Nat} {x:Str} {v:V} {u:Value} {Q:Unit→Shared→Prop} (I:Inv X pins σ H s) (hN:X.N.Nodup) (hi:X.N[i]?=some x) (hx:Loc X.env.scope x) (r:RelV v u)
  (h:∀s',Inv X pins (σ.set i (some v)) H s'→Q () s') (hf:X.fn x=true∨X.env.scope.names.lookup x=some .local:=by first | exact .inl rfl | exact .inr rfl | assumption):wpAny M A (storeName X.env x u) Q E s :=
 vB I hN hi hx r (λs' I' _=>h s' I') hf
theorem Inv.Fm {s':Shared} {ch:List Addr} (I:Inv X pins σ H s) (ho:s'.os=s.os) (u:Un (j6 X.stack) ch H H' s.heap s'.heap) (hok:nu X.prog X.w H' s'.heap) (hg:AllBare s'.gens)
  (hch:∀b∈ch,(b∈X.ex∨X.s₀.heap.objs.size≤b)∧b≠X.env.locals∧(∀x c,X.env.cells.lookup x=some c→c≠b)∧∀p∈X.pn ++ pins,p.1≠b):Inv X pins σ H' s':=by
 obtain ⟨h',g',d',t',o'⟩:=s'
 have e:o'=s.os:=ho
 subst e
 exact I.call (g':=g') (t':=t') (d':=d') u hok hg hch
end
abbrev XK:=Value→Option Addr→Hp→Prop
abbrev St:=List (Option V)
abbrev VK:=V→Hp→Prop
abbrev TE:=St→Hp→VK→Prop
abbrev TT:=St→Hp→(Bool→Hp→Prop)→Prop
abbrev TA:=St→Hp→(List V→Hp→Prop)→Prop
structure Ends where
 nx:St→Hp→Prop
 rt:VK
 bk:St→Hp→Prop:=λ_ _=>False
 ct:St→Hp→Prop:=λ_ _=>False
abbrev TS:=Ends→St→Hp→Prop
def EP (X:Cx) (pins:List (Addr × Obj)) (σ:St) (Q:VK) (u:Value) (s':Shared):Prop:=∃v H',Inv X pins σ H' s'∧RelV v u∧Q v H'
def TP (X:Cx) (pins:List (Addr × Obj)) (σ:St) (Q:Bool→Hp→Prop) (b:Bool) (s':Shared):Prop:=∃H',Inv X pins σ H' s'∧Q b H'
def AP (X:Cx) (pins:List (Addr × Obj)) (σ:St) (Q:List V→Hp→Prop) (us:List Value) (s':Shared):Prop:=∃vs H',Inv X pins σ H' s'∧Vals vs us∧Q vs H'
def SP (X:Cx) (pins:List (Addr × Obj)) (D:Ends) (f:Flow) (s':Shared):Prop :=
 match f with
 | .next=>∃σ' H',Inv X pins σ' H' s'∧D.nx σ' H'
 | .brk=>∃σ' H',Inv X pins σ' H' s'∧D.bk σ' H'
 | .cont=>∃σ' H',Inv X pins σ' H' s'∧D.ct σ' H'
 | .ret u=>∃v σ' H',Inv X pins σ' H' s'∧RelV v u∧D.rt v H'
def PE (X:Cx) (e:Expr) (t:TE):Prop :=
 ∀(pins:List (Addr × Obj)) (s:Shared) (σ:St) (H:Hp) (Q:VK),Inv X pins σ H s→t σ H Q→wpAny (model X.prog X.w) X.A (eval e X.env) (EP X pins σ Q) X.xe s
def PT (X:Cx) (e:Expr) (t:TT):Prop :=
 ∀(pins:List (Addr × Obj)) (s:Shared) (σ:St) (H:Hp) (Q:Bool→Hp→Prop),Inv X pins σ H s→t σ H Q→wpAny (model X.prog X.w) X.A (isTrue e X.env (eval e X.env)) (TP X pins σ Q) X.xe s
def PW (X:Cx) (e:Expr) (t:TT):Prop :=
 ∀(whole:Sem Value) (pins:List (Addr × Obj)) (s:Shared) (σ:St) (H:Hp) (Q:Bool→Hp→Prop),Inv X pins σ H s→t σ H Q→wpAny (model X.prog X.w) X.A (isTrue e X.env whole) (TP X pins σ Q) X.xe s
theorem PW.pt {X:Cx} {e:Expr} {t:TT} (h:PW X e t):PT X e t:=h _
def PA (X:Cx) (es:List Expr) (t:TA):Prop :=
 ∀(pos:Pos) (pins:List (Addr × Obj)) (s:Shared) (σ:St) (H:Hp) (Q:List V→Hp→Prop),Inv X pins σ H s→t σ H Q→wpAny (model X.prog X.w) X.A (spliced (backTo pos (starEach es X.env))) (AP X pins σ Q) X.xe s
def PS (X:Cx) (st:Stmt) (t:TS):Prop :=
 ∀(pins:List (Addr × Obj)) (s:Shared) (σ:St) (H:Hp) (D:Ends),Inv X pins σ H s→t D σ H→wpAny (model X.prog X.w) X.A (exec st X.env) (SP X pins D) X.xe s
def tM (X:Cx) (st:List Stmt) (t:TS):Prop :=
 ∀(pins:List (Addr × Obj)) (s:Shared) (σ:St) (H:Hp) (D:Ends),Inv X pins σ H s→t D σ H→wpAny (model X.prog X.w) X.A (execs st X.env) (SP X pins D) X.xe s
theorem cD {α:Type} {t:Sem α} {Q Q':α→Shared→Prop} {M:Model} {A:Around} {E:Value→Shared→Prop} {s:Shared} (h:wpAny M A t Q E s) (hQ:∀a s,Q a s→Q' a s):wpAny M A t Q' E s:=wpAny_mono h hQ λ_ _ x=>x
end L2
namespace L2
open PySem PySem.Spec PyProof.Rows
section
variable {X:Cx}
def BB (i:Nat):TE:=λσ H Q=>∃v,σ[i]?=some (some v)∧Q v H
def tC (v:V):TE:=λ_ H Q=>Q v H
theorem A8 {i:Nat} {x:Str} {pos:Pos} (hN:X.N[i]?=some x) (hv:xY X.env.scope x) (hd:(x == ("__debug__":Str))=false:=by decide) (hcd:(x == ("__classdict__":Str))=false:=by decide):PE X (.Name x pos) (BB i):=by
 intro pins s σ H Q I h
 obtain ⟨v,e,h⟩:=h
 obtain ⟨m,hn,hl⟩:=I.loc
 obtain ⟨u,r,l⟩:=hl i x v hN e hv
 have fin:EP X pins σ Q u s:=⟨v,H,I,r,h⟩
 rcases l with ⟨hk,hm⟩ | ⟨hk,c,hc,hcell⟩
 ·exact wpAny_Name (wpAny_loadName_local I.ok.kind hk hn hm fin) hd
 ·rcases hk with hk | hk
  ·exact wpAny_Name (wpAny_loadName_cell I.ok.kind hk hc hcell fin) hd
  ·exact wpAny_Name (wpAny_loadName_free I.ok.kind hk hc hcell fin hcd) hd
theorem aS {i j pos}:PE X (.Constant (.int i) j pos) (tC (.int i)):=λ_ _ _ H _ I h=>wpAny_Constant_int ⟨.int i,H,I.tok _,⟨_,rfl⟩,h⟩
theorem y6 {b j pos}:PE X (.Constant (.bool b) j pos) (tC (.bl b)):=λ_ _ _ H _ I h=>Constant_bool ⟨.bl b,H,I,rfl,h⟩
theorem A5 {j pos}:PE X (.Constant .none j pos) (tC .non):=λ_ _ _ H _ I h=>Constant_none ⟨.non,H,I,rfl,h⟩
theorem pq {x j pos}:PE X (.Constant (.str x) j pos) (tC (.str x)):=λ_ _ _ H _ I h=>Calls.Constant_str ⟨.str x,H,I.tok _,⟨_,rfl⟩,h⟩
def Gl (X:Cx) (x:Str):Prop:=X.env.kindOf x=some .globalImplicit
theorem lN {E:Value→Shared→Prop} {pins:List (Addr × Obj)} {s:Shared} {σ:St} {H:Hp} {x:Str} {u:Value} {pos:Pos} {Q:Value→Shared→Prop} (I:Inv X pins σ H s) (hg:Gl X x) (hm:X.mg x=some u) (h:Q u s)
  (hd:(x == ("__debug__":Str))=false:=by decide):wpAny (model X.prog X.w) X.A (eval (.Name x pos) X.env) Q E s :=
 Calls.Name_function_global I.ok.kind hg (Calls.loadGlobal_global (by rw [I.ok.glob];exact I.mod.glob.keeps I.bk) hm h) hd
theorem mP {E:Value→Shared→Prop} {pins:List (Addr × Obj)} {s:Shared} {σ:St} {H:Hp} {x:Str} {u:Value} {pos:Pos} {Q:Value→Shared→Prop} (I:Inv X pins σ H s) (hg:Gl X x) (hm:X.mg x=none) (hv:bootBuiltins x=some u) (h:Q u s)
  (hn:x≠"__name__":=by decide) (hd:(x == ("__debug__":Str))=false:=by decide):wpAny (model X.prog X.w) X.A (eval (.Name x pos) X.env) Q E s:=by
 obtain ⟨mb,h1,h2⟩:=I.mod.blt
 exact Calls.Name_function_global I.ok.kind hg (Calls.loadGlobal_builtin (by rw [I.ok.glob];exact I.mod.glob.keeps I.bk) hm (by rw [I.ok.blt];exact h1.keeps I.bk) ((h2 x hn).trans hv) h) hd
theorem du {x:Str} {v:V} {u:Value} {pos:Pos} (hg:Gl X x) (hm:X.mg x=some u) (r:RelV v u) (hd:(x == ("__debug__":Str))=false:=by decide):PE X (.Name x pos) (tC v) :=
 λ_ _ _ H _ I h=>lN I hg hm ⟨v,H,I,r,h⟩ hd
theorem qP {x:Str} {v:V} {u:Value} {pos:Pos} (hg:Gl X x) (hm:X.mg x=none) (hv:bootBuiltins x=some u) (r:RelV v u) (hn:x≠"__name__":=by decide) (hd:(x == ("__debug__":Str))=false:=by decide):PE X (.Name x pos) (tC v) :=
 λ_ _ _ H _ I h=>mP I hg hm hv ⟨v,H,I,r,h⟩ hn hd
variable {a b:Expr} {ta tb:TE} {pos:Pos}
def tB (t:TE):TT:=λσ H Q=>t σ H λx H1=>∃c,x=.bl c∧Q c H1
theorem Bc {e:Expr} {t:TE} (h:PE X e t) (he:∀whole,isTrue e X.env whole=(do let v ← whole;standAt e.pos;holding [v] (truthy v)):=by intro _;rfl):PT X e (tB t):=by
 intro pins s σ H Q I hw
 refine isTrue_plain (cD (h pins s σ H _ I hw) λv s1 ⟨x,H1,I1,r1,q1⟩=>?_) (he _)
 obtain ⟨d,rfl,q⟩:=q1
 cases r1
 exact wpAny_truthy_bool ⟨H1,I1,q⟩
variable {tA tB':TT} {rest:List Expr}
def HB (t u:TT):TT:=λσ H Q=>t σ H λc H1=>if c=true then u σ H1 Q else Q false H1
def QH (t u:TT):TT:=λσ H Q=>t σ H λc H1=>if c=true then Q true H1 else u σ H1 Q
def Kr (t:TT):TT:=λσ H Q=>t σ H λc H1=>Q (!c) H1
theorem qT (ha:PT X a tA):PW X (.BoolOp .And [a] pos) tA:=by
 intro wh pins s σ H Q I h
 refine isTrue_and (cD (ha pins s σ H Q I h) λc s1 e=>?_)
 cases c with
 | true=>exact isTrue_and_nil e
 | false=>exact e
theorem wZ (ha:PT X a tA):PW X (.BoolOp .Or [a] pos) tA:=by
 intro wh pins s σ H Q I h
 refine isTrue_or (cD (ha pins s σ H Q I h) λc s1 e=>?_)
 cases c with
 | false=>exact isTrue_or_nil e
 | true=>exact e
theorem wY (ha:PT X a tA) (hb:PW X (.BoolOp .And (b :: rest) pos) tB'):PW X (.BoolOp .And (a :: b :: rest) pos) (HB tA tB'):=by
 intro wh pins s σ H Q I h
 refine isTrue_and (cD (ha pins s σ H _ I h) λc s1 ⟨H1,I1,q1⟩=>?_)
 cases c with
 | true=>exact hb wh pins s1 σ H1 Q I1 q1
 | false=>exact ⟨H1,I1,q1⟩
theorem Cz (ha:PT X a tA) (hb:PW X (.BoolOp .Or (b :: rest) pos) tB'):PW X (.BoolOp .Or (a :: b :: rest) pos) (QH tA tB'):=by
 intro wh pins s σ H Q I h
 refine isTrue_or (cD (ha pins s σ H _ I h) λc s1 ⟨H1,I1,q1⟩=>?_)
 cases c with
 | true=>exact ⟨H1,I1,q1⟩
 | false=>exact hb wh pins s1 σ H1 Q I1 q1
theorem Bb (ha:PT X a tA):PT X (.UnaryOp .Not a pos) (Kr tA):=by
 intro pins s σ H Q I h
 exact isTrue_not (ha pins s σ H (λc H1=>Q (!c) H1) I h)
def C6 (ta tb:TE):TE:=λσ H Q=>ta σ H λx H1=>∃c,x=.bl c∧if c=true then tb σ H1 Q else Q (.bl false) H1
def Ks (ta tb:TE):TE:=λσ H Q=>ta σ H λx H1=>∃c,x=.bl c∧if c=true then Q (.bl true) H1 else tb σ H1 Q
def C9 (ta:TE):TE:=λσ H Q=>ta σ H λx H1=>∃c,x=.bl c∧Q (.bl (!c)) H1
theorem A7 {op} {t:TE} (h:PE X a t):PE X (.BoolOp op [a] pos) t:=λpins s σ H Q I hw=>BoolOp_one (h pins s σ H Q I hw)
theorem A4 (ha:PE X a ta) (hb:PE X (.BoolOp .And (b :: rest) pos) tb):PE X (.BoolOp .And (a :: b :: rest) pos) (C6 ta tb):=by
 intro pins s σ H Q I h
 refine BoolOp_and (cD (ha pins s σ H _ I h) λv s1 ⟨x,H1,I1,r1,q1⟩=>?_)
 obtain ⟨c,rfl,q1⟩:=q1
 cases r1
 refine wpAny_truthy_bool ?_
 cases c with
 | true=>exact hb pins s1 σ H1 Q I1 q1
 | false=>exact ⟨.bl false,H1,I1,rfl,q1⟩
theorem GQ (ha:PE X a ta) (hb:PE X (.BoolOp .Or (b :: rest) pos) tb):PE X (.BoolOp .Or (a :: b :: rest) pos) (Ks ta tb):=by
 intro pins s σ H Q I h
 refine BoolOp_or (cD (ha pins s σ H _ I h) λv s1 ⟨x,H1,I1,r1,q1⟩=>?_)
 obtain ⟨c,rfl,q1⟩:=q1
 cases r1
 refine wpAny_truthy_bool ?_
 cases c with
 | false=>exact hb pins s1 σ H1 Q I1 q1
 | true=>exact ⟨.bl true,H1,I1,rfl,q1⟩
theorem A6 (ha:PE X a ta):PE X (.UnaryOp .Not a pos) (C9 ta):=by
 intro pins s σ H Q I h
 refine UnaryOp_ (cD (ha pins s σ H _ I h) λv s1 ⟨x,H1,I1,r1,q1⟩=>?_)
 obtain ⟨c,rfl,q1⟩:=q1
 cases r1
 exact not_of (wpAny_truthy_bool ⟨.bl (!c),H1,I1,rfl,q1⟩)
def Rk (t:TT) (ta tb:TE):TE:=λσ H Q=>t σ H λc H1=>if c=true then ta σ H1 Q else tb σ H1 Q
theorem sx {c:Expr} (hc:PT X c tA) (ha:PE X a ta) (hb:PE X b tb):PE X (.IfExp c a b pos) (Rk tA ta tb):=by
 intro pins s σ H Q I h
 refine wpAny_IfExp (cD (hc pins s σ H _ I h) λd s1 ⟨H1,I1,q1⟩=>?_)
 cases d with
 | true=>exact ha pins s1 σ H1 Q I1 q1
 | false=>exact hb pins s1 σ H1 Q I1 q1
end
end L2
namespace L2
open PySem PySem.Spec PyProof.Rows
def cZ (K:PySem.W.Frag) (H:Hp) (a:Addr) (xs:List V):Prop :=
 Rd H a (.lst xs) ∨
  ∃(o:Obj) (its:Array Value) (n:Nat),K.lookup a=some o∧o.cls=.type "list"∧o.dict=none∧o.data=.seq its n∧its.size≤sizeLine∧Vals xs its.toList
def gS (K:PySem.W.Frag) (H:Hp) (a:Addr) (xs:List V):Prop :=
 Rd H a (.tup xs) ∨
  ∃(o:Obj) (its:Array Value) (n:Nat),K.lookup a=some o∧o.cls=.type "tuple"∧o.data=.seq its n∧its.size≤sizeLine∧Vals xs its.toList
def RD:Value→Option V
 | .none=>some .non
 | .bool b=>some (.bl b)
 | .int i _=>some (.int i)
 | .str x _=>some (.str x)
 | .bytes b _=>some (.byt b)
 | .float b _=>some (.flt b)
 | .ref a=>some (.ref a)
 | .type n=>some (.ty n)
 | _=>none
theorem RelV.abs {x:V} {u:Value} (r:RelV x u):RD u=some x:=by
 cases x with
 | non=>cases r;rfl
 | bl _=>cases r;rfl
 | int _=>obtain ⟨t,rfl⟩:=r;rfl
 | str _=>obtain ⟨t,rfl⟩:=r;rfl
 | byt _=>obtain ⟨t,rfl⟩:=r;rfl
 | flt _=>obtain ⟨t,rfl⟩:=r;rfl
 | ref _=>cases r;rfl
 | ty _=>cases r;rfl
theorem RelV.inj {x y:V} {u:Value} (r:RelV x u) (q:RelV y u):x=y:=Option.some.inj (r.abs.symm.trans q.abs)
theorem Vals.inj:∀{xs ys:List V} {us:List Value},Vals xs us→Vals ys us→xs=ys
 | _,_,_,.nil,.nil=>rfl
 | _,_,_,.cons r t,.cons r' t'=>by rw [r.inj r',Vals.inj t t']
section
variable {X:Cx} {pins:List (Addr × Obj)} {σ:St} {H:Hp} {s:Shared} {a:Addr} {xs ys:List V}
theorem cZ.of {K:PySem.W.Frag} (h:H a=some (.lst xs)):cZ K H a xs:=.inl (.inl h)
theorem gS.of {K:PySem.W.Frag} (h:H a=some (.tup xs)):gS K H a xs:=.inl (.inl h)
theorem Inv.list (I:Inv X pins σ H s) (h:cZ X.K H a xs):∃its:List Value,Vals xs its∧PlainL s.heap a its.toArray∧xs.length≤sizeLine:=by
 rcases h with h | ⟨o,its,n,hk,hc,hd,hs,hz,r⟩
 ·obtain ⟨z,its,n,r,e⟩:=h.ok I.hok
  exact ⟨its,r,⟨_,n,e,rfl,rfl,rfl⟩,z⟩
 ·refine ⟨its.toList,r,⟨o,n,I.mO a o hk,hc,hd,by simpa using hs⟩,?_⟩
  have e:=r.length
  simp only [Array.length_toList] at e
  omega
theorem Inv.tuple (I:Inv X pins σ H s) (h:gS X.K H a xs):∃its:List Value,Vals xs its∧IsTup s.heap a its.toArray∧xs.length≤sizeLine:=by
 rcases h with h | ⟨o,its,n,hk,hc,hs,hz,r⟩
 ·obtain ⟨z,its,r,p⟩:=h.ok I.hok
  exact ⟨its,r,p,z⟩
 ·refine ⟨its.toList,r,⟨o,I.mO a o hk,hc,n,by simpa using hs⟩,?_⟩
  have e:=r.length
  simp only [Array.length_toList] at e
  omega
theorem Inv.kD (I:Inv X pins σ H s) (h:cZ X.K H a xs) (h':cZ X.K H a ys):xs=ys:=by
 obtain ⟨its,r,⟨o,n,e,_,_,d⟩,_⟩:=I.list h
 obtain ⟨its',r',⟨o',n',e',_,_,d'⟩,_⟩:=I.list h'
 rw [e] at e';cases e'
 rw [d] at d'
 injection d' with d1 _
 have:its=its':=by simpa using congrArg Array.toList d1
 subst this
 exact r.inj r'
theorem Inv.EF (I:Inv X pins σ H s) (h:gS X.K H a xs) (h':gS X.K H a ys):xs=ys:=by
 obtain ⟨its,r,⟨o,e,_,n,d⟩,_⟩:=I.tuple h
 obtain ⟨its',r',⟨o',e',_,n',d'⟩,_⟩:=I.tuple h'
 rw [e] at e';cases e'
 rw [d] at d'
 injection d' with d1 _
 have:its=its':=by simpa using congrArg Array.toList d1
 subst this
 exact r.inj r'
end
abbrev Cx.tH (X:Cx) (E:Value→Shared→Prop):Cx:={ X with xe:=E }
abbrev Cx.M5 (X:Cx):Cx:=X.tH λ_ _=>False
theorem Cx.Ok.tH {X:Cx} (ok:X.Ok) (E:Value→Shared→Prop):(X.tH E).Ok :=
 ⟨ok.mod,ok.kind,ok.glob,ok.blt,ok.above,ok.inj,ok.has,ok.cab,ok.hd,ok.frames,ok.stk,ok.exf,ok.bs,ok.bsz,ok.noex,ok.exfs,ok.mM,ok.frf⟩
theorem Cx.Ok.lE {X:Cx} {E:Value→Shared→Prop} (ok:(X.tH E).Ok):X.Ok :=
 ⟨ok.mod,ok.kind,ok.glob,ok.blt,ok.above,ok.inj,ok.has,ok.cab,ok.hd,ok.frames,ok.stk,ok.exf,ok.bs,ok.bsz,ok.noex,ok.exfs,ok.mM,ok.frf⟩
section
variable {X:Cx} {pins:List (Addr × Obj)} {σ:St} {H:Hp} {s:Shared} {E:Value→Shared→Prop}
theorem Inv.tH (I:Inv X pins σ H s) (E:Value→Shared→Prop):Inv (X.tH E) pins σ H s:=⟨I.ok.tH E,I.os,I.bare,I.base,I.loc,I.cell,I.free,I.freeC,I.pin,I.hok,I.len⟩
theorem Inv.lE (I:Inv (X.tH E) pins σ H s):Inv X pins σ H s:=⟨I.ok.lE,I.os,I.bare,I.base,I.loc,I.cell,I.free,I.freeC,I.pin,I.hok,I.len⟩
theorem SP.lE {D:Ends} {f:Flow} {s':Shared} (h:SP (X.tH E) pins D f s'):SP X pins D f s':=by
 cases f with
 | next=>obtain ⟨σ',H',I,q⟩:=h;exact ⟨σ',H',I.lE,q⟩
 | brk=>obtain ⟨σ',H',I,q⟩:=h;exact ⟨σ',H',I.lE,q⟩
 | cont=>obtain ⟨σ',H',I,q⟩:=h;exact ⟨σ',H',I.lE,q⟩
 | ret u=>obtain ⟨v,σ',H',I,r,q⟩:=h;exact ⟨v,σ',H',I.lE,r,q⟩
theorem tM.M5 {st:List Stmt} {t:TS} (h:tM X.M5 st t):tM X st t:=λpins s σ H D I hw =>
 wpAny_mono (h pins s σ H D (I.tH _) hw) (λ_ _ q=>q.lE) λ_ _ z=>False.elim z
end
section
variable {X:Cx} {st:Stmt} {rest:List Stmt} {t u:TS} {e:Expr} {te:TE} {pos:Pos}
def C8:TS:=λD σ H=>D.nx σ H
def Kv (t u:TS):TS:=λD σ H=>t { D with nx:=u D } σ H
theorem f_:tM X [] C8:=λ_ _ σ H _ I h=>wpAny_execs_nil ⟨σ,H,I,h⟩
theorem a_ (h1:PS X st t) (h2:tM X rest u):tM X (st :: rest) (Kv t u):=by
 intro pins s σ H D I h
 refine wpAny_execs_cons (cD (h1 pins s σ H { D with nx:=u D } I h) λf s1 q=>?_)
 cases f with
 | next =>
  obtain ⟨σ',H',I',q⟩:=q
  exact h2 pins s1 σ' H' D I' q
 | ret v=>exact q
 | brk=>exact q
 | cont=>exact q
theorem bN (h1:PS X st t):tM X [st] t:=by
 intro pins s σ H D I h
 refine wpAny_execs_cons (cD (h1 pins s σ H D I h) λf s1 q=>?_)
 cases f with
 | next=>exact wpAny_execs_nil q
 | ret v=>exact q
 | brk=>exact q
 | cont=>exact q
def NY:TS:=λD σ H=>D.bk σ H
def Qz:TS:=λD σ H=>D.ct σ H
theorem Inv.quiet {pins:List (Addr × Obj)} {σ:St} {H:Hp} {s:Shared} (I:Inv X pins σ H s):interactive X.env=false:=by simp [interactive,I.ok.kind]
def C7 (te:TE):TS:=λD σ H=>te σ H λ_ H1=>D.nx σ H1
theorem lS (he:PE X e te) (hs:swapsWith e none pos.line X.env=pure false:=by rfl):PS X (.Expr e pos) (C7 te):=by
 intro pins s σ H D I h
 exact wpAny_Expr_any (cD (he pins s σ H _ I h) λv s1 ⟨x,H1,I1,r1,q1⟩=>⟨σ,H1,I1,q1⟩) I.quiet hs
def Ku (te:TE):TS:=λD σ H=>te σ H D.rt
theorem dY (he:PE X e te):PS X (.Return (some e) pos) (Ku te):=by
 intro pins s σ H D I h
 exact wpAny_Return_some (cD (he pins s σ H _ I h) λv s1 ⟨x,H1,I1,r1,q1⟩=>⟨x,σ,H1,I1,r1,q1⟩)
def Dc:TS:=λD _ H=>D.rt .non H
theorem wU:PS X (.Return none pos) Dc:=λ_ _ σ H _ I h=>wpAny_Return_none ⟨.non,σ,H,I,rfl,h⟩
def Kp (c:TT) (t u:TS):TS:=λD σ H=>c σ H λb H1=>if b=true then t D σ H1 else u D σ H1
theorem ot {c:Expr} {a b:List Stmt} {tc:TT} (hc:PT X c tc) (ha:tM X a t) (hb:tM X b u):PS X (.If c a b pos) (Kp tc t u):=by
 intro pins s σ H D I h
 refine wpAny_If (cD (hc pins s σ H _ I h) λd s1 ⟨H1,I1,q1⟩=>?_)
 cases d with
 | true=>exact ha pins s1 σ H1 D I1 q1
 | false=>exact hb pins s1 σ H1 D I1 q1
def BA:TS:=λ_ _ _=>False
theorem pA {sts:List Stmt}:tM X sts BA:=λ_ _ _ _ _ _ h=>h.elim
end
abbrev TG:=V→St→Hp→(St→Hp→Prop)→Prop
abbrev qF:=List V→St→Hp→(St→Hp→Prop)→Prop
def PG (X:Cx) (target:Expr) (t:TG):Prop :=
 ∀(pins:List (Addr × Obj)) (s:Shared) (σ:St) (H:Hp) (v:V) (u:Value) (Q:St→Hp→Prop),Inv X pins σ H s→RelV v u→t v σ H Q →
  wpAny (model X.prog X.w) X.A (assign target X.env u) (λ_ s'=>∃σ' H',Inv X pins σ' H' s'∧Q σ' H') X.xe s
def KN (X:Cx) (ts:List Expr) (t:qF):Prop :=
 ∀(pins:List (Addr × Obj)) (s:Shared) (σ:St) (H:Hp) (vs:List V) (us:List Value) (Q:St→Hp→Prop),Inv X pins σ H s→Vals vs us→t vs σ H Q →
  wpAny (model X.prog X.w) X.A (assignInOrder ((assignEach ts X.env).map (·.2)) us) (λ_ s'=>∃σ' H',Inv X pins σ' H' s'∧Q σ' H') X.xe s
abbrev ki:=V→V→V→Hp→(Hp→Prop)→Prop
def kg (X:Cx) (t:ki):Prop :=
 ∀(pins:List (Addr × Obj)) (s:Shared) (σ:St) (H:Hp) (o i v:V) (ov iv u:Value) (Q:Hp→Prop),Inv X pins σ H s→RelV o ov→RelV i iv→RelV v u→t o i v H Q →
  wpAny (model X.prog X.w) X.A (setItem ov iv u) (λ_ s'=>∃H',Inv X pins σ H' s'∧Q H') X.xe s
abbrev Q8:=V→V→Hp→VK→Prop
def Rx (X:Cx) (op:Operator) (t:Q8):Prop :=
 ∀(pins:List (Addr × Obj)) (s:Shared) (σ:St) (H:Hp) (x y:V) (v u:Value) (Q:VK),Inv X pins σ H s→RelV x v→RelV y u→t x y H Q →
  wpAny (model X.prog X.w) X.A (inplaceOp op v u) (EP X pins σ Q) X.xe s
section
variable {X:Cx} {pos:Pos}
def pZ (i:Nat):TG:=λv σ H Q=>Q (σ.set i (some v)) H
theorem lQ {i:Nat} {x:Str} (hN:X.N.Nodup) (hi:X.N[i]?=some x) (hx:Loc X.env.scope x) (hf:X.fn x=true∨X.env.scope.names.lookup x=some .local:=by first | exact .inl rfl | exact .inr rfl | assumption):PG X (.Name x pos) (pZ i):=by
 intro pins s σ H v u Q I r h
 exact wpAny_assign_Name (fJ I hN hi hx r (λs' I'=>⟨_,H,I',h⟩) hf)
def IJ:qF:=λvs σ H Q=>vs=[]∧Q σ H
def B3 (t:TG) (u:qF):qF:=λvs σ H Q=>∃v r,vs=v :: r∧t v σ H λσ' H'=>u r σ' H' Q
theorem wN:KN X [] IJ:=by
 intro pins s σ H vs us Q I r h
 obtain ⟨e,h⟩:=h
 subst e
 cases r
 exact assignInOrder_nil ⟨σ,H,I,h⟩
theorem sC {e:Expr} {es:List Expr} {t:TG} {u:qF} (h1:PG X e t) (h2:KN X es u)
  (hs:(assignEach (e :: es) X.env).map (·.2)=assign e X.env :: (assignEach es X.env).map (·.2):=by rfl):KN X (e :: es) (B3 t u):=by
 intro pins s σ H vs us Q I r h
 obtain ⟨v,vr,e1,h⟩:=h
 subst e1
 cases r with
 | cons r rr =>
  rw [hs]
  refine assignInOrder_cons (cD (h1 pins s σ H _ _ _ I r h) λ_ s1 ⟨σ1,H1,I1,q1⟩=>?_)
  exact h2 pins s1 σ1 H1 _ _ Q I1 rr q1
def IM (K:PySem.W.Frag) (n:Nat) (t:qF):TG:=λv σ H Q=>∃a xs,v=.ref a∧gS K H a xs∧xs.length=n∧t xs σ H Q
theorem A9 {es:List Expr} {k:Nat} {t:qF} {n:Nat} (hc:X.calm=true) (h:KN X es t)
  (hn:(assignEach es X.env).length=n:=by rfl) (hst:(assignEach es X.env).findIdx? (·.1)=none:=by rfl):PG X (.Tuple es k pos) (IM X.K n t):=by
 intro pins s σ H v u Q I r hw
 obtain ⟨a,xs,e1,hq,hl,hw⟩:=hw
 subst e1
 cases r
 obtain ⟨its,rv,ht,hz⟩:=I.tuple hq
 refine assign_Tuple_tuple (I.ok.hd hc) ht (by simp [hn,← hl,rv.length]) hst λh' hx=>?_
 have I1:Inv X pins σ H { s with heap:=h' }:=I.kept (t':=s.toks) λb o e=>hx b o (UO (Heap.lt_size e)) e
 exact h pins _ σ H xs _ Q I1 (by simpa using rv) hw
def IL (to ti:TE) (t:ki):TG:=λv σ H Q=>to σ H λo H1=>ti σ H1 λi H2=>t o i v H2 λH3=>Q σ H3
theorem wM {o i:Expr} {to ti:TE} {t:ki} (ho:PE X o to) (hi:PE X i ti) (hs:kg X t)
  (ha:∀v,assign (.Subscript o i pos) X.env v=(do
   let ov ← holding [v] (eval o X.env)
   let iv ← holding [v,ov] (eval i X.env)
   standAt pos
   holding [v,ov,iv] (setItem ov iv v)
   release [v,ov,iv] []):=by intro _;rfl):PG X (.Subscript o i pos) (IL to ti t):=by
 intro pins s σ H v u Q I r h
 rw [ha]
 refine wpAny_bind (wpAny_holding (cD (ho pins s σ H _ I h) λov s1 ⟨x,H1,I1,r1,q1⟩=>?_))
 refine wpAny_bind (wpAny_holding (cD (hi pins s1 σ H1 _ I1 q1) λiv s2 ⟨y,H2,I2,r2,q2⟩=>?_))
 refine wpAny_bind (wpAny_standAt (wpAny_bind (wpAny_holding (cD (hs pins s2 σ H2 x y v ov iv u _ I2 r1 r2 r q2) λ_ s3 ⟨H3,I3,q3⟩=>?_))))
 exact wpAny_release ⟨σ,H3,I3,q3⟩
def zK (te:TE) (g:TG):TS:=λD σ H=>te σ H λx H1=>g x σ H1 D.nx
theorem wR {tg e:Expr} {te:TE} {g:TG} (he:PE X e te) (hg:PG X tg g) (hs:swapsWithSole [tg] e pos.line X.env=pure false:=by rfl) (hw:swappedStores [tg] e X.env=pure none:=by rfl)
  (h1:(assignEach [tg] X.env).map (·.2)=[assign tg X.env]:=by rfl):PS X (.Assign [tg] e pos) (zK te g):=by
 intro pins s σ H D I h
 refine wpAny_Assign_stores (cD (he pins s σ H _ I h) λv s1 ⟨x,H1,I1,r1,q1⟩=>?_) hs hw
 rw [h1]
 exact cD (hg pins s1 σ H1 x v _ I1 r1 q1) λ_ s2 q=>q
theorem cV {i:Nat} {x:Str} {e:Expr} {te:TE} {pos':Pos} (hN:X.N.Nodup) (hi:X.N[i]?=some x) (hx:Loc X.env.scope x) (he:PE X e te) (hs:swapsWith e (some (.Name x pos')) pos.line X.env=pure false:=by rfl) (hf:X.fn x=true∨X.env.scope.names.lookup x=some .local:=by first | exact .inl rfl | exact .inr rfl | assumption) :
  PS X (.Assign [.Name x pos'] e pos) (zK te (pZ i)):=by
 intro pins s σ H D I h
 refine wpAny_Assign_Name (cD (he pins s σ H _ I h) λv s1 ⟨y,H1,I1,r1,q1⟩=>?_) hs
 exact fJ I1 hN hi hx r1 (λs2 I2=>⟨_,H1,I2,q1⟩) hf
def Kt (i j:Nat) (ta:TA):TS:=λD σ H=>ta σ H λvs H1=>∃v w,vs=[v,w]∧D.nx ((σ.set i (some v)).set j (some w)) H1
theorem pz {i j:Nat} {x y:Str} {a b:Expr} {ta:TA} {px py pt:Pos} {kt k2 pt2} (hc:X.calm=true) (hN:X.N.Nodup) (hi:X.N[i]?=some x) (hj:X.N[j]?=some y) (hij:i≠j)
  (hx:X.env.scope.names.lookup x=some .local) (hy:X.env.scope.names.lookup y=some .local) (ha:PA X [a,b] ta)
  (hw:swappedStores [.Tuple [.Name x px,.Name y py] kt pt] (.Tuple [a,b] k2 pt2) X.env=pure (some [x,y]))
  (hs:swapsWithSole [.Tuple [.Name x px,.Name y py] kt pt] (.Tuple [a,b] k2 pt2) pos.line X.env=pure false:=by rfl) :
  PS X (.Assign [.Tuple [.Name x px,.Name y py] kt pt] (.Tuple [a,b] k2 pt2) pos) (Kt i j ta):=by
 intro pins s σ H D I h
 rw [exec_Assign_arm]
 refine wpAny_bind (wpAny_standAt ?_)
 rw [hs]
 refine wpAny_bind (wpAny_pure ?_)
 rw [if_neg (by decide)]
 refine wpAny_bind (Tuple_ (cD (ha _ pins s σ H _ I h) λus s1 ⟨vs,H1,I1,r1,q1⟩=>?_))
 obtain ⟨v,w,e1,q1⟩:=q1
 subst e1
 obtain ⟨u1,u2,rfl,rv,rw'⟩:∃u1 u2,us=[u1,u2]∧RelV v u1∧RelV w u2:=by
  cases r1 with
  | cons p q =>
   cases q with
   | cons p' q' =>
    cases q'
    exact ⟨_,_,rfl,p,p'⟩
 refine wpAny_newObj_type ?_ (by show 2≤sizeLine;decide)
 have I2:Inv X pins σ H1 { s1 with heap:=s1.heap.push { cls:=.type "tuple",data:=.seq [u1,u2].toArray } }:=I1.kept (t':=s1.toks) λb o e=>Heap.get?_push_of_some _ e
 rw [hw]
 refine wpAny_bind (wpAny_pure ?_)
 show wpAny (model X.prog X.w) X.A (do rule "assign.swapped-stores";let items ← unpackItems (.ref s1.heap.objs.size) 2 none;assignInOrder [λv=>bindName X.env y v,λv=>bindName X.env x v] items.reverse;pure Flow.next) _ _ _
 refine wpAny_bind (wpAny_rule (wpAny_bind (unpackItems_tuple (items:=#[u1,u2]) (I.ok.hd hc) (IsTup.new s1.heap _) λh' hx'=>?_)))
 have I3:=I2.kept (h':=h') (t':=s1.toks) λb o e=>hx' b o (UO (Heap.lt_size e)) e
 show wpAny _ _ (assignInOrder [λv=>bindName X.env y v,λv=>bindName X.env x v] [u2,u1] >>= λ_=>pure Flow.next) _ _ _
 refine wpAny_bind (assignInOrder_cons (wpAny_bindName (fJ I3 hN hj (.inl hy) rw' (λs2 I4=>?_) (.inr hy))))
 refine assignInOrder_cons (wpAny_bindName (fJ I4 hN hi (.inl hx) rv (λs3 I5=>assignInOrder_nil (wpAny_pure ?_)) (.inr hx)))
 rw [List.set_comm _ _ (Ne.symm hij)] at I5
 exact ⟨_,H1,I5,q1⟩
def SR (i:Nat) (te:TE) (ti:Q8):TS:=λD σ H=>∃x,σ[i]?=some (some x)∧te σ H λy H1=>ti x y H1 λz H2=>D.nx (σ.set i (some z)) H2
theorem Nw {i:Nat} {x:Str} {e:Expr} {te:TE} {op:Operator} {ti:Q8} {pos':Pos} (hN:X.N.Nodup) (hi:X.N[i]?=some x) (hx:Loc X.env.scope x) (he:PE X e te) (ho:Rx X op ti) (hf:X.fn x=true∨X.env.scope.names.lookup x=some .local:=by first | exact .inl rfl | exact .inr rfl | assumption) :
  PS X (.AugAssign (.Name x pos') op e pos) (SR i te ti):=by
 intro pins s σ H D I h
 obtain ⟨v,e1,h⟩:=h
 obtain ⟨m,hn,hl⟩:=I.loc
 have vis:xY X.env.scope x:=by rcases hx with k | k;exact .inl k;exact .inr (.inl k)
 obtain ⟨u,r,l⟩:=hl i x v hi e1 vis
 refine wpAny_AugAssign_Name ?_
 have go:wpAny (model X.prog X.w) X.A (eval e X.env) (λw s₂=>wpAny (model X.prog X.w) X.A (inplaceOp op u w) (λr s₃=>wpAny (model X.prog X.w) X.A (storeName X.env x r) (λ_=>SP X pins D .next) X.xe s₃) X.xe s₂) X.xe s:=by
  refine cD (he pins s σ H _ I h) λw s1 ⟨y,H1,I1,r1,q1⟩=>?_
  refine cD (ho pins s1 σ H1 v y u w _ I1 r r1 q1) λz s2 ⟨zv,H2,I2,r2,q2⟩=>?_
  exact fJ I2 hN hi hx r2 (λs3 I3=>⟨_,H2,I3,q2⟩) hf
 rcases l with ⟨hk,hm⟩ | ⟨hk,c,hc,hcell⟩
 ·exact wpAny_loadName_local I.ok.kind hk hn hm go
 ·rcases hk with hk | hk
  ·exact wpAny_loadName_cell I.ok.kind hk hc hcell go
  ·rcases hx with k | k
   ·have:X.env.scope.names.lookup x=some .free:=hk
    rw [k] at this;cases this
   ·have:X.env.scope.names.lookup x=some .free:=hk
    rw [k] at this;cases this
def Ug (f:Int→Int→Int):Q8:=λx y H Q=>∃i j,x=.int i∧y=.int j∧Q (.int (f i j)) H
theorem MJ:Rx X .Sub (Ug λi j=>i - j):=by
 intro pins s σ H x y v u Q I r1 r2 h
 obtain ⟨i,j,e1,e2,q⟩:=h
 subst e1;subst e2
 obtain ⟨t,rfl⟩:=r1
 obtain ⟨t',rfl⟩:=r2
 exact isub_int ⟨.int _,H,I.tok _,⟨_,rfl⟩,q⟩
end
section
variable {X:Cx} {pos:Pos}
def xS (c:TT) (tb:TS):TS:=λD σ H=>∃W:Nat→St→Hp→Prop,(∃m,W m σ H)∧∀m σ H,W m σ H →
 c σ H λb H1=>if b=true then ∃N:St→Hp→Prop,(∀σ' H',N σ' H'→∃m',m' < m∧W m' σ' H')∧tb { D with nx:=N,ct:=N,bk:=D.nx } σ H1 else D.nx σ H1
theorem kX {c:Expr} {body:List Stmt} {tc:TT} {tb:TS} (hp:PassesOwn (model X.prog X.w) X.A X.env X.xe) (hc:PT X c tc) (hb:tM X body tb):PS X (.While c body [] pos) (xS tc tb):=by
 intro pins s σ H D I h
 obtain ⟨W,⟨m0,w0⟩,turn⟩:=h
 refine wpAny_While (codeAny_whileLoop (λn s'=>∃σ' H',Inv X pins σ' H' s'∧W n σ' H') ?_ m0 ⟨σ,H,I,w0⟩)
 rintro n s1 ⟨σ1,H1,I1,w1⟩
 refine wpAny_passesOwn hp (cD (hc pins s1 σ1 H1 _ I1 (turn n σ1 H1 w1)) λb s2 ⟨H2,I2,q2⟩=>?_)
 cases b with
 | true =>
  obtain ⟨N,hN,q2⟩:=q2
  rw [if_pos rfl]
  refine wpAny_passesOwn hp (cD (hb pins s2 σ1 H2 _ I2 q2) λf s3 q3=>?_)
  cases f with
  | next =>
   obtain ⟨σ3,H3,I3,n3⟩:=q3
   obtain ⟨m',hm,w3⟩:=hN σ3 H3 n3
   exact ⟨m',hm,σ3,H3,I3,w3⟩
  | cont =>
   obtain ⟨σ3,H3,I3,n3⟩:=q3
   obtain ⟨m',hm,w3⟩:=hN σ3 H3 n3
   exact ⟨m',hm,σ3,H3,I3,w3⟩
  | brk=>exact q3
  | ret v=>exact q3
 | false =>
  rw [if_neg UJ]
  exact wpAny_execs_nil ⟨σ1,H2,I2,q2⟩
end
structure It where
 go:Nat→Hp→Prop
 yld:Nat→Hp→V→Hp→Prop
 stop:Nat→Hp→Prop
def lZ (X:Cx) (pins:List (Addr × Obj)) (H:Hp) (b:Addr):Prop :=
 H b=none∧b≠X.env.locals∧b ∉ X.fs∧(b∈X.ex∨X.s₀.heap.objs.size≤b)∧(∀x c,X.env.cells.lookup x=some c→c≠b)∧∀p∈X.pn ++ pins,p.1≠b
theorem Inv.FE {X:Cx} {pins:List (Addr × Obj)} {σ:St} {H H':Hp} {s:Shared} {b:Addr} (I:Inv X pins σ H s) (hb:s.heap.objs.size≤b) (hn:H' b=none):lZ X pins H' b:=by
 refine ⟨hn,Wm (UL I.lt hb),I.Sm hb,.inr (UM I.sz hb),λx c e z=>?_,λp hp z=>?_⟩
 ·obtain ⟨v,q⟩:=I.cell x c e
  exact absurd (UL q.lt (by rw [z];exact hb)) (Vv _)
 ·exact absurd (UL (Heap.lt_size (I.pin p hp).1) (by rw [z];exact hb)) (Vv _)
structure Turn (P:Program) (w:World) (K:PySem.W.Frag) (tg:Expr) (J:It) (fp:List Addr) (it:Addr) (tn:Nat→Heap→Prop):Prop where
 mem:it∈fp
 obj:∀i h,tn i h→∀b∈fp,∃o,h.get? b=some o∧∀v,o.data≠.cell v
 keep:∀i h h',tn i h→(∀b∈fp,∀o,h.get? b=some o→h'.get? b=some o)→tn i h'
 item:∀(X:Cx),X.prog=P→X.w=w→X.K=K→X.calm=true→∀(i:Nat) (pins:List (Addr × Obj)) (s:Shared) (σ:St) (H:Hp) (E:Value→Shared→Prop),Inv X pins σ H s→(∀b∈fp,lZ X pins H b)→tn i s.heap→J.go i H →
  wpAny (model P w) X.A (pyNext (.ref it)) (λr s1=>∃u,r=some u ∧
   wpAny (model P w) X.A (letOwnedTupleGo tg (.ref it) u) (λ_ s2=>∃x H',Inv X pins σ H' s2∧RelV x u∧J.yld i H x H'∧tn (i + 1) s2.heap∧∀b∈fp,H' b=none) E s1) E s
 done:∀(X:Cx),X.prog=P→X.w=w→X.K=K→X.calm=true→∀(i:Nat) (pins:List (Addr × Obj)) (s:Shared) (σ:St) (H:Hp) (E:Value→Shared→Prop),Inv X pins σ H s→(∀b∈fp,lZ X pins H b)→tn i s.heap→J.stop i H →
  wpAny (model P w) X.A (pyNext (.ref it)) (λr s1=>r=none∧Inv X pins σ H s1) E s
 self:∀(A:Around) (i:Nat) (s:Shared) (Q:Value→Shared→Prop) (E:Value→Shared→Prop),tn i s.heap→Q (.ref it) s→wpAny (model P w) A (pyIter (.ref it)) Q E s
abbrev TI:=St→Hp→(It→Hp→Prop)→Prop
def Ts (X:Cx) (pins:List (Addr × Obj)) (σ:St) (tg:Expr) (R:It→Hp→Prop) (itv:Value) (s2:Shared):Prop :=
 ∃(it:Addr) (fp:List Addr) (tn:Nat→Heap→Prop) (J:It) (H':Hp),itv=.ref it∧Inv X pins σ H' s2∧Turn X.prog X.w X.K tg J fp it tn∧tn 0 s2.heap∧(∀b∈fp,lZ X pins H' b)∧R J H'
def PI (X:Cx) (tg iter:Expr) (wi:TI):Prop :=
 ∀(pins:List (Addr × Obj)) (s:Shared) (σ:St) (H:Hp) (R:It→Hp→Prop),Inv X pins σ H s→wi σ H R →
  wpAny (model X.prog X.w) X.A (eval iter X.env) (λv s1=>wpAny (model X.prog X.w) X.A (pyIter v) (Ts X pins σ tg R) X.xe s1) X.xe s
theorem FK {M:Model} {A:Around} {E:Value→Shared→Prop} {s:Shared} {tg:Expr} {it:Addr} {u:Value} {o:Obj} {n:String} {vs:Array Value} {Q:Unit→Shared→Prop} (ho:s.heap.get? it=some o) (hc:o.cls=.type n) (hd:o.data=.fields vs)
  (hn:["enumerate","zip","dict_itemiterator","dict_reverseitemiterator","odict_iterator","itertools.zip_longest","itertools.pairwise"].contains n=false) (hQ:Q () s):wpAny M A (letOwnedTupleGo tg (.ref it) u) Q E s:=by
 unfold letOwnedTupleGo
 cases tg <;> first
  | exact wpAny_pure hQ
  | (cases u <;> first
    | exact wpAny_pure hQ
    | (refine wpAny_bind (wpAny_load ho ?_)
       rw [hc,hd]
       show wpAny M A (if (["enumerate","zip","dict_itemiterator","dict_reverseitemiterator","odict_iterator","itertools.zip_longest","itertools.pairwise"].contains n && vs[0]? == some (rawInt _))=true then _ else _) Q E s
       rw [if_neg (by intro h;rw [hn,Bool.false_and] at h;cases h)]
       exact wpAny_pure hQ))
def Im (K:PySem.W.Frag) (a:Addr):It :=
 ⟨λi H=>∃xs x,cZ K H a xs∧xs[i]?=some x,λi H x H'=>H'=H∧∀xs,cZ K H a xs→xs[i]?=some x,λi H=>∃xs,cZ K H a xs∧xs.length≤i⟩
def T8 (K:PySem.W.Frag) (a:Addr):It :=
 ⟨λi H=>∃xs x,gS K H a xs∧xs[i]?=some x,λi H x H'=>H'=H∧∀xs,gS K H a xs→xs[i]?=some x,λi H=>∃xs,gS K H a xs∧xs.length≤i⟩
def E3 (lo:Int) (n:Nat):It:=⟨λi _=>i < n,λi H x H'=>H'=H∧x=.int (lo + i),λi _=>n≤i⟩
theorem EI {P:Program} {w:World} {K:PySem.W.Frag} {tg:Expr} (a it:Addr):Turn P w K tg (Im K a) [it] it (λi h=>h.IsListIter it a i) where
 mem:=by simp
 obj:=λi h st b hb=>by
  have e:b=it:=by simpa using hb
  subst e
  obtain ⟨o,e,c,d⟩:=st
  exact ⟨o,e,λv z=>by rw [d] at z;cases z⟩
 keep:=λi h h' st k=>st.at λo e=>k it (by simp) o e
 item:=by
  intro X hP hw hK hc i pins s σ H E I hf st hg
  subst hP hw hK
  obtain ⟨xs,x,hq,hx⟩:=hg
  obtain ⟨its,rv,p,hz⟩:=I.list hq
  obtain ⟨u,hu,ru⟩:=rv.get hx
  obtain ⟨f0,f1,f2,f3,f4,f5⟩:=hf it (by simp)
  refine wpAny_pyNext_list_item st p.isList (x:=u) (by simpa using hu) λh' st' sb=>?_
  have I1:Inv X pins σ H { s with heap:=h' }:=I.turned (t':=s.toks) (λb o hb e=>(sb.2 b hb).trans e) f0 f1 f3 f4 f5
  obtain ⟨o,e,c,d⟩:=id st'
  exact ⟨u,rfl,FK (s:={ s with heap:=h' }) e c d (by decide) ⟨x,H,I1,ru,⟨rfl,λys hy=>by rw [I.kD hy hq];exact hx⟩,st',λb hb=>(hf b hb).1⟩⟩
 done:=by
  intro X hP hw hK hc i pins s σ H E I hf st hg
  subst hP hw hK
  obtain ⟨xs,hq,hx⟩:=hg
  obtain ⟨its,rv,p,hz⟩:=I.list hq
  obtain ⟨f0,f1,f2,f3,f4,f5⟩:=hf it (by simp)
  have hl:=rv.length
  exact wpAny_pyNext_list_end (I.ok.hd hc) st p.isList (by simp;omega) λh' eb=>⟨rfl,I.turned (t':=s.toks) (λb o hb e=>eb b o hb e) f0 f1 f3 f4 f5⟩
 self:=λ_ _ _ _ _ st h=>wpAny_pyIter_listiter st h
theorem BC {P:Program} {w:World} {K:PySem.W.Frag} {tg:Expr} (it:Addr) (lo:Int) (n:Nat):Turn P w K tg (E3 lo n) [it] it (λi h=>IsRangeIter h it (lo + (i:Nat) * 1) ((n:Int) - (i:Nat)) 1) where
 mem:=by simp
 obj:=λi h st b hb=>by
  have e:b=it:=by simpa using hb
  subst e
  exact ⟨_,st,λv z=>by
   have z':Data.fields _=Data.cell v:=z
   cases z'⟩
 keep:=λi h h' st k=>k it (by simp) _ st
 item:=by
  intro X hP hw hK hc i pins s σ H E I hf st hg
  subst hP hw hK
  obtain ⟨f0,f1,f2,f3,f4,f5⟩:=hf it (by simp)
  have W:=Walks.range (prog:=X.prog) (w:=X.w) (I.ok.hd hc) it lo 1 n
  refine W.item i s _ _ hg st λv h' tk hv st' kk=>?_
  obtain ⟨t,rfl⟩:=hv
  have I1:Inv X pins σ H { s with heap:=h',toks:=tk }:=I.turned (λb o hb e=>kk b o (by simpa using hb) e) f0 f1 f3 f4 f5
  refine ⟨_,rfl,FK (s:={ s with heap:=h',toks:=tk }) (n:="range_iterator") st' rfl rfl (by decide) ⟨.int (lo + i),H,I1,⟨t,?_⟩,⟨rfl,rfl⟩,st',λb hb=>(hf b hb).1⟩⟩
  rw [Int.mul_one]
 done:=by
  intro X hP hw hK hc i pins s σ H E I hf st hg
  subst hP hw hK
  obtain ⟨f0,f1,f2,f3,f4,f5⟩:=hf it (by simp)
  exact wpAny_pyNext_range_end (I.ok.hd hc) st (by have:n≤i:=hg;omega) λh' eb=>⟨rfl,I.turned (t':=s.toks) (λb o hb e=>eb b o hb e) f0 f1 f3 f4 f5⟩
 self:=λ_ _ _ _ _ st h=>wpAny_pyIter_rangeiter st h
end L2
namespace L2
open PySem PySem.Spec PyProof.Rows
section
variable {X:Cx} {tg:Expr}
def B7 (K:PySem.W.Frag) (tl:TE):TI:=λσ H R=>tl σ H λx H1=>∃a,x=.ref a∧(∃xs,cZ K H1 a xs)∧R (Im K a) H1
def RV (K:PySem.W.Frag) (tl:TE):TI:=λσ H R=>tl σ H λx H1=>∃a,x=.ref a∧(∃xs,gS K H1 a xs)∧R (T8 K a) H1
theorem n9 {l:Expr} {tl:TE} (hl:PE X l tl):PI X tg l (B7 X.K tl):=by
 intro pins s σ H R I h
 refine cD (hl pins s σ H _ I h) λv s1 ⟨x,H1,I1,r1,q1⟩=>?_
 obtain ⟨a,e,⟨xs,hq⟩,q⟩:=q1
 subst e
 cases r1
 obtain ⟨its,rv,p,hz⟩:=I1.list hq
 refine wpAny_pyIter_list p.isList ?_
 refine ⟨s1.heap.objs.size,[s1.heap.objs.size],_,_,H1,rfl,I1.kept (t':=s1.toks) λb o e=>Heap.get?_push_of_some _ e,EI a _,⟨_,Heap.get?_push_size _ rfl,rfl,rfl⟩,λb hb=>?_,q⟩
 have e:b=s1.heap.objs.size:=by simpa using hb
 subst e
 exact I1.FE (Ux _) (I1.hok.fresh (Ux _))
theorem G_ {pins:List (Addr × Obj)} {σ:St} {H:Hp} {s:Shared} {R:It→Hp→Prop} {E:Value→Shared→Prop} {lo hi:Int} {t u v:Tok} {tk:Nat} (I:Inv X pins σ H s) (h1:-(2 ^ 62)≤lo) (h2:lo < 2 ^ 62) (h3:-(2 ^ 62)≤hi) (h4:hi < 2 ^ 62)
  (q:R (E3 lo (hi - lo).toNat) H):wpAny (model X.prog X.w) X.A (pyIter (.ref s.heap.objs.size)) (Ts X pins σ tg R) E { s with heap:=s.heap.push { cls:=.type "range",data:=.fields #[.int lo t,.int hi u,.int 1 v] },toks:=tk }:=by
 refine wpAny_pyIter_range (IsRange.new ..) (small_one h1 h2 h3 h4) ?_
 have I1:Inv X pins σ H { s with heap:=s.heap.push { cls:=.type "range",data:=.fields #[.int lo t,.int hi u,.int 1 v] },toks:=tk }:=I.kept λb o e=>Heap.get?_push_of_some _ e
 refine ⟨(s.heap.push { cls:=.type "range",data:=.fields #[.int lo t,.int hi u,.int 1 v] }).objs.size,[(s.heap.push { cls:=.type "range",data:=.fields #[.int lo t,.int hi u,.int 1 v] }).objs.size],_,_,H,rfl,
  I1.kept (t':=tk) λb o e=>Heap.get?_push_of_some _ e,BC _ lo (hi - lo).toNat,?_,λb hb=>?_,q⟩
 ·have e1:lo + ((0:Nat):Int) * 1=lo:=by simp
  have e2:(((hi - lo).toNat:Nat):Int) - ((0:Nat):Int)=Builtin.Range.rangeSize lo hi 1:=by rw [rangeSize_one];split <;> omega
  show IsRangeIter _ _ (lo + ((0:Nat):Int) * 1) ((((hi - lo).toNat:Nat):Int) - ((0:Nat):Int)) 1
  rw [e1,e2]
  exact Heap.get?_push_size _ rfl
 ·have e:b=(s.heap.push { cls:=.type "range",data:=.fields #[.int lo t,.int hi u,.int 1 v] }).objs.size:=by simpa using hb
  subst e
  exact I1.FE (Ux _) (I1.hok.fresh (Ux _))
def B8 (ta:TA):TI:=λσ H R=>ta σ H λvs H1=>∃j:Int,vs=[.int j]∧-(2 ^ 62)≤j∧j < 2 ^ 62∧R (E3 0 j.toNat) H1
def KS (ta:TA):TI:=λσ H R=>ta σ H λvs H1=>∃i j:Int,vs=[.int i,.int j]∧(-(2 ^ 62)≤i∧i < 2 ^ 62∧-(2 ^ 62)≤j∧j < 2 ^ 62)∧R (E3 i (j - i).toNat) H1
theorem gh {a:Expr} {ta:TA} {p pos:Pos} (hg:Gl X "range") (hm:X.mg "range"=none) (ha:PA X [a] ta) (hs:starEach [a] X.env=[(false,eval a X.env)]:=by rfl):PI X tg (.Call (.Name "range" p) [a] [] pos) (B8 ta):=by
 intro pins s σ H R I h
 refine Call_ (mP I hg hm boot_range (PyProof.Rows.callWith_type1 (cD (ha pos pins s σ H _ I h) λus s1 ⟨vs,H1,I1,r1,q1⟩=>?_) hs rfl))
 obtain ⟨j,e,q1,q2,q⟩:=q1
 subst e
 cases r1 with
 | cons r rr =>
  cases rr
  obtain ⟨t,rfl⟩:=r
  exact call_range_1 (G_ I1 (by omega) (by omega) q1 q2 (by simpa using q))
def NZ (wi:TI) (g:TG) (tb:TS):TS:=λD σ H=>wi σ H λJ H1=>∃W:Nat→Nat→St→Hp→Prop,(∃m,W 0 m σ H1)∧∀i m σ H,W i m σ H →
 (J.stop i H∧D.nx σ H)∨(J.go i H∧∃N:St→Hp→Prop,(∀σ' H',N σ' H'→∃m',m' < m∧W (i + 1) m' σ' H')∧∀x H',J.yld i H x H'→g x σ H' λσ2 H2=>tb { D with nx:=N,ct:=N,bk:=D.nx } σ2 H2)
def wQ (fp:List Addr) (h:Heap):List (Addr × Obj):=fp.filterMap λb=>(h.get? b).map λo=>(b,o)
theorem cM {fp:List Addr} {h:Heap} {b:Addr} {o:Obj} (hb:b∈fp) (e:h.get? b=some o):(b,o)∈wQ fp h:=V'.mpr ⟨b,hb,by rw [e];rfl⟩
theorem D' {fp:List Addr} {h:Heap} {p:Addr × Obj} (hp:p∈wQ fp h):p.1∈fp∧h.get? p.1=some p.2:=by
 obtain ⟨b,hb,e⟩:=V'.mp hp
 cases q:h.get? b with
 | none=>rw [q] at e;cases e
 | some o =>
  rw [q] at e
  have e':(b,o)=p:=Option.some.inj e
  subst e'
  exact ⟨hb,q⟩
theorem Inv.pinned {pins:List (Addr × Obj)} {σ:St} {H:Hp} {s:Shared} {fp:List Addr} (I:Inv X pins σ H s) (hf:∀b∈fp,lZ X pins H b) (ho:∀b∈fp,∃o,s.heap.get? b=some o∧∀v,o.data≠.cell v):Inv X (pins ++ wQ fp s.heap) σ H s :=
 I.Cr λp hp=>(UD.mp hp).elim (λz=>I.pin p (UG _ z)) λz=>by
  obtain ⟨hb,e⟩:=D' z
  obtain ⟨f0,f1,f2,_⟩:=hf p.1 hb
  obtain ⟨o,e',d⟩:=ho p.1 hb
  rw [e] at e';cases e'
  exact ⟨e,f0,f1,f2,d⟩
theorem Inv.gQ {pins pl:List (Addr × Obj)} {σ:St} {H:Hp} {s:Shared} (I:Inv X (pins ++ pl) σ H s):Inv X pins σ H s:=I.Cr λp hp=>I.pin p (UG _ (VI _ hp))
theorem pw {iter:Expr} {body:List Stmt} {wi:TI} {g:TG} {tb:TS} {pos:Pos} (hp:PassesOwn (model X.prog X.w) X.A X.env X.xe) (hc:X.calm=true) (hi:PI X tg iter wi) (hg:PG X tg g) (hb:tM X body tb)
  (hs:∀x,foldedSetIterable iter X.env x=pure x:=by intro _;rfl):PS X (.For tg iter body [] pos) (NZ wi g tb):=by
 intro pins s σ H D I h
 refine wpAny_For (cD (hi pins s σ H _ I h) λv s1 h1=>cD h1 λitv s2 h2=>?_) hs
 obtain ⟨it,fp,tn,J,H2,e,I2,T,st2,f2,W,⟨m0,w0⟩,turn⟩:=h2
 subst e
 have stat:∀{H':Hp},(∀b∈fp,H' b=none)→∀b∈fp,lZ X pins H' b:=λhn b hb=>⟨hn b hb,(f2 b hb).2⟩
 refine codeAny_forLoop_any (λn s'=>∃i σ' H',Inv X pins σ' H' s'∧tn i s'.heap∧(∀b∈fp,H' b=none)∧W i n σ' H') ?_ m0 ⟨0,σ,H2,I2,st2,λb hb=>(f2 b hb).1,w0⟩
 rintro n s3 ⟨i,σ3,H3,I3,st3,fr3,w3⟩
 rcases turn i n σ3 H3 w3 with ⟨stop,qn⟩ | ⟨go,N,hN,step⟩
 ·refine wpAny_passesOwn hp (cD (T.done X rfl rfl rfl hc i pins s3 σ3 H3 X.xe I3 (stat fr3) st3 stop) λr s4 ⟨hr,I4⟩=>?_)
  subst hr
  exact wpAny_execs_nil ⟨σ3,H3,I4,qn⟩
 ·refine wpAny_passesOwn hp (cD (T.item X rfl rfl rfl hc i pins s3 σ3 H3 X.xe I3 (stat fr3) st3 go) λr s4 ⟨u,hr,h4⟩=>?_)
  subst hr
  refine wpAny_passesOwn hp (cD h4 λ_ s5 ⟨x,H5,I5,r5,y5,st5,fr5⟩=>?_)
  have I5':=I5.pinned (stat fr5) (T.obj _ _ st5)
  refine wpAny_passesOwn hp (cD (hg _ s5 σ3 H5 x u _ I5' r5 (step x H5 y5)) λ_ s6 ⟨σ6,H6,I6,q6⟩=>?_)
  refine wpAny_passesOwn hp (cD (hb _ s6 σ6 H6 _ I6 q6) λf s7 q7=>?_)
  have again:∀{σ7:St} {H7:Hp},Inv X (pins ++ wQ fp s5.heap) σ7 H7 s7→N σ7 H7→∃m,m < n∧∃i σ' H',Inv X pins σ' H' s7∧tn i s7.heap∧(∀b∈fp,H' b=none)∧W i m σ' H':=λ{σ7 H7} I7 n7=>by
   obtain ⟨m',hm,w7⟩:=hN σ7 H7 n7
   refine ⟨m',hm,i + 1,σ7,H7,I7.gQ,T.keep _ _ _ st5 λb hb o e=>(I7.pin (b,o) (UG _ (UG _ (cM hb e)))).1,λb hb=>?_,w7⟩
   obtain ⟨o,e,d⟩:=T.obj _ _ st5 b hb
   exact (I7.pin (b,o) (UG _ (UG _ (cM hb e)))).2.1
  cases f with
  | next=>obtain ⟨σ7,H7,I7,n7⟩:=q7;exact again I7 n7
  | cont=>obtain ⟨σ7,H7,I7,n7⟩:=q7;exact again I7 n7
  | brk=>obtain ⟨σ7,H7,I7,q7⟩:=q7;exact ⟨σ7,H7,I7.gQ,q7⟩
  | ret v=>obtain ⟨x7,σ7,H7,I7,r7,q7⟩:=q7;exact ⟨x7,σ7,H7,I7.gQ,r7,q7⟩
end
theorem FD {K:PySem.W.Frag} {a:Addr} {xs:List V} {g:TG} {tb:TS} {D:Ends} {σ:St} {H:Hp} (Pv:Nat→St→Hp→Prop) (h0:Pv 0 σ H) (hl:∀i σ H,i≤xs.length→Pv i σ H→cZ K H a xs)
  (hs:∀i x σ H,xs[i]?=some x→Pv i σ H→g x σ H λσ2 H2=>tb { D with nx:=Pv (i + 1),ct:=Pv (i + 1),bk:=D.nx } σ2 H2) (hd:∀σ H,Pv xs.length σ H→D.nx σ H) :
  ∃W:Nat→Nat→St→Hp→Prop,(∃m,W 0 m σ H)∧∀i m σ H,W i m σ H →
   ((Im K a).stop i H∧D.nx σ H)∨((Im K a).go i H∧∃N:St→Hp→Prop,(∀σ' H',N σ' H'→∃m',m' < m∧W (i + 1) m' σ' H')∧∀x H',(Im K a).yld i H x H'→g x σ H' λσ2 H2=>tb { D with nx:=N,ct:=N,bk:=D.nx } σ2 H2):=by
 refine ⟨λi m σ H=>m=xs.length - i∧i≤xs.length∧Pv i σ H,⟨xs.length,by simp,UZ _,h0⟩,?_⟩
 rintro i m σ H ⟨rfl,hi,p⟩
 have q:=hl i σ H hi p
 by_cases hlt:i < xs.length
 ·refine .inr ⟨⟨xs,xs[i],q,by simp [hlt]⟩,Pv (i + 1),λσ' H' p'=>⟨xs.length - (i + 1),by omega,rfl,hlt,p'⟩,λx H' y=>?_⟩
  obtain ⟨e,y⟩:=y
  subst e
  exact hs i x σ _ (y xs q) p
 ·have e:i=xs.length:=by omega
  subst e
  exact .inl ⟨⟨xs,q,Ux _⟩,hd σ H p⟩
theorem vb {lo:Int} {n:Nat} {g:TG} {tb:TS} {D:Ends} {σ:St} {H:Hp} (Pv:Nat→St→Hp→Prop) (h0:Pv 0 σ H)
  (hs:∀i σ H,i < n→Pv i σ H→g (.int (lo + i)) σ H λσ2 H2=>tb { D with nx:=Pv (i + 1),ct:=Pv (i + 1),bk:=D.nx } σ2 H2) (hd:∀σ H,Pv n σ H→D.nx σ H) :
  ∃W:Nat→Nat→St→Hp→Prop,(∃m,W 0 m σ H)∧∀i m σ H,W i m σ H →
   ((E3 lo n).stop i H∧D.nx σ H)∨((E3 lo n).go i H∧∃N:St→Hp→Prop,(∀σ' H',N σ' H'→∃m',m' < m∧W (i + 1) m' σ' H')∧∀x H',(E3 lo n).yld i H x H'→g x σ H' λσ2 H2=>tb { D with nx:=N,ct:=N,bk:=D.nx } σ2 H2):=by
 refine ⟨λi m σ H=>m=n - i∧i≤n∧Pv i σ H,⟨n,by simp,UZ _,h0⟩,?_⟩
 rintro i m σ H ⟨rfl,hi,p⟩
 by_cases hlt:i < n
 ·refine .inr ⟨hlt,Pv (i + 1),λσ' H' p'=>⟨n - (i + 1),by omega,rfl,hlt,p'⟩,λx H' y=>?_⟩
  obtain ⟨e,y⟩:=y
  subst e y
  exact hs i σ _ hlt p
 ·have e:i=n:=by omega
  subst e
  exact .inl ⟨Ux _,hd σ H p⟩
theorem zL {c:TT} {tb:TS} {D:Ends} {σ:St} {H:Hp} (Pv:St→Hp→Prop) (μ:St→Hp→Nat) (h0:Pv σ H)
  (hs:∀σ H,Pv σ H→c σ H λb H1=>if b=true then tb { D with nx:=λσ' H'=>Pv σ' H'∧μ σ' H' < μ σ H,ct:=λσ' H'=>Pv σ' H'∧μ σ' H' < μ σ H,bk:=D.nx } σ H1 else D.nx σ H1)
  (mono:∀σ H Q Q',(∀b H1,Q b H1→Q' b H1)→c σ H Q→c σ H Q'):xS c tb D σ H:=by
 refine ⟨λm σ H=>m=μ σ H∧Pv σ H,⟨_,rfl,h0⟩,?_⟩
 rintro m σ H ⟨rfl,p⟩
 refine mono σ H _ _ (λb H1 q=>?_) (hs σ H p)
 cases b with
 | true=>exact ⟨_,λσ' H' ⟨p',l⟩=>⟨_,l,rfl,p'⟩,q⟩
 | false=>exact q
end L2
namespace L2
open PySem PySem.Spec PyProof.Rows
abbrev R2:=V→V→Hp→VK→Prop
def fz (X:Cx) (f:Value→Value→Sem Value) (r:R2):Prop :=
 ∀(pins:List (Addr × Obj)) (s:Shared) (σ:St) (H:Hp) (x y:V) (v u:Value) (Q:VK),Inv X pins σ H s→RelV x v→RelV y u→r x y H Q →
  wpAny (model X.prog X.w) X.A (f v u) (EP X pins σ Q) X.xe s
def yf (X:Cx) (f:Value→Sem Value) (r:V→Hp→VK→Prop):Prop :=
 ∀(pins:List (Addr × Obj)) (s:Shared) (σ:St) (H:Hp) (x:V) (v:Value) (Q:VK),Inv X pins σ H s→RelV x v→r x H Q →
  wpAny (model X.prog X.w) X.A (f v) (EP X pins σ Q) X.xe s
def cj (X:Cx) (f:Value) (r:List V→Hp→VK→Prop):Prop :=
 ∀(pins:List (Addr × Obj)) (s:Shared) (σ:St) (H:Hp) (xs:List V) (us:List Value) (Q:VK),Inv X pins σ H s→Vals xs us→r xs H Q →
  wpAny (model X.prog X.w) X.A (call f us) (EP X pins σ Q) X.xe s
def RC (X:Cx) (r:V→Hp→(Bool→Hp→Prop)→Prop):Prop :=
 ∀(pins:List (Addr × Obj)) (s:Shared) (σ:St) (H:Hp) (x:V) (v:Value) (Q:Bool→Hp→Prop),Inv X pins σ H s→RelV x v→r x H Q →
  wpAny (model X.prog X.w) X.A (truthy v) (TP X pins σ Q) X.xe s
def HF (r:R2) (ta tb:TE):TE:=λσ H Q=>ta σ H λx H1=>tb σ H1 λy H2=>r x y H2 Q
def Ro (r:V→Hp→VK→Prop) (ta:TE):TE:=λσ H Q=>ta σ H λx H1=>r x H1 Q
def rI (C:Int→Int→Prop) (g:Int→Int→V):R2:=λx y H Q=>∃i j,x=.int i∧y=.int j∧C i j∧Q (g i j) H
def HW (g:Int→Int→V):R2:=λx y H Q=>∃i j,x=.int i∧y=.int j∧Q (g i j) H
def rU (g:Int→V):V→Hp→VK→Prop:=λx H Q=>∃i,x=.int i∧Q (g i) H
section
variable {X:Cx} {a b c:Expr} {ta tb tc:TE} {pos:Pos}
theorem Mr (ha:PE X a ta) (hb:PE X b tb) {pins:List (Addr × Obj)} {s:Shared} {σ:St} {H:Hp} {R:V→V→Hp→Prop} (I:Inv X pins σ H s)
  (h:ta σ H λx H1=>tb σ H1 λy H2=>R x y H2) {Q:Value→Shared→Prop} {f:Value→Value→Sem Value}
  (hf:∀v u s2 x y H2,Inv X pins σ H2 s2→RelV x v→RelV y u→R x y H2→wpAny (model X.prog X.w) X.A (f v u) Q X.xe s2) :
  wpAny (model X.prog X.w) X.A (eval a X.env) (λv s₁=>wpAny (model X.prog X.w) X.A (eval b X.env) (λu s₂=>wpAny (model X.prog X.w) X.A (f v u) Q X.xe s₂) X.xe s₁) X.xe s:=by
 refine cD (ha pins s σ H _ I h) λv s1 ⟨x,H1,I1,r1,q1⟩=>?_
 refine cD (hb pins s1 σ H1 _ I1 q1) λu s2 ⟨y,H2,I2,r2,q2⟩=>?_
 exact hf v u s2 x y H2 I2 r1 r2 q2
theorem bF {op:Operator} {r:R2} (ho:fz X (binaryOp op) r) (ha:PE X a ta) (hb:PE X b tb):PE X (.BinOp a op b pos) (HF r ta tb):=by
 intro pins s σ H Q I h
 exact wpAny_BinOp (Mr ha hb I h λv u s2 x y H2 I2 rx ry q=>ho pins s2 σ H2 x y v u Q I2 rx ry q)
theorem Cq {op:UnaryOp} {r:V→Hp→VK→Prop} (ho:yf X (unaryOp op) r) (ha:PE X a ta):PE X (.UnaryOp op a pos) (Ro r ta):=by
 intro pins s σ H Q I h
 exact UnaryOp_ (cD (ha pins s σ H _ I h) λv s1 ⟨x,H1,I1,r1,q1⟩=>ho pins s1 σ H1 x v Q I1 r1 q1)
theorem Rg {f:Value→Value→Sem Value} {C:Int→Int→Prop} {g:Int→Int→Int}
  (rule:∀(i j:Int) (t u:Tok) (s:Shared) (Q:Value→Shared→Prop) (E:Value→Shared→Prop),C i j→Q (.int (g i j) s.toks) { s with toks:=s.toks + 1 }→wpAny (model X.prog X.w) X.A (f (.int i t) (.int j u)) Q E s) :
  fz X f (rI C λi j=>.int (g i j)):=by
 intro pins s σ H x y v u Q I rx ry h
 obtain ⟨i,j,rfl,rfl,hc,q⟩:=h
 obtain ⟨t,rfl⟩:=rx
 obtain ⟨t',rfl⟩:=ry
 exact rule i j t t' s _ _ hc ⟨.int (g i j),H,I.tok _,⟨_,rfl⟩,q⟩
theorem PL {f:Value→Value→Sem Value} {g:Int→Int→Int}
  (rule:∀(i j:Int) (t u:Tok) (s:Shared) (Q:Value→Shared→Prop) (E:Value→Shared→Prop),Q (.int (g i j) s.toks) { s with toks:=s.toks + 1 }→wpAny (model X.prog X.w) X.A (f (.int i t) (.int j u)) Q E s) :
  fz X f (HW λi j=>.int (g i j)):=by
 intro pins s σ H x y v u Q I rx ry h
 obtain ⟨i,j,rfl,rfl,q⟩:=h
 obtain ⟨t,rfl⟩:=rx
 obtain ⟨t',rfl⟩:=ry
 exact rule i j t t' s _ _ ⟨.int (g i j),H,I.tok _,⟨_,rfl⟩,q⟩
theorem Js {f:Value→Value→Sem Value} {g:Int→Int→Bool}
  (rule:∀(i j:Int) (t u:Tok) (s:Shared) (Q:Value→Shared→Prop) (E:Value→Shared→Prop),Q (.bool (g i j)) s→wpAny (model X.prog X.w) X.A (f (.int i t) (.int j u)) Q E s) :
  fz X f (HW λi j=>.bl (g i j)):=by
 intro pins s σ H x y v u Q I rx ry h
 obtain ⟨i,j,rfl,rfl,q⟩:=h
 obtain ⟨t,rfl⟩:=rx
 obtain ⟨t',rfl⟩:=ry
 exact rule i j t t' s _ _ ⟨.bl (g i j),H,I,rfl,q⟩
def Rr (i j:Int):Prop:=0≤j∧j≤1000000∧i.natAbs < 2 ^ 64
theorem jx:fz X (binaryOp .Add) (HW λi j=>.int (i + j)):=PL λ_ _ _ _ _ _ _ q=>add_int q
theorem A2:fz X (binaryOp .Sub) (HW λi j=>.int (i - j)):=PL λ_ _ _ _ _ _ _ q=>sub_int q
theorem gG:fz X (binaryOp .Mod) (rI (λ_ j=>0 < j) λi j=>.int (i % j)):=Rg λi j _ _ _ _ _ hc q=>by
 have h1:(0:Int) < j:=hc
 exact mod_int' (by omega) (by rw [Int.fmod_eq_emod_of_nonneg i (by omega)];exact q)
theorem GG:fz X (binaryOp .Pow) (rI Rr λi j=>.int (i ^ j.toNat)):=Rg λ_ _ _ _ _ _ _ hc q=>pow_int_small hc.1 hc.2.1 hc.2.2 q
theorem Ur {f:Value→Sem Value} {g:Int→Int}
  (rule:∀(i:Int) (t:Tok) (s:Shared) (Q:Value→Shared→Prop) (E:Value→Shared→Prop),Q (.int (g i) s.toks) { s with toks:=s.toks + 1 }→wpAny (model X.prog X.w) X.A (f (.int i t)) Q E s) :
  yf X f (rU λi=>.int (g i)):=by
 intro pins s σ H x v Q I rx h
 obtain ⟨i,rfl,q⟩:=h
 obtain ⟨t,rfl⟩:=rx
 exact rule i t s _ _ ⟨.int (g i),H,I.tok _,⟨_,rfl⟩,q⟩
theorem HK:yf X (unaryOp .USub) (rU λi=>.int (-i)):=Ur λ_ _ _ _ _ q=>neg_int q
end
def Hk:V→V→Bool
 | .non,.non=>true | .non,.int _=>true | .int _,.non=>true | .non,.bl _=>true | .bl _,.non=>true | .non,.str _=>true | .str _,.non=>true
 | .int _,.int _=>true | .bl _,.bl _=>true | .str _,.str _=>true | .byt _,.byt _=>true
 | .int _,.str _=>true | .str _,.int _=>true | .bl _,.str _=>true | .str _,.bl _=>true
 | _,_=>false
def TY:R2:=λx y H Q=>Hk x y=true∧Q (.bl (decide (x=y))) H
def T3:R2:=λx y H Q=>Hk x y=true∧Q (.bl (!decide (x=y))) H
theorem BW {i j:Int}:decide (V.int i=V.int j)=(i == j):=by
 rw [Vy]
 simp
theorem Fv {i j:Bool}:decide (V.bl i=V.bl j)=(i == j):=by
 rw [Vy]
 simp
theorem BX {i j:Str}:decide (V.str i=V.str j)=(i == j):=by
 rw [Vy]
 simp
theorem BV {i j:Array UInt8}:decide (V.byt i=V.byt j)=(i.toList == j.toList):=by
 rw [Vy]
 cases i
 cases j
 simp
section
variable {X:Cx} {a b c:Expr} {ta tb tc:TE} {pos:Pos}
theorem bH {pins:List (Addr × Obj)} {σ:St} {H:Hp} {s:Shared} {Q:VK} {k k':Bool} (I:Inv X pins σ H s) (q:Q (.bl k) H) (e:k=k'):EP X pins σ Q (.bool k') s:=by
 subst e
 exact ⟨.bl k,H,I,rfl,q⟩
theorem GF:fz X (compareOp .Eq) TY:=by
 intro pins s σ H x y v u Q I rx ry h
 obtain ⟨hs,q⟩:=h
 cases x with
 | non =>
  cases rx
  cases y with
  | non=>cases ry;exact PySem.EqNone.eq_none_none (bH I q (by simp))
  | bl j=>cases ry;exact PySem.EqNone.eq_none_bool (bH I q (by simp))
  | int j=>obtain ⟨t',rfl⟩:=ry;exact PySem.EqNone.eq_none_int (bH I q (by simp))
  | str j=>obtain ⟨t',rfl⟩:=ry;exact PySem.EqNone.eq_none_str (bH I q (by simp))
  | _=>exact absurd (show false=true from hs) UJ
 | bl i =>
  cases rx
  cases y with
  | non=>cases ry;exact PySem.EqNone.eq_bool_none (bH I q (by simp))
  | bl j=>cases ry;exact eq_bool (bH I q Fv)
  | str j=>obtain ⟨t',rfl⟩:=ry;exact PySem.EqMixed.eq_bool_str (bH I q (by simp))
  | _=>exact absurd (show false=true from hs) UJ
 | int i =>
  obtain ⟨t,rfl⟩:=rx
  cases y with
  | non=>cases ry;exact PySem.EqNone.eq_int_none (bH I q (by simp))
  | int j=>obtain ⟨t',rfl⟩:=ry;exact eq_int (bH I q BW)
  | str j=>obtain ⟨t',rfl⟩:=ry;exact PySem.EqMixed.eq_int_str (bH I q (by simp))
  | _=>exact absurd (show false=true from hs) UJ
 | str i =>
  obtain ⟨t,rfl⟩:=rx
  cases y with
  | non=>cases ry;exact PySem.EqNone.eq_str_none (bH I q (by simp))
  | bl j=>cases ry;exact PySem.EqMixed.eq_str_bool (bH I q (by simp))
  | int j=>obtain ⟨t',rfl⟩:=ry;exact PySem.EqMixed.eq_str_int (bH I q (by simp))
  | str j=>obtain ⟨t',rfl⟩:=ry;exact eq_str (bH I q BX)
  | _=>exact absurd (show false=true from hs) UJ
 | byt i =>
  obtain ⟨t,rfl⟩:=rx
  cases y with
  | byt j=>obtain ⟨t',rfl⟩:=ry;exact PySem.W.eq_bytes (bH I q BV)
  | _=>exact absurd (show false=true from hs) UJ
 | _=>cases y <;> exact absurd (show false=true from hs) UJ
theorem Lf:fz X (compareOp .NotEq) T3:=by
 intro pins s σ H x y v u Q I rx ry h
 obtain ⟨hs,q⟩:=h
 cases x with
 | non =>
  cases rx
  cases y with
  | non=>cases ry;exact PySem.EqNone.ne_none_none (bH I q (by simp))
  | bl j=>cases ry;exact PySem.EqNone.ne_none_bool (bH I q (by simp))
  | int j=>obtain ⟨t',rfl⟩:=ry;exact PySem.EqNone.ne_none_int (bH I q (by simp))
  | str j=>obtain ⟨t',rfl⟩:=ry;exact PySem.EqNone.ne_none_str (bH I q (by simp))
  | _=>exact absurd (show false=true from hs) UJ
 | bl i =>
  cases rx
  cases y with
  | non=>cases ry;exact PySem.EqNone.ne_bool_none (bH I q (by simp))
  | bl j=>cases ry;exact ne_bool (bH I q (congrArg not Fv))
  | str j=>obtain ⟨t',rfl⟩:=ry;exact PySem.EqMixed.ne_bool_str (bH I q (by simp))
  | _=>exact absurd (show false=true from hs) UJ
 | int i =>
  obtain ⟨t,rfl⟩:=rx
  cases y with
  | non=>cases ry;exact PySem.EqNone.ne_int_none (bH I q (by simp))
  | int j=>obtain ⟨t',rfl⟩:=ry;exact ne_int (bH I q (congrArg not BW))
  | str j=>obtain ⟨t',rfl⟩:=ry;exact PySem.EqMixed.ne_int_str (bH I q (by simp))
  | _=>exact absurd (show false=true from hs) UJ
 | str i =>
  obtain ⟨t,rfl⟩:=rx
  cases y with
  | non=>cases ry;exact PySem.EqNone.ne_str_none (bH I q (by simp))
  | bl j=>cases ry;exact PySem.EqMixed.ne_str_bool (bH I q (by simp))
  | int j=>obtain ⟨t',rfl⟩:=ry;exact PySem.EqMixed.ne_str_int (bH I q (by simp))
  | str j=>obtain ⟨t',rfl⟩:=ry;exact ne_str (bH I q (congrArg not BX))
  | _=>exact absurd (show false=true from hs) UJ
 | byt i =>
  obtain ⟨t,rfl⟩:=rx
  cases y with
  | byt j=>obtain ⟨t',rfl⟩:=ry;exact PySem.W.ne_bytes (bH I q (congrArg not BV))
  | _=>exact absurd (show false=true from hs) UJ
 | _=>cases y <;> exact absurd (show false=true from hs) UJ
theorem Cn:fz X (compareOp .Lt) (HW λi j=>.bl (decide (i < j))):=Js λ_ _ _ _ _ _ _ q=>lt_int q
theorem Le:fz X (compareOp .LtE) (HW λi j=>.bl (decide (i≤j))):=Js λ_ _ _ _ _ _ _ q=>le_int q
theorem Ld:fz X (compareOp .Gt) (HW λi j=>.bl (decide (j < i))):=Js λ_ _ _ _ _ _ _ q=>gt_int q
theorem Lc:fz X (compareOp .GtE) (HW λi j=>.bl (decide (j≤i))):=Js λ_ _ _ _ _ _ _ q=>ge_int q
theorem Ek:fz X (compareOp .Lt) (λx y H Q=>∃i j,x=.str i∧y=.str j∧Q (.bl (decide (i.cps.toList < j.cps.toList))) H):=by
 intro pins s σ H x y v u Q I rx ry h
 obtain ⟨i,j,rfl,rfl,q⟩:=h
 obtain ⟨t,rfl⟩:=rx
 obtain ⟨t',rfl⟩:=ry
 exact lt_str (bH I q rfl)
theorem Nj:fz X (compareOp .Is) (λx y H Q=>y=.non∧Q (.bl (decide (x=.non))) H):=by
 intro pins s σ H x y v u Q I rx ry h
 obtain ⟨rfl,q⟩:=h
 cases ry
 refine is_none_gen (bH I q ?_)
 cases x <;> first
  | (cases rx;rfl)
  | (obtain ⟨t,rfl⟩:=rx;rfl)
theorem Jv:fz X (compareOp .IsNot) (λx y H Q=>y=.non∧Q (.bl (!decide (x=.non))) H):=by
 intro pins s σ H x y v u Q I rx ry h
 obtain ⟨rfl,q⟩:=h
 cases ry
 refine isnot_none_gen (bH I q ?_)
 cases x <;> first
  | (cases rx;rfl)
  | (obtain ⟨t,rfl⟩:=rx;rfl)
theorem fz.or {f:Value→Value→Sem Value} {r r':R2} (h:fz X f r) (h':fz X f r'):fz X f (λx y H Q=>r x y H Q∨r' x y H Q):=by
 intro pins s σ H x y v u Q I rx ry q
 rcases q with q | q
 ·exact h pins s σ H x y v u Q I rx ry q
 ·exact h' pins s σ H x y v u Q I rx ry q
theorem ft (b:Expr) {op:CmpOp} (h:op≠.In:=by decide) (h2:op≠.NotIn:=by decide):behindInMarks op b=false:=by
 have e1:(op == CmpOp.In)=false:=by cases op <;> first | rfl | exact absurd rfl h
 have e2:(op == CmpOp.NotIn)=false:=by cases op <;> first | rfl | exact absurd rfl h2
 cases b <;> simp [behindInMarks,e1,e2]
theorem qQ {op:CmpOp} {r:R2} (ho:fz X (compareOp op) r) (ha:PE X a ta) (hb:PE X b tb) (hm:behindInMarks op b=false):PE X (.Compare a [op] [b] pos) (HF r ta tb):=by
 intro pins s σ H Q I h
 exact wpAny_Compare1 (Mr ha hb I h λv u s2 x y H2 I2 rx ry q=>ho pins s2 σ H2 x y v u Q I2 rx ry q) hm
def Dd (t:TE):TT:=λσ H Q=>t σ H λx H'=>∃k,x=.bl k∧Q k H'
theorem dO {op:CmpOp} {r:R2} (ho:fz X (compareOp op) r) (ha:PE X a ta) (hb:PE X b tb) (hm:behindInMarks op b=false):PT X (.Compare a [op] [b] pos) (Dd (HF r ta tb)):=by
 intro pins s σ H Q I h
 refine wpAny_isTrue_Compare1 (cD (ha pins s σ H _ I h) λv s1 ⟨x,H1,I1,r1,q1⟩=>cD (hb pins s1 σ H1 _ I1 q1) λu s2 ⟨y,H2,I2,r2,q2⟩ =>
  cD (ho pins s2 σ H2 x y v u _ I2 r1 r2 q2) λc s3 ⟨z,H3,I3,r3,k,e,q3⟩=>?_) hm
 subst e
 cases r3
 exact wpAny_truthy_bool ⟨H3,I3,q3⟩
def HC (r r':R2) (ta tb tc:TE):TE:=λσ H Q=>ta σ H λx H1=>tb σ H1 λy H2=>r x y H2 λz H3=>∃k,z=.bl k ∧
 (if k=true then tc σ H3 λw' H4=>r' y w' H4 Q else Q (.bl false) H3)
theorem GN {op op':CmpOp} {r r':R2} (ho:fz X (compareOp op) r) (ho':fz X (compareOp op') r') (ha:PE X a ta) (hb:PE X b tb) (hc:PE X c tc)
  (hm:lastMarks [op,op'] [b,c]=false:=by with_unfolding_all rfl):PE X (.Compare a [op,op'] [b,c] pos) (HC r r' ta tb tc):=by
 intro pins s σ H Q I h
 refine Compare_chain (cD (ha pins s σ H _ I h) λv s1 ⟨x,H1,I1,r1,q1⟩=>chain_link (cD (hb pins s1 σ H1 _ I1 q1) λu s2 ⟨y,H2,I2,r2,q2⟩ =>
  cD (ho pins s2 σ H2 x y v u _ I2 r1 r2 q2) λd s3 ⟨z,H3,I3,r3,k,e,q3⟩=>?_)) hm
 subst e
 cases r3
 refine wpAny_truthy_bool ?_
 cases k with
 | false=>exact ite_ff ⟨.bl false,H3,I3,rfl,q3⟩
 | true=>exact ite_tt (chain_last (cD (hc pins s3 σ H3 _ I3 q3) λw' s4 ⟨z',H4,I4,r4,q4⟩=>ho' pins s4 σ H4 y z' u w' Q I4 r2 r4 q4))
def Mj (K:PySem.W.Frag) (x:V) (H:Hp) (k:Bool):Prop :=
 match x with
 | .non=>k=false
 | .bl b=>k=b
 | .int i=>k=(i != 0)
 | .str y=>y.length≤sizeLine∧k=((y.length:Int) != 0)
 | .byt y=>y.size≤sizeLine∧k=((y.size:Int) != 0)
 | .ref p=>(∃xs,cZ K H p xs∧k=!xs.isEmpty)∨(∃xs,gS K H p xs∧k=!xs.isEmpty)∨∃kvs ep,H p=some (.dE kvs ep)∧k=!kvs.isEmpty
 | _=>False
theorem AG {κ:Type} {kvs:List (κ × V)} {vs:List (κ × Value)} (r:KV kvs vs):(!vs.isEmpty)=!kvs.isEmpty:=by
 cases r <;> rfl
theorem rV {xs:List V} {its:List Value} (r:Vals xs its):(!its.toArray.isEmpty)=!xs.isEmpty:=by
 cases r <;> simp
theorem mR:(sizeLine:Nat) < 2 ^ 63:=by rw [sizeLine_eq];decide
theorem N3:RC X (λx H Q=>∃k,Mj X.K x H k∧Q k H):=by
 intro pins s σ H x v Q I rx h
 obtain ⟨k,e,q⟩:=h
 have hl:=mR
 have hs:sizeLine=16777216:=sizeLine_eq
 cases x with
 | non =>
  cases rx
  have e':k=false:=e
  subst e'
  exact truthy_none ⟨H,I,q⟩
 | bl b =>
  cases rx
  have e':k=b:=e
  subst e'
  exact wpAny_truthy_bool ⟨H,I,q⟩
 | int i =>
  obtain ⟨t,rfl⟩:=rx
  have e':k=(i != 0):=e
  subst e'
  exact PySem.P.truthy_int ⟨H,I,q⟩
 | str y =>
  obtain ⟨t,rfl⟩:=rx
  obtain ⟨hy,e'⟩:y.length≤sizeLine∧k=((y.length:Int) != 0):=e
  subst e'
  exact PySem.P.truthy_str (by omega) ⟨H,I.tok _,q⟩
 | byt y =>
  obtain ⟨t,rfl⟩:=rx
  obtain ⟨hy,e'⟩:y.size≤sizeLine∧k=((y.size:Int) != 0):=e
  subst e'
  exact PySem.W.truthy_bytes (by omega) ⟨H,I.tok _,q⟩
 | ref p =>
  cases rx
  have e':(∃xs,cZ X.K H p xs∧k=!xs.isEmpty)∨(∃xs,gS X.K H p xs∧k=!xs.isEmpty)∨∃kvs ep,H p=some (.dE kvs ep)∧k=!kvs.isEmpty:=e
  rcases e' with ⟨xs,hx,e'⟩ | ⟨xs,hx,e'⟩ | ⟨kvs,ep,hx,e'⟩
  ·subst e'
   obtain ⟨its,r,pl,hz⟩:=I.list hx
   have hlen:=r.length
   exact wpAny_truthy_list pl.isList (by simp only [Uy];omega) ⟨H,I.tok _,by rw [rV r];exact q⟩
  ·subst e'
   obtain ⟨its,r,pl,hz⟩:=I.tuple hx
   have hlen:=r.length
   exact truthy_tuple pl (by simp only [Uy];omega) ⟨H,I.tok _,by rw [rV r];exact q⟩
  ·subst e'
   obtain ⟨hz,hS,vs,r,m⟩:kvs.length≤sizeLine∧(p == sysModules)=false∧∃vs,KV kvs vs∧s.heap.DictAt (strKind X.prog X.w) p vs ep:=I.hok p _ hx
   have hlen:kvs.length=vs.length:=Paired.length r
   exact wpAny_truthy_dict hS m.dictOf (by omega) ⟨H,I.tok _,by rw [AG r];exact q⟩
 | _=>exact (show False from e).elim
theorem GU (ha:PE X a ta) (he:∀whole,isTrue a X.env whole=(do let v ← whole;standAt a.pos;holding [v] (truthy v))) :
  PT X a (λσ H Q=>ta σ H λx H'=>∃k,Mj X.K x H' k∧Q k H'):=by
 intro pins s σ H Q I h
 exact isTrue_plain (cD (ha pins s σ H _ I h) λv s1 ⟨x,H1,I1,r1,q1⟩=>N3 pins s1 σ H1 x v Q I1 r1 q1) (he _)
theorem vals1 {x:V} {us:List Value} (r:Vals [x] us):∃u,us=[u]∧RelV x u:=by
 cases r with
 | cons r1 r2=>cases r2;exact ⟨_,rfl,r1⟩
theorem vals2 {x y:V} {us:List Value} (r:Vals [x,y] us):∃u w',us=[u,w']∧RelV x u∧RelV y w':=by
 cases r with
 | cons r1 r2 =>
  cases r2 with
  | cons r3 r4=>cases r4;exact ⟨_,_,rfl,r1,r3⟩
theorem nJ:cj X (.builtin "abs") (λxs H Q=>∃i,xs=[.int i]∧Q (.int (if i < 0 then -i else i)) H):=by
 intro pins s σ H xs us Q I r h
 obtain ⟨i,rfl,q⟩:=h
 obtain ⟨u,rfl,t,rfl⟩:=vals1 r
 exact call_abs_int λu tk=>⟨.int (if i < 0 then -i else i),H,I.tok _,⟨_,rfl⟩,q⟩
end
end L2
namespace L2
open PySem PySem.Spec PyProof.Rows
structure Ai (h:Heap) (x dx C:Addr) (mA:Str→Option Value):Prop where
 obj:h.get? x=some (PySem.W.instObj C dx)
 ns:h.Ns1 dx mA
 ne:dx≠x
theorem DZ {h:Heap} {dx:Addr} {mA:Str→Option Value} (n:h.Ns1 dx mA):∃od,h.get? dx=some od∧∀name,PySem.W.lookIn name od=some (mA name):=by
 obtain ⟨o,es,ep,ho,hd,hk,_,hm⟩:=n
 refine ⟨o,ho,λname=>?_⟩
 have e:=hm name
 unfold nsFind findBy at e
 rw [← Array.find?_toList] at e
 unfold PySem.W.lookIn
 rw [hd]
 dsimp only
 split
 ·rename_i y q
  rw [q] at e
  exact congrArg some e
 ·rename_i q
  rw [q] at e
  have a:es.toList.any (·.refKey)=false:=by
   rw [List.any_eq_false]
   intro y hy
   obtain ⟨z,t,hkey⟩:=hk y (Array.mem_toList_iff.mp hy)
   simp [DictEntry.refKey,hkey]
  have a':¬ es.toList.any (·.refKey)=true:=by rw [a];exact UJ
  rw [if_neg a']
  exact congrArg some e
theorem Ai.look {h:Heap} {x dx C:Addr} {mA:Str→Option Value} (I:Ai h x dx C mA):∃od,PySem.W.InstAt h x (PySem.W.instObj C dx) C (some od)∧∀name,PySem.W.lookIn name od=some (mA name) :=
 let ⟨od,ho,hl⟩:=DZ I.ns
 ⟨od,⟨I.obj,rfl,rfl,ho⟩,hl⟩
section
variable {prog:Program} {w:World} {A:Around} {E:Value→Shared→Prop} {s:Shared} {K:PySem.W.Frag} {x dx C f:Addr} {mA:Str→Option Value} {name:Str} {v:Value}
theorem get_map {expr:Bool} {Q:Value→Shared→Prop} (X:K.In s.heap) (I:Ai s.heap x dx C mA) (hg:PySem.W.plainGet K C name=true) (hh:PySem.W.hasDictIn K C=true)
  (ha:PySem.W.findIn K (.ref C) name=some none) (hv:mA name=some v) (hv':PySem.W.handedIn v=true) (h:Q v { s with toks:=s.toks + 1 }) :
  wpAny (model prog w) A (getAttr (.ref x) name expr) Q E s:=by
 obtain ⟨od,J,hl⟩:=I.look
 exact PySem.W.get_value X J (PySem.W.plainGet_of hg).1 (PySem.W.findObj_own hh ha rfl (by rw [hl,hv])) hv' h
theorem FJ {pl:Sem Bool} {Q:Value × List Value→Shared→Prop} (X:K.In s.heap) (I:Ai s.heap x dx C mA) (hg:PySem.W.plainGet K C name=true)
  (hf:PySem.W.findIn K (.ref C) name=some (some (.ref f))) (ht:PySem.W.isFn K (.ref f)=true) (hv:mA name=none) (h:Q (.ref f,[.ref x]) s) :
  wpAny (model prog w) A (getMethod (.ref x) name pl) Q E s:=by
 obtain ⟨od,J,hl⟩:=I.look
 exact PySem.W.method_fn X J (PySem.W.plainGet_of hg).1 (PySem.W.plainGet_of hg).2 hf (beq_iff_eq.mp ht) (by show (PySem.W.lookIn name od).map (·.isSome)=some false;rw [hl,hv];rfl) h
theorem Kk {ns:List Str} {Q:Unit→Shared→Prop} (X:K.In s.heap) (I:Ai s.heap x dx C mA)
  (hs:PySem.W.findIn K (.ref C) "__setattr__"=some (some (.builtin "object.__setattr__"))) (hp:PySem.W.plainOver K C=true) (ht:PySem.W.takerIn K C name=some none) (hh:PySem.W.hasDictIn K C=true)
  (hw:PySem.Within mA ns) (hsz:ns.length≤sizeLine)
  (h:∀h',Ai h' x dx C (λy=>if y=name then some v else mA y)→Heap.SameBut dx s.heap h'→Q () { s with heap:=h',toks:=s.toks + 2 }) :
  wpAny (model prog w) A (setAttr (.ref x) name v) Q E s:=by
 obtain ⟨od,J,hl⟩:=I.look
 refine PySem.W.set_plain X J hs (PySem.W.osa_open (s:={ s with toks:=s.toks + 1 }) (r:=none) X J hp ht λb=>?_)
 obtain ⟨cd,hc,hd'⟩:=PySem.W.any_some hh
 have hx:s.heap.get? x=some ⟨.ref C,some dx,.plain,#[]⟩:=I.obj
 refine wpAny_bind (wpAny_pure (wpAny_bind (wpAny_bind (wpAny_loadPart hx (wpAny_bind (PySem.W.Looks.here (s:={ s with toks:=s.toks + 1 }) (PySem.W.looks_clsIn X hc) ?_))))))
 rw [hd']
 refine wpAny_pure (a:=some dx) (wpAny_bind (wpAny_pure (wpAny_bind ?_)))
 refine wpAny_nsSet1 (s:={ s with toks:=s.toks + 1 }) I.ns λh' hn2 hs2=>?_
 obtain ⟨oD,esD,epD,hoD,hdD,hcD⟩:=hn2.count (PySem.Within.cons name v hw)
 refine wpAny_bind (wpAny_lookBehind hoD (by rw [hdD];exact pastItsLine_dict (UM hcD (by rw [UQ];omega))) ?_)
 exact wpAny_pure (h _ ⟨(hs2.2 _ (Ne.symm I.ne)).trans I.obj,hn2,I.ne⟩ hs2)
theorem Gi {R:Result→Shared→Prop} {vs:List Value} {kw:List (Str × Value)} (X:K.In s.heap) (hm:PySem.W.makesIn K C=true)
  (hi:PySem.W.findIn K (.ref C) "__init__"=some (some (.ref f))) (hf:PySem.W.typeIn K (.ref f)=some (.type "function"))
  (h:codeAny (model prog w) (A.under (.builtin "type.__call__" ⟨.ref C :: vs,kw⟩)) (.call (.ref f) ⟨.ref (s.heap.objs.size + 1) :: vs,kw⟩) (PySem.W.InitBack (s.heap.objs.size + 1) R)
   { s with heap:=(s.heap.push PySem.W.emptyDict).push (PySem.W.instObj C s.heap.objs.size) }) :
  codeAny (model prog w) A (.call (.ref C) ⟨vs,kw⟩) R s:=by
 obtain ⟨hh,g,d,t,os⟩:=s
 exact PySem.W.make_core (PySem.W.makes_of X hm) (PySem.W.looks_findIn X hi) (λself=>PySem.W.bind_fn X self hf) (.inl rfl) h
end
def fh (f:Str) (v:V):List (Str × V)→List (Str × V)
 | []=>[(f,v)]
 | (g,x) :: r=>if g=f then (g,v) :: r else (g,x) :: fh f v r
theorem p7 (f g:Str) (v:V):∀fs:List (Str × V),(fh f v fs).lookup g=if g=f then some v else fs.lookup g
 | []=>by
  show VY g [(f,v)]=_
  by_cases h:g=f
  ·have hb:(g == f)=true:=beq_iff_eq.mpr h
   simp only [VY,hb,if_pos h]
  ·have hb:(g == f)=false:=beq_eq_false_iff_ne.mpr h
   simp only [VY,hb,if_neg h]
 | (k,x) :: r=>by
  have ih:=p7 f g v r
  rw [show fh f v ((k,x) :: r)=(if k=f then (k,v) :: r else (k,x) :: fh f v r) from rfl]
  by_cases hk:k=f
  ·rw [if_pos hk]
   by_cases h:g=k
   ·have hb:(g == k)=true:=beq_iff_eq.mpr h
    simp only [VY,hb,if_pos (h.trans hk)]
   ·have hb:(g == k)=false:=beq_eq_false_iff_ne.mpr h
    simp only [VY,hb,if_neg (λe:g=f=>h (e.trans hk.symm))]
  ·rw [if_neg hk]
   by_cases h:g=k
   ·have hb:(g == k)=true:=beq_iff_eq.mpr h
    simp only [VY,hb,if_neg (λe:g=f=>hk (h.symm.trans e))]
   ·have hb:(g == k)=false:=beq_eq_false_iff_ne.mpr h
    simp only [VY,hb]
    exact ih
theorem o7 (f:Str) (v:V):∀fs:List (Str × V),f∈(fh f v fs).map (·.1)∧∀g,g∈fs.map (·.1)→g∈(fh f v fs).map (·.1)
 | []=>⟨by simp [fh],λg h=>by simp at h⟩
 | (k,x) :: r=>by
  obtain ⟨i1,i2⟩:=o7 f v r
  rw [show fh f v ((k,x) :: r)=(if k=f then (k,v) :: r else (k,x) :: fh f v r) from rfl]
  by_cases hk:k=f
  ·rw [if_pos hk]
   subst hk
   exact ⟨by simp,λg h=>by simpa using h⟩
  ·rw [if_neg hk]
   refine ⟨?_,λg h=>?_⟩
   ·rw [UB]
    exact UW _ i1
   ·rw [UB] at h ⊢
    rcases UI.mp h with e | e
    ·exact UI.mpr (.inl e)
    ·exact UW _ (i2 g e)
theorem p6 (f:Str) (v:V):∀fs:List (Str × V),(fh f v fs).length≤fs.length + 1
 | []=>by simp [fh]
 | (k,x) :: r=>by
  have ih:=p6 f v r
  rw [show fh f v ((k,x) :: r)=(if k=f then (k,v) :: r else (k,x) :: fh f v r) from rfl]
  by_cases hk:k=f
  ·rw [if_pos hk,UQ,UQ];omega
  ·rw [if_neg hk,UQ,UQ];omega
theorem ue.some_of {v:V} {o:Option Value} (r:ue (some v) o):∃u,o=some u∧RelV v u:=by
 cases o with
 | none=>exact (show False from r).elim
 | some u=>exact ⟨u,rfl,r⟩
theorem ue.none_of {o:Option Value} (r:ue none o):o=none:=by
 cases o with
 | none=>rfl
 | some u=>exact (show False from r).elim
theorem DM {v:V} {u:Value} (r:RelV v u):PySem.W.handedIn u=true:=by
 cases v with
 | non=>cases (show u=Value.none from r);rfl
 | bl b=>cases (show u=Value.bool b from r);rfl
 | int i=>obtain ⟨t,e⟩:=(show ∃t,u=Value.int i t from r);cases e;rfl
 | str x=>obtain ⟨t,e⟩:=(show ∃t,u=Value.str x t from r);cases e;rfl
 | byt b=>obtain ⟨t,e⟩:=(show ∃t,u=Value.bytes b t from r);cases e;rfl
 | flt b=>obtain ⟨t,e⟩:=(show ∃t,u=Value.float b t from r);cases e;rfl
 | ref a=>cases (show u=Value.ref a from r);rfl
 | ty n=>cases (show u=Value.type n from r);rfl
section
variable {P:Program} {w:World} {H H':Hp} {h h':Heap} {a C dx:Addr} {fs fs':List (Str × V)}
theorem qK (hok:nu P w H h) (e:H a=some (.ins C dx fs)):∃mA,Ai h a dx C mA∧(∀f,ue (fs.lookup f) (mA f))∧PySem.Within mA (fs.map (·.1))∧fs.length≤1000∧H dx=some (.own a):=by
 obtain ⟨d,z,ne,ob,mA,n,r,q⟩:=(show dB P w H h a (.ins C dx fs) from hok a _ e)
 exact ⟨mA,⟨ob,n,ne⟩,r,q,z,d⟩
end
structure qj (K:PySem.W.Frag) (C:Addr):Prop where
 pg:PySem.W.plainGet K C Str.empty=true
 hd:PySem.W.hasDictIn K C=true
 po:PySem.W.plainOver K C=true
 sa:PySem.W.findIn K (.ref C) "__setattr__"=some (some (.builtin "object.__setattr__"))
theorem qj.get {K:PySem.W.Frag} {C:Addr} (c:qj K C) (f:Str):PySem.W.plainGet K C f=true:=c.pg
def aH (K:PySem.W.Frag) (C:Addr) (f:Str):Prop:=PySem.W.findIn K (.ref C) f=some none
theorem aH.QJ {K:PySem.W.Frag} {C:Addr} {f:Str} (n:aH K C f):PySem.W.takerIn K C f=some none:=by
 unfold PySem.W.takerIn
 rw [show PySem.W.findIn K (.ref C) f=some none from n]
 rfl
structure Meth (K:PySem.W.Frag) (C:Addr) (m:Str) (f:Addr):Prop where
 at_:PySem.W.findIn K (.ref C) m=some (some (.ref f))
 fn:PySem.W.isFn K (.ref f)=true
 kp:PySem.W.keepIn K (.ref f)=true
section
variable {X:Cx} {pins:List (Addr × Obj)} {σ:St} {H:Hp} {s:Shared} {a C dx:Addr} {fs:List (Str × V)} {f:Str} {v:V} {A:Around} {E:Value→Shared→Prop}
theorem AB {b:Bool} {Q:Value→Shared→Prop} (I:Inv X pins σ H s) (e:H a=some (.ins C dx fs)) (c:qj X.K C) (n:aH X.K C f) (l:fs.lookup f=some v)
  (h:∀u s',Inv X pins σ H s'→RelV v u→Q u s'):wpAny (model X.prog X.w) A (getAttr (.ref a) f b) Q E s:=by
 obtain ⟨mA,O,r,_,_,_⟩:=qK I.hok e
 obtain ⟨u,hu,ru⟩:=ue.some_of (v:=v) (o:=mA f) (by rw [← l];exact r f)
 exact get_map I.mO O (c.get f) c.hd n hu (DM ru) (h u _ (I.tok _) ru)
theorem rS {m:Str} {g:Addr} {pl:Sem Bool} {Q:Value × List Value→Shared→Prop} (I:Inv X pins σ H s) (e:H a=some (.ins C dx fs)) (c:qj X.K C) (k:Meth X.K C m g) (l:fs.lookup m=none)
  (h:Q (.ref g,[.ref a]) s):wpAny (model X.prog X.w) A (getMethod (.ref a) m pl) Q E s:=by
 obtain ⟨mA,O,r,_,_,_⟩:=qK I.hok e
 have hn:mA m=none:=ue.none_of (by rw [← l];exact r m)
 exact FJ I.mO O (c.get m) k.at_ k.fn hn h
theorem Bu {y:V} {u:Value} {Q:Unit→Shared→Prop} (I:Inv X pins σ H s) (e:H a=some (.ins C dx fs)) (c:qj X.K C) (n:aH X.K C f) (hl:fs.length < 1000) (ry:RelV y u)
  (h:∀s',Inv X pins σ (upd H a (.ins C dx (fh f y fs))) s'→Q () s'):wpAny (model X.prog X.w) A (setAttr (.ref a) f u) Q E s:=by
 obtain ⟨mA,O,r,wi,_,ho⟩:=qK I.hok e
 have hz:(fs.map (·.1)).length≤sizeLine:=by rw [Us,sizeLine_eq];omega
 refine Kk I.mO O c.sa c.po n.QJ c.hd wi hz λh' O' sb=>h _ ?_
 have hd:∃o,h'.get? dx=some o:=let ⟨o,_,_,e',_⟩:=O'.ns;⟨o,e'⟩
 refine I.write (x:=a) (e:=dx) (by rw [e];exact True.intro) (.inr ho) (λb q hb z=>(sb.2 b hb).trans z) hd ?_
 refine ⟨by rw [aM O.ne];exact ho,?_,O.ne,O'.obj,_,O'.ns,λg=>?_,λg hg=>?_⟩
 ·have:=p6 f y fs;omega
 ·show ue ((fh f y fs).lookup g) (if g=f then some u else mA g)
  rw [p7]
  by_cases q:g=f
  ·rw [if_pos q,if_pos q];exact ry
  ·rw [if_neg q,if_neg q];exact r g
 ·by_cases q:g=f
  ·rw [q];exact (o7 f y fs).1
  ·refine (o7 f y fs).2 g (wi g λz=>hg ?_)
   show (if g=f then some u else mA g)=none
   rw [if_neg q];exact z
theorem Inv.made (I:Inv X pins σ H s):Inv X pins σ (upd (upd H s.heap.objs.size (.own (s.heap.objs.size + 1))) (s.heap.objs.size + 1) (.ins C s.heap.objs.size []))
  { s with heap:=(s.heap.push PySem.W.emptyDict).push (PySem.W.instObj C s.heap.objs.size) }:=by
 have e1:(s.heap.push PySem.W.emptyDict).get? s.heap.objs.size=some PySem.W.emptyDict:=Heap.get?_push_size s.heap rfl
 have e2:((s.heap.push PySem.W.emptyDict).push (PySem.W.instObj C s.heap.objs.size)).get? (s.heap.objs.size + 1)=some (PySem.W.instObj C s.heap.objs.size):=by
  have:=Heap.get?_push_size (s.heap.push PySem.W.emptyDict) (o:=PySem.W.instObj C s.heap.objs.size) rfl
  rwa [Heap.size_push] at this
 have e3:(s.heap.push PySem.W.emptyDict).Ns s.heap.objs.size (λ_=>none):=⟨PySem.W.emptyDict,#[],_,e1,rfl,(λe he=>absurd he (by simp)),λ_=>rfl⟩
 have I1:=I.laid (a:=s.heap.objs.size) (o:=.own (s.heap.objs.size + 1)) (h':=s.heap.push PySem.W.emptyDict) (t':=s.toks) (λb u q=>Heap.get?_push_of_some _ q) (Ux _) ⟨_,e1⟩
 refine I1.laid (a:=s.heap.objs.size + 1) (o:=.ins C s.heap.objs.size []) (t':=s.toks) (λb u q=>Heap.get?_push_of_some _ q) (Nat.le_of_eq (Heap.size_push _ _)) ?_
 have ne:s.heap.objs.size≠s.heap.objs.size + 1:=UO (VL _)
 refine ⟨by rw [aM ne,aG],UZ _,ne,e2,λ_=>none,(Heap.Ns1.of_empty e3).at λo q=>Heap.get?_push_of_some _ q,λ_=>True.intro,λy hy=>absurd rfl hy⟩
theorem IA {prog:Program} {w:World} {env:Env} {e:Expr} {f:Str} {pos:Pos} {s:Shared} {Q:Value→Shared→Prop} (hb:attributeBase e f env (eval e env)=eval e env)
  (h:wpAny (model prog w) A (eval e env) (λo s₁=>wpAny (model prog w) A (getAttr o f true) Q E s₁) E s):wpAny (model prog w) A (eval (.Attribute e f pos) env) Q E s :=
 Attribute_any_ h (by rw [arm_eval_Attribute,hb])
end
def SU (K:PySem.W.Frag) (ta:TE) (f:Str):TE:=λσ H Q=>ta σ H λx H1=>∃a C dx fs v,x=.ref a∧H1 a=some (.ins C dx fs)∧qj K C∧aH K C f∧fs.lookup f=some v∧Q v H1
def SQ (K:PySem.W.Frag) (ta tv:TE) (f:Str):TS:=λD σ H=>tv σ H λy H1=>ta σ H1 λx H2=>∃a C dx fs,x=.ref a∧H2 a=some (.ins C dx fs)∧qj K C∧aH K C f∧fs.length < 1000 ∧
 D.nx σ (upd H2 a (.ins C dx (fh f y fs)))
section
variable {X:Cx} {o e value:Expr} {f:Str} {pos pos' tpos:Pos} {ta tv:TE}
theorem Nt (he:PE X e ta) (hb:attributeBase e f X.env (eval e X.env)=eval e X.env):PE X (.Attribute e f pos) (SU X.K ta f):=by
 intro pins s σ H Q I h
 refine IA hb (cD (he pins s σ H _ I h) λu s1 ⟨x,H1,I1,rx,a,C,dx,fs,v,ex,ea,c,n,l,q⟩=>?_)
 subst ex
 obtain rfl:u=Value.ref a:=rx
 exact AB I1 ea c n l λu' s2 I2 ru=>⟨v,H1,I2,ru,q⟩
theorem Nx (ha:PE X o ta) (hv:PE X value tv) (hs:swapsWith value (some (.Attribute o f pos')) pos.line X.env=pure false):PS X (.Assign [.Attribute o f pos'] value pos) (SQ X.K ta tv f):=by
 intro pins s σ H D I h
 refine plainObj_wpAny_Assign_Attribute (cD (hv pins s σ H _ I h) λu s1 ⟨y,H1,I1,ry,q⟩=>cD (ha pins s1 σ H1 _ I1 q) λov s2 ⟨x,H2,I2,rx,a,C,dx,fs,ex,ea,c,n,l,q2⟩=>?_) hs
 subst ex
 obtain rfl:ov=Value.ref a:=rx
 exact Bu I2 ea c n l ry λs3 I3=>⟨σ,_,I3,q2⟩
end
section
variable {X:Cx} {pins:List (Addr × Obj)} {σ:St} {H:Hp} {s:Shared} {A:Around} {E:Value→Shared→Prop} {Q:Value→Shared→Prop} {c:Value} {b:Bool}
inductive gm (K:PySem.W.Frag) (H:Hp):V→Value→Prop where
 | non:gm K H .non (.type "NoneType")
 | bl (x:Bool):gm K H (.bl x) (.type "bool")
 | int (i:Int):gm K H (.int i) (.type "int")
 | str (x:Str):gm K H (.str x) (.type "str")
 | flt (x:UInt64):gm K H (.flt x) (.type "float")
 | lst {a:Addr} {xs:List V} (e:H a=some (.lst xs)):gm K H (.ref a) (.type "list")
 | qJ {a:Addr} {o:Obj} {xs:List V} (e:H a=some (.qJ o (.lst xs))):gm K H (.ref a) (.type "list")
 | tup {a:Addr} {xs:List V} (e:H a=some (.tup xs)):gm K H (.ref a) (.type "tuple")
 | dK {a:Addr} {kvs:List (Key × V)} (e:H a=some (.dK kvs)):gm K H (.ref a) (.type "dict")
 | dE {a:Addr} {kvs:List (Str × V)} {ep:Nat} (e:H a=some (.dE kvs ep)):gm K H (.ref a) (.type "dict")
 | ins {a C dx:Addr} {fs:List (Str × V)} (e:H a=some (.ins C dx fs)) (cl:qj K C) (ha:PySem.W.findIn K (.ref C) "__class__"=some (some (.builtin "object.__class__")))
   (hn:PySem.W.specialIn K (.builtin "object.__class__") "__get__"=some (some (.builtin "getset_descriptor.__get__"))) (htk:PySem.W.takesIn K (.builtin "object.__class__")=some true)
   (hm:PySem.W.mroIn K C (.type "object")=some true):gm K H (.ref a) (.ref C)
theorem DP {x:V} {u t:Value} (I:Inv X pins σ H s) (rx:RelV x u) (ty:gm X.K H x t) (e:PySem.W.kitOne X.K t c=some b) (h:∀tk,Q (.bool b) { s with toks:=tk }) :
  wpAny (model X.prog X.w) A (call (.builtin "isinstance") [u,c]) Q E s:=by
 cases ty with
 | non=>cases (show u=Value.none from rx);exact PySem.W.kia_one PySem.W.kitx_none I.mO True.intro e (λz=>nomatch z) h
 | bl y=>cases (show u=Value.bool y from rx);exact PySem.W.kia_one PySem.W.kitx_bool I.mO True.intro e (λz=>nomatch z) h
 | int i=>obtain ⟨t,q⟩:=(show ∃t,u=Value.int i t from rx);cases q;exact PySem.W.kia_one PySem.W.kitx_int I.mO True.intro e (λz=>nomatch z) h
 | str y=>obtain ⟨t,q⟩:=(show ∃t,u=Value.str y t from rx);cases q;exact PySem.W.kia_one PySem.W.kitx_str I.mO True.intro e (λz=>nomatch z) h
 | flt y=>obtain ⟨t,q⟩:=(show ∃t,u=Value.float y t from rx);cases q;exact PySem.W.kia_one PySem.W.kitx_float I.mO True.intro e (λz=>nomatch z) h
 | @lst a xs ea =>
  cases (show u=Value.ref a from rx)
  obtain ⟨_,_,n,_,h1⟩:=(show dB X.prog X.w H s.heap a (.lst xs) from I.hok a _ ea)
  exact PySem.W.kia_one PySem.W.kitx_list I.mO ⟨_,h1,rfl⟩ e (λz=>nomatch z) h
 | @qJ a ob xs ea =>
  cases (show u=Value.ref a from rx)
  obtain ⟨_,_,_,n,_,h1⟩:=(show dB X.prog X.w H s.heap a (.qJ ob (.lst xs)) from I.hok a _ ea)
  exact PySem.W.kia_one PySem.W.kitx_list I.mO ⟨_,h1,rfl⟩ e (λz=>nomatch z) h
 | @tup a xs ea =>
  cases (show u=Value.ref a from rx)
  obtain ⟨_,_,_,p⟩:=(show dB X.prog X.w H s.heap a (.tup xs) from I.hok a _ ea)
  obtain ⟨o,h1,h2,_⟩:=p
  exact PySem.W.kia_one PySem.W.kitx_tuple I.mO ⟨o,h1,h2⟩ e (λz=>nomatch z) h
 | @dK a kvs ea =>
  cases (show u=Value.ref a from rx)
  obtain ⟨_,_,vs,_,p⟩:=(show dB X.prog X.w H s.heap a (.dK kvs) from I.hok a _ ea)
  obtain ⟨o,es,ep,h1,h2,_⟩:=p
  exact PySem.W.kia_one PySem.W.kitx_dict I.mO ⟨o,h1,h2.1⟩ e (λz=>nomatch z) h
 | @dE a kvs ep ea =>
  cases (show u=Value.ref a from rx)
  obtain ⟨_,_,vs,_,o,es,h1,h2,_⟩:=(show dB X.prog X.w H s.heap a (.dE kvs ep) from I.hok a _ ea)
  exact PySem.W.kia_one PySem.W.kitx_dict I.mO ⟨o,h1,h2.1⟩ e (λz=>nomatch z) h
 | @ins a C dx fs ea cl ha hn htk hm =>
  cases (show u=Value.ref a from rx)
  obtain ⟨mA,O,_⟩:=qK I.hok ea
  obtain ⟨od,J,_⟩:=O.look
  exact PySem.W.kia_one (PySem.W.kitx_own (cl.get _) cl.hd ha hn htk hm) I.mO J e (λz=>nomatch z) h
end
end L2
namespace L2
open PySem PySem.Spec PyProof.Rows
structure bV (k:Nat) (A:Around):Prop where
 hd:A.handled=none
 dp:A.depth + 3 * k + 5 < recursionLimit
 un:A.units + 16 * k + 200 < cLine
theorem bV.mono {j k:Nat} {A:Around} (r:bV k A) (h:j≤k):bV j A:=⟨r.hd,by have:=r.dp;omega,by have:=r.un;omega⟩
theorem bV.deeper {k:Nat} {A:Around} (r:bV (k + 1) A) (env:Env):bV k (A.deeper env) :=
 ⟨r.hd,by have:=r.dp;show A.depth + 1 + 3 * k + 5 < _;omega,by have:=r.un;show A.units + 3 + 16 * k + 200 < _;omega⟩
theorem AN {A:Around} {C:Addr} {us:List Value} {kw:List (Str × Value)}:(A.under (.builtin "type.__call__" ⟨.ref C :: us,kw⟩)).depth=A.depth + 1:=by
 first | rfl | simp [Around.under,Code.weight,Code.isCreation,Code.isGuard,Code.isCaller,Code.frames,Code.isFrame,guardIds]
theorem AO {A:Around} {C:Addr} {us:List Value} {kw:List (Str × Value)}:(A.under (.builtin "type.__call__" ⟨.ref C :: us,kw⟩)).units=A.units + 1:=by
 first | rfl | simp [Around.under,Code.cUnits,Code.frames,Code.isFrame]
theorem bV.make {k:Nat} {A:Around} (r:bV (k + 1) A) (C:Addr) (us:List Value) (kw:List (Str × Value)):bV k (A.under (.builtin "type.__call__" ⟨.ref C :: us,kw⟩)) :=
 ⟨r.hd,by have:=r.dp;rw [AN];omega,by have:=r.un;rw [AO];omega⟩
theorem bV.depth {k:Nat} {A:Around} (r:bV k A):A.depth < recursionLimit:=by have:=r.dp;omega
theorem bV.N8 {k:Nat} {A:Around} (r:bV k A):A.units < cLine:=by have:=r.un;omega
def xR:TA:=λ_ H Q=>Q [] H
def fi (ta:TE) (tr:TA):TA:=λσ H Q=>ta σ H λx H1=>tr σ H1 λxs H2=>Q (x :: xs) H2
section
variable {X:Cx} {e:Expr} {es:List Expr} {te:TE} {t:TA} {pos:Pos}
theorem bj:PA X [] xR:=λ_ _ _ _ H Q I h=>Calls.spliced_nil ⟨[],H,I,.nil,h⟩
theorem az (ha:PE X e te) (hr:PA X es t) (hs:starEach (e :: es) X.env=(false,eval e X.env) :: starEach es X.env:=by rfl):PA X (e :: es) (fi te t):=by
 intro pos pins s σ H Q I h
 rw [hs]
 show wpAny _ _ (spliced ((false,eval e X.env) :: backTo pos (starEach es X.env))) _ _ s
 refine Calls.spliced_cons (cD (ha pins s σ H _ I h) λu s1 ⟨x,H1,I1,r1,q1⟩=>?_)
 exact cD (hr pos pins s1 σ H1 _ I1 q1) λus s2 ⟨xs,H2,I2,r2,q2⟩=>⟨x :: xs,H2,I2,.cons r1 r2,q2⟩
def Kw (t:TA):TE:=λσ H Q=>t σ H λxs H1=>xs.length≤sizeLine∧∀p,H1 p=none→Q (.ref p) (upd H1 p (.tup xs))
def EE (t:TA):TE:=λσ H Q=>t σ H λxs H1=>xs.length≤sizeLine∧∀p,H1 p=none→Q (.ref p) (upd H1 p (.lst xs))
theorem sy {x1} (h:PA X es t):PE X (.Tuple es x1 pos) (Kw t):=by
 intro pins s σ H Q I hq
 refine wpAny_Tuple_spliced (cD (h pos pins s σ H _ I hq) λus s1 ⟨xs,H1,I1,r,z,q⟩=>⟨by rw [← r.length];exact z,?_⟩)
 have hf:H1 s1.heap.objs.size=none:=I1.hok.fresh (Ux _)
 refine ⟨.ref s1.heap.objs.size,upd H1 s1.heap.objs.size (.tup xs),I1.laid (t':=s1.toks) (λb u e=>Heap.get?_push_of_some _ e) (Ux _) ?_,rfl,q _ hf⟩
 exact ⟨z,us,r,⟨_,Heap.get?_push_size _ rfl,rfl,_,rfl⟩⟩
theorem jy (h:PA X es t):PE X (.List es pos) (EE t):=by
 intro pins s σ H Q I hq
 refine wpAny_List_spliced (cD (h pos pins s σ H _ I hq) λus s1 ⟨xs,H1,I1,r,z,q⟩=>⟨by rw [← r.length];exact z,?_⟩)
 have hf:H1 s1.heap.objs.size=none:=I1.hok.fresh (Ux _)
 refine ⟨.ref s1.heap.objs.size,upd H1 s1.heap.objs.size (.lst xs),I1.laid (t':=s1.toks) (λb u e=>Heap.get?_push_of_some _ e) (Ux _) ?_,rfl,q _ hf⟩
 exact ⟨z,us,0,r,Heap.get?_push_size _ rfl⟩
end
abbrev Sp:=List V→Hp→VK→XK→Prop
abbrev tK:=List Env→Hp→Shared→XK→Value→Shared→Prop
structure Aa (P:Program) (w:World) (K:PySem.W.Frag) (mg:Str→Option Value) (base:Heap) (A:Around) (outer:List Env) (s:Shared) (H:Hp):Prop where
 frames:A.frames=some outer
 mod:Mod K mg base
 bs:∀b o,base.get? b=some o→s.heap.get? b=some o∧H b=none
 bsz:base.objs.size≤s.heap.objs.size
 mM:s.heap.FunFrames base outer
 frf:∀b∈j6 outer,H b=none
 hok:nu P w H s.heap
 bare:AllBare s.gens
def CE (outer:List Env) (P:Program) (w:World) (H:Hp) (s:Shared) (Q:VK) (u:Value) (s':Shared):Prop :=
 ∃v H',s'.os=s.os∧AllBare s'.gens∧Un (j6 outer) [] H H' s.heap s'.heap∧nu P w H' s'.heap∧RelV v u∧Q v H'
def CR (CX:tK) (outer:List Env) (P:Program) (w:World) (H:Hp) (s:Shared) (Q:VK) (E:XK) (r:Result) (s':Shared):Prop :=
 match r with
 | .ok (.ret u)=>CE outer P w H s Q u s'
 | .ok _=>False
 | .error e=>CX outer H s E e s'
structure aQ (P:Program) (w:World) (K:PySem.W.Frag) (mg:Str→Option Value) (base:Heap) (CX:tK) (k:Nat) (f:Addr) (fd:FuncData) (ps:List Str) (sp:Sp):Prop where
 len:∀vs H Q E,sp vs H Q E→vs.length=ps.length
 run:∀(A:Around) (outer:List Env) (s:Shared) (H:Hp) (args:Args) (us:List Value) (vs:List V) (Q:VK) (E:XK),bV k A→Aa P w K mg base A outer s H→BindsTo s fd args (ps.zip us)→Vals vs us→sp vs H Q E →
  codeAny (model P w) A (.call (.ref f) args) (CR CX outer P w H s Q E) s
theorem aQ.imp {P:Program} {w:World} {K:PySem.W.Frag} {mg:Str→Option Value} {base:Heap} {CX:tK} {k:Nat} {f:Addr} {fd:FuncData} {ps:List Str} {sp sp':Sp} (F:aQ P w K mg base CX k f fd ps sp)
  (h:∀vs H Q E,sp' vs H Q E→sp vs H Q E):aQ P w K mg base CX k f fd ps sp' :=
 ⟨λvs H Q E q=>F.len vs H Q E (h _ _ _ _ q),λA outer s H args us vs Q E hr he hb hv hs=>F.run A outer s H args us vs Q E hr he hb hv (h _ _ _ _ hs)⟩
theorem Aa.make {P:Program} {w:World} {K:PySem.W.Frag} {mg:Str→Option Value} {base:Heap} {A:Around} {outer:List Env} {s:Shared} {H:Hp} (e:Aa P w K mg base A outer s H) (C:Addr) (us:List Value) (kw:List (Str × Value)) :
  Aa P w K mg base (A.under (.builtin "type.__call__" ⟨.ref C :: us,kw⟩)) outer s H:=⟨by first | exact e.frames | (simpa [Around.under,Code.envs,Code.isFrame,pushEnvs] using e.frames),e.mod,e.bs,e.bsz,e.mM,e.frf,e.hok,e.bare⟩
section
variable {X:Cx} {pins:List (Addr × Obj)} {σ:St} {H:Hp} {s s':Shared}
theorem Inv.OR (I:Inv X pins σ H s):Aa X.prog X.w X.K X.mg X.base X.A X.stack s H :=
 ⟨I.ok.frames,I.ok.mod,I.bs,UM I.ok.bsz I.sz,I.stack,I.xP,I.hok,I.bare⟩
theorem Inv.after {Q:VK} {u:Value} (I:Inv X pins σ H s) (h:CE X.stack X.prog X.w H s Q u s'):EP X pins σ Q u s':=by
 obtain ⟨v,H',os,bare,un,hok,r,q⟩:=h
 obtain ⟨hh,g,d,t,os'⟩:=s'
 obtain rfl:os'=s.os:=os
 exact ⟨v,H',I.call (h':=hh) (g':=g) (d':=d) (t':=t) (ch:=[]) un hok bare (λb z=>absurd z (by simp)),r,q⟩
end
def tG (sp:Sp) (dvs:List V) (E:XK) (t:TA):TE:=λσ H Q=>t σ H λvs H1=>sp (vs ++ dvs) H1 Q E
def HE (C:Addr) (m:Str) (sp:Sp) (dvs:List V) (E:XK) (ta:TE) (t:TA):TE:=λσ H Q=>ta σ H λx H1=>∃a dx fs,x=.ref a∧H1 a=some (.ins C dx fs)∧fs.lookup m=none ∧
 t σ H1 λvs H2=>sp (x :: (vs ++ dvs)) H2 Q E
def HD (C:Addr) (sp:Sp) (dvs:List V) (E:XK) (t:TA):TE:=λσ H Q=>t σ H λvs H1=>∀x dx,H1 x=none→H1 dx=none→dx≠x →
 sp (.ref x :: (vs ++ dvs)) (upd (upd H1 dx (.own x)) x (.ins C dx [])) (λv H2=>v=.non∧Q (.ref x) H2) E
def Binds (K:PySem.W.Frag) (fd:FuncData) (ps:List Str) (ds:List Value):Prop :=
 ∀(s:Shared) (us:List Value),K.In s.heap→(us ++ ds).length=ps.length→BindsTo s fd ⟨us,[]⟩ (ps.zip (us ++ ds))
theorem Binds.all {K:PySem.W.Frag} {fd:FuncData} {ps:List Str} (h:∀us:List Value,us.length=ps.length→bindArgs fd ⟨us,[]⟩=pure (ps.zip us)):Binds K fd ps []:=λs us _ hl=>by
 rw [Vq] at hl ⊢
 exact .of_eq (h us hl)
def Passes (CX:tK) (X:Cx) (E:XK):Prop:=∀(pins:List (Addr × Obj)) (σ:St) (H:Hp) (s:Shared) (e:Value) (s':Shared),Inv X pins σ H s→CX X.stack H s E e s'→X.xe e s'
section
variable {X:Cx} {CX:tK} {k:Nat} {f C:Addr} {fd:FuncData} {ps:List Str} {sp:Sp} {dvs:List V} {ds:List Value} {E:XK} {x m:Str} {p pos apos:Pos} {e o:Expr} {es:List Expr} {ta:TE} {t:TA}
theorem Bj {pins:List (Addr × Obj)} {σ:St} {H:Hp} {s:Shared} {Q:VK} {us:List Value} {vs:List V} (F:aQ X.prog X.w X.K X.mg X.base CX k f fd ps sp) (hr:bV k X.A) (hb:Binds X.K fd ps ds) (hd:Vals dvs ds) (hx:Passes CX X E)
  (I:Inv X pins σ H s) (r:Vals vs us) (h:sp (vs ++ dvs) H Q E):wpAny (model X.prog X.w) X.A (call (.ref f) us) (EP X pins σ Q) X.xe s:=by
 have r2:Vals (vs ++ dvs) (us ++ ds):=r.append hd
 have hl:(us ++ ds).length=ps.length:=by rw [← r2.length];exact F.len _ _ _ _ h
 refine wpAny_call (codeAny_mono (F.run X.A X.stack s H ⟨us,[]⟩ (us ++ ds) (vs ++ dvs) Q E hr I.OR (hb s us I.mO hl) r2 h) λr s' hq=>?_)
 cases r with
 | error e=>exact hx pins σ H s e s' I hq
 | ok fl =>
  cases fl with
  | ret u=>exact I.after hq
  | next=>exact False.elim hq
  | brk=>exact False.elim hq
  | cont=>exact False.elim hq
theorem Cp (F:aQ X.prog X.w X.K X.mg X.base CX k f fd ps sp) (hr:bV k X.A) (hg:Gl X x) (hm:X.mg x=some (.ref f)) (hk:PySem.W.keepIn X.K (.ref f)=true) (hb:Binds X.K fd ps ds) (hd:Vals dvs ds) (hx:Passes CX X E)
  (ha:PA X (e :: es) t) (hdb:(x == ("__debug__":Str))=false:=by decide) (he:starEach (e :: es) X.env=(false,eval e X.env) :: starEach es X.env:=by rfl) (hpl:(backTo pos (starEach es X.env)).any (·.1)=false:=by rfl) :
  PE X (.Call (.Name x p) (e :: es) [] pos) (tG sp dvs E t):=by
 intro pins s σ H Q I h
 refine wpAny_Call_Name_kw (lN I hg hm ?_ hdb)
 refine PySem.W.callWith_K (h₀:=X.base) I.ok.mod.kin hk (cD (ha pos pins s σ H _ I h) λus s1 ⟨vs,H1,I1,r,q⟩=>⟨I1.mO,?_⟩) he hpl
 exact Bj F hr hb hd hx I1 r q
theorem JF {pl:Sem Bool} (he:PE X o ta) (c:qj X.K C) (hm:Meth X.K C m f) (F:aQ X.prog X.w X.K X.mg X.base CX k f fd ps sp) (hr:bV k X.A) (hb:Binds X.K fd ps ds) (hd:Vals dvs ds) (hx:Passes CX X E) (ha:PA X (e :: es) t)
  (hst:starEach (e :: es) X.env=(false,eval e X.env) :: starEach es X.env:=by rfl) (hpl:(backTo pos (starEach es X.env)).any (·.1)=false:=by rfl)
  (ht:eval (.Call (.Attribute o m apos) (e :: es) [] pos) X.env=(do
   let ov ← eval o X.env
   standAt apos.atName
   let (f,first) ← holding [ov] (getMethod ov m pl)
   callWith pos f first (backTo pos (starEach (e :: es) X.env)) (backToKw pos (keywordEach [] X.env))):=by rfl) :
  PE X (.Call (.Attribute o m apos) (e :: es) [] pos) (HE C m sp dvs E ta t):=by
 intro pins s σ H Q I h
 refine PySem.W.methodCall_KW (pl:=pl) (cD (he pins s σ H _ I h) λu s1 ⟨x,H1,I1,rx,a,dx,fs,ex,ea,l,q⟩=>?_) ht
 subst ex
 obtain rfl:u=Value.ref a:=rx
 refine rS I1 ea c hm l ?_
 refine PySem.W.callWith_K (first:=[.ref a]) (h₀:=X.base) I.ok.mod.kin hm.kp (cD (ha pos pins s1 σ H1 _ I1 q) λus s2 ⟨vs,H2,I2,r,q2⟩=>⟨I2.mO,?_⟩) hst hpl
 exact Bj (us:=.ref a :: us) (vs:=.ref a :: vs) F hr hb hd hx I2 (.cons rfl r) q2
theorem GP {pl:Sem Bool} (he:PE X o ta) (c:qj X.K C) (hm:Meth X.K C m f) (F:aQ X.prog X.w X.K X.mg X.base CX k f fd ps sp) (hr:bV k X.A) (hb:Binds X.K fd ps ds) (hd:Vals dvs ds) (hx:Passes CX X E)
  (ht:eval (.Call (.Attribute o m apos) [] [] pos) X.env=(do
   let ov ← eval o X.env
   standAt apos.atName
   let (f,first) ← holding [ov] (getMethod ov m pl)
   callWith pos f first (backTo pos (starEach [] X.env)) (backToKw pos (keywordEach [] X.env))):=by rfl) :
  PE X (.Call (.Attribute o m apos) [] [] pos) (HE C m sp dvs E ta xR):=by
 intro pins s σ H Q I h
 refine PySem.W.methodCall_KW (pl:=pl) (cD (he pins s σ H _ I h) λu s1 ⟨x,H1,I1,rx,a,dx,fs,ex,ea,l,q⟩=>?_) ht
 subst ex
 obtain rfl:u=Value.ref a:=rx
 refine rS I1 ea c hm l ?_
 exact PySem.W.callWith_K0 (first:=[.ref a]) I1.mO hm.kp (Bj (us:=[.ref a]) (vs:=[.ref a]) F hr hb hd hx I1 (.cons rfl .nil) q)
structure Mk (K:PySem.W.Frag) (C f:Addr):Prop where
 makes:PySem.W.makesIn K C=true
 init:PySem.W.findIn K (.ref C) "__init__"=some (some (.ref f))
 fn:PySem.W.isFn K (.ref f)=true
 kp:PySem.W.keepIn K (.ref C)=true
theorem zh {pins:List (Addr × Obj)} {σ:St} {H:Hp} {s:Shared} {Q:VK} {us:List Value} {vs:List V} (M:Mk X.K C f) (F:aQ X.prog X.w X.K X.mg X.base CX k f fd ps sp) (hr:bV (k + 1) X.A) (hb:Binds X.K fd ps ds) (hd:Vals dvs ds)
  (hx:Passes CX X E) (I:Inv X pins σ H s) (r:Vals vs us)
  (h:∀x dx,H x=none→H dx=none→dx≠x→sp (.ref x :: (vs ++ dvs)) (upd (upd H dx (.own x)) x (.ins C dx [])) (λv H2=>v=.non∧Q (.ref x) H2) E) :
  wpAny (model X.prog X.w) X.A (call (.ref C) us) (EP X pins σ Q) X.xe s:=by
 have hq:=h (s.heap.objs.size + 1) s.heap.objs.size (I.hok.fresh (Nat.le_succ _)) (I.hok.fresh (Ux _)) (UO (VL _))
 have I2:=Inv.made (C:=C) I
 have r2:Vals (V.ref (s.heap.objs.size + 1) :: (vs ++ dvs)) (Value.ref (s.heap.objs.size + 1) :: (us ++ ds)):=.cons rfl (r.append hd)
 have hl:(Value.ref (s.heap.objs.size + 1) :: us ++ ds).length=ps.length:=by
  have e:=r2.length
  rw [F.len _ _ _ _ hq] at e
  exact e.symm
 refine wpAny_call (Gi (f:=f) I.mO M.makes M.init (beq_iff_eq.mp M.fn) (codeAny_mono (F.run _ X.stack _ _ ⟨Value.ref (s.heap.objs.size + 1) :: us,[]⟩ (Value.ref (s.heap.objs.size + 1) :: (us ++ ds)) _ _ E (hr.make C us [])
  (I2.OR.make C us []) (hb _ (Value.ref (s.heap.objs.size + 1) :: us) I2.mO hl) r2 hq) λr s' hq'=>?_))
 cases r with
 | error e=>exact hx pins σ _ _ e s' I2 hq'
 | ok fl =>
  cases fl with
  | ret u =>
   obtain ⟨v,H',I3,rv,ev,q3⟩:=I2.after hq'
   subst ev
   exact ⟨rv,⟨V.ref (s.heap.objs.size + 1),H',I3,rfl,q3⟩⟩
  | next=>exact False.elim hq'
  | brk=>exact False.elim hq'
  | cont=>exact False.elim hq'
theorem JE (M:Mk X.K C f) (F:aQ X.prog X.w X.K X.mg X.base CX k f fd ps sp) (hr:bV (k + 1) X.A) (hg:Gl X x) (hm:X.mg x=some (.ref C)) (hb:Binds X.K fd ps ds) (hd:Vals dvs ds) (hx:Passes CX X E)
  (ha:PA X (e :: es) t) (hdb:(x == ("__debug__":Str))=false:=by decide) (he:starEach (e :: es) X.env=(false,eval e X.env) :: starEach es X.env:=by rfl) (hpl:(backTo pos (starEach es X.env)).any (·.1)=false:=by rfl) :
  PE X (.Call (.Name x p) (e :: es) [] pos) (HD C sp dvs E t):=by
 intro pins s σ H Q I h
 refine wpAny_Call_Name_kw (lN I hg hm ?_ hdb)
 refine PySem.W.callWith_K (h₀:=X.base) I.ok.mod.kin M.kp (cD (ha pos pins s σ H _ I h) λus s1 ⟨vs,H1,I1,r,q⟩=>⟨I1.mO,?_⟩) he hpl
 exact zh M F hr hb hd hx I1 r q
theorem GO (M:Mk X.K C f) (F:aQ X.prog X.w X.K X.mg X.base CX k f fd ps sp) (hr:bV (k + 1) X.A) (hg:Gl X x) (hm:X.mg x=some (.ref C)) (hb:Binds X.K fd ps ds) (hd:Vals dvs ds) (hx:Passes CX X E)
  (hdb:(x == ("__debug__":Str))=false:=by decide):PE X (.Call (.Name x p) [] [] pos) (HD C sp dvs E xR):=by
 intro pins s σ H Q I h
 refine wpAny_Call_Name_kw (lN I hg hm ?_ hdb)
 exact PySem.W.callWith_K0 I.mO M.kp (zh (us:=[]) M F hr hb hd hx I .nil h)
end
section
variable {X:Cx} {CX:tK} {k:Nat} {f C:Addr} {fd:FuncData} {ps ks:List Str} {sp:Sp} {E:XK} {x m:Str} {p pos apos kpos:Pos} {e o:Expr} {es:List Expr} {kws:List Keyword} {te ta:TE} {t tk:TA} {nm:Option Str}
variable {g:List Value→List Value→List Value} {gV:List V→List V→List V}
end
structure aw (N P:List Str) (sc:Scope):Prop where
 kind:sc.kind=.function
 co:sc.isCoroutine=false
 gen:sc.isGenerator=false
 nd:N.Nodup
 pre:N.take P.length=P
 par:∀x∈P,sc.names.lookup x=some .local∨sc.names.lookup x=some .cell
 nofree:∀y∈sc.names,y.2≠.free
theorem uV {kindOf:Str→Option NameKind} {x:Str}:∀{binds:List (Str × Value)} {m:Str→Option Value},(∀v,(x,v) ∉ binds)→bindL kindOf binds m x=m x
 | [],_,_=>rfl
 | (n,v) :: r,m,h=>by
  unfold bindL
  rw [uV λw hw=>h w (UW _ hw)]
  split
  ·have:x≠n:=by rintro rfl;exact h v Va
   simp [this]
  ·rfl
theorem uT {kindOf:Str→Option NameKind} {x:Str}:∀{binds:List (Str × Value)} {m:Str→Option Value},(∀v,(x,v) ∉ binds)→bindC kindOf binds m x=m x
 | [],_,_=>rfl
 | (n,v) :: r,m,h=>by
  unfold bindC
  rw [uT λw hw=>h w (UW _ hw)]
  split
  ·rfl
  ·have:x≠n:=by rintro rfl;exact h v Va
   simp [this]
theorem uU {kindOf:Str→Option NameKind} {x:Str} {v:Value}:∀{P:List Str} {vs:List Value} {i:Nat} {m:Str→Option Value},P.Nodup→P[i]?=some x→vs[i]?=some v→kindOf x=some .local →
  bindL kindOf (P.zip vs) m x=some v
 | [],_,_,_,_,h,_,_=>by simp at h
 | _ :: _,[],_,_,_,_,h,_=>by simp at h
 | p :: P,w :: vs,0,m,nd,h1,h2,hk=>by
  simp at h1 h2;subst h1;subst h2
  show bindL kindOf ((p,w) :: P.zip vs) m p=_
  unfold bindL
  rw [uV λv hv=>(Vz.mp nd).1 (Wn hv).1,if_pos hk]
  simp
 | p :: P,w :: vs,i + 1,m,nd,h1,h2,hk=>by
  show bindL kindOf ((p,w) :: P.zip vs) m x=_
  unfold bindL
  exact uU (i:=i) (Vz.mp nd).2 (by simpa using h1) (by simpa using h2) hk
theorem uS {kindOf:Str→Option NameKind} {x:Str} {v:Value}:∀{P:List Str} {vs:List Value} {i:Nat} {m:Str→Option Value},P.Nodup→P[i]?=some x→vs[i]?=some v→kindOf x≠some .local →
  bindC kindOf (P.zip vs) m x=some v
 | [],_,_,_,_,h,_,_=>by simp at h
 | _ :: _,[],_,_,_,_,h,_=>by simp at h
 | p :: P,w :: vs,0,m,nd,h1,h2,hk=>by
  simp at h1 h2;subst h1;subst h2
  show bindC kindOf ((p,w) :: P.zip vs) m p=_
  unfold bindC
  rw [uT λv hv=>(Vz.mp nd).1 (Wn hv).1,if_neg hk]
  simp
 | p :: P,w :: vs,i + 1,m,nd,h1,h2,hk=>by
  show bindC kindOf ((p,w) :: P.zip vs) m x=_
  unfold bindC
  exact uS (i:=i) (Vz.mp nd).2 (by simpa using h1) (by simpa using h2) hk
def start (N:List Str) (vs:List V):St:=vs.map some ++ Vn (N.length - vs.length) none
def vZ (CX:tK) (P:Program) (w:World) (K:PySem.W.Frag) (mg:Str→Option Value) (base:Heap) (N:List Str) (qual:Str) (scope:Scope) (f:Addr) (cd:Value) (A:Around) (outer:List Env) (s:Shared) (H:Hp) (E:XK):Cx where
 prog:=P
 w:=w
 K:=K
 mg:=mg
 base:=base
 A:=A.deeper (envOfC qual scope s.heap.objs.size f cd)
 N:=N
 s₀:=s
 H₀:=H
 env:=envOfC qual scope s.heap.objs.size f cd
 outer:=outer
 stack:=envOfC qual scope s.heap.objs.size f cd :: outer
 ex:=[]
 calm:=true
 fn:=λ_=>true
 pn:=[]
 xe:=λe s'=>wpAny (model P w) (A.deeper (envOfC qual scope s.heap.objs.size f cd)) (leaving (envOfC qual scope s.heap.objs.size f cd) e) (λ_ s''=>CX outer H s E e s'') (λe' s''=>CX outer H s E e' s'') s'
theorem yo {sc:Scope} {n:Nat} {x:Str} (h:sc.names.lookup x=some .cell):∃c,(cellsFrom n sc.names []).lookup x=some c:=by
 have q:=PySem.W.cellsFrom_some sc.names n [] (.inl h)
 exact Wd.mp q
theorem DO {CX:tK} {P:Program} {w:World} {K:PySem.W.Frag} {mg:Str→Option Value} {base:Heap} {N ps:List Str} {qual:Str} {scope:Scope} {f:Addr} {cd:Value} {A:Around} {outer:List Env} {s s1:Shared} {H:Hp} {E:XK} {us:List Value} {vs:List V}
  (S:aw N ps scope) (hd:A.handled=none) (e0:Aa P w K mg base A outer s H) (hl:vs.length=ps.length) (r:Vals vs us)
  (x:InCallC s s.heap.objs.size (bindL (envOfC qual scope s.heap.objs.size f cd).kindOf (ps.zip us) λ_=>none) (cellsFrom (s.heap.objs.size + 1) scope.names []) (bindC (envOfC qual scope s.heap.objs.size f cd).kindOf (ps.zip us) λ_=>none) s1) :
  Inv (vZ CX P w K mg base N qual scope f cd A outer s H E) [] (start N vs) H s1:=by
 have hpl:ps.length≤N.length:=by have:=congrArg Vl S.pre;rw [UR] at this;omega
 obtain ⟨h1,tk,rfl,hk⟩:=x.done
 have noA:∀b:Addr,b ∉ (vZ CX P w K mg base N qual scope f cd A outer s H E).ex:=λb z=>absurd (show b∈([]:List Addr) from z) (by simp)
 refine ⟨⟨e0.mod,S.kind,rfl,rfl,Ux _,λy z c h1 h2=>?_,λy hy=>?_,λy c _ h=>?_,λ_=>hd,Around.frames_deeper e0.frames,.inr ⟨rfl,rfl⟩,λb z=>absurd z (noA b),e0.bs,e0.bsz,λb _ _=>noA b,λb z=>absurd z (noA b),e0.mM,e0.frf⟩,
  rfl,e0.bare,Un.kept hk,⟨_,x.toInCall.ns,λi y v h1 h2 h3=>?_⟩,λy c h=>⟨_,x.cell y c h⟩,e0.hok.fresh (Ux _),λy c h=>?_,λp hp=>absurd (show p∈([]:List (Addr × Obj)) from hp) (by simp),e0.hok.kept hk,?_⟩
 ·exact name_of_addr x.apart (PySem.mem_of_lookup h1) (PySem.mem_of_lookup h2)
 ·have hy:scope.names.lookup y=some .cell∨scope.names.lookup y=some .free:=hy
  rcases hy with hy | hy
  ·exact yo hy
  ·exact absurd rfl (S.nofree _ (PySem.mem_of_lookup hy))
 ·exact V_ (x.above y c (PySem.mem_of_lookup h))
 ·have hi:i < vs.length:=by
   unfold start at h2
   by_cases hi:i < vs.length
   ·exact hi
   ·rw [Vs (by simpa using hi)] at h2
    rw [Wf] at h2
    split at h2 <;> cases h2
  have ha:vs[i]?=some v:=by
   unfold start at h2
   rw [Vx (by simpa using hi),Uz] at h2
   cases e:vs[i]? with
   | none=>rw [e] at h2;cases h2
   | some a=>rw [e] at h2;cases h2;rfl
  obtain ⟨u,hu,rv⟩:=r.get ha
  have hp:ps[i]?=some y:=by
   rw [← S.pre,List.getElem?_take_of_lt (by omega)];exact h1
  have ndP:ps.Nodup:=by rw [← S.pre];exact S.nd.sublist (VA _ _)
  refine ⟨u,rv,?_⟩
  rcases S.par y (Uw hp) with k | k
  ·exact .inl ⟨k,uU ndP hp hu k⟩
  ·obtain ⟨c,e⟩:=yo (n:=s.heap.objs.size + 1) k
   refine .inr ⟨.inl k,c,e,?_⟩
   have q:=x.cell y c e
   rw [uS ndP hp hu (by show scope.names.lookup y≠_;rw [k];decide)] at q
   exact q
 ·exact e0.hok.fresh (V_ (x.above y c (PySem.mem_of_lookup h)))
 ·unfold start
  show _=N.length
  rw [UP,Us,Wo]
  omega
theorem FC {CX:tK} {P:Program} {w:World} {K:PySem.W.Frag} {mg:Str→Option Value} {base:Heap} {k:Nat} {f:Addr} {name qual:Str} {params:Arguments} {body:List Stmt} {scope:Scope} {dV kV doc pm cdv ct oc:Value} {an od:Option Addr}
  {osl:Array (Option Value)} {N ps:List Str} {sp:Sp} (lk:K.lookup f=some ⟨oc,od,.func (PySem.W.fnOf name qual params body scope dV kV doc pm an cdv ct),osl⟩) (hcd:PySem.W.codeIn K cdv qual=true) (S:aw N ps scope)
  (len:∀vs H Q E,sp vs H Q E→vs.length=ps.length)
  (hbody:∀(A:Around) (outer:List Env) (s:Shared) (H:Hp) (vs:List V) (Q:VK) (E:XK),bV k (A.deeper (envOfC qual scope s.heap.objs.size f cdv))→sp vs H Q E →
   ∃t,tM (vZ CX P w K mg base N qual scope f cdv A outer s H E) body t∧t { nx:=λ_ H'=>Q .non H',rt:=Q } (start N vs) H) :
  aQ P w K mg base CX (k + 1) f (PySem.W.fnOf name qual params body scope dV kV doc pm an cdv ct) ps sp:=by
 refine ⟨len,λA outer s H args us vs Q E hr e0 hb r hsp=>?_⟩
 have hl:=len _ _ _ _ hsp
 have KX:K.In s.heap:=e0.mod.kin.keeps λb o e=>(e0.bs b o e).1
 have lim:s.heap.NoLimit:=e0.mod.nolimit.keeps λb o e=>(e0.bs b o e).1
 have hkind:∀y∈ps.zip us,scope.names.lookup y.1=some .local∨(scope.names.lookup y.1=some .cell∧((cellsFrom (s.heap.objs.size + 1) scope.names []).lookup y.1).isSome=true):=λ⟨n,v⟩ hy=>by
  rcases S.par n (Wn hy).1 with q | q
  ·exact .inl q
  ·exact .inr ⟨q,PySem.W.cellsFrom_some _ _ _ (.inl q)⟩
 refine codeAny_call_function hr.depth (KX _ _ lk) rfl S.co S.gen rfl (PySem.W.codeRec_of KX hcd) (hb _ _ _ _ ?_)
 refine wpAny_newFunctionEnv_cells S.kind hkind λenv he s1 x=>?_
 subst he
 refine ⟨lim.keeps x.toInCall.keep,codeAny_func ?_⟩
 obtain ⟨t,ht,hq⟩:=hbody A outer s H vs Q E (hr.deeper _) hsp
 have I:Inv (vZ CX P w K mg base N qual scope f cdv A outer s H E) [] (start N vs) H s1:=DO S hr.hd e0 hl r x
 refine wpAny_mono (ht [] s1 (start N vs) H _ I hq) (λfl s' hs=>?_) λe s' hs=>hs
 have fin:∀{σ':St} {H':Hp} {v:V} {u:Value},Inv (vZ CX P w K mg base N qual scope f cdv A outer s H E) [] σ' H' s'→RelV v u→Q v H'→CE outer P w H s Q u s' :=
  λ{σ' H' v u} J rv q=>⟨v,H',J.os,J.bare,J.base,J.hok,rv,q⟩
 cases fl with
 | ret u =>
  obtain ⟨v,σ',H',J,rv,q⟩:=hs
  exact fin J rv q
 | next =>
  obtain ⟨σ',H',J,q⟩:=hs
  exact fin (v:=V.non) (u:=Value.none) J rfl q
 | brk =>
  obtain ⟨_,_,_,q⟩:=hs
  exact False.elim q
 | cont =>
  obtain ⟨_,_,_,q⟩:=hs
  exact False.elim q
end L2
namespace L2
open PySem PySem.Spec PyProof.Rows
section
variable {X:Cx} {x:Str} {p pos:Pos} {e:Expr} {es:List Expr} {t:TA} {id T:String} {r:List V→Hp→VK→Prop}
def Ko (r:List V→Hp→VK→Prop) (t:TA):TE:=λσ H Q=>t σ H λvs H1=>r vs H1 Q
theorem bL (hc:cj X (.builtin id) r) (hg:Gl X x) (hm:X.mg x=none) (hv:bootBuiltins x=some (.builtin id)) (ha:PA X (e :: es) t) (hn:x≠"__name__":=by decide) (hdb:(x == ("__debug__":Str))=false:=by decide)
  (he:starEach (e :: es) X.env=(false,eval e X.env) :: starEach es X.env:=by rfl) (hpl:(backTo pos (starEach es X.env)).any (·.1)=false:=by rfl):PE X (.Call (.Name x p) (e :: es) [] pos) (Ko r t):=by
 intro pins s σ H Q I h
 refine wpAny_Call_Name_kw (mP I hg hm hv ?_ hn hdb)
 exact PyProof.Rows.callWith_builtin1 (cD (ha pos pins s σ H _ I h) λus s1 ⟨vs,H1,I1,r1,q1⟩=>hc pins s1 σ H1 vs us Q I1 r1 q1) he hpl
theorem pj (hc:cj X (.type T) r) (hg:Gl X x) (hm:X.mg x=none) (hv:bootBuiltins x=some (.type T)) (ha:PA X (e :: es) t) (hn:x≠"__name__":=by decide) (hdb:(x == ("__debug__":Str))=false:=by decide)
  (he:starEach (e :: es) X.env=(false,eval e X.env) :: starEach es X.env:=by rfl) (hpl:(backTo pos (starEach es X.env)).any (·.1)=false:=by rfl):PE X (.Call (.Name x p) (e :: es) [] pos) (Ko r t):=by
 intro pins s σ H Q I h
 refine wpAny_Call_Name_kw (mP I hg hm hv ?_ hn hdb)
 exact PyProof.Rows.callWith_type1 (cD (ha pos pins s σ H _ I h) λus s1 ⟨vs,H1,I1,r1,q1⟩=>hc pins s1 σ H1 vs us Q I1 r1 q1) he hpl
end
end L2
namespace HT
open PySem PyProof.Rows
def lexLt:List Int→List Int→Bool
 | [],[]=>false
 | [],_ :: _=>true
 | _ :: _,[]=>false
 | x :: xs,y :: ys=>if x=y then lexLt xs ys else decide (x < y)
section
open PySem.SeqAt
open PySem.AutoSeq1 (wpAny_loadPart')
open PySem.MeetsSeq PySem.MeetsSeq2 PySem.MeetsSeq3
end
section
variable {prog:Program} {w:World} {A:Around} {E:Value→Shared→Prop} {s:Shared}
def dZ (n d:Nat):Option Int→Nat
 | none=>d
 | some v=>if v < 0 then (v + (n:Int)).toNat else min v.toNat n
theorem zi (n d:Nat):dZ n d none=d:=rfl
theorem xi (n d k:Nat):dZ n d (some (k:Int))=min k n:=by
 show (if (k:Int) < 0 then ((k:Int) + (n:Int)).toNat else min (k:Int).toNat n)=min k n
 rw [if_neg (by omega),Int.toNat_natCast]
theorem NQ (n d:Nat) (hd:d≤n) (o:Option Int):dZ n d o≤n:=by
 cases o with
 | none=>exact hd
 | some v =>
  show (if v < 0 then (v + (n:Int)).toNat else min v.toNat n)≤n
  by_cases hv:v < 0
  ·rw [if_pos hv];omega
  ·rw [if_neg hv];exact Nat.min_le_right _ _
theorem BP (v:Int) (n d:Nat):(if v < 0 then max (v + (n:Int)) 0 else min v (n:Int))=((dZ n d (some v):Nat):Int):=by
 show (if v < 0 then max (v + (n:Int)) 0 else min v (n:Int))=(((if v < 0 then (v + (n:Int)).toNat else min v.toNat n):Nat):Int)
 by_cases hv:v < 0
 ·simp only [if_pos hv];omega
 ·simp only [if_neg hv];omega
theorem Al (lo hi:Option Int) (n:Nat):Builtin.Slice.sliceAdjust lo hi 1 (n:Int)=(((dZ n 0 lo:Nat):Int),((dZ n n hi:Nat):Int)):=by
 have h1:¬ ((1:Int) < 0):=by omega
 unfold Builtin.Slice.sliceAdjust
 simp only [h1,if_false]
 refine Prod.ext ?_ ?_
 ·cases lo with
  | none=>rfl
  | some v=>exact BP v n 0
 ·cases hi with
  | none=>rfl
  | some v=>exact BP v n n
theorem A_ (i j:Nat):Builtin.Slice.slicePlaces (i:Int) (j:Int) 1=j - i:=by
 unfold Builtin.Slice.slicePlaces
 have h1:(1:Int) > 0:=by omega
 simp only [h1,if_true,Int.ediv_one]
 split <;> omega
theorem sZ {v:Value} {o:Option Int} {Q:Option Int→Shared→Prop} (p:IsPart v o) (h:Q o s):wpAny (model prog w) A (Builtin.Slice.slicePartIndex v) Q E s:=by
 cases p with
 | none=>exact slicePart_none h
 | int i t=>exact slicePart_int h
theorem pO {sl:Addr} {vl vu:Value} {lo hi:Option Int} {n:Nat} {Q:Int × Int × Nat→Shared→Prop} (hs:s.heap.IsSliceOf sl vl vu .none) (pl:IsPart vl lo) (pu:IsPart vu hi)
  (h:Q (((dZ n 0 lo:Nat):Int),1,dZ n n hi - dZ n 0 lo) s):wpAny (model prog w) A (Builtin.Slice.sliceApplied (.ref sl) (pure (n:Int))) Q E s:=by
 obtain ⟨os,hos,hcs,hds⟩:=id hs
 unfold Builtin.Slice.sliceApplied Builtin.Slice.sliceFields
 refine wpAny_bind (wpAny_bind (wpAny_field hos hds (x:=vl) rfl (wpAny_bind (wpAny_field hos hds (x:=vu) rfl (wpAny_bind (wpAny_field hos hds (x:=.none) rfl (wpAny_pure ?_)))))))
 refine wpAny_bind (slicePart_none ?_)
 show wpAny _ _ (if ((1:Int) == 0)=true then _ else _) _ _ s
 rw [if_neg (by decide)]
 refine wpAny_bind (sZ pl (wpAny_bind (sZ pu (wpAny_bind (wpAny_pure ?_)))))
 show wpAny _ _ (match Builtin.Slice.sliceAdjust lo hi 1 (n:Int) with | (lo,hi)=>pure (lo,(1:Int),Builtin.Slice.slicePlaces lo hi 1)) _ _ s
 rw [Al lo hi n]
 show wpAny _ _ (pure (((dZ n 0 lo:Nat):Int),(1:Int),Builtin.Slice.slicePlaces ((dZ n 0 lo:Nat):Int) ((dZ n n hi:Nat):Int) 1)) _ _ s
 rw [A_]
 exact wpAny_pure h
theorem GR (xs:Array Value) (i k:Nat):((Vb k).filterMap λ(m:Nat)=>xs[((i:Int) + (m:Int) * 1).toNat]?).toArray=((xs.toList.drop i).take k).toArray:=by
 have e:(λ(m:Nat)=>xs[((i:Int) + (m:Int) * 1).toNat]?)=λm=>xs[i + m]?:=by
  funext m
  have:((i:Int) + (m:Int) * 1).toNat=i + m:=by omega
  rw [this]
 rw [e]
 have:=pick_run xs i k
 rw [List.filterMap_map] at this
 have e2:((λx=>xs[x]?) ∘ λx=>i + x)=λm=>xs[i + m]?:=rfl
 rw [e2] at this
 rw [this]
theorem nQ {t sl:Addr} {items:Array Value} {vl vu:Value} {lo hi:Option Int} {Q:Value→Shared→Prop} (ht:IsTup s.heap t items) (hs:s.heap.IsSliceOf sl vl vu .none) (pl:IsPart vl lo) (pu:IsPart vu hi)
  (hw:¬ (dZ items.size 0 lo=0∧dZ items.size items.size hi=items.size))
  (h:Q (.ref s.heap.objs.size) { s with heap:=s.heap.push { cls:=.type "tuple",data:=.seq ((items.toList.drop (dZ items.size 0 lo)).take (dZ items.size items.size hi - dZ items.size 0 lo)).toArray } })
  (hsz:items.size≤sizeLine):wpAny (model prog w) A (getItem (.ref t) (.ref sl)) Q E s:=by
 have htake:sizeOk (.seq ((items.toList.drop (dZ items.size 0 lo)).take (dZ items.size items.size hi - dZ items.size 0 lo)).toArray):=by
  show ((items.toList.drop (dZ items.size 0 lo)).take (dZ items.size items.size hi - dZ items.size 0 lo)).toArray.size≤sizeLine
  rw [Uy,UR,Vu,Array.length_toList]
  omega
 have hj:dZ items.size items.size hi≤items.size:=NQ _ _ (Ux _) hi
 obtain ⟨os,hos,hcs,hds⟩:=id hs
 have hTs:s.TypeIs (.ref sl) "slice":=⟨os,hos,hcs⟩
 unfold getItem
 try with_reducible refine wpAny_holding ?_
 first | refine wpAny_bind (wpAny_pure ?_) | skip
 refine wpAny_bind (wpAny_sequenceKey ht.typeIs (by decide) ?_)
 refine wpAny_bind (wpAny_callSpecial?_slot (name:=Str.ofString "__getitem__") ht.typeIs PyProof.Rows.slot_tuple_getitem
  (wpAny_call_entry PyProof.Rows.slot_tuple_getitem ht.typeIs entry_tuple_getitem ?_ (args_tuple_getitem _ _)))
 show wpAny _ _ (Builtin.Tuple.tupleItemsOf (.ref t) >>= _) _ _ s
 refine wpAny_bind (tupleItemsOf_ ht ?_)
 refine wpAny_bind (wpAny_typeOf hTs ?_)
 rw [if_pos (by decide)]
 refine wpAny_bind (pO hs pl pu ?_)
 have hno:¬ ((((dZ items.size 0 lo:Nat):Int) == 0 && (1:Int) == 1 && (dZ items.size items.size hi - dZ items.size 0 lo) == items.size)=true):=by
  intro q
  rw [UX,UX] at q
  have q1:((dZ items.size 0 lo:Nat):Int)=0:=eq_of_beq q.1.1
  have q2:dZ items.size items.size hi - dZ items.size 0 lo=items.size:=eq_of_beq q.2
  exact hw ⟨by omega,by omega⟩
 show wpAny _ _ (if (((dZ items.size 0 lo:Nat):Int) == 0 && (1:Int) == 1 && (dZ items.size items.size hi - dZ items.size 0 lo) == items.size)=true then _ else _) _ _ s
 rw [if_neg hno,GR]
 first
  | exact wpAny_bind (m:=Builtin.Tuple.tupleExact _) (wpAny_newObj_type (wpAny_pure ⟨_,rfl,wpAny_pure h⟩) htake)
  | exact wpAny_bind (m:=Builtin.Tuple.tupleExact _) (wpAny_newObj_type (wpAny_bind (wpAny_pure (wpAny_pure ⟨_,rfl,wpAny_pure h⟩))) htake)
  | exact wpAny_bind (wpAny_bind (m:=Builtin.Tuple.tupleExact _) (wpAny_newObj_type (wpAny_pure (wpAny_pure ⟨_,rfl,wpAny_pure h⟩)) htake))
  | exact wpAny_bind (wpAny_bind (m:=Builtin.Tuple.tupleExact _) (wpAny_newObj_type (wpAny_pure ⟨_,rfl,wpAny_pure h⟩) htake))
end
end HT
namespace L2
open PySem PySem.Spec PyProof.Rows
abbrev TO:=St→Hp→(Option Int→Hp→Prop)→Prop
def PO (X:Cx) (e:Option Expr) (t:TO):Prop :=
 ∀(pins:List (Addr × Obj)) (s:Shared) (σ:St) (H:Hp) (Q:Option Int→Hp→Prop),Inv X pins σ H s→t σ H Q →
  wpAny (model X.prog X.w) X.A (evalPart e X.env) (λu s'=>∃o H',Inv X pins σ H' s'∧IsPart u o∧Q o H') X.xe s
def ra:TO:=λ_ H Q=>Q none H
def C_ (t:TE):TO:=λσ H Q=>t σ H λx H1=>∃i,x=.int i∧Q (some i) H1
theorem intsAre_of {ns:List Int}:∀{us:List Value},Vals (ns.map V.int) us→IntsAre us ns:=by
 induction ns with
 | nil=>intro us r;rw [Vo] at r;cases r;exact .nil
 | cons n ns ih =>
  intro us r
  rw [UB] at r
  cases r with
  | cons r1 r2 =>
   obtain ⟨t,e⟩:=r1
   subst e
   exact .cons n t (ih r2)
section
variable {X:Cx} {e:Expr} {te:TE} {lo hi:Option Expr} {tl th:TO} {pos p2:Pos}
theorem qR:PO X none ra:=by
 intro pins s σ H Q I h
 rw [evalPart_none]
 exact wpAny_pure ⟨none,H,I,.none,h⟩
theorem lR (h:PE X e te):PO X (some e) (C_ te):=by
 intro pins s σ H Q I hw
 rw [evalPart_some]
 refine cD (h pins s σ H _ I hw) λu s1 ⟨x,H1,I1,r1,q1⟩=>?_
 obtain ⟨i,rfl,q⟩:=q1
 obtain ⟨t,rfl⟩:=r1
 exact ⟨some i,H1,I1,.int i t,q⟩
def uf (X:Cx) (r:V→Option Int→Option Int→Hp→VK→Prop):Prop :=
 ∀(pins:List (Addr × Obj)) (s:Shared) (σ:St) (H:Hp) (x:V) (v vl vu:Value) (lo hi:Option Int) (sl:Addr) (Q:VK),Inv X pins σ H s→RelV x v→s.heap.IsSliceOf sl vl vu .none→IsPart vl lo→IsPart vu hi→r x lo hi H Q →
  ∃T id,typeLookup (.type T) "__getitem__"=pure (some (.builtin id))∧s.TypeIs v T∧wpAny (model X.prog X.w) X.A (getItem v (.ref sl)) (EP X pins σ Q) X.xe s
theorem uf.or {r r':V→Option Int→Option Int→Hp→VK→Prop} (h:uf X r) (h':uf X r'):uf X (λx lo hi H Q=>r x lo hi H Q∨r' x lo hi H Q):=by
 intro pins s σ H x v vl vu lo hi sl Q I rx hs pl pu q
 rcases q with q | q
 ·exact h pins s σ H x v vl vu lo hi sl Q I rx hs pl pu q
 ·exact h' pins s σ H x v vl vu lo hi sl Q I rx hs pl pu q
def Rn (r:V→Option Int→Option Int→Hp→VK→Prop) (te:TE) (tl th:TO):TE:=λσ H Q=>te σ H λx H1=>tl σ H1 λl H2=>th σ H2 λu H3=>r x l u H3 Q
theorem kM {r:V→Option Int→Option Int→Hp→VK→Prop} (hr:uf X r) (he:PE X e te) (hl:PO X lo tl) (hu:PO X hi th):PE X (.Subscript e (.Slice lo hi none p2) pos) (Rn r te tl th):=by
 intro pins s σ H Q I h
 refine Subscript_ (cD (he pins s σ H _ I h) λv s1 ⟨x,H1,I1,r1,q1⟩=>?_)
 refine wpAny_Slice (cD (hl pins s1 σ H1 _ I1 q1) λvl s2 ⟨l,H2,I2,pl,q2⟩=>cD (hu pins s2 σ H2 _ I2 q2) λvu s3 ⟨u,H3,I3,pu,q3⟩=>?_)
 rw [evalPart_none]
 refine wpAny_pure ?_
 have I4:Inv X pins σ H3 { s3 with heap:=s3.heap.push { cls:=.type "slice",data:=.fields #[vl,vu,.none] } }:=I3.kept (t':=s3.toks) λb ob q=>Heap.get?_push_of_some _ q
 obtain ⟨T,id,hT,ht,hg⟩:=hr pins { s3 with heap:=s3.heap.push { cls:=.type "slice",data:=.fields #[vl,vu,.none] } } σ H3 x v vl vu l u s3.heap.objs.size Q I4 r1 (Heap.IsSliceOf.new ..) pl pu q3
 show wpAny (model X.prog X.w) X.A (subscriptTail e (.Slice lo hi none p2) v (.ref s3.heap.objs.size)) (EP X pins σ Q) X.xe { s3 with heap:=s3.heap.push { cls:=.type "slice",data:=.fields #[vl,vu,.none] } }
 exact tail_any (ops:=[.ref s3.heap.objs.size,v]) ht hT hg (by with_unfolding_all rfl)
def oX (xs:List V) (lo hi:Option Int):List V:=(xs.drop (HT.dZ xs.length 0 lo)).take (HT.dZ xs.length xs.length hi - HT.dZ xs.length 0 lo)
theorem pY (xs:List V) (lo hi:Option Int):(oX xs lo hi).length≤xs.length:=by
 unfold oX
 rw [UR,Vu]
 omega
def SN (K:PySem.W.Frag):V→Option Int→Option Int→Hp→VK→Prop:=λx lo hi H Q=>∃a xs,x=.ref a∧gS K H a xs ∧
 ¬ (HT.dZ xs.length 0 lo=0∧HT.dZ xs.length xs.length hi=xs.length)∧∀p,H p=none→Q (.ref p) (upd H p (.tup (oX xs lo hi)))
theorem NV:uf X (SN X.K):=by
 intro pins s σ H x v vl vu lo hi sl Q I rx hs pl pu h
 obtain ⟨a,xs,rfl,hx,hw,q⟩:=h
 cases rx
 obtain ⟨its,r,ht,hz⟩:=I.tuple hx
 have hlen:its.toArray.size=xs.length:=by rw [Uy];exact r.length.symm
 refine ⟨"tuple",_,PyProof.Rows.slot_tuple_getitem.lookup,ht.typeIs,?_⟩
 refine HT.nQ ht hs pl pu (by rw [hlen];exact hw) ?_ (by rw [hlen];exact hz)
 rw [hlen]
 refine ⟨.ref s.heap.objs.size,_,I.laid (t':=s.toks) (o:=.tup (oX xs lo hi)) (λb ob q=>Heap.get?_push_of_some _ q) (Ux _) ?_,rfl,q _ (I.hok.fresh (Ux _))⟩
 exact ⟨UM (pY xs lo hi) hz,_,(r.drop (HT.dZ xs.length 0 lo)).take (HT.dZ xs.length xs.length hi - HT.dZ xs.length 0 lo),IsTup.new _ _⟩
end
end L2
namespace L2
open PySem PySem.Spec PyProof.Rows
def EO (n:Nat) (i:Int):Option Nat:=if 0≤i then (if i < n then some i.toNat else none) else if -(n:Int)≤i then some (i + n).toNat else none
def dk {α:Type} (xs:List α) (i:Int):Option α:=(EO xs.length i).bind λj=>xs[j]?
theorem Cb {n:Nat} {i:Int} {j:Nat} (h:EO n i=some j):seqIndex? i n=some j∧j < n∧-(n:Int)≤i∧i < n:=by
 unfold EO at h
 by_cases h0:0≤i
 ·rw [if_pos h0] at h
  by_cases h1:i < n
  ·rw [if_pos h1] at h
   have e:i.toNat=j:=Option.some.inj h
   exact ⟨by rw [seqIndex_of h0 h1,e],by omega,by omega,h1⟩
  ·rw [if_neg h1] at h;cases h
 ·rw [if_neg h0] at h
  by_cases h1:-(n:Int)≤i
  ·rw [if_pos h1] at h
   have e:(i + n).toNat=j:=Option.some.inj h
   exact ⟨by rw [seqIndex_neg (by omega) h1,e],by omega,h1,by omega⟩
  ·rw [if_neg h1] at h;cases h
theorem vV {α:Type} {xs:List α} {i:Int} {v:α} (h:dk xs i=some v):∃j,seqIndex? i xs.length=some j∧xs[j]?=some v∧j < xs.length∧-(xs.length:Int)≤i∧i < xs.length:=by
 unfold dk at h
 cases e:EO xs.length i with
 | none=>rw [e] at h;cases h
 | some j =>
  rw [e] at h
  obtain ⟨h1,h2,h3,h4⟩:=Cb e
  exact ⟨j,h1,h,h2,h3,h4⟩
theorem bq {α:Type} {xs:List α} {j:Nat} {v:α} (h:xs[j]?=some v):dk xs (j:Int)=some v:=by
 have hj:j < xs.length:=(Uu.mp h).1
 have e:EO xs.length (j:Int)=some j:=by
  unfold EO
  rw [if_pos (by omega),if_pos (by omega)];simp
 unfold dk;rw [e];exact h
def dq (b:Expr):Prop:=∀o i,subscripted b false o i=operate [o,i] (getItem o i)
def qD (X:Cx) (r:R2):Prop :=
 ∀(value slice:Expr) (pins:List (Addr × Obj)) (s:Shared) (σ:St) (H:Hp) (x y:V) (v u:Value) (Q:VK),Inv X pins σ H s→RelV x v→RelV y u→r x y H Q →
  subscripted slice false v u=operate [v,u] (getItem v u)→wpAny (model X.prog X.w) X.A (subscriptTail value slice v u) (EP X pins σ Q) X.xe s
def qE (X:Cx) (id:String) (r:V→List V→Hp→VK→Prop):Prop :=
 ∀(pins:List (Addr × Obj)) (s:Shared) (σ:St) (H:Hp) (x:V) (xs:List V) (v:Value) (us:List Value) (Q:VK),Inv X pins σ H s→RelV x v→Vals xs us→r x xs H Q →
  wpAny (model X.prog X.w) X.A (call (.builtin id) (v :: us)) (EP X pins σ Q) X.xe s
section
variable {X:Cx} {a b:Expr} {ta tb:TE} {pos:Pos}
theorem qD.or {r r':R2} (h:qD X r) (h':qD X r'):qD X (λx y H Q=>r x y H Q∨r' x y H Q):=by
 intro value slice pins s σ H x y v u Q I rx ry q hs
 rcases q with q | q
 ·exact h value slice pins s σ H x y v u Q I rx ry q hs
 ·exact h' value slice pins s σ H x y v u Q I rx ry q hs
theorem qE.or {id:String} {r r':V→List V→Hp→VK→Prop} (h:qE X id r) (h':qE X id r'):qE X id (λx xs H Q=>r x xs H Q∨r' x xs H Q):=by
 intro pins s σ H x xs v us Q I rx rs q
 rcases q with q | q
 ·exact h pins s σ H x xs v us Q I rx rs q
 ·exact h' pins s σ H x xs v us Q I rx rs q
theorem cn {r:R2} (hr:qD X r) (ha:PE X a ta) (hb:PE X b tb) (hs:dq b):PE X (.Subscript a b pos) (HF r ta tb):=by
 intro pins s σ H Q I h
 exact Subscript_ (Mr ha hb I h λv u s2 x y H2 I2 rx ry q=>hr a b pins s2 σ H2 x y v u Q I2 rx ry q (hs _ _))
def Qe (K:PySem.W.Frag):R2:=λx y H Q=>∃p xs i v,x=.ref p∧y=.int i∧cZ K H p xs∧dk xs i=some v∧Q v H
def Qg (K:PySem.W.Frag):R2:=λx y H Q=>∃p xs i v,x=.ref p∧y=.int i∧gS K H p xs∧dk xs i=some v∧Q v H
def Qf:R2:=λx y H Q=>∃z i c,x=.str z∧y=.int i∧z.length≤sizeLine∧dk z.cps.toList i=some c∧Q (.str ⟨#[c]⟩) H
theorem wc:qD X (Qe X.K):=by
 intro value slice pins s σ H x y v u Q I rx ry h hs
 obtain ⟨p,xs,i,z,rfl,rfl,hq,he,q⟩:=h
 cases rx
 obtain ⟨t,rfl⟩:=ry
 obtain ⟨its,r,pl,hz⟩:=I.list hq
 obtain ⟨j,h1,h2,h3,h4,h5⟩:=vV he
 obtain ⟨w,ew,rw'⟩:=r.get h2
 have hl:=r.length
 have hn:=mR
 have fin:EP X pins σ Q w s:=⟨z,H,I,rw',q⟩
 by_cases h0:0≤i
 ·have hj:i.toNat=j:=by
   rw [seqIndex_of h0 h5] at h1
   exact Option.some.inj h1
  exact item_listR pl.isList h0 (by omega) (by rw [hj];simpa using ew) fin hs
 ·have hj:(i + (its.toArray.size:Int)).toNat=j:=by
   rw [seqIndex_neg (by omega) h4] at h1
   rw [Uy,← hl]
   exact Option.some.inj h1
  exact subscriptTail_builtinR (x:=w) pl.isList.typeIs slot_list_getitem.lookup
   (wpAny_getItem_list_neg (Q:=λr s'=>r=w∧EP X pins σ Q r s') pl.isList (by omega) (by rw [Uy] <;> omega) (by omega) (by rw [hj];simpa using ew) ⟨rfl,fin⟩) hs
theorem c_:qD X (Qg X.K):=by
 intro value slice pins s σ H x y v u Q I rx ry h hs
 obtain ⟨p,xs,i,z,rfl,rfl,hq,he,q⟩:=h
 cases rx
 obtain ⟨t,rfl⟩:=ry
 obtain ⟨its,r,pl,hz⟩:=I.tuple hq
 obtain ⟨j,h1,h2,h3,h4,h5⟩:=vV he
 obtain ⟨w,ew,rw'⟩:=r.get h2
 have hl:=r.length
 have hn:=mR
 have fin:EP X pins σ Q w s:=⟨z,H,I,rw',q⟩
 exact subscriptTail_builtinR (x:=w) pl.typeIs slot_tuple_getitem.lookup
  (getItem_tuple (j:=j) (Q:=λr s'=>r=w∧EP X pins σ Q r s') pl (by omega) (by omega) (by rw [Uy,← hl];exact h1) (by simpa using ew) ⟨rfl,fin⟩) hs
theorem F2:qD X Qf:=by
 intro value slice pins s σ H x y v u Q I rx ry h hs
 obtain ⟨z,i,c,rfl,rfl,hz,he,q⟩:=h
 obtain ⟨t,rfl⟩:=rx
 obtain ⟨t',rfl⟩:=ry
 obtain ⟨j,h1,h2,h3,h4,h5⟩:=vV he
 have hl:z.cps.toList.length=z.length:=by simp [Str.length]
 rw [hl] at h1 h4 h5
 have hn:=mR
 exact tail_any (typeIs_str s z t) slot_str_getitem.lookup (getItem_str (c:=c) (by
  have e1:decide (i < -(2 ^ 63:Int))=false:=decide_eq_false (by omega)
  have e2:decide (i ≥ 2 ^ 63)=false:=decide_eq_false (by omega)
  rw [e1,e2,Bool.or_false]) (by rw [h1];simpa using h2) ⟨.str ⟨#[c]⟩,H,I.tok _,⟨_,rfl⟩,q⟩) hs
theorem AQ (its:List Value) (n j:Nat) (u:Value):Obj.mapSeq (·.setIfInBounds j u) { cls:=.type "list",data:=.seq its.toArray n }={ cls:=.type "list",data:=.seq (its.set j u).toArray n }:=by
 simp [Obj.mapSeq]
theorem Inv.lst {pins:List (Addr × Obj)} {σ:St} {H:Hp} {s:Shared} {p:Addr} {xs:List V} (I:Inv X pins σ H s) (h:H p=some (.lst xs)) :
  ∃(its:List Value) (n:Nat),Vals xs its∧s.heap.get? p=some { cls:=.type "list",data:=.seq its.toArray n }∧xs.length≤sizeLine:=by
 obtain ⟨z,its,n,r,e⟩:=I.hok p _ h
 exact ⟨its,n,r,e,z⟩
theorem Inv.M0 {pins:List (Addr × Obj)} {σ:St} {H:Hp} {s:Shared} {p:Addr} {xs ys:List V} {its its':List Value} {n n':Nat} {f:Obj→Obj} (I:Inv X pins σ H s) (h:H p=some (.lst xs))
  (ho:s.heap.get? p=some { cls:=.type "list",data:=.seq its.toArray n }) (hf:f { cls:=.type "list",data:=.seq its.toArray n }={ cls:=.type "list",data:=.seq its'.toArray n' }) (r:Vals ys its') (hz:ys.length≤sizeLine) (t:Nat) :
  Inv X pins σ (upd H p (.lst ys)) { s with heap:=s.heap.update p f,toks:=t }:=by
 have e:(s.heap.update p f).get? p=some { cls:=.type "list",data:=.seq its'.toArray n' }:=by
  rw [Heap.get?_update_self f ho (by rw [hf] <;> rfl),hf]
 refine I.write (x:=p) (e:=p) (by rw [h];trivial) (.inl rfl) (λb u hb q=>(Heap.get?_update_other _ _ (Ne.symm hb)).trans q) ⟨_,e⟩ ?_
 exact ⟨hz,its',n',r,e⟩
def LC:V→V→V→Hp→(Hp→Prop)→Prop:=λo i v H Q=>∃p xs k j,o=.ref p∧i=.int k∧H p=some (.lst xs)∧EO xs.length k=some j∧Q (upd H p (.lst (xs.set j v)))
theorem set_list:kg X LC:=by
 intro pins s σ H o i v ov iv u Q I ro ri rv h
 obtain ⟨p,xs,k,j,rfl,rfl,hp,hj,q⟩:=h
 cases ro
 obtain ⟨t,rfl⟩:=ri
 obtain ⟨its,n,r,ho,hz⟩:=I.lst hp
 obtain ⟨h1,h2,h3,h4⟩:=Cb hj
 have hl:=r.length
 have hn:=mR
 have I':Inv X pins σ (upd H p (.lst (xs.set j v))) { s with heap:=s.heap.update p (Obj.mapSeq (·.setIfInBounds j u)) } :=
  I.M0 hp ho (AQ its n j u) (r.set rv j) (by rw [VN];exact hz) s.toks
 by_cases h0:0≤k
 ·have hk:k.toNat=j:=by
   rw [seqIndex_of h0 h4] at h1
   exact Option.some.inj h1
  exact PySem.W.ki_setAt ho h0 (by omega) (by rw [Uy,← hl];exact h4) (by rw [hk];exact ⟨_,I',q⟩)
 ·have hk:(k + (its.toArray.size:Int)).toNat=j:=by
   rw [seqIndex_neg (by omega) h3] at h1
   rw [Uy,← hl]
   exact Option.some.inj h1
  exact PySem.W.ki_setBack ho (by omega) (by rw [Uy,← hl];exact h3) (by omega) (by rw [hk];exact ⟨_,I',q⟩)
theorem xC (lo hi:Option Int) (n:Nat):(sliceBounds lo hi none n).1=((HT.dZ n 0 lo:Nat):Int)∧(sliceBounds lo hi none n).2.1=((HT.dZ n n hi:Nat):Int)∧(sliceBounds lo hi none n).2.2=1:=by
 refine ⟨?_,?_,rfl⟩
 ·cases lo with
  | none=>simp [sliceBounds,HT.dZ]
  | some i =>
   simp only [sliceBounds,HT.dZ,WK,show (1:Int) > 0 by decide,if_true]
   by_cases h:i < 0
   ·simp only [h,if_true] <;> omega
   ·simp only [h,if_false] <;> omega
 ·cases hi with
  | none=>simp [sliceBounds,HT.dZ]
  | some i =>
   simp only [sliceBounds,HT.dZ,WK,show (1:Int) > 0 by decide,if_true]
   by_cases h:i < 0
   ·simp only [h,if_true] <;> omega
   ·simp only [h,if_false] <;> omega
theorem uM (its:List Value) (lo hi:Option Int):slicePick its.toArray lo hi none=((its.drop (HT.dZ its.length 0 lo)).take (HT.dZ its.length its.length hi - HT.dZ its.length 0 lo)).toArray:=by
 obtain ⟨h1,h2,h3⟩:=xC lo hi its.toArray.size
 unfold slicePick
 rw [h1,h2,h3]
 simp only [sliceRange_one,pick_run,Uy] <;> rfl
def Qp (K:PySem.W.Frag):V→Option Int→Option Int→Hp→VK→Prop:=λx lo hi H Q=>∃a xs,x=.ref a∧cZ K H a xs∧∀p,H p=none→Q (.ref p) (upd H p (.lst (oX xs lo hi)))
theorem xB:uf X (Qp X.K):=by
 intro pins s σ H x v vl vu lo hi sl Q I rx hs pl pu h
 obtain ⟨a,xs,rfl,hx,q⟩:=h
 cases rx
 obtain ⟨its,r,ht,hz⟩:=I.list hx
 have hlen:=r.length
 refine ⟨"list",_,slot_list_getitem.lookup,ht.isList.typeIs,?_⟩
 refine wpAny_getItem_list_slice ht.isList hs pl pu .none (by simp) ?_ (by rw [Uy] <;> omega)
 rw [uM,← hlen]
 refine ⟨.ref s.heap.objs.size,_,I.laid (t':=s.toks) (o:=.lst (oX xs lo hi)) (λb ob q=>Heap.get?_push_of_some _ q) (Ux _) ?_,rfl,q _ (I.hok.fresh (Ux _))⟩
 exact ⟨UM (pY xs lo hi) hz,_,0,(r.drop (HT.dZ xs.length 0 lo)).take (HT.dZ xs.length xs.length hi - HT.dZ xs.length 0 lo),Heap.get?_push_size _ rfl⟩
def jY:V→Bool
 | .non=>true
 | .bl _=>true
 | .int _=>true
 | .str _=>true
 | _=>false
def HU:V→V→Bool
 | .non,.non=>true
 | .bl a,.bl b=>a == b
 | .bl a,.int b=>(if a then 1 else 0) == b
 | .int a,.bl b=>a == (if b then 1 else 0)
 | .int a,.int b=>a == b
 | .str a,.str b=>a == b
 | _,_=>false
theorem MB {A:Around} {s:Shared} {y x:V} {u v:Value} (ry:RelV y u) (rx:RelV x v) (fy:jY y=true) (fx:jY x=true):SeqAt.EqAt A s u v (HU y x):=by
 cases y with
 | non =>
  cases ry
  cases x with
  | non=>cases rx;exact SeqAt.EqAt.same _
  | bl b=>cases rx;exact SeqAt.EqAt.none_bool b
  | int b=>obtain ⟨t,rfl⟩:=rx;exact SeqAt.EqAt.none_int b t
  | str b=>obtain ⟨t,rfl⟩:=rx;exact SeqAt.EqAt.none_str b t
  | _=>exact absurd (show false=true from fx) UJ
 | bl a =>
  cases ry
  cases x with
  | non=>cases rx;exact SeqAt.EqAt.bool_none a
  | bl b=>cases rx;exact SeqAt.EqAt.bool_bool a b
  | int b=>obtain ⟨t,rfl⟩:=rx;exact SeqAt.EqAt.bool_int a b t
  | str b=>obtain ⟨t,rfl⟩:=rx;exact SeqAt.EqAt.bool_str a b t
  | _=>exact absurd (show false=true from fx) UJ
 | int a =>
  obtain ⟨t',rfl⟩:=ry
  cases x with
  | non=>cases rx;exact SeqAt.EqAt.int_none a t'
  | bl b=>cases rx;exact SeqAt.EqAt.int_bool a t' b
  | int b=>obtain ⟨t,rfl⟩:=rx;exact SeqAt.EqAt.int_int a t' b t
  | str b=>obtain ⟨t,rfl⟩:=rx;exact SeqAt.EqAt.int_str a t' b t
  | _=>exact absurd (show false=true from fx) UJ
 | str a =>
  obtain ⟨t',rfl⟩:=ry
  cases x with
  | non=>cases rx;exact SeqAt.EqAt.str_none a t'
  | bl b=>cases rx;exact SeqAt.EqAt.str_bool a t' b
  | int b=>obtain ⟨t,rfl⟩:=rx;exact SeqAt.EqAt.str_int a t' b t
  | str b=>obtain ⟨t,rfl⟩:=rx;exact SeqAt.EqAt.str_str a t' b t
  | _=>exact absurd (show false=true from fx) UJ
 | _=>exact absurd (show false=true from fy) UJ
def Ax (x:V) (u:Value):Bool:=match u with
 | .none=>HU .non x
 | .bool b=>HU (.bl b) x
 | .int i _=>HU (.int i) x
 | .str z _=>HU (.str z) x
 | _=>false
theorem Fz {x y:V} {u:Value} (r:RelV y u) (f:jY y=true):Ax x u=HU y x:=by
 cases y with
 | non=>cases r;rfl
 | bl b=>cases r;rfl
 | int i=>obtain ⟨t,rfl⟩:=r;rfl
 | str z=>obtain ⟨t,rfl⟩:=r;rfl
 | _=>exact absurd (show false=true from f) UJ
theorem nI {x:V}:∀{xs:List V} {us:List Value},Vals xs us→xs.all jY=true→us.any (Ax x)=xs.any λy=>HU y x
 | _,_,.nil,_=>rfl
 | y :: xs,u :: us,.cons r t,f=>by
  rw [WB,UX] at f
  rw [VO,VO,Fz r f.1,nI t f.2]
theorem kL {A:Around} {s:Shared} {x:V} {v:Value} (rx:RelV x v) (fx:jY x=true):∀{xs:List V} {us:List Value},Vals xs us→xs.all jY=true→∀u∈us,SeqAt.EqAt A s u v (Ax x u)
 | _,_,.nil,_=>λu hu=>by cases hu
 | y :: xs,u :: us,.cons r t,f=>λu' hu=>by
  rw [WB,UX] at f
  rcases UI.mp hu with rfl | hu
  ·rw [Fz r f.1];exact MB r rx f.1 fx
  ·exact kL rx fx t f.2 u' hu
def Om (x:V) (xs:List V):Bool:=xs.any λy=>HU y x
def T2 (K:PySem.W.Frag) (neg:Bool):R2:=λx y H Q=>∃p xs,y=.ref p∧(cZ K H p xs∨gS K H p xs)∧jY x=true∧xs.all jY=true∧Q (.bl (if neg then !Om x xs else Om x xs)) H
theorem Ej:fz X (compareOp .In) (T2 X.K false):=by
 intro pins s σ H x y v u Q I rx ry h
 obtain ⟨p,xs,rfl,hq,fx,fs,q⟩:=h
 cases ry
 rcases hq with hq | hq
 ·obtain ⟨its,r,pl,hz⟩:=I.list hq
  refine SeqAt.in_listAt (Ax x) pl.isList (λw hw=>kL rx fx r fs w (by simpa using hw)) ⟨.bl _,H,I,rfl,?_⟩
  rw [show its.toArray.any (Ax x)=its.any (Ax x) by simp,nI r fs]
  exact q
 ·obtain ⟨its,r,pl,hz⟩:=I.tuple hq
  refine SeqAt.in_tupleAt (Ax x) pl (λw hw=>kL rx fx r fs w (by simpa using hw)) ⟨.bl _,H,I,rfl,?_⟩
  rw [show its.toArray.any (Ax x)=its.any (Ax x) by simp,nI r fs]
  exact q
theorem wK:fz X (compareOp .NotIn) (T2 X.K true):=by
 intro pins s σ H x y v u Q I rx ry h
 obtain ⟨p,xs,rfl,hq,fx,fs,q⟩:=h
 cases ry
 rcases hq with hq | hq
 ·obtain ⟨its,r,pl,hz⟩:=I.list hq
  refine SeqAt.notIn_listAt (Ax x) pl.isList (λw hw=>kL rx fx r fs w (by simpa using hw)) ⟨.bl _,H,I,rfl,?_⟩
  rw [show its.toArray.any (Ax x)=its.any (Ax x) by simp,nI r fs]
  exact q
 ·obtain ⟨its,r,pl,hz⟩:=I.tuple hq
  refine SeqAt.notIn_tupleAt (Ax x) pl (λw hw=>kL rx fx r fs w (by simpa using hw)) ⟨.bl _,H,I,rfl,?_⟩
  rw [show its.toArray.any (Ax x)=its.any (Ax x) by simp,nI r fs]
  exact q
theorem jh:cj X (.builtin "len") (λxs H Q=>∃p ys,xs=[.ref p]∧(cZ X.K H p ys∨gS X.K H p ys)∧Q (.int ys.length) H):=by
 intro pins s σ H xs us Q I r h
 obtain ⟨p,ys,rfl,hq,q⟩:=h
 obtain ⟨u,rfl,rx⟩:=vals1 r
 cases rx
 have hn:=mR
 rcases hq with hq | hq
 ·obtain ⟨its,r',pl,hz⟩:=I.list hq
  have hlen:=r'.length
  exact Calls.call_len_list pl.isList (by simp only [Uy] <;> omega) ⟨.int ys.length,H,I.tok _,⟨s.toks + 1,by rw [Uy,hlen]⟩,q⟩
 ·obtain ⟨its,r',pl,hz⟩:=I.tuple hq
  have hlen:=r'.length
  exact len_tuple pl (by simp only [Uy] <;> omega) ⟨.int ys.length,H,I.tok _,⟨s.toks + 1,by rw [Uy,hlen]⟩,q⟩
theorem nK:cj X (.builtin "len") (λxs H Q=>∃z,xs=[.str z]∧z.length≤sizeLine∧Q (.int z.length) H):=by
 intro pins s σ H xs us Q I r h
 obtain ⟨z,rfl,hz,q⟩:=h
 obtain ⟨u,rfl,t,rfl⟩:=vals1 r
 have hn:=mR
 exact len_str (by omega) ⟨.int z.length,H,I.tok _,⟨_,rfl⟩,q⟩
theorem cj.or {f:Value} {r r':List V→Hp→VK→Prop} (h:cj X f r) (h':cj X f r'):cj X f (λxs H Q=>r xs H Q∨r' xs H Q):=by
 intro pins s σ H xs us Q I rs q
 rcases q with q | q
 ·exact h pins s σ H xs us Q I rs q
 ·exact h' pins s σ H xs us Q I rs q
theorem vX:cj X (.type "list") (λxs H Q=>∃p ys,xs=[.ref p]∧(cZ X.K H p ys∨gS X.K H p ys)∧∀l,H l=none→Q (.ref l) (upd H l (.lst ys))):=by
 intro pins s σ H xs us Q I r h
 obtain ⟨p,ys,rfl,hq,q⟩:=h
 obtain ⟨u,rfl,rx⟩:=vals1 r
 cases rx
 have fin:∀(its:List Value),Vals ys its→ys.length≤sizeLine→∀(h':Heap) (c':Nat),(∀b o',s.heap.get? b=some o'→h'.get? b=some o') →
   h'.get? s.heap.objs.size=some { cls:=.type "list",dict:=none,data:=.seq its.toArray c',slots:=#[] }→EP X pins σ Q (.ref s.heap.objs.size) { s with heap:=h' }:=λits r' hz h' c' kp e =>
  ⟨.ref s.heap.objs.size,_,I.laid (t':=s.toks) kp (Ux _) (show dB X.prog X.w _ h' _ (.lst ys) from ⟨hz,its,c',r',e⟩),rfl,q _ (I.hok.fresh (Ux _))⟩
 rcases hq with hq | hq
 ·obtain ⟨its,r',pl,hz⟩:=I.list hq
  have hlen:=r'.length
  obtain ⟨o,ho,hc,n,hd⟩:=pl.isList
  exact call_list_seq p (.inl rfl) ho hc hd (λh' c' kp e=>fin its r' hz h' c' kp e) (by simp only [Uy] <;> omega)
 ·obtain ⟨its,r',pl,hz⟩:=I.tuple hq
  have hlen:=r'.length
  obtain ⟨o,ho,hc,n,hd⟩:=pl
  exact call_list_seq p (.inr rfl) ho hc hd (λh' c' kp e=>fin its r' hz h' c' kp e) (by simp only [Uy] <;> omega)
def Rq (K:PySem.W.Frag) (T:String) (x:V) (H:Hp):Prop:=match x with
 | .str _=>T="str"
 | .int _=>T="int"
 | .ref p=>(T="list"∧∃xs,cZ K H p xs)∨(T="tuple"∧∃o,K.lookup p=some o∧o.cls=.type "tuple"∧o.dict=none) ∨
   (T="dict"∧((∃kvs,H p=some (.dK kvs))∨∃kvs ep,H p=some (.dE kvs ep)))∨(T="set"∧∃S n,H p=some (.set S n))
 | _=>False
theorem HJ {pins:List (Addr × Obj)} {σ:St} {H:Hp} {s:Shared} {T:String} {x:V} {v:Value} (I:Inv X pins σ H s) (r:RelV x v) (ty:Rq X.K T x H) :
  s.TypeIs v T∧∀a,v=.ref a→∃ob,s.heap.get? a=some ob∧ob.dict=none:=by
 cases x with
 | str z =>
  obtain ⟨t,rfl⟩:=r
  cases (show T="str" from ty)
  exact ⟨typeIs_str s z t,λ_ e=>nomatch e⟩
 | int i =>
  obtain ⟨t,rfl⟩:=r
  cases (show T="int" from ty)
  exact ⟨typeIs_int s i t,λ_ e=>nomatch e⟩
 | ref p =>
  cases r
  rcases ty with ⟨rfl,xs,hq⟩ | ⟨rfl,o,hk,hc,hd⟩ | ⟨rfl,hk⟩ | ⟨rfl,S,n,hk⟩
  ·obtain ⟨its,_,pl,_⟩:=I.list hq
   refine ⟨pl.isList.typeIs,λa e=>?_⟩
   cases e
   obtain ⟨o,n,e,c,hd,_⟩:=pl
   exact ⟨o,e,hd⟩
  ·refine ⟨⟨o,I.mO p o hk,hc⟩,λa e=>?_⟩
   cases e
   exact ⟨o,I.mO _ o hk,hd⟩
  ·have z:∃o,s.heap.get? p=some o∧o.ExactDict:=by
    rcases hk with ⟨kvs,hk⟩ | ⟨kvs,ep,hk⟩
    ·obtain ⟨_,_,_,_,o,_,_,e,ex,_⟩:=I.hok p _ hk
     exact ⟨o,e,ex⟩
    ·obtain ⟨_,_,_,_,o,_,e,ex,_⟩:=I.hok p _ hk
     exact ⟨o,e,ex⟩
   obtain ⟨o,e,ex⟩:=z
   refine ⟨⟨o,e,ex.1⟩,λa e2=>?_⟩
   cases e2
   exact ⟨o,e,ex.2.1⟩
  ·obtain ⟨o,_,_,_,e,ex,_⟩:=I.hok p _ hk
   refine ⟨⟨o,e,ex.1⟩,λa e2=>?_⟩
   cases e2
   exact ⟨o,e,ex.2.1⟩
 | _=>exact False.elim ty
def SS (K:PySem.W.Frag) (T:String) (r:V→List V→Hp→VK→Prop) (to:TE):TE:=λσ H Q=>to σ H λx H1=>Rq K T x H1∧r x [] H1 Q
def Rj (K:PySem.W.Frag) (T:String) (r:V→List V→Hp→VK→Prop) (to:TE) (t:TA):TE:=λσ H Q=>to σ H λx H1=>Rq K T x H1∧t σ H1 λxs H2=>r x xs H2 Q
variable {o e:Expr} {es:List Expr} {to:TE} {t:TA} {name:Str} {apos cpos:Pos} {T id:String} {r:V→List V→Hp→VK→Prop}
theorem Np (pa:PlainAttrs T) (slot:Slot T name id) (hty:typeOf (.builtin id)=pure (.type "method_descriptor")) (hm:qE X id r) (ho:PE X o to)
  (hbase:attributeBase o name X.env (eval o X.env)=eval o X.env:=by rfl) (hline:(apos.endLine == cpos.line)=true:=by rfl):PE X (.Call (.Attribute o name apos) [] [] cpos) (SS X.K T r to):=by
 intro pins s σ H Q I h
 refine wpAny_Call_method0_late hbase hline (cD (ho pins s σ H _ I h) λv s1 ⟨x,H1,I1,r1,ty,q1⟩=>?_)
 obtain ⟨h1,h2⟩:=HJ I1 r1 ty
 exact ⟨T,id,pa,slot,hty,h1,h2,Calls.callWith_builtin rfl (PySem.evalArgs_none (hm pins s1 σ H1 x [] v [] Q I1 r1 .nil q1))⟩
theorem sv (pa:PlainAttrs T) (slot:Slot T name id) (hty:typeOf (.builtin id)=pure (.type "method_descriptor")) (hm:qE X id r) (ho:PE X o to) (ha:PA X (e :: es) t)
  (hbase:attributeBase o name X.env (eval o X.env)=eval o X.env:=by rfl)
  (hfew:((backTo cpos (starEach (e :: es) X.env)).all (λx=>!x.1) && (backToKw cpos (keywordEach [] X.env)).all (λx=>x.1.isSome)
   && decide ((e :: es).length + ([]:List Keyword).length + (if ([]:List Keyword).isEmpty then 0 else 1) < 30))=true:=by rfl)
  (hline:(apos.endLine == cpos.line)=true:=by rfl) (hs:starEach (e :: es) X.env=(false,eval e X.env) :: starEach es X.env:=by rfl) (hplain:(backTo cpos (starEach es X.env)).any (·.1)=false:=by rfl) :
  PE X (.Call (.Attribute o name apos) (e :: es) [] cpos) (Rj X.K T r to t):=by
 intro pins s σ H Q I h
 refine wpAny_Call_method_late hbase hfew hline rfl (cD (ho pins s σ H _ I h) λv s1 ⟨x,H1,I1,r1,ty,q1⟩=>?_)
 obtain ⟨h1,h2⟩:=HJ I1 r1 ty
 refine ⟨T,id,pa,slot,hty,h1,h2,?_⟩
 have hA:=ha cpos pins s1 σ H1 _ I1 q1
 rw [hs] at hA ⊢
 refine Calls.callWith_builtin (by show (false || (backTo cpos (starEach es X.env)).any (·.1))=false;rw [hplain] <;> rfl) (Calls.evalArgs_plain ?_)
 exact cD hA λus s2 ⟨vs,H2,I2,r2,q2⟩=>hm pins s2 σ H2 x vs v us Q I2 r1 r2 q2
end
end L2
namespace L2
open PySem PySem.Spec PyProof.Rows
def Tr (X:Cx) (id:String) (r:V→List V→Hp→VK→Prop):Prop :=
 ∀(pins:List (Addr × Obj)) (s:Shared) (σ:St) (H:Hp) (x:V) (xs:List V) (v:Value) (us:List Value) (Q:VK),Inv X pins σ H s→RelV x v→Vals xs us→r x xs H Q →
  wpAny (model X.prog X.w) X.A (call (.builtin id) (v :: us)) (EP X pins σ Q) X.xe s
theorem Vals.one {x:V} {us:List Value} (r:Vals [x] us):∃u,us=[u]∧RelV x u:=vals1 r
theorem Vals.two {x y:V} {us:List Value} (r:Vals [x,y] us):∃u v,us=[u,v]∧RelV x u∧RelV y v:=vals2 r
theorem Vals.zero:∀{us:List Value},Vals [] us→us=[]
 | _,.nil=>rfl
theorem Vals.dropLast {xs:List V} {us:List Value} (h:Vals xs us):Vals xs.dropLast us.dropLast:=by
 induction h with
 | nil=>exact .nil
 | cons r t ih =>
  cases t with
  | nil=>exact .nil
  | cons q t'=>exact .cons r ih
theorem Vals.eraseIdx:∀{xs:List V} {us:List Value} (i:Nat),Vals xs us→Vals (xs.eraseIdx i) (us.eraseIdx i)
 | _,_,_,.nil=>.nil
 | _,_,0,.cons _ t=>t
 | _,_,i + 1,.cons r t=>.cons r (Vals.eraseIdx i t)
theorem Ay {α:Type} (l:List α):l.eraseIdx (l.length - 1)=l.dropLast:=by
 induction l with
 | nil=>rfl
 | cons a r ih =>
  cases r with
  | nil=>rfl
  | cons b r =>
   have e:(a :: b :: r).length - 1=((b :: r).length - 1) + 1:=by
    have h1:(a :: b :: r).length=r.length + 2:=rfl
    have h2:(b :: r).length=r.length + 1:=rfl
    omega
   rw [e,Wg,ih]
   all_goals rfl
section
variable {X:Cx} {pins:List (Addr × Obj)} {σ:St} {H:Hp} {s:Shared} {l b:Addr} {xs ys zs:List V}
theorem Inv.I_ {its its':List Value} {n:Nat} {f:Array Value→Array Value} {t':Nat} (I:Inv X pins σ H s) (hH:H l=some (.lst xs))
  (e:s.heap.get? l=some { cls:=.type "list",data:=.seq its.toArray n }) (hf:f its.toArray=its'.toArray) (hv:Vals ys its') (hz:ys.length≤sizeLine) :
  Inv X pins σ (upd H l (.lst ys)) { s with heap:=s.heap.update l (Obj.mapSeq f),toks:=t' }:=by
 have q:=PySem.IsL.update e f
 rw [hf] at q
 refine I.write (x:=l) (e:=l) (by rw [hH];exact trivial) (.inl rfl) (λb' u hb hu=>(Heap.get?_update_other s.heap (Obj.mapSeq f) (Ne.symm hb)).trans hu) ⟨_,q⟩ ?_
 exact ⟨hz,its',_,hv,q⟩
theorem Inv.Sg {its:List Value} {t':Nat} (I:Inv X pins σ H s) (hv:Vals ys its) (hz:ys.length≤sizeLine) :
  Inv X pins σ (upd H s.heap.objs.size (.lst ys)) { s with heap:=s.heap.push { cls:=.type "list",data:=.seq its.toArray },toks:=t' } :=
 I.laid (λ_ _ q=>Heap.get?_push_of_some _ q) (Ux _) ⟨hz,its,0,hv,Heap.get?_push_size _ rfl⟩
theorem Inv.fresh (I:Inv X pins σ H s):H s.heap.objs.size=none:=I.hok.fresh (Ux _)
theorem Inv.Jb (I:Inv X pins σ H s) (hH:H l=some (.lst xs)):xs.length≤sizeLine∧∃(its:List Value) (n:Nat),Vals xs its∧xs.length=its.length∧s.heap.get? l=some { cls:=.type "list",data:=.seq its.toArray n }:=by
 obtain ⟨z,its,n,r,e⟩:=I.hok l _ hH
 exact ⟨z,its,n,r,r.length,e⟩
end
section
variable {X:Cx}
def CC:V→List V→Hp→VK→Prop:=λx vs H Q=>∃l xs y,x=.ref l∧vs=[y]∧H l=some (.lst xs)∧xs.length < sizeLine∧Q .non (upd H l (.lst (xs ++ [y])))
theorem iX:Tr X "list.append" CC:=by
 intro pins s σ H x vs v us Q I rx rv h
 obtain ⟨l,xs,y,rfl,rfl,hH,hz,q⟩:=h
 cases rx
 obtain ⟨u,rfl,ru⟩:=rv.one
 obtain ⟨z,its,n,r,hl,e⟩:=I.Jb hH
 refine call_meets F.slot_list_append ⟨_,e,rfl⟩ F.entry_list_append (F.args_list_append_2 _ _) (PySem.list_append l its.toArray n u (by rw [Uy];omega)) ⟨e,?_⟩
 refine ⟨.non,_,I.I_ (its':=its ++ [u]) hH e (by simp) (r.append (.cons ru .nil)) ?_,rfl,q⟩
 rw [UP,List.length_singleton]
 omega
def SM:V→List V→Hp→VK→Prop:=λx vs H Q=>∃l xs y,x=.ref l∧vs=[]∧H l=some (.lst xs)∧xs[xs.length - 1]?=some y∧Q y (upd H l (.lst xs.dropLast))
theorem M4:Tr X "list.pop" SM:=by
 intro pins s σ H x vs v us Q I rx rv h
 obtain ⟨l,xs,y,rfl,rfl,hH,hy,q⟩:=h
 cases rx
 have hus:=rv.zero
 subst hus
 obtain ⟨z,its,n,r,hl,e⟩:=I.Jb hH
 obtain ⟨u,hu,ru⟩:=r.get hy
 have hy':its.toArray[its.toArray.size - 1]?=some u:=by
  show its.toArray[its.length - 1]?=some u
  rw [← Array.getElem?_toList,← hl]
  exact hu
 refine call_meets F.slot_list_pop ⟨_,e,rfl⟩ F.entry_list_pop (F.args_list_pop_1 _) (MeetsSeq.list_pop_last l its.toArray n u hy' (by rw [Uy];omega)) ⟨e,?_⟩
 refine ⟨y,_,I.I_ (its':=its.dropLast) hH e ?_ r.dropLast ?_,ru,q⟩
 ·show its.toArray.eraseIdxIfInBounds (its.toArray.size - 1)=its.dropLast.toArray
  rw [Uy,VZ,Ay]
 ·rw [Ww]
  omega
end
section
variable {prog:Program} {w:World} {A:Around} {E:Value→Shared→Prop} {s:Shared}
end
section
variable {X:Cx}
end
end L2
namespace Att
open PySem PySem.W PySem.Calls PyProof.Rows
theorem qs {P:Params} {h:Heap}:∀(ns:List Int) (vs:List Value),WellAll P h vs (ns.map WData.int)→IntsAre vs ns:=by
 intro ns
 induction ns with
 | nil =>
  intro vs w
  rw [Vo] at w
  cases w
  exact .nil
 | cons n ns ih =>
  intro vs w
  rw [UB] at w
  cases w with
  | cons a b =>
   cases a
   exact .cons _ _ (ih _ b)
theorem EB {l:OpenLaw} {n:Nat} (hn:l.most=some n) {P:Params} {h:Heap} {args:List WData} {vals:List Value}
  (hpre:l.row.toRowW.claim.pre args=true) (hwl:WellAll P h vals args) :
  ∃a vs ns,vals=[Value.ref a]∧args=[WData.list (ns.map WData.int)]∧h.get? a=some { cls:=.type "list",data:=.seq vs.toArray }∧IntsAre vs ns∧ns.length≤n:=by
 have hsh:WShape.hasAll [] args [.list .int]=true:=(pre_splitW hpre).1
 have hc:l.pre.holds [] { args:=args }=true:=(pre_splitW hpre).2
 obtain ⟨d,r,rfl,h1,h2⟩:=hasAllW_cons hsh
 obtain rfl:=hasAllW_nil h2
 obtain ⟨xs,rfl,h3⟩:=hasW_list h1
 obtain ⟨ns,rfl⟩:=items_int h3
 have hlen:ns.length≤n:=by
  unfold OpenLaw.pre at hc
  have h4:(WTm.not (.lt (.lit (.int (n:Int))) (.len (.arg 0)))).holds [] { args:=[.list (ns.map .int)] }=true:=by
   have h4:=(holds_andW hc).1
   rw [hn] at h4
   exact h4
  have h5:=condW_of h4 (w_not (w_lt w_lit (w_len_list (w_arg rfl))))
  rw [Us] at h5
  refine Nat.le_of_not_lt λq=>?_
  have q':(n:Int) < ((ns.length:Nat):Int):=by omega
  first
   | (rw [decide_eq_true q'] at h5;exact absurd h5 (by decide))
   | (simp at h5;omega)
 cases hwl with
 | cons w1 w2 =>
  cases w2
  cases w1 with
  | list ho hall=>exact ⟨_,_,ns,rfl,rfl,ho,qs ns _ hall,hlen⟩
theorem Et (l:OpenLaw) (args:List WData):l.row.toRowW.claim.post args (.bool true) args=true :=
 postW_of (r:=l.row.toRowW) (X:=(true == true))
  (show WShape.has [] (.bool true) .bool=true by first | rfl | decide | simp [WShape.has,WShape.arms,WShape.armsAll])
  (show (WTm.eq .res (.lit (.bool true))).value [] { args:=args,res:=some (.bool true),after:=args }=some (.bool (true == true)) from w_eq_bool (w_res rfl) w_lit) rfl
theorem yj {l:OpenLaw} {n:Nat} {q:Program} {loose:List Str} {XP:(Str→Option Value)→Heap→Prop} {YP:World→Heap→Prop} {d:DefRec}
  (hn:l.most=some n) (hdf:d.params.defaults=[])
  (call:∀(w:World) (s₀ s₁:Shared) (mg mb:Str→Option Value) (fa:Addr) (o:Obj) (pm cd doc:Value) (a:Addr) (vs:List Value) (ns:List Int),
   Ground q loose [] XP w s₀ mg mb s₁.heap→YP w s₁.heap →
   s₁.heap.get? fa=some o→o.data=.func (docDef d.name d.params d.body d.scope pm cd doc)→s₁.heap.CodeRec cd d.name→mg d.name=some (.ref fa) →
   s₁.heap.get? a=some { cls:=.type "list",data:=.seq vs.toArray }→IntsAre vs ns→ns.length≤n→s₁.gens=#[] →
   codeAny (model l.prog w) callerA (.call (.ref fa) ⟨[.ref a],[]⟩) (λr s'=>r=.ok (.ret (.bool true))∧OldK s₁.heap s'.heap∧s'.os=s₁.os∧AllBare s'.gens) s₁) :
  WalkO q loose XP YP l.row.toRowW d [] (λf vs=>PySem.call f vs):=by
 intro w s₀ s₁ mg mb G Y fa o pm cd doc dV kV ho hd hcd hD hmg hg args vals as hpre hlay hrd hwl hlo
 obtain rfl:dV=.none:=Dflts.none hD hdf
 obtain rfl:kV=.none:=Dflts.noKw hD
 obtain ⟨a,vs,ns,rfl,rfl,hobj,hints,hlen⟩:=EB hn hpre hwl
 refine enter_call (codeAny_mono (call w s₀ s₁ mg mb fa o pm cd doc a vs ns G Y ho (fd_plain hd) hcd hmg hobj hints hlen hg) λr s' hq=>?_)
 obtain ⟨rfl,h2,h3,h4⟩:=hq
 exact ⟨.inl ⟨.bool true,.bool true,[],rfl,λ_=>rfl,.bool true,Et l _,λ_=>⟨List.Pairwise.nil,λ_ hm=>(nomatch hm)⟩⟩,h2,h3,h4⟩
section
variable {prog:Program} {w:World} {A:Around} {E:Value→Shared→Prop} {s:Shared} {K:Frag}
end
end Att
namespace L2
open PySem PySem.Spec PyProof.Rows
theorem vG:∀{vs:List Value} {ns:List Int},IntsAre vs ns→Vals (ns.map V.int) vs
 | _,_,.nil=>.nil
 | _,_,.cons n t h=>.cons ⟨t,rfl⟩ (vG h)
end L2
namespace L2
open PySem PySem.Spec PyProof.Rows
abbrev E4 {K:PySem.W.Frag} {h:Heap} (_:K.In h):PySem.W.Frag:=K
end L2
namespace L2
open PySem PySem.Spec PyProof.Rows
def inClass (s:Stmt) (j:Nat):Stmt:=match s with
 | .ClassDef _ _ _ body _ _ _ _ _ _ _=>body.getD j (.Pass ⟨0,0,0,0⟩)
 | _=>.Pass ⟨0,0,0,0⟩
def dt (s:Stmt):Arguments:=match s with
 | .FunctionDef _ a _ _ _ _ _ _ _ _=>a
 | _=>{ posonlyargs:=[],args:=[],vararg:=none,kwonlyargs:=[],kw_defaults:=[],kwarg:=none,defaults:=[] }
def bX (s:Stmt):List Stmt:=match s with
 | .FunctionDef _ _ b _ _ _ _ _ _ _=>b
 | _=>[]
def aj (s:Stmt):Scope:=match s with
 | .FunctionDef _ _ _ _ _ _ sc _ _ _=>sc
 | _=>{ kind:=.function,names:=[],isGenerator:=false,isCoroutine:=false }
abbrev rh:tK:=λ_ _ _ _ _ _=>False
abbrev E0:XK:=λ_ _ _=>False
theorem PN {X:Cx}:Passes rh X E0:=λ_ _ _ _ _ _ _ h=>h.elim
structure cb (K:PySem.W.Frag) (x qual:Str) (st:Stmt) (f:Addr) (fd:FuncData):Prop where
 ex:∃(oc:Value) (od:Option Addr) (kV doc pm:Value) (an:Option Addr) (cdv ct:Value) (osl:Array (Option Value)),
  fd=PySem.W.fnOf x qual (dt st) (bX st) (aj st) .none kV doc pm an cdv ct∧K.lookup f=some ⟨oc,od,.func fd,osl⟩∧PySem.W.codeIn K cdv qual=true
 kp:PySem.W.keepIn K (.ref f)=true
section
variable {P:Program} {w:World} {K:PySem.W.Frag} {mg:Str→Option Value} {base:Heap}
theorem cb.ok {x qual:Str} {st:Stmt} {f:Addr} {fd:FuncData} {N ps:List Str} {k:Nat} {sp:Sp} (F:cb K x qual st f fd) (S:aw N ps (aj st)) (len:∀vs H Q E,sp vs H Q E→vs.length=ps.length)
  (hbody:∀(cdv:Value) (A:Around) (outer:List Env) (s:Shared) (H:Hp) (vs:List V) (Q:VK) (E:XK),bV k (A.deeper (envOfC qual (aj st) s.heap.objs.size f cdv))→sp vs H Q E →
   ∃t,tM (vZ rh P w K mg base N qual (aj st) f cdv A outer s H E).M5 (bX st) t∧t { nx:=λ_ H'=>Q .non H',rt:=Q } (start N vs) H):aQ P w K mg base rh (k + 1) f fd ps sp:=by
 obtain ⟨oc,od,kV,doc,pm,an,cdv,ct,osl,rfl,lk,hcd⟩:=F.ex
 refine FC lk hcd S len λA outer s H vs Q E hr hsp=>?_
 obtain ⟨t,h,q⟩:=hbody cdv A outer s H vs Q E hr hsp
 exact ⟨t,h.M5,q⟩
theorem cb.binds {x qual:Str} {st:Stmt} {f:Addr} {fd:FuncData} {ps:List Str} (F:cb K x qual st f fd)
  (h:∀(kV doc pm:Value) (an:Option Addr) (cdv ct:Value) (us:List Value),us.length=ps.length→bindArgs (PySem.W.fnOf x qual (dt st) (bX st) (aj st) .none kV doc pm an cdv ct) ⟨us,[]⟩=pure (ps.zip us)):Binds K fd ps []:=by
 obtain ⟨oc,od,kV,doc,pm,an,cdv,ct,osl,rfl,lk,hcd⟩:=F.ex
 exact .all (h kV doc pm an cdv ct)
theorem AA {x qual:Str} {st:Stmt} {f:Addr} {oc:Value} {od an:Option Addr} {osl:Array (Option Value)} {kV doc pm cdv ct:Value} (l:K.lookup f=some ⟨oc,od,.func (PySem.W.fnOf x qual (dt st) (bX st) (aj st) .none kV doc pm an cdv ct),osl⟩)
  (c:PySem.W.codeIn K cdv qual=true) (k:PySem.W.keepIn K (.ref f)=true):cb K x qual st f (PySem.W.fnOf x qual (dt st) (bX st) (aj st) .none kV doc pm an cdv ct):=⟨⟨oc,od,kV,doc,pm,an,cdv,ct,osl,rfl,l,c⟩,k⟩
end
theorem bp {n:Nat} (h:n≤1000):n < sizeLine:=Vk h (by decide)
section
variable {X:Cx}
theorem pv (i:Nat) {x:Str} {pos:Pos} (hN:X.N[i]?=some x:=by rfl) (hv:xY X.env.scope x:=by first | exact Or.inl rfl | exact Or.inr (Or.inl rfl) | exact Or.inr (Or.inr rfl)) (hd:(x == ("__debug__":Str))=false:=by decide)
  (hcd:(x == ("__classdict__":Str))=false:=by decide):PE X (.Name x pos) (BB i):=A8 hN hv hd hcd
end
theorem FX {c A B:Prop} [Decidable c] (h1:c→A) (h2:¬ c→B):if c then A else B:=by
 by_cases h:c
 ·rw [if_pos h]
  exact h1 h
 ·rw [if_neg h]
  exact h2 h
def bG (H H':Hp):Prop:=∀b o,H b=some o→H' b=some o
theorem bG.trans {H H1 H2:Hp} (a:bG H H1) (b:bG H1 H2):bG H H2:=λc o h=>b c o (a c o h)
theorem bG.free {H H':Hp} (e:bG H H') {l:Addr} (h:H' l=Option.none):H l=Option.none:=by
 cases q:H l with
 | none=>rfl
 | some o =>
  rw [e l o q] at h
  cases h
theorem bG.seq {K:PySem.W.Frag} {H H':Hp} {a:Addr} {xs:List V} (e:bG H H') (h:cZ K H a xs):cZ K H' a xs:=by
 rcases h with (h | ⟨o,h⟩) | h
 ·exact .inl (.inl (e _ _ h))
 ·exact .inl (.inr ⟨o,e _ _ h⟩)
 ·exact .inr h
end L2
namespace Ov
theorem yv {a b:Int} (h:b≠0):Int.gcd b (a % b)=Int.gcd a b:=by
 have e:a=b * (a / b) + a % b:=(Int.mul_ediv_add_emod a b).symm
 have d1:((Int.gcd b (a % b):Nat):Int) ∣ a:=by
  rw [e]
  exact Int.dvd_add (Int.dvd_trans (Int.gcd_dvd_left ..) (Int.dvd_mul_right ..)) (by rw [← e];exact Int.gcd_dvd_right ..)
 have d2:((Int.gcd a b:Nat):Int) ∣ a % b:=by
  have e2:a % b=a - b * (a / b):=by omega
  rw [e2]
  exact Int.dvd_sub (Int.gcd_dvd_left ..) (Int.dvd_trans (Int.gcd_dvd_right ..) (Int.dvd_mul_right ..))
 exact Nat.dvd_antisymm (Int.dvd_gcd d1 (Int.gcd_dvd_left ..)) (Int.dvd_gcd (Int.gcd_dvd_right ..) d2)
theorem B4 {a:Int} (h:0≤a):((Int.gcd a 0:Nat):Int)=a:=by
 rw [Int.gcd_zero_right];omega
theorem IP (a b:Int):Int.gcd (if a < 0 then -a else a) (if b < 0 then -b else b)=Int.gcd a b:=by
 split <;> split <;> simp [Int.gcd_neg,Int.neg_gcd]
theorem FG (a b:Int):Int.gcd (if a < 0 then -a else a) b=Int.gcd a b:=by
 split <;> simp [Int.gcd_neg,Int.neg_gcd]
theorem B5 {t b:Int} (h:b≠0):0 < ((Int.gcd t b:Nat):Int):=by
 have:0 < Int.gcd t b:=Int.gcd_pos_of_ne_zero_right t h
 omega
theorem MH {t b:Int} (h:b≠0):Int.gcd t b≤b.natAbs:=Nat.le_of_dvd (by omega) (Int.ofNat_dvd.mp (by rw [Int.dvd_natAbs];exact Int.gcd_dvd_right ..))
theorem wt {t b:Int} (h:0 < b):t.fdiv ((Int.gcd t b:Nat):Int)=(Rat.divInt t b).num:=by
 rw [Rat.num_divInt,Int.sign_eq_one_of_pos h,Int.one_mul,Int.gcd_comm b t,Int.fdiv_eq_ediv_of_nonneg _ (Int.natCast_nonneg _)]
theorem den_pos {t b:Int} (h:0 < b):b.fdiv ((Int.gcd t b:Nat):Int)=((Rat.divInt t b).den:Int):=by
 rw [Rat.den_divInt,if_neg (by omega),Int.gcd_comm b t,Int.fdiv_eq_ediv_of_nonneg _ (Int.natCast_nonneg _)]
 rw [Int.natCast_ediv]
 congr 1
 omega
theorem Cj {t b:Int} (h:b < 0):t.fdiv (-((Int.gcd t b:Nat):Int))=(Rat.divInt t b).num:=by
 have e:t.fdiv (-((Int.gcd t b:Nat):Int))=(-t).fdiv ((Int.gcd t b:Nat):Int):=by
  have:=Int.neg_fdiv_neg (a:=-t) (b:=((Int.gcd t b:Nat):Int))
  rw [← this];simp
 rw [e,Rat.num_divInt,Int.sign_eq_neg_one_of_neg h,Int.gcd_comm b t,Int.fdiv_eq_ediv_of_nonneg _ (Int.natCast_nonneg _)]
 congr 1
 omega
theorem IE {t b:Int} (h:b < 0):b.fdiv (-((Int.gcd t b:Nat):Int))=((Rat.divInt t b).den:Int):=by
 have e:b.fdiv (-((Int.gcd t b:Nat):Int))=(-b).fdiv ((Int.gcd t b:Nat):Int):=by
  have:=Int.neg_fdiv_neg (a:=-b) (b:=((Int.gcd t b:Nat):Int))
  rw [← this];simp
 rw [e,Rat.den_divInt,if_neg (by omega),Int.gcd_comm b t,Int.fdiv_eq_ediv_of_nonneg _ (Int.natCast_nonneg _)]
 rw [Int.natCast_ediv]
 congr 1
 omega
theorem Ci (t b:Int):(Rat.divInt t b).num.natAbs≤t.natAbs:=by
 rcases Int.lt_trichotomy b 0 with h | h | h
 ·rw [← Cj h]
  exact Int.natAbs_fdiv_le_natAbs ..
 ·subst h;simp
 ·rw [← wt h,Int.fdiv_eq_ediv_of_nonneg _ (Int.natCast_nonneg _)]
  exact Int.natAbs_ediv_le_natAbs ..
theorem v3 {t b:Int} (h:b≠0):(((Rat.divInt t b).den:Int)).natAbs≤b.natAbs:=by
 rw [Rat.den_divInt,if_neg h]
 exact Nat.div_le_self ..
theorem lW (p:Rat):Rat.divInt p.num p.den=p:=Rat.num_divInt_den p
theorem fm (p:Rat):(p.den:Int)≠0:=by have:=p.den_pos;omega
theorem fk (p:Rat):(0:Int) < p.den:=by have:=p.den_pos;omega
theorem add_eq (p q:Rat):Rat.divInt (p.num * q.den + q.num * p.den) (p.den * q.den)=p + q:=by
 rw [← Rat.divInt_add_divInt _ _ (fm p) (fm q),lW,lW]
theorem sub_eq (p q:Rat):Rat.divInt (p.num * q.den - q.num * p.den) (p.den * q.den)=p - q:=by
 rw [← Rat.divInt_sub_divInt _ _ (fm p) (fm q),lW,lW]
theorem mul_eq (p:Rat) (m:Int):Rat.divInt (p.num * m) p.den=p * m:=by
 have:=Rat.divInt_mul_divInt p.num m (d₁:=p.den) (d₂:=1)
 rw [lW,Int.mul_one] at this
 rw [← this,Rat.divInt_eq_div]
 congr 1
 grind
theorem cast_eq (p:Rat):(p.num:Rat)=p * (p.den:Int):=by
 have h:((p.den:Int):Rat)≠0:=by
  intro e
  exact fm p (by exact_mod_cast e)
 have e:=lW p
 rw [Rat.divInt_eq_div] at e
 grind
theorem d4 (p:Rat):((p.den:Int):Rat)≠0:=λe=>fm p (by exact_mod_cast e)
theorem OM (b p m:Rat) (v:Int):Rat.divInt (p.num * (m.den * b.den) + v * (m.num * b.den - b.num * m.den) * p.den) (p.den * (m.den * b.den))=p + (m - b) * v:=by
 have h:=d4 p
 have g:=d4 b
 have k:=d4 m
 simp only [Rat.divInt_eq_div,Rat.intCast_add,Rat.intCast_sub,Rat.intCast_mul,cast_eq p,cast_eq b,cast_eq m]
 generalize ((p.den:Int):Rat)=d at h ⊢
 generalize ((b.den:Int):Rat)=e at g ⊢
 generalize ((m.den:Int):Rat)=f at k ⊢
 generalize (v:Rat)=v
 grind
theorem p5 {n:Int} (h:n≠0):(n:Rat)≠0:=λe=>h (by exact_mod_cast e)
theorem ND (g:Rat) (n:Int) (h:n≠0):Rat.divInt g.num (g.den * n)=g / n:=by
 have k:=d4 g
 have l:=p5 h
 simp only [Rat.divInt_eq_div,Rat.intCast_mul,cast_eq g]
 generalize ((g.den:Int):Rat)=d at k ⊢
 generalize (n:Rat)=n at l ⊢
 grind
end Ov
namespace Ov
open PySem PySem.Spec PyProof.Rows L2
structure Bd (n:Nat) (x:Int):Prop where
 lt:x.natAbs < 2 ^ n
theorem Bd.bits {n:Nat} {x:Int} (h:Bd n x):Builtin.Int.intBits x≤n:=intBits_le_iff.mpr h.lt
theorem Bd.of {n:Nat} {x:Int} (h:Builtin.Int.intBits x≤n):Bd n x:=⟨intBits_le_iff.mp h⟩
theorem Bd.mono {m n:Nat} {x:Int} (h:Bd m x) (hmn:m≤n):Bd n x:=.of (UM h.bits hmn)
theorem Bd.neg {n:Nat} {x:Int} (h:Bd n x):Bd n (-x):=.of (intBits_neg_le h.bits)
theorem Bd.add {m n k:Nat} {x y:Int} (h:Bd m x) (g:Bd n y) (hk:max m n + 1≤k:=by decide):Bd k (x + y):=(Bd.of (intBits_add_le h.bits g.bits)).mono hk
theorem Bd.sub {m n k:Nat} {x y:Int} (h:Bd m x) (g:Bd n y) (hk:max m n + 1≤k:=by decide):Bd k (x - y):=(Bd.of (intBits_sub_le h.bits g.bits)).mono hk
theorem Bd.mul {m n k:Nat} {x y:Int} (h:Bd m x) (g:Bd n y) (hk:m + n≤k:=by decide):Bd k (x * y):=(Bd.of (intBits_mul_le h.bits g.bits)).mono hk
theorem Bd.le {n:Nat} {x y:Int} (g:Bd n y) (h:x.natAbs≤y.natAbs):Bd n x:=⟨Vk h g.lt⟩
theorem Bd.small {x:Int} (h1:-(2 ^ 64) < x) (h2:x < 2 ^ 64):Bd 64 x:=.of (intBits_le_64 h1 h2)
theorem Bd.log {n:Nat} {x:Int} (h:Bd n x) (hn:n≤9000) (h0:x≠0):x.natAbs.log2 < 9000 :=
 UL ((Nat.log2_lt (by omega)).mpr h.lt) hn
section
variable {X:Cx}
def CM (i j:Int):Prop:=∃m n,Bd m i∧Bd n j∧m + n≤134217728
theorem CM.of {m n:Nat} {i j:Int} (h:Bd m i) (g:Bd n j) (hk:m + n≤134217728:=by decide):CM i j:=⟨m,n,h,g,hk⟩
theorem cQ:fz X (binaryOp .Mult) (rI CM λi j=>.int (i * j)):=Rg λ_ _ _ _ _ _ _ hc q=>by
 obtain ⟨m,n,h,g,hk⟩:=hc
 exact mul_int q (IntMulOk.of_le h.bits g.bits hk)
def CQ (_ j:Int):Prop:=j≠0∧Bd 9000 j
theorem gF:fz X (binaryOp .FloorDiv) (rI CQ λi j=>.int (i.fdiv j)):=Rg λ_ _ _ _ _ _ _ hc q =>
 floordiv_int hc.1 q (.inl (PyProof.noPylong_of_log2 (hc.2.log (Ux _) hc.1)))
def Uo (f:Bool→Bool):R2:=λx y H Q=>∃(p q:Addr) (a b c d:Int),x=.ref p∧y=.ref q∧H p=some (.tup [.int a,.int b])∧H q=some (.tup [.int c,.int d])∧Q (.bl (f (decide (a=c∧b=d)))) H
def QC (t u:TS):TS:=λD σ H=>∃M:L2.St→Hp→Prop,t { D with nx:=M } σ H∧∀σ' H',M σ' H'→u D σ' H'
theorem JO {st:Stmt} {rest:List Stmt} {t u:TS} (h1:PS X st t) (h2:tM X rest u):tM X (st :: rest) (QC t u):=by
 intro pins s σ H D I h
 obtain ⟨M,h,k⟩:=h
 refine wpAny_execs_cons (cD (h1 pins s σ H { D with nx:=M } I h) λf s1 q=>?_)
 cases f with
 | next =>
  obtain ⟨σ',H',I',q⟩:=q
  exact h2 pins s1 σ' H' D I' (k _ _ q)
 | ret v=>exact q
 | brk=>exact q
 | cont=>exact q
end
section
variable {X:Cx}
def Lv:R2:=λx y H Q=>∃p xs i v,x=.ref p∧y=.int i∧H p=some (.lst xs)∧dk xs i=some v∧Q v H
def Qh:R2:=λx y H Q=>∃p xs i v,x=.ref p∧y=.int i∧H p=some (.tup xs)∧dk xs i=some v∧Q v H
theorem gy:qD X Lv:=λvalue slice pins s σ H x y v u Q I rx ry ⟨p,xs,i,z,e1,e2,h,e3,q⟩ hs =>
 wc value slice pins s σ H x y v u Q I rx ry ⟨p,xs,i,z,e1,e2,cZ.of h,e3,q⟩ hs
end
theorem dU {α:Type} (x:α) (xs:List α):dk (x :: xs) 0=some x:=bq (j:=0) rfl
theorem fW {α:Type} (x y:α) (xs:List α):dk (x :: y :: xs) 1=some y:=bq (j:=1) rfl
theorem l_ {α:Type} (x y z:α) (xs:List α):dk (x :: y :: z :: xs) 2=some z:=bq (j:=2) rfl
theorem Fj {α:Type} (x y z u:α) (xs:List α):dk (x :: y :: z :: u :: xs) 3=some u:=bq (j:=3) rfl
theorem Ki (i j:Int):Hk (.int i) (.int j)=true:=rfl
theorem Kh (i j:Bool):Hk (.bl i) (.bl j)=true:=rfl
theorem Kj (i j:Str):Hk (.str i) (.str j)=true:=rfl
def tL (P:Program) (w:World) (K:PySem.W.Frag) (mg:Str→Option Value) (base:Heap) (k:Nat) (x:Str) (ps:List Str) (sp:Sp):Prop :=
 ∃f fd,aQ P w K mg base rh k f fd ps sp∧Binds K fd ps []∧PySem.W.keepIn K (.ref f)=true∧mg x=some (.ref f)
theorem Nr {X:Cx} {k k':Nat} {x:Str} {ps:List Str} {sp:Sp} {p pos:Pos} {e:Expr} {es:List Expr} {t:TA} (C:tL X.prog X.w X.K X.mg X.base k x ps sp) (hr:bV k' X.A) (hk:k≤k') (hg:Gl X x) (ha:PA X (e :: es) t)
  (hdb:(x == ("__debug__":Str))=false:=by decide) (he:starEach (e :: es) X.env=(false,eval e X.env) :: starEach es X.env:=by rfl) (hpl:(backTo pos (starEach es X.env)).any (·.1)=false:=by rfl) :
  PE X (.Call (.Name x p) (e :: es) [] pos) (tG sp [] E0 t):=by
 obtain ⟨f,fd,F,b,kp,m⟩:=C
 exact Cp F (hr.mono hk) hg m kp b .nil PN ha hdb he hpl
theorem dH {N P:List Str} {sc:Scope} (a:sc.kind=.function:=by rfl) (b:sc.isCoroutine=false:=by rfl) (c:sc.isGenerator=false:=by rfl) (d:N.Nodup:=by decide +kernel) (e:N.take P.length=P:=by rfl) (f:∀x∈P,sc.names.lookup x=some .local∨sc.names.lookup x=some .cell:=by decide +kernel) (g:∀y∈sc.names,y.2≠.free:=by decide +kernel):aw N P sc:=⟨a,b,c,d,e,f,g⟩
def Def (K:PySem.W.Frag) (mg:Str→Option Value) (x:Str) (st:Stmt):Prop:=∃f fd,cb K x x st f fd∧mg x=some (.ref f)
theorem Mz {K:PySem.W.Frag} {h:Heap} {mg:Str→Option Value} {x:Str} {st:Stmt} (X:K.In h) (G:h.Ns mainGlobals mg) {f:Addr} {od an:Option Addr} {sl:Array (Option Value)} {oc kV dc pm cd ct:Value}
  (a:PySem.W.nsIn K mainGlobals x=some (some (.ref f))) (l:K.lookup f=some ⟨oc,od,.func (PySem.W.fnOf x x (dt st) (bX st) (aj st) .none kV dc pm an cd ct),sl⟩) (c:PySem.W.codeIn K cd x=true) (k:PySem.W.keepIn K (.ref f)=true) :
  Def K mg x st:=⟨f,_,AA l c k,PySem.W.mg_of X G a⟩
theorem Def.Fn {P:Program} {w:World} {K:PySem.W.Frag} {mg:Str→Option Value} {base:Heap} {x:Str} {st:Stmt} {k:Nat} {ps:List Str} {sp:Sp} (D:Def K mg x st)
  (h:∀f fd,cb K x x st f fd→aQ P w K mg base rh k f fd ps sp)
  (hb:∀(kV doc pm:Value) (an:Option Addr) (cdv ct:Value) (us:List Value),us.length=ps.length→bindArgs (PySem.W.fnOf x x (dt st) (bX st) (aj st) .none kV doc pm an cdv ct) ⟨us,[]⟩=pure (ps.zip us)) :
  tL P w K mg base k x ps sp:=by
 obtain ⟨f,fd,F,m⟩:=D
 exact ⟨f,fd,h f fd F,F.binds hb,F.kp,m⟩
theorem MS {K:PySem.W.Frag} {mg:Str→Option Value} {st:Stmt} {fa:Addr} {p:Str} (D:Def K mg "law" st) (hfa:mg "law"=some (.ref fa))
  (hb:∀(kV doc pm:Value) (an:Option Addr) (cdv ct:Value) (u:Value),bindArgs (PySem.W.fnOf "law" "law" (dt st) (bX st) (aj st) .none kV doc pm an cdv ct) ⟨[u],[]⟩=pure [(p,u)]) :
  ∃fd,cb K "law" "law" st fa fd∧∀(s:Shared) (u:Value),BindsTo s fd ⟨[u],[]⟩ [(p,u)]:=by
 obtain ⟨f,fd,F,m⟩:=D
 have e:=m.symm.trans hfa
 cases e
 obtain ⟨oc,od,kV,doc,pm,an,cdv,ct,osl,rfl,lk,hcd⟩:=F.ex
 exact ⟨_,F,λs u=>.of_eq (hb kV doc pm an cdv ct u)⟩
structure EL (mg:Str→Option Value):Prop where
 abs:mg "abs"=none
 len:mg "len"=none
 isinstance:mg "isinstance"=none
 range:mg "range"=none
 int:mg "int"=none
 bool:mg "bool"=none
 tuple:mg "tuple"=none
 list:mg "list"=none
 sorted:mg "sorted"=none
 all:mg "all"=none
theorem _root_.L2.bG.tup {K:PySem.W.Frag} {H H':Hp} {a:Addr} {xs:List V} (e:bG H H') (h:gS K H a xs):gS K H' a xs:=by
 rcases h with (h | ⟨o,h⟩) | h
 ·exact .inl (.inl (e _ _ h))
 ·exact .inl (.inr ⟨o,e _ _ h⟩)
 ·exact .inr h
theorem _root_.L2.bG.new {H:Hp} {p:Addr} (h:H p=none) (o:HO):bG H (upd H p o):=λb u q=>by rw [aM (bI q h)];exact q
theorem _root_.L2.bG.Ou {H H':Hp} {p:Addr} (h:H p=none) (e:bG H H') (o:HO):bG H (upd H' p o):=λb u q=>by rw [aM (bI q h)];exact e b u q
def Of (K:PySem.W.Frag) (H:Hp) (a:Addr) (q:Rat):Prop:=gS K H a [.int q.num,.int q.den]
structure Sz (n:Nat) (q:Rat):Prop where
 num:Bd n q.num
 den:Bd n q.den
theorem Sz.mono {m n:Nat} {q:Rat} (h:Sz m q) (k:m≤n):Sz n q:=⟨h.num.mono k,h.den.mono k⟩
theorem JY (x y:Rat):(x.num=y.num∧(x.den:Int)=(y.den:Int))=(x=y):=propext
 ⟨λh=>Rat.ext h.1 (by have:=h.2;omega),λh=>by subst h;exact ⟨rfl,rfl⟩⟩
theorem kE (c:Str→NameKind→Bool):∀(names:List (Str × NameKind)) (y:Str),
  (names.map λ(x:Str × NameKind)=>if c x.1 x.2 then (x.1,NameKind.cell) else (x.1,x.2)).lookup y=(names.lookup y).map λk=>if c y k then NameKind.cell else k
 | [],_=>rfl
 | (n,k) :: r,y=>by
  have ih:=kE c r y
  cases hy:y == n with
  | true =>
   have e:y=n:=by simpa using hy
   subst e
   by_cases h:c y k=true <;> simp [U1,h]
  | false =>
   by_cases h:c n k=true <;> simp [U1,h,hy,ih]
theorem k8 (sc:Scope) (env:Env) (y:Str):(relabel sc env).names.lookup y=(sc.names.lookup y).map λk=>if (k == .free && env.scope.kind == .function && env.kindOf y == some .cell) then NameKind.cell else k:=by
 have h:=kE (λn k=>k == .free && env.scope.kind == .function && env.kindOf n == some .cell) sc.names y
 exact h
theorem mK {env:Env}:∀(names:List (Str × NameKind)) (acc:List (Str × Addr)),(∀y∈names,y.2=.free→∃c,env.cells.lookup y.1=some c)→(∀y c,acc.lookup y=some c→env.cells.lookup y=some c) →
  ∃cl,(forIn names acc λ(x:Str × NameKind) (r:List (Str × Addr))=>match x with
   | (name,kind)=>if (kind == NameKind.free)=true then (do let c ← cellOf env name;pure (ForInStep.yield ((name,c) :: r))) else (pure (ForInStep.yield r):Sem (ForInStep (List (Str × Addr)))))=(pure cl:Sem (List (Str × Addr))) ∧
   (∀y c,cl.lookup y=some c→env.cells.lookup y=some c)∧(∀y c,acc.lookup y=some c→∃c,cl.lookup y=some c)∧∀y∈names,y.2=.free→∃c,cl.lookup y.1=some c
 | [],acc,_,ha=>⟨acc,rfl,ha,λy c e=>⟨c,e⟩,λy hy=>by cases hy⟩
 | (n,k) :: r,acc,hn,ha=>by
  by_cases hk:k=.free
  ·subst hk
   obtain ⟨c,hc⟩:=hn (n,.free) Va rfl
   obtain ⟨cl,e,h1,h2,h3⟩:=mK r ((n,c) :: acc) (λy hy=>hn y (UW _ hy)) (λy d e=>by
    rw [U1] at e
    cases hy:y == n with
    | true =>
     rw [hy] at e
     have e1:y=n:=by simpa using hy
     subst e1
     rw [hc]
     exact e
    | false=>rw [hy] at e;exact ha y d e)
   have self:∃d,cl.lookup n=some d:=h2 n c (by simp [U1])
   refine ⟨cl,?_,h1,λy d q=>?_,λy hy hf=>?_⟩
   ·rw [WR]
    have ec:cellOf env n=pure c:=by unfold cellOf;rw [hc]
    simp only [beq_self_eq_true,if_true,ec,pure_bind]
    exact e
   ·by_cases hy:y=n
    ·subst hy;exact self
    ·exact h2 y d (by rw [List.lookup_cons];have:(y == n)=false:=by simpa using hy
                      rw [this];exact q)
   ·rcases UI.mp hy with rfl | hy
    ·exact self
    ·exact h3 y hy hf
  ·obtain ⟨cl,e,h1,h2,h3⟩:=mK r acc (λy hy=>hn y (UW _ hy)) ha
   refine ⟨cl,?_,h1,h2,λy hy hf=>?_⟩
   ·rw [WR]
    have hb:(k == NameKind.free)=false:=by simpa using hk
    simp only [hb,UK,if_false,pure_bind]
    exact e
   ·rcases UI.mp hy with rfl | hy
    ·exact absurd hf hk
    ·exact h3 y hy hf
theorem mJ {sc:Scope} {env:Env} (h:∀y∈sc.names,y.2=.free→∃c,env.cells.lookup y.1=some c) :
  ∃cl,closureFor sc env=pure cl∧(∀y c,cl.lookup y=some c→env.cells.lookup y=some c)∧∀y∈sc.names,y.2=.free→∃c,cl.lookup y.1=some c:=by
 obtain ⟨cl,e,h1,_,h3⟩:=mK sc.names [] h (λy c z=>by cases z)
 refine ⟨cl,?_,h1,h3⟩
 unfold closureFor
 have e':=congrArg (λm=>m >>= λr=>(pure r:Sem (List (Str × Addr)))) e
 simp only [pure_bind] at e'
 exact e'
abbrev cY (sc osc:Scope) (N:List Str) (x:Str) (ks:List (Str × Nat)):Prop :=
 sc.kind=.function∧(∀y∈sc.names,y.2≠.cell)∧sc.names.lookup x=some .local∧(∀y∈sc.names,y.2=.local→sc.names.lookup y.1=some .local) ∧
 (∀y∈sc.names,y.2=.free→osc.names.lookup y.1=some .cell)∧(∀p∈ks,N[p.2]?=some p.1∧sc.names.lookup p.1=some .free)∧(x :: ks.map (·.1)).Nodup
def gu (X:Cx) (sc:Scope) (cl:List (Str × Addr)) (C:Addr) (x:Str) (ks:List (Str × Nat)) (s₀:Shared) (H₀:Hp) (fp:List Addr) (pins:List (Addr × Obj)):Cx :=
 { X with N:=x :: ks.map (·.1),s₀:=s₀,H₀:=H₀,env:=compEnvC sc cl C X.env,outer:=X.stack,ex:=fp,fn:=λ_=>false,pn:=X.pn ++ pins,xe:=λ_ _=>False }
def d8 (ks:List (Str × Nat)) (σ:L2.St):L2.St:=ks.map λp=>(σ[p.2]?).getD none
section
variable {X:Cx} {pins:List (Addr × Obj)} {σ:L2.St} {H:Hp} {s:Shared} {sc:Scope} {cl:List (Str × Addr)} {x:Str} {ks:List (Str × Nat)} {fp:List Addr}
theorem get_map {α β:Type} (f:α→β) (l:List α) (i:Nat):(l.map f)[i]?=(l[i]?).map f:=Uz
theorem yA (I:Inv X pins σ H s) (ok:cY sc X.env.scope X.N x ks) (h1:∀y c,cl.lookup y=some c→X.env.cells.lookup y=some c) (h2:∀y∈sc.names,y.2=.free→∃c,cl.lookup y.1=some c)
  (hfp:∀b∈fp,lZ X pins H b∧∃o,s.heap.get? b=some o) {h4:Heap} {m:Str→Option Value} {t':Nat} (hn:h4.Ns s.heap.objs.size m) (kp:∀b o,s.heap.get? b=some o→h4.get? b=some o) :
  Inv (gu X sc cl s.heap.objs.size x ks s H fp pins) [] (none :: d8 ks σ) H { s with heap:=h4,toks:=t' }:=by
 obtain ⟨kd,nc,lx,ll,fr,kk,nd⟩:=ok
 have fresh:H s.heap.objs.size=none:=I.hok.fresh (Ux _)
 have lt:∀b o,s.heap.get? b=some o→b≠s.heap.objs.size:=λb o e=>UO (Heap.lt_size e)
 have cellLt:∀y c,X.env.cells.lookup y=some c→c≠s.heap.objs.size:=λy c e=>by
  obtain ⟨v,o,ho,_⟩:=I.cell y c e
  exact lt c o ho
 have sub:∀b∈j6 X.stack,b=X.env.locals∨b∈X.fs:=λb hb=>UI.mp (I.pT b hb)
 have kof:∀y,(compEnvC sc cl s.heap.objs.size X.env).kindOf y=(relabel sc X.env).names.lookup y:=λy=>rfl
 have ok':(gu X sc cl s.heap.objs.size x ks s H fp pins).Ok:={
  mod:=I.ok.mod
  kind:=kd
  glob:=I.ok.glob
  blt:=I.ok.blt
  above:=Ux _
  inj:=λy z c e1 e2=>I.ok.inj y z c (h1 y c e1) (h1 z c e2)
  has:=λy hy=>by
   rw [show (gu X sc cl s.heap.objs.size x ks s H fp pins).env.kindOf y=_ from kof y,k8] at hy
   cases e:sc.names.lookup y with
   | none=>rw [e] at hy;rcases hy with z | z <;> cases z
   | some k =>
    have hm:(y,k)∈sc.names:=by
     have:=Wh.mp e
     obtain ⟨l1,l2,q,_⟩:=this
     rw [q]
     simp
    by_cases hk:k=.free
    ·subst hk;exact h2 _ hm rfl
    ·have hb:(k == NameKind.free)=false:=by simpa using hk
     rw [e] at hy
     simp only [Wq,hb,Bool.false_and,UK,if_false] at hy
     rcases hy with z | z
     ·exact absurd (Option.some.inj z) (nc _ hm)
     ·exact absurd (Option.some.inj z) hk
  cab:=λ_ _ z=>by cases z
  hd:=λz=>I.ok.hd z
  frames:=I.ok.frames
  stk:=.inl rfl
  exf:=λb hb=>⟨lt b _ (hfp b hb).2.choose_spec,λy c e=>(hfp b hb).1.2.2.2.2.1 y c (h1 y c e)⟩
  bs:=λb o e=>I.bs b o e
  bsz:=UM I.ok.bsz I.sz
  noex:=λb o e hb=>by
   rcases (hfp b hb).1.2.2.2.1 with z | z
   ·exact I.ok.noex b o e z
   ·exact absurd (UL (Heap.lt_size e) (UM I.ok.bsz z)) (Vv _)
  exfs:=λb hb z=>by
   rcases sub b z with e | e
   ·exact (hfp b hb).1.2.1 e
   ·exact (hfp b hb).1.2.2.1 e
  mM:=I.stack
  frf:=I.xP }
 obtain ⟨mX,hnX,hlX⟩:=I.loc
 refine ⟨ok',rfl,I.bare,Un.kept kp,⟨m,hn,λi y v e1 e2 e3=>?_⟩,λy c e=>?_,fresh,λy c e=>I.freeC y c (h1 y c e),λp hp=>?_,I.hok.kept kp,by simp [gu,d8]⟩
 ·cases i with
  | zero =>
   rw [VP] at e2
   cases e2
  | succ i =>
   have e1':(ks.map (·.1))[i]?=some y:=by simpa [gu] using e1
   rw [U_] at e2
   unfold d8 at e2
   rw [Uz] at e1' e2
   cases ep:ks[i]? with
   | none=>rw [ep] at e1';cases e1'
   | some p =>
    rw [ep] at e1' e2
    have ey:p.1=y:=Option.some.inj e1'
    have ev:(σ[p.2]?).getD none=some v:=Option.some.inj e2
    obtain ⟨kN,kf⟩:=kk p (Uw ep)
    have es:σ[p.2]?=some (some v):=by
     cases q:σ[p.2]? with
     | none=>rw [q] at ev;cases ev
     | some w=>rw [q] at ev;exact congrArg some ev
    have hm:(p.1,NameKind.free)∈sc.names:=by
     obtain ⟨l1,l2,q,_⟩:=Wh.mp kf
     rw [q]
     simp
    have oc:X.env.scope.names.lookup p.1=some .cell:=fr _ hm rfl
    obtain ⟨u,ru,lu⟩:=hlX p.2 p.1 v kN es (.inr (.inl oc))
    refine ⟨u,ru,.inr ⟨.inl ?_,?_⟩⟩
    ·rw [show (gu X sc cl s.heap.objs.size x ks s H fp pins).env.kindOf y=_ from kof y,k8,← ey,kf]
     have k1:X.env.kindOf p.1=some .cell:=oc
     simp [I.ok.kind,k1]
    ·obtain ⟨c,hc⟩:=h2 _ hm rfl
     have hc:cl.lookup p.1=some c:=hc
     rcases lu with ⟨z,_⟩ | ⟨_,c',hc',z⟩
     ·have z':X.env.scope.names.lookup p.1=some .local:=z
      rw [oc] at z';cases z'
     ·have:=h1 _ _ hc
      rw [hc'] at this
      cases this
      obtain ⟨o,ho,hd⟩:=z
      exact ⟨_,by rw [← ey];exact hc,o,kp _ _ ho,hd⟩
 ·obtain ⟨v,o,ho,hd⟩:=I.cell y c (h1 y c e)
  exact ⟨v,o,kp _ _ ho,hd⟩
 ·rw [Vq] at hp
  obtain ⟨a1,a2,a3,a4,a5⟩:=I.pin p hp
  refine ⟨kp _ _ a1,a2,lt _ _ a1,λz=>?_,a5⟩
  rcases sub p.1 z with e | e
  ·exact a3 e
  ·exact a4 e
end
def Iw (X:Cx) (ifs:List Expr) (t:TT):Prop :=
 ∀(pins:List (Addr × Obj)) (s:Shared) (σ:L2.St) (H:Hp) (Q:Bool→Hp→Prop),Inv X pins σ H s→t σ H Q →
  wpAny (model X.prog X.w) X.A (forIn ifs true λc r=>if r=true then do let ok ← isTrue c X.env (eval c X.env);pure (ForInStep.yield ok) else pure (ForInStep.yield r)) (TP X pins σ Q) X.xe s
theorem wV {X:Cx}:Iw X [] (λ_ H Q=>Q true H):=λpins s σ H Q I h=>by rw [List.forIn_nil];exact wpAny_pure ⟨H,I,h⟩
theorem Cu {X:Cx} {c:Expr} {t:TT} (h:PT X c t):Iw X [c] t:=λpins s σ H Q I q=>wpAny_tests_one (h pins s σ H Q I q)
section
variable {prog:Program} {w:World} {A:Around} {R:Result→Shared→Prop} {s:Shared}
theorem D1 {elt iter:Expr} {ifs:List Expr} {x:Str} {px:Pos} {sc:Scope} {pos:Pos} {it acc:Value} {env:Env} (I:Nat→Shared→Prop)
  (turn:∀n s,I n s→wpAny (model prog w) A (pyNext it) (λr s₁=>match r with
   | none=>R (.ok .next) s₁
   | some v=>wpAny (model prog w) A (letOwnedTupleGo (.Name x px) it v) (λ_ s₂=>wpAny (model prog w) A (assign (.Name x px) env v) (λ_ s₃=>wpAny (model prog w) A (forIn ifs true λc r=>if r=true then do let ok ← isTrue c env (eval c env);pure (ForInStep.yield ok) else pure (ForInStep.yield r)) (λok s₃=>if ok=true then wpAny (model prog w) A (eval elt env) (λy s₄ =>
     wpAny (model prog w) A (call (.builtin "list.append") [acc,y]) (λ_ s₅=>∃m,m < n∧I m s₅) (λ_ _=>False) s₄) (λ_ _=>False) s₃ else ∃m,m < n∧I m s₃) (λ_ _=>False) s₃) (λ_ _=>False) s₂) (λ_ _=>False) s₁) (λ_ _=>False) s)
  (n:Nat) (h:I n s):codeAny (model prog w) A (.compLoop (.ListComp elt [⟨.Name x px,iter,ifs,0⟩] sc pos) 0 it acc env) R s:=by
 refine codeAny_loop rfl I (λn s hI=>?_) n h
 show wpAny _ _ ((compTurn (.ListComp elt [⟨.Name x px,iter,ifs,0⟩] sc pos) 0 it acc env).onRaise (λx=>do noteFrame x env;theTreesLotGoes x)) _ _ s
 refine wpAny_noted ?_
 rw [compTurn_list]
 have no:∀(e:Value) (s':Shared),False→notedBy (model prog w) A env (λe s'=>R (.error e) s') e s':=λ_ _ z=>z.elim
 refine wpAny_bind (wpAny_standAt (wpAny_bind (wpAny_mono (turn n s hI) (λr s₁ h₁=>?_) no)))
 cases r with
 | none=>exact wpAny_pure h₁
 | some v =>
  refine wpAny_bind (wpAny_mono h₁ (λ_ s₂ h₂=>?_) no)
  refine wpAny_bind (wpAny_mono h₂ (λ_ s₃ h₃=>wpAny_bind (wpAny_mono h₃ (λok s₃' h₃'=>?_) no)) no)
  cases ok with
  | false=>exact wpAny_pure ⟨rfl,h₃'⟩
  | true =>
   exact wpAny_bind (wpAny_bind (wpAny_mono h₃' (λy s₄ h₄=>wpAny_bind (wpAny_mono h₄ (λ_ s₅ h₅=>wpAny_pure (wpAny_pure ⟨rfl,h₅⟩)) no)) no))
end
def Kq (wi:TI) (ks:List (Str × Nat)) (tc:TT) (te:TE):TE:=λσ H Q=>wi σ H λJ H1=>∀D,H1 D=none→∃W:Nat→Nat→Hp→Prop,(∃m,W 0 m (upd H1 D (.lst []))) ∧
 ∀i m H2,W i m H2→(J.stop i H2∧Q (.ref D) H2)∨(J.go i H2∧∀v H3,J.yld i H2 v H3→tc (some v :: d8 ks σ) H3 λb H4=>if b=true then te (some v :: d8 ks σ) H4 λy H5=>∃ys,H5 D=some (.lst ys)∧ys.length < sizeLine∧∃m',m' < m∧W (i + 1) m' (upd H5 D (.lst (ys ++ [y]))) else ∃m',m' < m∧W (i + 1) m' H4)
section
variable {X:Cx}
theorem zg {elt iter:Expr} {ifs:List Expr} {x:Str} {px:Pos} {sc:Scope} {pos:Pos} {te:TE} {tc:TT} {ks:List (Str × Nat)} {cl:List (Str × Addr)} {pins:List (Addr × Obj)} {σ:L2.St} {H:Hp} {s:Shared} {it:Addr} {fp:List Addr} {tn:Nat→Heap→Prop} {J:It} {Q:VK}
  {RR:Value→Addr→Result→Shared→Prop} {E:Value→Shared→Prop}
  (hc:X.calm=true) (ok:cY sc X.env.scope X.N x ks) (h1:∀y c,cl.lookup y=some c→X.env.cells.lookup y=some c) (h2:∀y∈sc.names,y.2=.free→∃c,cl.lookup y.1=some c)
  (he:∀cl C s₀ H₀ fp pins,PE (gu X sc cl C x ks s₀ H₀ fp pins) elt te) (hcn:∀cl C s₀ H₀ fp pins,Iw (gu X sc cl C x ks s₀ H₀ fp pins) ifs tc)
  (I:Inv X pins σ H s) (T:Turn X.prog X.w X.K (.Name x px) J fp it tn) (st:tn 0 s.heap) (f:∀b∈fp,lZ X pins H b)
  (hw:∀D,H D=none→∃W:Nat→Nat→Hp→Prop,(∃m,W 0 m (upd H D (.lst [])))∧∀i m H2,W i m H2→(J.stop i H2∧Q (.ref D) H2) ∨
   (J.go i H2∧∀v H3,J.yld i H2 v H3→tc (some v :: d8 ks σ) H3 λb H4=>if b=true then te (some v :: d8 ks σ) H4 λy H5=>∃ys,H5 D=some (.lst ys)∧ys.length < sizeLine∧∃m',m' < m∧W (i + 1) m' (upd H5 D (.lst (ys ++ [y]))) else ∃m',m' < m∧W (i + 1) m' H4))
  (hR:∀(D C:Addr) (s':Shared) (H':Hp) (m:Str→Option Value),Inv X pins σ H' s'→Q (.ref D) H'→s'.heap.Ns C m→H' C=none→C≠X.env.locals→X.s₀.heap.objs.size≤C→(∀y c,X.env.cells.lookup y=some c→c≠C)→(∀p∈X.pn ++ pins,p.1≠C)→RR (.ref D) C (.ok .next) s') :
  wpAny (model X.prog X.w) X.A (newList []) (λacc s₃=>wpAny (model X.prog X.w) X.A (newFunctionEnv sc X.env.globals cl [] X.env.qual none .none (some X.env)) (λcenv s₄ =>
   codeAny (model X.prog X.w) X.A (.compStart (.ListComp elt [⟨.Name x px,iter,ifs,0⟩] sc pos) 0 (.ref it) acc { cenv with scope:=relabel sc X.env }) (RR acc cenv.locals) s₄) E s₃) E s:=by
 have okk:=ok
 obtain ⟨kd,nc,lx,ll,fr,kk,nd⟩:=okk
 have hD0:H s.heap.objs.size=none:=I.hok.fresh (Ux _)
 obtain ⟨W,⟨m0,w0⟩,turn⟩:=hw s.heap.objs.size hD0
 refine wpAny_newObj_type ?_
 have I3:Inv X pins σ (upd H s.heap.objs.size (.lst [])) { s with heap:=s.heap.push { cls:=.type "list",dict:=none,data:=.seq ([]:List Value).toArray } } :=
  I.laid (t':=s.toks) (λb u e=>Heap.get?_push_of_some _ e) (Ux _) (show dB X.prog X.w _ _ _ (.lst []) from ⟨UZ _,[],0,.nil,Heap.get?_push_size _ rfl⟩)
 have st3:tn 0 (s.heap.push { cls:=.type "list",dict:=none,data:=.seq ([]:List Value).toArray }):=T.keep 0 _ _ st λb hb o e=>Heap.get?_push_of_some _ e
 generalize hD:s.heap.objs.size=D at *
 generalize hH:upd H D (.lst [])=H3 at *
 generalize hs3:({ s with heap:=s.heap.push { cls:=.type "list",dict:=none,data:=.seq ([]:List Value).toArray } }:Shared)=s3 at *
 have e3:s.heap.push { cls:=.type "list",dict:=none,data:=.seq ([]:List Value).toArray }=s3.heap:=by rw [← hs3]
 rw [e3] at st3
 have fD:∀b∈fp,b≠D:=λb hb z=>by
  obtain ⟨o,ho,_⟩:=T.obj 0 _ st b hb
  have:=Heap.lt_size ho
  rw [z,← hD] at this
  exact Vv _ this
 have f3:∀b∈fp,lZ X pins H3 b:=λb hb=>⟨by rw [← hH,aM (fD b hb)];exact (f b hb).1,(f b hb).2⟩
 have g3:∀b∈fp,∃o,s3.heap.get? b=some o:=λb hb=>by
  obtain ⟨o,ho,_⟩:=T.obj 0 _ st3 b hb
  exact ⟨o,ho⟩
 refine wpAny_newFunctionEnv nc (by intro y hy;simp at hy) (λh₁ hns hsb=>?_) kd
 have kp:∀b o,s3.heap.get? b=some o→h₁.get? b=some o:=λb o e=>hsb.extBut b o (UO (Heap.lt_size e)) (Heap.get?_push_of_some _ e)
 have J0:=yA (fp:=fp) (cl:=cl) (t':=s3.toks + ([]:List (Str × Value)).length) I3 ok h1 h2 (λb hb=>⟨f3 b hb,g3 b hb⟩) hns kp
 have st4:tn 0 h₁:=T.keep 0 _ _ st3 λb hb o e=>kp b o e
 have ltC:∀b o,s3.heap.get? b=some o→b≠s3.heap.objs.size:=λb o e=>UO (Heap.lt_size e)
 have cC:∀y c,X.env.cells.lookup y=some c→c≠s3.heap.objs.size:=λy c e=>by
  obtain ⟨v,o,ho,_⟩:=I3.cell y c e
  exact ltC c o ho
 have pC:∀p∈X.pn ++ pins,p.1≠s3.heap.objs.size:=λp hp=>ltC _ _ (I3.pin p hp).1
 have lC:s3.heap.objs.size≠X.env.locals:=Wm I3.lt
 have fX:∀{H':Hp},(∀b∈fp,H' b=none)→∀b∈fp,lZ (gu X sc cl s3.heap.objs.size x ks s3 H3 fp pins) [] H' b:=λhn b hb=>by
  obtain ⟨o,ho⟩:=g3 b hb
  obtain ⟨_,q1,q2,q3,q4,q5⟩:=f b hb
  refine ⟨hn b hb,ltC b o ho,λz=>?_,.inl hb,λy c e=>q4 y c (h1 y c e),λp hp=>q5 p (by simpa [gu] using hp)⟩
  rcases UI.mp (I3.pT b z) with e | e
  ·exact q1 e
  ·exact q2 e
 have back:∀{o:Option V} {H':Hp} {s':Shared},Inv (gu X sc cl s3.heap.objs.size x ks s3 H3 fp pins) [] (o :: d8 ks σ) H' s'→Inv X pins σ H' s':=λ{o H' s'} J=>by
  obtain ⟨hh,g,d,t,os'⟩:=s'
  obtain rfl:os'=s3.os:=J.os
  exact I3.call (h':=hh) (g':=g) (d':=d) (t':=t) (ch:=fp) J.base J.hok J.bare λb hb=>⟨(f b hb).2.2.2.1,(f b hb).2.1,(f b hb).2.2.2.2.1,(f b hb).2.2.2.2.2⟩
 have lookX:(relabel sc X.env).names.lookup x=some .local:=lookup_relabel_local lx
 have loop:∀s',(∃(i:Nat) (o:Option V) (H':Hp),Inv (gu X sc cl s3.heap.objs.size x ks s3 H3 fp pins) [] (o :: d8 ks σ) H' s'∧tn i s'.heap∧(∀b∈fp,H' b=none)∧W i m0 H') →
   codeAny (model X.prog X.w) X.A (.compLoop (.ListComp elt [⟨.Name x px,iter,ifs,0⟩] sc pos) 0 (.ref it) (.ref D) (compEnvC sc cl s3.heap.objs.size X.env)) (RR (.ref D) s3.heap.objs.size) s':=by
  intro s' hs'
  refine D1 (λn s'=>∃(i:Nat) (o:Option V) (H':Hp),Inv (gu X sc cl s3.heap.objs.size x ks s3 H3 fp pins) [] (o :: d8 ks σ) H' s'∧tn i s'.heap∧(∀b∈fp,H' b=none)∧W i n H') ?_ m0 hs'
  rintro n s5 ⟨i,o,H5,J5,t5,n5,w5⟩
  rcases turn i n H5 w5 with ⟨stop,hq⟩ | ⟨go,step⟩
  ·refine cD (T.done (gu X sc cl s3.heap.objs.size x ks s3 H3 fp pins) rfl rfl rfl hc i [] s5 _ H5 _ J5 (fX n5) t5 stop) λr s6 ⟨hr,J6⟩=>?_
   subst hr
   obtain ⟨m,hm,_⟩:=J6.loc
   exact hR D _ s6 H5 m (back J6) hq hm J6.free lC I3.sz cC pC
  ·refine cD (T.item (gu X sc cl s3.heap.objs.size x ks s3 H3 fp pins) rfl rfl rfl hc i [] s5 _ H5 _ J5 (fX n5) t5 go) λr s6 ⟨u,hr,h6⟩=>?_
   subst hr
   refine cD h6 λ_ s7 ⟨v,H7,J7,r7,y7,t7,n7⟩=>?_
   have J7':=J7.pinned (fX n7) (T.obj _ _ t7)
   refine wpAny_assign_Name (fJ (X:=gu X sc cl s3.heap.objs.size x ks s3 H3 fp pins) (i:=0) J7' nd rfl (.inl lookX) r7 (λs8 J8=>?_) (.inr lookX))
   refine cD (hcn cl s3.heap.objs.size s3 H3 fp pins _ s8 _ H7 _ J8 (step v H7 y7)) λok s8' ⟨H8,J8',q8⟩=>?_
   cases ok with
   | false =>
    simp only [UK,if_false] at q8 ⊢
    obtain ⟨m',hm,w'⟩:=q8
    refine ⟨m',hm,i + 1,_,_,J8'.gQ,?_,?_,w'⟩
    ·exact T.keep _ _ _ t7 λb hb o e=>(J8'.pin (b,o) (UG _ (UG _ (cM hb e)))).1
    ·intro b hb
     obtain ⟨o,e,d⟩:=T.obj _ _ t7 b hb
     exact (J8'.pin (b,o) (UG _ (UG _ (cM hb e)))).2.1
   | true =>
    simp only [if_true] at q8 ⊢
    refine cD (he cl s3.heap.objs.size s3 H3 fp pins _ s8' _ H8 _ J8' q8) λy s9 ⟨vy,H9,J9,r9,ys,hys,hz,m',hm,w'⟩=>?_
    refine cD (iX (X:=gu X sc cl s3.heap.objs.size x ks s3 H3 fp pins) _ s9 _ H9 (.ref D) [vy] (.ref D) [y] (λ_ H'=>H'=upd H9 D (.lst (ys ++ [vy]))) J9 rfl (.cons r9 .nil) ⟨D,ys,vy,rfl,rfl,hys,hz,rfl⟩) λ_ s10 ⟨_,H10,J10,_,eH⟩=>?_
    subst eH
    refine ⟨m',hm,i + 1,_,_,J10.gQ,?_,?_,w'⟩
    ·exact T.keep _ _ _ t7 λb hb o e=>(J10.pin (b,o) (UG _ (UG _ (cM hb e)))).1
    ·intro b hb
     obtain ⟨o,e,d⟩:=T.obj _ _ t7 b hb
     exact (J10.pin (b,o) (UG _ (UG _ (cM hb e)))).2.1
 have l0:=loop _ ⟨0,none,H3,J0,st4,λb hb=>(f3 b hb).1,w0⟩
 exact codeAny_compStart_list l0 (T.self _ 0 _ _ _ st4 l0)
theorem so {sc osc:Scope} {N:List Str} {x:Str} {ks:List (Str × Nat)} (ok:cY sc osc N x ks) {pins:List (Addr × Obj)} {σ:L2.St} {H:Hp} {s:Shared} (I:Inv X pins σ H s) (ho:X.env.scope=osc):∀y∈sc.names,y.2=.free→∃c,X.env.cells.lookup y.1=some c:=λy hy hf =>
 I.ok.has y.1 (.inl (by show X.env.scope.names.lookup y.1=some .cell;rw [ho];exact ok.2.2.2.2.1 y hy hf))
theorem Nu {elt iter:Expr} {ifs:List Expr} {x:Str} {px:Pos} {sc:Scope} {pos:Pos} {wi:TI} {te:TE} {tc:TT} (osc:Scope) (N:List Str) (ks:List (Str × Nat)) (hc:X.calm=true) (ho:X.env.scope=osc) (hN:X.N=N) (hi:PI X (.Name x px) iter wi)
  (he:∀cl C s₀ H₀ fp pins,PE (gu X sc cl C x ks s₀ H₀ fp pins) elt te) (hcn:∀cl C s₀ H₀ fp pins,Iw (gu X sc cl C x ks s₀ H₀ fp pins) ifs tc) (ok:cY sc osc N x ks:=by decide +kernel) (hs:∀x,foldedSetIterable iter X.env x=pure x:=by intro _;rfl) :
  PE X (.ListComp elt [⟨.Name x px,iter,ifs,0⟩] sc pos) (Kq wi ks tc te):=by
 intro pins s σ H Q I hw
 obtain ⟨cl,hcl,h1,h2⟩:=mJ (so ok I ho)
 have ok':cY sc X.env.scope X.N x ks:=by rw [ho,hN];exact ok
 rw [eval_ListComp]
 refine wpAny_comprehension_free (use:=none) rfl hs hcl ok.1 ok.2.2.2.1 (cD (hi pins s σ H _ I hw) λv s1 h3=>cD h3 λitv s2 h4=>?_)
 obtain ⟨it,fp,tn,J,H2,rfl,I2,T,st2,f2,hR⟩:=h4
 refine zg (RR:=λacc C=>compPost (model X.prog X.w) X.A X.xe none (EP X pins σ Q) acc C) hc ok' h1 h2 he hcn I2 T st2 f2 hR ?_
 intro D C s' H' m J' q hn hC cl' cs cc cp
 refine ⟨m,hn,λh' hsb=>⟨.ref D,H',?_,rfl,q⟩⟩
 exact J'.turned (t':=s'.toks) (it:=C) (λb o ne e=>hsb.extBut b o ne e) hC cl' (.inr cs) cc cp
def QD (wi:TI) (ks:List (Str × Nat)) (tc:TT) (te:TE) (i:Nat):TS:=λD σ H=>Kq wi ks tc te σ H λv H1=>D.nx (σ.set i (some v)) H1
theorem Ba {elt iter:Expr} {ifs:List Expr} {x y:Str} {px py:Pos} {sc:Scope} {pos spos:Pos} {wi:TI} {te:TE} {tc:TT} {i:Nat} (osc:Scope) (N:List Str) (ks:List (Str × Nat)) (hc:X.calm=true) (ho:X.env.scope=osc) (hN:X.N=N) (hnd:X.N.Nodup) (hy:X.N[i]?=some y) (hl:Loc X.env.scope y)
  (hi:PI X (.Name x px) iter wi) (he:∀cl C s₀ H₀ fp pins,PE (gu X sc cl C x ks s₀ H₀ fp pins) elt te) (hcn:∀cl C s₀ H₀ fp pins,Iw (gu X sc cl C x ks s₀ H₀ fp pins) ifs tc) (ok:cY sc osc N x ks:=by decide +kernel) (hs:∀x,foldedSetIterable iter X.env x=pure x:=by intro _;rfl)
  (hsw:swapsWith (.ListComp elt [⟨.Name x px,iter,ifs,0⟩] sc pos) (some (.Name y py)) spos.line X.env=pure true:=by rfl) (hf:X.fn y=true∨X.env.scope.names.lookup y=some .local:=by first | exact .inl rfl | exact .inr rfl | assumption) :
  PS X (.Assign [.Name y py] (.ListComp elt [⟨.Name x px,iter,ifs,0⟩] sc pos) spos) (QD wi ks tc te i):=by
 intro pins s σ H Dn I hw
 obtain ⟨cl,hcl,h1,h2⟩:=mJ (so ok I ho)
 have ok':cY sc X.env.scope X.N x ks:=by rw [ho,hN];exact ok
 rw [exec_Assign_Name_used _ _ _ _ hsw]
 refine wpAny_bind (wpAny_standAt (wpAny_bind ?_))
 show wpAny _ X.A (do let _ ← comprehension (.ListComp elt [⟨.Name x px,iter,ifs,0⟩] sc pos) sc X.env _ (newList []) false (eval iter X.env) (some (assign (.Name y py) X.env))) _ _ s
 refine wpAny_bind (wpAny_mono (wpAny_comprehension_free (use:=some (assign (.Name y py) X.env)) (Q:=λ_ s'=>SP X pins Dn .next s') rfl hs hcl ok.1 ok.2.2.2.1
  (cD (hi pins s σ H _ I hw) λv s1 h3=>cD h3 λitv s2 h4=>?_)) (λ_ s' hq=>wpAny_pure (wpAny_pure hq)) λ_ _ e=>e)
 obtain ⟨it,fp,tn,J,H2,rfl,I2,T,st2,f2,hR⟩:=h4
 refine zg (Q:=λv H1=>Dn.nx (σ.set i (some v)) H1) (RR:=λacc C=>compPost (model X.prog X.w) X.A X.xe (some (assign (.Name y py) X.env)) (λ_ s'=>SP X pins Dn .next s') acc C) hc ok' h1 h2 he hcn I2 T st2 f2 hR ?_
 intro D C s' H' m J' q hn hC cl' cs cc cp
 show wpAny _ X.A (assign (.Name y py) X.env (.ref D)) _ _ _
 refine wpAny_assign_Name (vB J' hnd hy hl (v:=.ref D) rfl (λs'' J'' ⟨a,hsb,ha⟩=>?_) hf)
 refine ⟨m,hn.sameBut hsb (λz=>?_),λh' hsb'=>⟨_,H',?_,q⟩⟩
 ·rcases ha with e | e
  ·exact cl' (z.trans e)
  ·exact cc _ _ e z.symm
 ·exact J''.turned (t':=s''.toks) (it:=C) (λb o ne e=>hsb'.extBut b o ne e) hC cl' (.inr cs) cc cp
def Rm (wi:TI) (ks:List (Str × Nat)) (te:TE):TE:=λσ H Q=>wi σ H λJ H1=>∀D,H1 D=none→∃W:Nat→Nat→Hp→Prop,(∃m,W 0 m (upd H1 D (.lst []))) ∧
 ∀i m H2,W i m H2→(J.stop i H2∧Q (.ref D) H2)∨(J.go i H2∧∀v H3,J.yld i H2 v H3→te (some v :: d8 ks σ) H3 λy H4=>∃ys,H4 D=some (.lst ys)∧ys.length < sizeLine∧∃m',m' < m∧W (i + 1) m' (upd H4 D (.lst (ys ++ [y]))))
theorem Lh {elt iter:Expr} {x:Str} {px:Pos} {sc:Scope} {pos:Pos} {wi:TI} {te:TE} (osc:Scope) (N:List Str) (ks:List (Str × Nat)) (hc:X.calm=true) (ho:X.env.scope=osc) (hN:X.N=N) (hi:PI X (.Name x px) iter wi)
  (he:∀cl C s₀ H₀ fp pins,PE (gu X sc cl C x ks s₀ H₀ fp pins) elt te) (ok:cY sc osc N x ks:=by decide +kernel) (hs:∀x,foldedSetIterable iter X.env x=pure x:=by intro _;rfl) :
  PE X (.ListComp elt [⟨.Name x px,iter,[],0⟩] sc pos) (Rm wi ks te):=λpins s σ H Q I hw=>Nu osc N ks hc ho hN hi he (λ_ _ _ _ _ _=>wV) ok hs pins s σ H Q I hw
def N0 (wi:TI) (ks:List (Str × Nat)) (te:TE) (i:Nat):TS:=λD σ H=>Rm wi ks te σ H λv H1=>D.nx (σ.set i (some v)) H1
theorem Li {elt iter:Expr} {x y:Str} {px py:Pos} {sc:Scope} {pos spos:Pos} {wi:TI} {te:TE} {i:Nat} (osc:Scope) (N:List Str) (ks:List (Str × Nat)) (hc:X.calm=true) (ho:X.env.scope=osc) (hN:X.N=N) (hnd:X.N.Nodup) (hy:X.N[i]?=some y) (hl:Loc X.env.scope y)
  (hi:PI X (.Name x px) iter wi) (he:∀cl C s₀ H₀ fp pins,PE (gu X sc cl C x ks s₀ H₀ fp pins) elt te) (ok:cY sc osc N x ks:=by decide +kernel) (hs:∀x,foldedSetIterable iter X.env x=pure x:=by intro _;rfl)
  (hsw:swapsWith (.ListComp elt [⟨.Name x px,iter,[],0⟩] sc pos) (some (.Name y py)) spos.line X.env=pure true:=by rfl) (hf:X.fn y=true∨X.env.scope.names.lookup y=some .local:=by first | exact .inl rfl | exact .inr rfl | assumption) :
  PS X (.Assign [.Name y py] (.ListComp elt [⟨.Name x px,iter,[],0⟩] sc pos) spos) (N0 wi ks te i):=λpins s σ H D I hw=>Ba osc N ks hc ho hN hnd hy hl hi he (λ_ _ _ _ _ _=>wV) ok hs hsw hf pins s σ H D I hw
end
theorem IX {K:PySem.W.Frag} {a D:Addr} {xs:List V} {H:Hp} {te:TE} {ks:List (Str × Nat)} {σ:L2.St} {q:Hp→Prop} (Pv:Nat→Hp→Prop) (h0:Pv 0 (upd H D (.lst []))) (hl:∀i H,i≤xs.length→Pv i H→cZ K H a xs)
  (hs:∀i x H (R:VK),xs[i]?=some x→Pv i H→(∀y H4 ys,H4 D=some (.lst ys)→ys.length < sizeLine→Pv (i + 1) (upd H4 D (.lst (ys ++ [y])))→R y H4)→te (some x :: d8 ks σ) H R) (hd:∀H,Pv xs.length H→q H) :
  ∃W:Nat→Nat→Hp→Prop,(∃m,W 0 m (upd H D (.lst [])))∧∀i m H2,W i m H2→((Im K a).stop i H2∧q H2) ∨
   ((Im K a).go i H2∧∀v H3,(Im K a).yld i H2 v H3→te (some v :: d8 ks σ) H3 λy H4=>∃ys,H4 D=some (.lst ys)∧ys.length < sizeLine∧∃m',m' < m∧W (i + 1) m' (upd H4 D (.lst (ys ++ [y])))):=by
 refine ⟨λi m H=>m=xs.length - i∧i≤xs.length∧Pv i H,⟨xs.length,by simp,UZ _,h0⟩,?_⟩
 rintro i m H2 ⟨rfl,hi,p⟩
 have hq:=hl i H2 hi p
 by_cases hlt:i < xs.length
 ·refine .inr ⟨⟨xs,xs[i],hq,by simp [hlt]⟩,λv H3 y=>?_⟩
  obtain ⟨e,y⟩:=y
  subst e
  exact hs i v _ _ (y xs hq) p λy H4 ys e1 e2 e3=>⟨ys,e1,e2,xs.length - (i + 1),by omega,rfl,hlt,e3⟩
 ·have e:i=xs.length:=by omega
  subst e
  exact .inl ⟨⟨xs,hq,Ux _⟩,hd H2 p⟩
theorem F' {lo:Int} {n:Nat} {D:Addr} {H:Hp} {te:TE} {ks:List (Str × Nat)} {σ:L2.St} {q:Hp→Prop} (Pv:Nat→Hp→Prop) (h0:Pv 0 (upd H D (.lst [])))
  (hs:∀i H (R:VK),i < n→Pv i H→(∀y H4 ys,H4 D=some (.lst ys)→ys.length < sizeLine→Pv (i + 1) (upd H4 D (.lst (ys ++ [y])))→R y H4)→te (some (.int (lo + i)) :: d8 ks σ) H R) (hd:∀H,Pv n H→q H) :
  ∃W:Nat→Nat→Hp→Prop,(∃m,W 0 m (upd H D (.lst [])))∧∀i m H2,W i m H2→((E3 lo n).stop i H2∧q H2) ∨
   ((E3 lo n).go i H2∧∀v H3,(E3 lo n).yld i H2 v H3→te (some v :: d8 ks σ) H3 λy H4=>∃ys,H4 D=some (.lst ys)∧ys.length < sizeLine∧∃m',m' < m∧W (i + 1) m' (upd H4 D (.lst (ys ++ [y])))):=by
 refine ⟨λi m H=>m=n - i∧i≤n∧Pv i H,⟨n,by simp,UZ _,h0⟩,?_⟩
 rintro i m H2 ⟨rfl,hi,p⟩
 by_cases hlt:i < n
 ·refine .inr ⟨hlt,λv H3 y=>?_⟩
  obtain ⟨e,y⟩:=y
  subst e y
  exact hs i _ _ hlt p λy H4 ys e1 e2 e3=>⟨ys,e1,e2,n - (i + 1),by omega,rfl,hlt,e3⟩
 ·have e:i=n:=by omega
  subst e
  exact .inl ⟨Ux _,hd H2 p⟩
def one (c:Nat):Str:=⟨#[c]⟩
theorem vf:∀(cs:List Nat) (acc:Array Nat),(cs.map one).foldl (λacc (p:Str)=>acc ++ (Str.ofString "").cps ++ p.cps) acc=acc ++ cs.toArray
 | [],acc=>by simp
 | c :: cs,acc=>by
  have e:(Str.ofString "").cps=#[]:=by decide +kernel
  rw [UB,List.foldl_cons,vf cs]
  rw [e]
  show (acc ++ #[] ++ #[c]) ++ cs.toArray=_
  simp
theorem join_ones (cs:List Nat):Txt.join (Str.ofString "") (cs.map one)=⟨cs.toArray⟩:=by
 unfold Txt.join Builtin.Str.glued
 cases cs with
 | nil=>rfl
 | cons c cs =>
  simp only [UB,List.drop_succ_cons,V2,List.headD_cons]
  rw [vf]
  show (⟨#[c] ++ cs.toArray⟩:Str)=_
  simp
theorem jU:∀{ys:List Str} {us:List Value},Vals (ys.map V.str) us→StrsAre us ys
 | [],_,.nil=>.nil
 | y :: ys,_,.cons r rr=>by
  obtain ⟨t,rfl⟩:=r
  exact .cons y t (jU rr)
section
variable {X:Cx}
def rJoin (K:PySem.W.Frag):V→List V→Hp→VK→Prop:=λx vs H Q=>∃z p ys,x=.str z∧vs=[.ref p]∧cZ K H p (ys.map V.str)∧(ys.map (·.length)).sum + ys.length * z.length≤16777216∧Q (.str (Txt.join z ys)) H
theorem Jh:qE X "str.join" (rJoin X.K):=by
 intro pins s σ H x vs v us Q I rx rv h
 obtain ⟨z,p,ys,rfl,rfl,hp,hz,q⟩:=h
 obtain ⟨t,rfl⟩:=rx
 obtain ⟨u,rfl,ru⟩:=vals1 rv
 cases ru
 obtain ⟨its,r,pl,_⟩:=I.list hp
 exact join_list pl.isList (by simpa using jU r) hz λt' k=>⟨.str _,H,I.tok _,⟨_,rfl⟩,q⟩
end
def vY:Expr→Option V
 | .Constant (.int i) _ _=>some (.int i)
 | .Constant (.str x) _ _=>some (.str x)
 | .Constant (.bool b) _ _=>some (.bl b)
 | _=>none
theorem su {X:Cx}:∀{es:List Expr} (vs:List V),es.map vY=vs.map some→PA X es (λ_ H Q=>Q vs H)
 | [],[],_=>λ_ _ _ _ H Q I h=>Calls.spliced_nil ⟨[],H,I,.nil,h⟩
 | [],_ :: _,h=>by cases h
 | _ :: _,[],h=>by cases h
 | e :: es,v :: vs,h=>by
  rw [UB,UB] at h
  injection h with h1 h2
  have ih:=su (X:=X) (es:=es) vs h2
  have hs:starEach (e :: es) X.env=(false,eval e X.env) :: starEach es X.env:=by
   cases e <;> first | rfl | cases h1
  have he:PE X e (tC v):=by
   cases e with
   | Constant c j pos =>
    cases c with
    | int i=>cases h1;exact aS
    | str x=>cases h1;exact pq
    | bool b=>cases h1;exact y6
    | _=>cases h1
   | _=>cases h1
  exact λpos pins s σ H Q I hq=>az he ih hs pos pins s σ H Q I hq
end Ov
namespace Ov
open PySem PySem.Spec PyProof.Rows
open L2 (V HO Hp Inv Cx St VK TE TT TA TS TG qF TI TO ki Ends xY Loc Gl Rd RelV Vals fz yf cj qD uf qE kg R2 BB tC HF Ro Dd tB HB QH Kr C6 Ks C9 Rk Kw EE xR fi Ko tG Rj zK Kt pZ IJ B3 IM IL Kp xS NZ B7 RV B8 KS Ku Dc C7 Qz NY C8 Kv BA ra C_ Rn upd E0 bV dq)
structure QE (X:Cx) (e:Expr) (t:TE):Prop where
 run:L2.PE X e t
structure QT (X:Cx) (e:Expr) (t:TT):Prop where
 run:L2.PT X e t
structure QW (X:Cx) (e:Expr) (t:TT):Prop where
 run:L2.PW X e t
structure QA (X:Cx) (es:List Expr) (t:TA):Prop where
 run:L2.PA X es t
structure QS (X:Cx) (st:Stmt) (t:TS):Prop where
 run:L2.PS X st t
structure QB (X:Cx) (st:List Stmt) (t:TS):Prop where
 run:L2.tM X st t
structure QG (X:Cx) (e:Expr) (t:TG):Prop where
 run:L2.PG X e t
structure Q6 (X:Cx) (es:List Expr) (t:qF):Prop where
 run:L2.KN X es t
structure QI (X:Cx) (tg e:Expr) (t:TI):Prop where
 run:L2.PI X tg e t
structure QO (X:Cx) (e:Option Expr) (t:TO):Prop where
 run:L2.PO X e t
section
variable {X:Cx} {a b c e o:Expr} {es rest:List Expr} {ta tb te tc to:TE} {tA tB':TT} {t:TA} {pos px p p2 apos cpos:Pos} {x:Str} {i j:Nat}
theorem pv (i:Nat) {x:Str} {pos:Pos} (hN:X.N[i]?=some x:=by rfl) (hv:xY X.env.scope x:=by first | exact Or.inl rfl | exact Or.inr (Or.inl rfl) | exact Or.inr (Or.inr rfl)) (hd:(x == ("__debug__":Str))=false:=by decide)
  (hcd:(x == ("__classdict__":Str))=false:=by decide):QE X (.Name x pos) (BB i):=⟨L2.A8 hN hv hd hcd⟩
theorem aS {i:Int} {j pos}:QE X (.Constant (.int i) j pos) (tC (.int i)):=⟨L2.aS⟩
theorem y6 {b:Bool} {j pos}:QE X (.Constant (.bool b) j pos) (tC (.bl b)):=⟨L2.y6⟩
theorem A5 {j pos}:QE X (.Constant .none j pos) (tC .non):=⟨L2.A5⟩
theorem pq {x:Str} {j pos}:QE X (.Constant (.str x) j pos) (tC (.str x)):=⟨L2.pq⟩
theorem du {v:V} {u:Value} (hg:Gl X x) (hm:X.mg x=some u) (r:RelV v u) (hd:(x == ("__debug__":Str))=false:=by decide):QE X (.Name x pos) (tC v):=⟨L2.du hg hm r hd⟩
theorem qP {v:V} {u:Value} (hg:Gl X x) (hm:X.mg x=none) (hv:bootBuiltins x=some u) (r:RelV v u) (hn:x≠"__name__":=by decide) (hd:(x == ("__debug__":Str))=false:=by decide):QE X (.Name x pos) (tC v):=⟨L2.qP hg hm hv r hn hd⟩
theorem bF {op:Operator} {r:R2} (ho:fz X (binaryOp op) r) (ha:QE X a ta) (hb:QE X b tb):QE X (.BinOp a op b pos) (HF r ta tb):=⟨L2.bF ho ha.run hb.run⟩
theorem Cq {op:UnaryOp} {r:V→Hp→VK→Prop} (ho:yf X (unaryOp op) r) (ha:QE X a ta):QE X (.UnaryOp op a pos) (Ro r ta):=⟨L2.Cq ho ha.run⟩
theorem qQ {op:CmpOp} {r:R2} (ho:fz X (compareOp op) r) (ha:QE X a ta) (hb:QE X b tb) (hm:behindInMarks op b=false):QE X (.Compare a [op] [b] pos) (HF r ta tb):=⟨L2.qQ ho ha.run hb.run hm⟩
theorem dO {op:CmpOp} {r:R2} (ho:fz X (compareOp op) r) (ha:QE X a ta) (hb:QE X b tb) (hm:behindInMarks op b=false):QT X (.Compare a [op] [b] pos) (Dd (HF r ta tb)):=⟨L2.dO ho ha.run hb.run hm⟩
theorem A7 {op} (h:QE X a ta):QE X (.BoolOp op [a] pos) ta:=⟨L2.A7 h.run⟩
theorem A4 (ha:QE X a ta) (hb:QE X (.BoolOp .And (b :: rest) pos) tb):QE X (.BoolOp .And (a :: b :: rest) pos) (C6 ta tb):=⟨L2.A4 ha.run hb.run⟩
theorem GQ (ha:QE X a ta) (hb:QE X (.BoolOp .Or (b :: rest) pos) tb):QE X (.BoolOp .Or (a :: b :: rest) pos) (Ks ta tb):=⟨L2.GQ ha.run hb.run⟩
theorem A6 (ha:QE X a ta):QE X (.UnaryOp .Not a pos) (C9 ta):=⟨L2.A6 ha.run⟩
theorem Bb (ha:QT X a tA):QT X (.UnaryOp .Not a pos) (Kr tA):=⟨L2.Bb ha.run⟩
theorem qT (ha:QT X a tA):QW X (.BoolOp .And [a] pos) tA:=⟨L2.qT ha.run⟩
theorem wZ (ha:QT X a tA):QW X (.BoolOp .Or [a] pos) tA:=⟨L2.wZ ha.run⟩
theorem wY (ha:QT X a tA) (hb:QW X (.BoolOp .And (b :: rest) pos) tB'):QW X (.BoolOp .And (a :: b :: rest) pos) (HB tA tB'):=⟨L2.wY ha.run hb.run⟩
theorem Cz (ha:QT X a tA) (hb:QW X (.BoolOp .Or (b :: rest) pos) tB'):QW X (.BoolOp .Or (a :: b :: rest) pos) (QH tA tB'):=⟨L2.Cz ha.run hb.run⟩
theorem Lk (h:QW X e tA):QT X e tA:=⟨h.run.pt⟩
theorem Bc (h:QE X e te) (he:∀whole,isTrue e X.env whole=(do let v ← whole;standAt e.pos;holding [v] (truthy v)):=by intro _;rfl):QT X e (tB te):=⟨L2.Bc h.run he⟩
theorem sx (hc:QT X c tA) (ha:QE X a ta) (hb:QE X b tb):QE X (.IfExp c a b pos) (Rk tA ta tb):=⟨L2.sx hc.run ha.run hb.run⟩
theorem bj:QA X [] xR:=⟨L2.bj⟩
theorem az (ha:QE X e te) (hr:QA X es t) (hs:starEach (e :: es) X.env=(false,eval e X.env) :: starEach es X.env:=by rfl):QA X (e :: es) (fi te t):=⟨L2.az ha.run hr.run hs⟩
theorem GJ {es:List Expr} (vs:List V) (h:es.map vY=vs.map some):QA X es (λ_ H Q=>Q vs H):=⟨su vs h⟩
theorem sy {x1} (h:QA X es t):QE X (.Tuple es x1 pos) (Kw t):=⟨L2.sy h.run⟩
theorem jy (h:QA X es t):QE X (.List es pos) (EE t):=⟨L2.jy h.run⟩
theorem cn {r:R2} (hr:qD X r) (ha:QE X a ta) (hb:QE X b tb) (hs:dq b):QE X (.Subscript a b pos) (HF r ta tb):=⟨L2.cn hr ha.run hb.run hs⟩
theorem qR:QO X none ra:=⟨L2.qR⟩
theorem lR (h:QE X e te):QO X (some e) (C_ te):=⟨L2.lR h.run⟩
theorem kM {lo hi:Option Expr} {tl th:TO} {r:V→Option Int→Option Int→Hp→VK→Prop} (hr:uf X r) (he:QE X e te) (hl:QO X lo tl) (hu:QO X hi th):QE X (.Subscript e (.Slice lo hi none p2) pos) (Rn r te tl th):=⟨L2.kM hr he.run hl.run hu.run⟩
theorem bL {id:String} {r:List V→Hp→VK→Prop} (hc:cj X (.builtin id) r) (hg:Gl X x) (hm:X.mg x=none) (hv:bootBuiltins x=some (.builtin id)) (ha:QA X (e :: es) t) (hn:x≠"__name__":=by decide) (hdb:(x == ("__debug__":Str))=false:=by decide)
  (he:starEach (e :: es) X.env=(false,eval e X.env) :: starEach es X.env:=by rfl) (hpl:(backTo pos (starEach es X.env)).any (·.1)=false:=by rfl):QE X (.Call (.Name x p) (e :: es) [] pos) (Ko r t):=⟨L2.bL hc hg hm hv ha.run hn hdb he hpl⟩
theorem pj {T:String} {r:List V→Hp→VK→Prop} (hc:cj X (.type T) r) (hg:Gl X x) (hm:X.mg x=none) (hv:bootBuiltins x=some (.type T)) (ha:QA X (e :: es) t) (hn:x≠"__name__":=by decide) (hdb:(x == ("__debug__":Str))=false:=by decide)
  (he:starEach (e :: es) X.env=(false,eval e X.env) :: starEach es X.env:=by rfl) (hpl:(backTo pos (starEach es X.env)).any (·.1)=false:=by rfl):QE X (.Call (.Name x p) (e :: es) [] pos) (Ko r t):=⟨L2.pj hc hg hm hv ha.run hn hdb he hpl⟩
theorem y8 {k k':Nat} {ps:List Str} {sp:L2.Sp} (C:tL X.prog X.w X.K X.mg X.base k x ps sp) (hr:bV k' X.A) (hk:k≤k') (hg:Gl X x) (ha:QA X (e :: es) t)
  (hdb:(x == ("__debug__":Str))=false:=by decide) (he:starEach (e :: es) X.env=(false,eval e X.env) :: starEach es X.env:=by rfl) (hpl:(backTo pos (starEach es X.env)).any (·.1)=false:=by rfl) :
  QE X (.Call (.Name x p) (e :: es) [] pos) (tG sp [] E0 t):=⟨Nr C hr hk hg ha.run hdb he hpl⟩
theorem sv {name:Str} {T id:String} {r:V→List V→Hp→VK→Prop} (pa:PlainAttrs T) (slot:Slot T name id) (hty:typeOf (.builtin id)=pure (.type "method_descriptor")) (hm:qE X id r) (ho:QE X o to) (ha:QA X (e :: es) t)
  (hbase:attributeBase o name X.env (eval o X.env)=eval o X.env:=by rfl)
  (hfew:((backTo cpos (starEach (e :: es) X.env)).all (λx=>!x.1) && (backToKw cpos (keywordEach [] X.env)).all (λx=>x.1.isSome)
   && decide ((e :: es).length + ([]:List Keyword).length + (if ([]:List Keyword).isEmpty then 0 else 1) < 30))=true:=by rfl)
  (hline:(apos.endLine == cpos.line)=true:=by rfl) (hs:starEach (e :: es) X.env=(false,eval e X.env) :: starEach es X.env:=by rfl) (hplain:(backTo cpos (starEach es X.env)).any (·.1)=false:=by rfl) :
  QE X (.Call (.Attribute o name apos) (e :: es) [] cpos) (Rj X.K T r to t):=⟨L2.sv pa slot hty hm ho.run ha.run hbase hfew hline hs hplain⟩
end
section
variable {X:Cx} {st:Stmt} {rest:List Stmt} {t u:TS} {e tg:Expr} {es:List Expr} {te:TE} {pos:Pos} {g:TG}
theorem f_:QB X [] C8:=⟨L2.f_⟩
theorem a_ (h1:QS X st t) (h2:QB X rest u):QB X (st :: rest) (Kv t u):=⟨L2.a_ h1.run h2.run⟩
theorem bN (h1:QS X st t):QB X [st] t:=⟨L2.bN h1.run⟩
theorem y_ (h1:QS X st t) (h2:QB X rest u):QB X (st :: rest) (QC t u):=⟨JO h1.run h2.run⟩
theorem pA {sts:List Stmt}:QB X sts BA:=⟨L2.pA⟩
theorem lS (he:QE X e te) (hs:swapsWith e none pos.line X.env=pure false:=by rfl):QS X (.Expr e pos) (C7 te):=⟨L2.lS he.run hs⟩
theorem dY (he:QE X e te):QS X (.Return (some e) pos) (Ku te):=⟨L2.dY he.run⟩
theorem wU:QS X (.Return none pos) Dc:=⟨L2.wU⟩
theorem ot {c:Expr} {a b:List Stmt} {tc:TT} (hc:QT X c tc) (ha:QB X a t) (hb:QB X b u):QS X (.If c a b pos) (Kp tc t u):=⟨L2.ot hc.run ha.run hb.run⟩
theorem kX {c:Expr} {body:List Stmt} {tc:TT} {tb:TS} (hp:PassesOwn (model X.prog X.w) X.A X.env X.xe) (hc:QT X c tc) (hb:QB X body tb):QS X (.While c body [] pos) (xS tc tb):=⟨L2.kX hp hc.run hb.run⟩
theorem lQ {i:Nat} {x:Str} (hN:X.N.Nodup) (hi:X.N[i]?=some x) (hx:Loc X.env.scope x) (hf:X.fn x=true∨X.env.scope.names.lookup x=some .local:=by first | exact .inl rfl | exact .inr rfl | assumption):QG X (.Name x pos) (pZ i):=⟨L2.lQ hN hi hx hf⟩
theorem wN:Q6 X [] IJ:=⟨L2.wN⟩
theorem sC {e:Expr} {es:List Expr} {t:TG} {u:qF} (h1:QG X e t) (h2:Q6 X es u)
  (hs:(assignEach (e :: es) X.env).map (·.2)=assign e X.env :: (assignEach es X.env).map (·.2):=by rfl):Q6 X (e :: es) (B3 t u):=⟨L2.sC h1.run h2.run hs⟩
theorem A9 {k:Nat} {t:qF} {n:Nat} (hc:X.calm=true) (h:Q6 X es t)
  (hn:(assignEach es X.env).length=n:=by rfl) (hst:(assignEach es X.env).findIdx? (·.1)=none:=by rfl):QG X (.Tuple es k pos) (IM X.K n t):=⟨L2.A9 hc h.run hn hst⟩
theorem wM {o i:Expr} {to ti:TE} {t:ki} (ho:QE X o to) (hi:QE X i ti) (hs:kg X t)
  (ha:∀v,assign (.Subscript o i pos) X.env v=(do
   let ov ← holding [v] (eval o X.env)
   let iv ← holding [v,ov] (eval i X.env)
   standAt pos
   holding [v,ov,iv] (setItem ov iv v)
   release [v,ov,iv] []):=by intro _;rfl):QG X (.Subscript o i pos) (IL to ti t):=⟨L2.wM ho.run hi.run hs ha⟩
theorem wR {tg e:Expr} (he:QE X e te) (hg:QG X tg g) (hs:swapsWithSole [tg] e pos.line X.env=pure false:=by rfl) (hw:swappedStores [tg] e X.env=pure none:=by rfl)
  (h1:(assignEach [tg] X.env).map (·.2)=[assign tg X.env]:=by rfl):QS X (.Assign [tg] e pos) (zK te g):=⟨L2.wR he.run hg.run hs hw h1⟩
theorem cV {i:Nat} {x:Str} {pos':Pos} (hN:X.N.Nodup) (hi:X.N[i]?=some x) (hx:Loc X.env.scope x) (he:QE X e te) (hs:swapsWith e (some (.Name x pos')) pos.line X.env=pure false:=by rfl) (hf:X.fn x=true∨X.env.scope.names.lookup x=some .local:=by first | exact .inl rfl | exact .inr rfl | assumption) :
  QS X (.Assign [.Name x pos'] e pos) (zK te (pZ i)):=⟨L2.cV hN hi hx he.run hs hf⟩
theorem pz {i j:Nat} {x y:Str} {a b:Expr} {ta:TA} {px py pt:Pos} {kt k2 pt2} (hc:X.calm=true) (hN:X.N.Nodup) (hi:X.N[i]?=some x) (hj:X.N[j]?=some y) (hij:i≠j)
  (hx:X.env.scope.names.lookup x=some .local) (hy:X.env.scope.names.lookup y=some .local) (ha:QA X [a,b] ta)
  (hw:swappedStores [.Tuple [.Name x px,.Name y py] kt pt] (.Tuple [a,b] k2 pt2) X.env=pure (some [x,y]))
  (hs:swapsWithSole [.Tuple [.Name x px,.Name y py] kt pt] (.Tuple [a,b] k2 pt2) pos.line X.env=pure false:=by rfl) :
  QS X (.Assign [.Tuple [.Name x px,.Name y py] kt pt] (.Tuple [a,b] k2 pt2) pos) (Kt i j ta):=⟨L2.pz hc hN hi hj hij hx hy ha.run hw hs⟩
theorem n9 {l:Expr} {tl:TE} (hl:QE X l tl):QI X tg l (B7 X.K tl):=⟨L2.n9 hl.run⟩
theorem gh {a:Expr} {ta:TA} {p pos:Pos} (hg:Gl X "range") (hm:X.mg "range"=none) (ha:QA X [a] ta) (hs:starEach [a] X.env=[(false,eval a X.env)]:=by rfl):QI X tg (.Call (.Name "range" p) [a] [] pos) (B8 ta):=⟨L2.gh hg hm ha.run hs⟩
theorem pw {iter:Expr} {body:List Stmt} {wi:TI} {g:TG} {tb:TS} {pos:Pos} (hp:PassesOwn (model X.prog X.w) X.A X.env X.xe) (hc:X.calm=true) (hi:QI X tg iter wi) (hg:QG X tg g) (hb:QB X body tb)
  (hs:∀x,foldedSetIterable iter X.env x=pure x:=by intro _;rfl):QS X (.For tg iter body [] pos) (NZ wi g tb):=⟨L2.pw hp hc hi.run hg.run hb.run hs⟩
theorem JD {elt iter:Expr} {x:Str} {px:Pos} {sc:Scope} {pos:Pos} {wi:TI} (osc:Scope) (N:List Str) (ks:List (Str × Nat)) (hc:X.calm=true) (ho:X.env.scope=osc) (hN:X.N=N) (hi:QI X (.Name x px) iter wi)
  (he:∀cl C s₀ H₀ fp pins,QE (gu X sc cl C x ks s₀ H₀ fp pins) elt te) (ok:cY sc osc N x ks:=by decide +kernel) (hs:∀x,foldedSetIterable iter X.env x=pure x:=by intro _;rfl) :
  QE X (.ListComp elt [⟨.Name x px,iter,[],0⟩] sc pos) (Rm wi ks te):=⟨Lh osc N ks hc ho hN hi.run (λcl C s₀ H₀ fp pins=>(he cl C s₀ H₀ fp pins).run) ok hs⟩
theorem JM {elt iter:Expr} {x y:Str} {px py:Pos} {sc:Scope} {pos spos:Pos} {wi:TI} {i:Nat} (osc:Scope) (N:List Str) (ks:List (Str × Nat)) (hc:X.calm=true) (ho:X.env.scope=osc) (hN:X.N=N) (hnd:X.N.Nodup) (hy:X.N[i]?=some y) (hl:Loc X.env.scope y)
  (hi:QI X (.Name x px) iter wi) (he:∀cl C s₀ H₀ fp pins,QE (gu X sc cl C x ks s₀ H₀ fp pins) elt te) (ok:cY sc osc N x ks:=by decide +kernel) (hs:∀x,foldedSetIterable iter X.env x=pure x:=by intro _;rfl)
  (hsw:swapsWith (.ListComp elt [⟨.Name x px,iter,[],0⟩] sc pos) (some (.Name y py)) spos.line X.env=pure true:=by rfl) (hf:X.fn y=true∨X.env.scope.names.lookup y=some .local:=by first | exact .inl rfl | exact .inr rfl | assumption) :
  QS X (.Assign [.Name y py] (.ListComp elt [⟨.Name x px,iter,[],0⟩] sc pos) spos) (N0 wi ks te i):=⟨Li osc N ks hc ho hN hnd hy hl hi.run (λcl C s₀ H₀ fp pins=>(he cl C s₀ H₀ fp pins).run) ok hs hsw hf⟩
end
end Ov
namespace Ov
open PySem PySem.Spec PyProof.Rows
open L2 (V HO Hp Inv Cx VK TE TA Vals RelV fz cj cZ R2 upd EP vals1 intsAre_of Gl)
section
variable {X:Cx}
end
end Ov
namespace Ov
open PySem PySem.Spec PyProof.Rows
open L2 (V HO Hp Inv Cx VK TE TA Vals RelV fz cj cZ gS R2 upd bG)
inductive Py where
 | non | bl (b:Bool) | int (i:Int) | str (x:Str) | tup (xs:List Py) | lst (xs:List Py)
mutual
def At (K:PySem.W.Frag) (H:Hp):Py→V→Prop
 | .non,v=>v=.non
 | .bl b,v=>v=.bl b
 | .int i,v=>v=.int i
 | .str x,v=>v=.str x
 | .tup xs,v=>∃a vs,v=.ref a∧gS K H a vs∧tO K H xs vs
 | .lst xs,v=>∃a vs,v=.ref a∧cZ K H a vs∧tO K H xs vs
def tO (K:PySem.W.Frag) (H:Hp):List Py→List V→Prop
 | [],vs=>vs=[]
 | x :: xs,vs=>∃v us,vs=v :: us∧At K H x v∧tO K H xs us
end
mutual
def lM:Py→Py→Bool
 | .non,.non=>true
 | .bl a,.bl b=>a == b
 | .int a,.int b=>a == b
 | .bl a,.int b=>(if a then 1 else 0) == b
 | .int a,.bl b=>a == (if b then 1 else 0)
 | .str a,.str b=>a == b
 | .tup xs,.tup ys=>kr xs ys
 | .lst xs,.lst ys=>kr xs ys
 | _,_=>false
def kr:List Py→List Py→Bool
 | [],[]=>true
 | x :: xs,y :: ys=>lM x y && kr xs ys
 | _,_=>false
end
mutual
def dep:Py→Nat
 | .tup xs=>dI xs + 1
 | .lst xs=>dI xs + 1
 | _=>0
def dI:List Py→Nat
 | []=>0
 | x :: xs=>max (dep x) (dI xs)
end
mutual
theorem yu:∀x:Py,lM x x=true
 | .non=>rfl
 | .bl b=>by simp [lM]
 | .int b=>by simp [lM]
 | .str b=>by simp [lM]
 | .tup xs=>by simpa [lM] using oZ xs
 | .lst xs=>by simpa [lM] using oZ xs
theorem oZ:∀xs:List Py,kr xs xs=true
 | []=>rfl
 | x :: xs=>by simp [kr,yu x,oZ xs]
end
mutual
theorem At.same {K:PySem.W.Frag} {H H':Hp} (e:bG H H'):∀{x:Py} {v:V},At K H x v→At K H' x v
 | .non,_,h=>h
 | .bl _,_,h=>h
 | .int _,_,h=>h
 | .str _,_,h=>h
 | .tup xs,_,⟨a,vs,e1,h,k⟩=>⟨a,vs,e1,e.tup h,tO.same e k⟩
 | .lst xs,_,⟨a,vs,e1,h,k⟩=>⟨a,vs,e1,e.seq h,tO.same e k⟩
theorem tO.same {K:PySem.W.Frag} {H H':Hp} (e:bG H H'):∀{xs:List Py} {vs:List V},tO K H xs vs→tO K H' xs vs
 | [],_,h=>h
 | _ :: _,_,⟨v,us,e1,h,k⟩=>⟨v,us,e1,At.same e h,tO.same e k⟩
end
theorem tO.length {K:PySem.W.Frag} {H:Hp}:∀{xs:List Py} {vs:List V},tO K H xs vs→xs.length=vs.length
 | [],_,h=>by cases h;rfl
 | _ :: xs,_,⟨v,us,e1,_,k⟩=>by subst e1;simp [tO.length k]
def DH (xs ys:List Py) (j:Nat):Bool:=match xs[j]?,ys[j]? with
 | some x,some y=>lM x y
 | _,_=>false
theorem jg:∀(xs ys:List Py),((Vb (min xs.length ys.length)).all (DH xs ys) && (xs.length == ys.length))=kr xs ys
 | [],[]=>rfl
 | [],_ :: _=>by simp [kr]
 | _ :: _,[]=>by simp [kr]
 | x :: xs,y :: ys=>by
  have ih:=jg xs ys
  rw [UQ,UQ,Nat.succ_min_succ,List.range_succ_eq_map,WB,List.all_map]
  have e1:(DH (x :: xs) (y :: ys) ∘ Nat.succ)=DH xs ys:=by
   funext j
   simp [DH]
  have e2:(xs.length + 1 == ys.length + 1)=(xs.length == ys.length):=by
   rw [Vy]
   simp
  rw [e1,e2,Bool.and_assoc,ih]
  simp [DH,kr]
section
variable {X:Cx} {pins:List (Addr × Obj)} {σ:L2.St} {H:Hp} {s:Shared}
mutual
theorem At.one (I:Inv X pins σ H s):∀{x y:Py} {v:V},At X.K H x v→At X.K H y v→lM x y=true
 | .non,y,v,h,k=>by cases h;cases y <;> simp_all [At,lM]
 | .bl b,y,v,h,k=>by cases h;cases y <;> simp_all [At,lM]
 | .int b,y,v,h,k=>by cases h;cases y <;> simp_all [At,lM]
 | .str b,y,v,h,k=>by cases h;cases y <;> simp_all [At,lM]
 | .tup xs,y,v,h,k=>by
  obtain ⟨a,vs,rfl,h1,h2⟩:=h
  cases y with
  | tup ys =>
   obtain ⟨b,us,e,k1,k2⟩:=k
   cases e
   cases I.EF h1 k1
   simpa [lM] using tO.one I h2 k2
  | lst ys =>
   obtain ⟨b,us,e,k1,k2⟩:=k
   cases e
   obtain ⟨_,_,⟨o,e1,c1,_⟩,_⟩:=I.tuple h1
   obtain ⟨_,_,⟨o',n,e2,c2,_⟩,_⟩:=I.list k1
   rw [e1] at e2;cases e2;exact absurd (Value.type.inj (c1.symm.trans c2)) (by decide)
  | _=>cases k
 | .lst xs,y,v,h,k=>by
  obtain ⟨a,vs,rfl,h1,h2⟩:=h
  cases y with
  | lst ys =>
   obtain ⟨b,us,e,k1,k2⟩:=k
   cases e
   cases I.kD h1 k1
   simpa [lM] using tO.one I h2 k2
  | tup ys =>
   obtain ⟨b,us,e,k1,k2⟩:=k
   cases e
   obtain ⟨_,_,⟨o,e1,c1,_⟩,_⟩:=I.tuple k1
   obtain ⟨_,_,⟨o',n,e2,c2,_⟩,_⟩:=I.list h1
   rw [e1] at e2;cases e2;exact absurd (Value.type.inj (c1.symm.trans c2)) (by decide)
  | _=>cases k
theorem tO.one (I:Inv X pins σ H s):∀{xs ys:List Py} {vs:List V},tO X.K H xs vs→tO X.K H ys vs→kr xs ys=true
 | [],ys,vs,h,k=>by
  cases h
  cases ys with
  | nil=>rfl
  | cons y ys=>obtain ⟨_,_,e,_⟩:=k;cases e
 | x :: xs,ys,vs,h,k=>by
  obtain ⟨v,us,rfl,h1,h2⟩:=h
  cases ys with
  | nil=>cases k
  | cons y ys =>
   obtain ⟨v',us',e,k1,k2⟩:=k
   cases e
   simp [kr,At.one I h1 k1,tO.one I h2 k2]
end
mutual
theorem RN (I:Inv X pins σ H s):∀(x y:Py) {v v':V} {u u':Value} {A:Around},At X.K H x v→At X.K H y v'→RelV v u→RelV v' u'→A.units + dep x < cLine→SeqAt.EqAt A s u u' (lM x y)
 | .non,y,v,v',u,u',A,h,k,r,r',hu=>by
  cases h;cases r
  cases y with
  | non=>cases k;cases r';exact SeqAt.EqAt.same _
  | bl b=>cases k;cases r';exact SeqAt.EqAt.none_bool _
  | int b=>cases k;obtain ⟨t,rfl⟩:=r';exact SeqAt.EqAt.none_int _ _
  | str b=>cases k;obtain ⟨t,rfl⟩:=r';exact SeqAt.EqAt.none_str _ _
  | tup ys=>obtain ⟨a,vs,rfl,h1,h2⟩:=k;cases r';obtain ⟨_,_,p,_⟩:=I.tuple h1;exact SeqAt.EqAt.none_tuple p (by simpa [dep] using hu)
  | lst ys=>obtain ⟨a,vs,rfl,h1,h2⟩:=k;cases r';obtain ⟨_,_,p,_⟩:=I.list h1;exact SeqAt.EqAt.none_list p.isList (by simpa [dep] using hu)
 | .bl x,y,v,v',u,u',A,h,k,r,r',hu=>by
  cases h;cases r
  cases y with
  | non=>cases k;cases r';exact SeqAt.EqAt.bool_none _
  | bl b=>cases k;cases r';exact SeqAt.EqAt.bool_bool _ _
  | int b=>cases k;obtain ⟨t,rfl⟩:=r';exact SeqAt.EqAt.bool_int _ _ _
  | str b=>cases k;obtain ⟨t,rfl⟩:=r';exact SeqAt.EqAt.bool_str _ _ _
  | tup ys=>obtain ⟨a,vs,rfl,h1,h2⟩:=k;cases r';obtain ⟨_,_,p,_⟩:=I.tuple h1;exact SeqAt.EqAt.bool_tuple _ p (by simpa [dep] using hu)
  | lst ys=>obtain ⟨a,vs,rfl,h1,h2⟩:=k;cases r';obtain ⟨_,_,p,_⟩:=I.list h1;exact SeqAt.EqAt.bool_list _ p.isList (by simpa [dep] using hu)
 | .int x,y,v,v',u,u',A,h,k,r,r',hu=>by
  cases h;obtain ⟨t0,rfl⟩:=r
  cases y with
  | non=>cases k;cases r';exact SeqAt.EqAt.int_none _ _
  | bl b=>cases k;cases r';exact SeqAt.EqAt.int_bool _ _ _
  | int b=>cases k;obtain ⟨t,rfl⟩:=r';exact SeqAt.EqAt.int_int _ _ _ _
  | str b=>cases k;obtain ⟨t,rfl⟩:=r';exact SeqAt.EqAt.int_str _ _ _ _
  | tup ys=>obtain ⟨a,vs,rfl,h1,h2⟩:=k;cases r';obtain ⟨_,_,p,_⟩:=I.tuple h1;exact SeqAt.EqAt.int_tuple _ _ p (by simpa [dep] using hu)
  | lst ys=>obtain ⟨a,vs,rfl,h1,h2⟩:=k;cases r';obtain ⟨_,_,p,_⟩:=I.list h1;exact SeqAt.EqAt.int_list _ _ p.isList (by simpa [dep] using hu)
 | .str x,y,v,v',u,u',A,h,k,r,r',hu=>by
  cases h;obtain ⟨t0,rfl⟩:=r
  cases y with
  | non=>cases k;cases r';exact SeqAt.EqAt.str_none _ _
  | bl b=>cases k;cases r';exact SeqAt.EqAt.str_bool _ _ _
  | int b=>cases k;obtain ⟨t,rfl⟩:=r';exact SeqAt.EqAt.str_int _ _ _ _
  | str b=>cases k;obtain ⟨t,rfl⟩:=r';exact SeqAt.EqAt.str_str _ _ _ _
  | tup ys=>obtain ⟨a,vs,rfl,h1,h2⟩:=k;cases r';obtain ⟨_,_,p,_⟩:=I.tuple h1;exact SeqAt.EqAt.str_tuple _ _ p (by simpa [dep] using hu)
  | lst ys=>obtain ⟨a,vs,rfl,h1,h2⟩:=k;cases r';obtain ⟨_,_,p,_⟩:=I.list h1;exact SeqAt.EqAt.str_list _ _ p.isList (by simpa [dep] using hu)
 | .tup xs,y,v,v',u,u',A,h,k,r,r',hu=>by
  have h0:=h
  obtain ⟨a,vs,rfl,h1,h2⟩:=h
  cases r
  obtain ⟨is,r1,p1,_⟩:=I.tuple h1
  have hu0:A.units < cLine:=by omega
  have hu1:A.in1.units + dI xs < cLine:=by
   have e:dep (.tup xs)=dI xs + 1:=by rw [dep]
   rw [e] at hu
   show A.units + 1 + dI xs < cLine
   omega
  cases y with
  | non=>cases k;cases r';exact SeqAt.EqAt.tuple_none p1 hu0
  | bl b=>cases k;cases r';exact SeqAt.EqAt.tuple_bool _ p1 hu0
  | int b=>cases k;obtain ⟨t,rfl⟩:=r';exact SeqAt.EqAt.tuple_int _ _ p1 hu0
  | str b=>cases k;obtain ⟨t,rfl⟩:=r';exact SeqAt.EqAt.tuple_str _ _ p1 hu0
  | lst ys=>obtain ⟨b,us,rfl,k1,k2⟩:=k;cases r';obtain ⟨_,_,p,_⟩:=I.list k1;exact SeqAt.EqAt.tuple_list p1 p.isList hu0
  | tup ys =>
   have k0:=k
   obtain ⟨b,us,rfl,k1,k2⟩:=k
   cases r'
   by_cases hab:a=b
   ·subst hab
    rw [At.one I h0 k0]
    exact SeqAt.EqAt.same _
   ·obtain ⟨js,r2,p2,_⟩:=I.tuple k1
    refine SeqAt.EqAt.of_refs hab ?_
    have key:=SeqAt.RcAt.tuples (e:=DH xs ys) p1 p2 hu0 λj q1 q2=>rO I xs ys h2 k2 r1 r2 hu1 j (by simpa using q1) (by simpa using q2)
    have e1:is.length=xs.length:=by rw [← r1.length,h2.length]
    have e2:js.length=ys.length:=by rw [← r2.length,k2.length]
    simp only [Uy] at key
    rw [e1,e2,jg] at key
    simpa [lM] using key
 | .lst xs,y,v,v',u,u',A,h,k,r,r',hu=>by
  have h0:=h
  obtain ⟨a,vs,rfl,h1,h2⟩:=h
  cases r
  obtain ⟨is,r1,p1,_⟩:=I.list h1
  have hu0:A.units < cLine:=by omega
  have hu1:A.in1.units + dI xs < cLine:=by
   have e:dep (.lst xs)=dI xs + 1:=by rw [dep]
   rw [e] at hu
   show A.units + 1 + dI xs < cLine
   omega
  cases y with
  | non=>cases k;cases r';exact SeqAt.EqAt.list_none p1.isList hu0
  | bl b=>cases k;cases r';exact SeqAt.EqAt.list_bool _ p1.isList hu0
  | int b=>cases k;obtain ⟨t,rfl⟩:=r';exact SeqAt.EqAt.list_int _ _ p1.isList hu0
  | str b=>cases k;obtain ⟨t,rfl⟩:=r';exact SeqAt.EqAt.list_str _ _ p1.isList hu0
  | tup ys=>obtain ⟨b,us,rfl,k1,k2⟩:=k;cases r';obtain ⟨_,_,p,_⟩:=I.tuple k1;exact SeqAt.EqAt.list_tuple p1.isList p hu0
  | lst ys =>
   have k0:=k
   obtain ⟨b,us,rfl,k1,k2⟩:=k
   cases r'
   by_cases hab:a=b
   ·subst hab
    rw [At.one I h0 k0]
    exact SeqAt.EqAt.same _
   ·obtain ⟨js,r2,p2,_⟩:=I.list k1
    refine SeqAt.EqAt.of_refs hab ?_
    have e1:is.length=xs.length:=by rw [← r1.length,h2.length]
    have e2:js.length=ys.length:=by rw [← r2.length,k2.length]
    have ae:=jg xs ys
    by_cases hl:xs.length=ys.length
    ·have key:=SeqAt.RcAt.lists (e:=DH xs ys) p1.isList p2.isList (by simp only [Uy];omega) hu0 λj q1 q2=>rO I xs ys h2 k2 r1 r2 hu1 j (by simpa using q1) (by simpa using q2)
     simp only [Uy] at key
     rw [hl,WJ] at ae
     have e3:(ys.length == ys.length)=true:=by simp
     rw [e3,VB] at ae
     rw [e1,hl,ae] at key
     simpa [lM] using key
    ·have key:=SeqAt.RcAt.lists_lengths p1.isList p2.isList (A:=A) (by simp only [Uy];rw [e1,e2];simpa using hl) hu0
     have e3:kr xs ys=false:=by
      rw [← ae]
      have:(xs.length == ys.length)=false:=by simpa using hl
      rw [this,V3]
     simpa [lM,e3] using key
theorem rO (I:Inv X pins σ H s):∀(xs ys:List Py) {vs us:List V} {is js:List Value} {A:Around},tO X.K H xs vs→tO X.K H ys us→Vals vs is→Vals us js→A.units + dI xs < cLine→∀j (h1:j < is.length) (h2:j < js.length),SeqAt.EqAt A s is[j] js[j] (DH xs ys j)
 | [],ys,vs,us,is,js,A,h,k,r,r',hu,j,h1,h2=>by
  cases h;cases r;exact absurd h1 (V7 _)
 | x :: xs,[],vs,us,is,js,A,h,k,r,r',hu,j,h1,h2=>by
  cases k;cases r';exact absurd h2 (V7 _)
 | x :: xs,y :: ys,vs,us,is,js,A,h,k,r,r',hu,j,h1,h2=>by
  obtain ⟨v,vs',rfl,a1,a2⟩:=h
  obtain ⟨v',us',rfl,b1,b2⟩:=k
  cases r with
  | cons q1 q2 =>
   cases r' with
   | cons z1 z2 =>
    have e:dI (x :: xs)=max (dep x) (dI xs):=by rw [dI]
    rw [e] at hu
    cases j with
    | zero=>exact RN I x y a1 b1 q1 z1 (by omega)
    | succ j =>
     have:=rO I xs ys a2 b2 q2 z2 (A:=A) (by omega) j (by simpa using h1) (by simpa using h2)
     simpa [DH] using this
end
theorem SO (I:Inv X pins σ H s) (x y:Py) {v v':V} {u u':Value} {A:Around} (h:At X.K H x v) (k:At X.K H y v') (r:RelV v u) (r':RelV v' u') (hu:A.units + dep x < cLine):SeqAt.RcAt A s u u' (lM x y):=by
 have hu0:A.units < cLine:=by omega
 cases x with
 | non =>
  cases h;cases r
  cases y with
  | non=>cases k;cases r';exact SeqAt.RcAt.none_none
  | bl b=>cases k;cases r';exact SeqAt.RcAt.none_bool _
  | int b=>cases k;obtain ⟨t,rfl⟩:=r';exact SeqAt.RcAt.none_int _ _
  | str b=>cases k;obtain ⟨t,rfl⟩:=r';exact SeqAt.RcAt.none_str _ _
  | tup ys=>obtain ⟨b,us,rfl,k1,k2⟩:=k;cases r';obtain ⟨js,r2,p2,_⟩:=I.tuple k1;exact SeqAt.RcAt.none_tuple p2 hu0
  | lst ys=>obtain ⟨b,us,rfl,k1,k2⟩:=k;cases r';obtain ⟨js,r2,p2,_⟩:=I.list k1;exact SeqAt.RcAt.none_list p2.isList hu0
 | bl i =>
  cases h;cases r
  cases y with
  | non=>cases k;cases r';exact SeqAt.RcAt.bool_none _
  | bl b=>cases k;cases r';exact SeqAt.RcAt.bool_bool _ _
  | int b=>cases k;obtain ⟨t,rfl⟩:=r';exact SeqAt.RcAt.bool_int _ _ _
  | str b=>cases k;obtain ⟨t,rfl⟩:=r';exact SeqAt.RcAt.bool_str _ _ _
  | tup ys=>obtain ⟨b,us,rfl,k1,k2⟩:=k;cases r';obtain ⟨js,r2,p2,_⟩:=I.tuple k1;exact SeqAt.RcAt.bool_tuple _ p2 hu0
  | lst ys=>obtain ⟨b,us,rfl,k1,k2⟩:=k;cases r';obtain ⟨js,r2,p2,_⟩:=I.list k1;exact SeqAt.RcAt.bool_list _ p2.isList hu0
 | int i =>
  cases h;obtain ⟨t0,rfl⟩:=r
  cases y with
  | non=>cases k;cases r';exact SeqAt.RcAt.int_none _ _
  | bl b=>cases k;cases r';exact SeqAt.RcAt.int_bool _ _ _
  | int b=>cases k;obtain ⟨t,rfl⟩:=r';exact SeqAt.RcAt.int_int _ _ _ _
  | str b=>cases k;obtain ⟨t,rfl⟩:=r';exact SeqAt.RcAt.int_str _ _ _ _
  | tup ys=>obtain ⟨b,us,rfl,k1,k2⟩:=k;cases r';obtain ⟨js,r2,p2,_⟩:=I.tuple k1;exact SeqAt.RcAt.int_tuple _ _ p2 hu0
  | lst ys=>obtain ⟨b,us,rfl,k1,k2⟩:=k;cases r';obtain ⟨js,r2,p2,_⟩:=I.list k1;exact SeqAt.RcAt.int_list _ _ p2.isList hu0
 | str i =>
  cases h;obtain ⟨t0,rfl⟩:=r
  cases y with
  | non=>cases k;cases r';exact SeqAt.RcAt.str_none _ _
  | bl b=>cases k;cases r';exact SeqAt.RcAt.str_bool _ _ _
  | int b=>cases k;obtain ⟨t,rfl⟩:=r';exact SeqAt.RcAt.str_int _ _ _ _
  | str b=>cases k;obtain ⟨t,rfl⟩:=r';exact SeqAt.RcAt.str_str _ _ _ _
  | tup ys=>obtain ⟨b,us,rfl,k1,k2⟩:=k;cases r';obtain ⟨js,r2,p2,_⟩:=I.tuple k1;exact SeqAt.RcAt.str_tuple _ _ p2 hu0
  | lst ys=>obtain ⟨b,us,rfl,k1,k2⟩:=k;cases r';obtain ⟨js,r2,p2,_⟩:=I.list k1;exact SeqAt.RcAt.str_list _ _ p2.isList hu0
 | tup xs =>
  obtain ⟨a,vs,rfl,h1,h2⟩:=h
  cases r
  obtain ⟨is,r1,p1,_⟩:=I.tuple h1
  have hu1:A.in1.units + dI xs < cLine:=by
   have e:dep (.tup xs)=dI xs + 1:=by rw [dep]
   rw [e] at hu
   show A.units + 1 + dI xs < cLine
   omega
  cases y with
  | non=>cases k;cases r';exact SeqAt.RcAt.tuple_none p1 hu0
  | bl b=>cases k;cases r';exact SeqAt.RcAt.tuple_bool _ p1 hu0
  | int b=>cases k;obtain ⟨t,rfl⟩:=r';exact SeqAt.RcAt.tuple_int _ _ p1 hu0
  | str b=>cases k;obtain ⟨t,rfl⟩:=r';exact SeqAt.RcAt.tuple_str _ _ p1 hu0
  | tup ys =>
   obtain ⟨b,us,rfl,k1,k2⟩:=k;cases r';obtain ⟨js,r2,p2,_⟩:=I.tuple k1
   have e1:is.length=xs.length:=by rw [← r1.length,h2.length]
   have e2:js.length=ys.length:=by rw [← r2.length,k2.length]
   have ae:=jg xs ys
   have key:=SeqAt.RcAt.tuples (e:=DH xs ys) p1 p2 hu0 λj q1 q2=>rO I xs ys h2 k2 r1 r2 hu1 j (by simpa using q1) (by simpa using q2)
   simp only [Uy] at key
   rw [e1,e2,ae] at key
   simpa [lM] using key
  | lst ys=>obtain ⟨b,us,rfl,k1,k2⟩:=k;cases r';obtain ⟨js,r2,p2,_⟩:=I.list k1;exact SeqAt.RcAt.tuple_list p1 p2.isList hu0
 | lst xs =>
  obtain ⟨a,vs,rfl,h1,h2⟩:=h
  cases r
  obtain ⟨is,r1,p1,_⟩:=I.list h1
  have hu1:A.in1.units + dI xs < cLine:=by
   have e:dep (.lst xs)=dI xs + 1:=by rw [dep]
   rw [e] at hu
   show A.units + 1 + dI xs < cLine
   omega
  cases y with
  | non=>cases k;cases r';exact SeqAt.RcAt.list_none p1.isList hu0
  | bl b=>cases k;cases r';exact SeqAt.RcAt.list_bool _ p1.isList hu0
  | int b=>cases k;obtain ⟨t,rfl⟩:=r';exact SeqAt.RcAt.list_int _ _ p1.isList hu0
  | str b=>cases k;obtain ⟨t,rfl⟩:=r';exact SeqAt.RcAt.list_str _ _ p1.isList hu0
  | tup ys=>obtain ⟨b,us,rfl,k1,k2⟩:=k;cases r';obtain ⟨js,r2,p2,_⟩:=I.tuple k1;exact SeqAt.RcAt.list_tuple p1.isList p2 hu0
  | lst ys =>
   obtain ⟨b,us,rfl,k1,k2⟩:=k;cases r';obtain ⟨js,r2,p2,_⟩:=I.list k1
   have e1:is.length=xs.length:=by rw [← r1.length,h2.length]
   have e2:js.length=ys.length:=by rw [← r2.length,k2.length]
   have ae:=jg xs ys
   by_cases hl:xs.length=ys.length
   ·have key:=SeqAt.RcAt.lists (e:=DH xs ys) p1.isList p2.isList (by simp only [Uy];omega) hu0 λj q1 q2=>rO I xs ys h2 k2 r1 r2 hu1 j (by simpa using q1) (by simpa using q2)
    simp only [Uy] at key
    rw [hl,WJ] at ae
    have e3:(ys.length == ys.length)=true:=by simp
    rw [e3,VB] at ae
    rw [e1,hl,ae] at key
    simpa [lM] using key
   ·have key:=SeqAt.RcAt.lists_lengths p1.isList p2.isList (A:=A) (by simp only [Uy];rw [e1,e2];simpa using hl) hu0
    have e3:kr xs ys=false:=by
     rw [← ae]
     have:(xs.length == ys.length)=false:=by simpa using hl
     rw [this,V3]
    simpa [lM,e3] using key
theorem Qv (I:Inv X pins σ H s) (x y:Py) {v v':V} {u u':Value} {A:Around} (h:At X.K H x v) (k:At X.K H y v') (r:RelV v u) (r':RelV v' u') (hu:A.units + dep x < cLine):SeqAt.RcNeAt A s u u' (!lM x y):=by
 have hu0:A.units < cLine:=by omega
 cases x with
 | non =>
  cases h;cases r
  cases y with
  | non=>cases k;cases r';exact SeqAt.RcNeAt.none_none
  | bl b=>cases k;cases r';exact SeqAt.RcNeAt.none_bool _
  | int b=>cases k;obtain ⟨t,rfl⟩:=r';exact SeqAt.RcNeAt.none_int _ _
  | str b=>cases k;obtain ⟨t,rfl⟩:=r';exact SeqAt.RcNeAt.none_str _ _
  | tup ys=>obtain ⟨b,us,rfl,k1,k2⟩:=k;cases r';obtain ⟨js,r2,p2,_⟩:=I.tuple k1;exact SeqAt.RcNeAt.none_tuple p2 hu0
  | lst ys=>obtain ⟨b,us,rfl,k1,k2⟩:=k;cases r';obtain ⟨js,r2,p2,_⟩:=I.list k1;exact SeqAt.RcNeAt.none_list p2.isList hu0
 | bl i =>
  cases h;cases r
  cases y with
  | non=>cases k;cases r';exact SeqAt.RcNeAt.bool_none _
  | bl b=>cases k;cases r';exact SeqAt.RcNeAt.bool_bool _ _
  | int b=>cases k;obtain ⟨t,rfl⟩:=r';exact SeqAt.RcNeAt.bool_int _ _ _
  | str b=>cases k;obtain ⟨t,rfl⟩:=r';exact SeqAt.RcNeAt.bool_str _ _ _
  | tup ys=>obtain ⟨b,us,rfl,k1,k2⟩:=k;cases r';obtain ⟨js,r2,p2,_⟩:=I.tuple k1;exact SeqAt.RcNeAt.bool_tuple _ p2 hu0
  | lst ys=>obtain ⟨b,us,rfl,k1,k2⟩:=k;cases r';obtain ⟨js,r2,p2,_⟩:=I.list k1;exact SeqAt.RcNeAt.bool_list _ p2.isList hu0
 | int i =>
  cases h;obtain ⟨t0,rfl⟩:=r
  cases y with
  | non=>cases k;cases r';exact SeqAt.RcNeAt.int_none _ _
  | bl b=>cases k;cases r';exact SeqAt.RcNeAt.int_bool _ _ _
  | int b=>cases k;obtain ⟨t,rfl⟩:=r';exact SeqAt.RcNeAt.int_int _ _ _ _
  | str b=>cases k;obtain ⟨t,rfl⟩:=r';exact SeqAt.RcNeAt.int_str _ _ _ _
  | tup ys=>obtain ⟨b,us,rfl,k1,k2⟩:=k;cases r';obtain ⟨js,r2,p2,_⟩:=I.tuple k1;exact SeqAt.RcNeAt.int_tuple _ _ p2 hu0
  | lst ys=>obtain ⟨b,us,rfl,k1,k2⟩:=k;cases r';obtain ⟨js,r2,p2,_⟩:=I.list k1;exact SeqAt.RcNeAt.int_list _ _ p2.isList hu0
 | str i =>
  cases h;obtain ⟨t0,rfl⟩:=r
  cases y with
  | non=>cases k;cases r';exact SeqAt.RcNeAt.str_none _ _
  | bl b=>cases k;cases r';exact SeqAt.RcNeAt.str_bool _ _ _
  | int b=>cases k;obtain ⟨t,rfl⟩:=r';exact SeqAt.RcNeAt.str_int _ _ _ _
  | str b=>cases k;obtain ⟨t,rfl⟩:=r';exact SeqAt.RcNeAt.str_str _ _ _ _
  | tup ys=>obtain ⟨b,us,rfl,k1,k2⟩:=k;cases r';obtain ⟨js,r2,p2,_⟩:=I.tuple k1;exact SeqAt.RcNeAt.str_tuple _ _ p2 hu0
  | lst ys=>obtain ⟨b,us,rfl,k1,k2⟩:=k;cases r';obtain ⟨js,r2,p2,_⟩:=I.list k1;exact SeqAt.RcNeAt.str_list _ _ p2.isList hu0
 | tup xs =>
  obtain ⟨a,vs,rfl,h1,h2⟩:=h
  cases r
  obtain ⟨is,r1,p1,_⟩:=I.tuple h1
  have hu1:A.in1.units + dI xs < cLine:=by
   have e:dep (.tup xs)=dI xs + 1:=by rw [dep]
   rw [e] at hu
   show A.units + 1 + dI xs < cLine
   omega
  cases y with
  | non=>cases k;cases r';exact SeqAt.RcNeAt.tuple_none p1 hu0
  | bl b=>cases k;cases r';exact SeqAt.RcNeAt.tuple_bool _ p1 hu0
  | int b=>cases k;obtain ⟨t,rfl⟩:=r';exact SeqAt.RcNeAt.tuple_int _ _ p1 hu0
  | str b=>cases k;obtain ⟨t,rfl⟩:=r';exact SeqAt.RcNeAt.tuple_str _ _ p1 hu0
  | tup ys =>
   obtain ⟨b,us,rfl,k1,k2⟩:=k;cases r';obtain ⟨js,r2,p2,_⟩:=I.tuple k1
   have e1:is.length=xs.length:=by rw [← r1.length,h2.length]
   have e2:js.length=ys.length:=by rw [← r2.length,k2.length]
   have ae:=jg xs ys
   have key:=SeqAt.RcNeAt.tuples (e:=DH xs ys) p1 p2 hu0 λj q1 q2=>rO I xs ys h2 k2 r1 r2 hu1 j (by simpa using q1) (by simpa using q2)
   simp only [Uy] at key
   rw [e1,e2,ae] at key
   simpa [lM] using key
  | lst ys=>obtain ⟨b,us,rfl,k1,k2⟩:=k;cases r';obtain ⟨js,r2,p2,_⟩:=I.list k1;exact SeqAt.RcNeAt.tuple_list p1 p2.isList hu0
 | lst xs =>
  obtain ⟨a,vs,rfl,h1,h2⟩:=h
  cases r
  obtain ⟨is,r1,p1,_⟩:=I.list h1
  have hu1:A.in1.units + dI xs < cLine:=by
   have e:dep (.lst xs)=dI xs + 1:=by rw [dep]
   rw [e] at hu
   show A.units + 1 + dI xs < cLine
   omega
  cases y with
  | non=>cases k;cases r';exact SeqAt.RcNeAt.list_none p1.isList hu0
  | bl b=>cases k;cases r';exact SeqAt.RcNeAt.list_bool _ p1.isList hu0
  | int b=>cases k;obtain ⟨t,rfl⟩:=r';exact SeqAt.RcNeAt.list_int _ _ p1.isList hu0
  | str b=>cases k;obtain ⟨t,rfl⟩:=r';exact SeqAt.RcNeAt.list_str _ _ p1.isList hu0
  | tup ys=>obtain ⟨b,us,rfl,k1,k2⟩:=k;cases r';obtain ⟨js,r2,p2,_⟩:=I.tuple k1;exact SeqAt.RcNeAt.list_tuple p1.isList p2 hu0
  | lst ys =>
   obtain ⟨b,us,rfl,k1,k2⟩:=k;cases r';obtain ⟨js,r2,p2,_⟩:=I.list k1
   have e1:is.length=xs.length:=by rw [← r1.length,h2.length]
   have e2:js.length=ys.length:=by rw [← r2.length,k2.length]
   have ae:=jg xs ys
   by_cases hl:xs.length=ys.length
   ·have key:=SeqAt.RcNeAt.lists (e:=DH xs ys) p1.isList p2.isList (by simp only [Uy];omega) hu0 λj q1 q2=>rO I xs ys h2 k2 r1 r2 hu1 j (by simpa using q1) (by simpa using q2)
    simp only [Uy] at key
    rw [hl,WJ] at ae
    have e3:(ys.length == ys.length)=true:=by simp
    rw [e3,VB] at ae
    rw [e1,hl,ae] at key
    simpa [lM] using key
   ·have key:=SeqAt.RcNeAt.lists_lengths p1.isList p2.isList (A:=A) (by simp only [Uy];rw [e1,e2];simpa using hl) hu0
    have e3:kr xs ys=false:=by
     rw [← ae]
     have:(xs.length == ys.length)=false:=by simpa using hl
     rw [this,V3]
    simpa [lM,e3] using key
def rP (K:PySem.W.Frag) (f:Bool→Bool):R2:=λv v' H Q=>∃x y:Py,At K H x v∧At K H y v'∧dep x≤60∧Q (.bl (f (lM x y))) H
theorem Nh (hu:X.A.units + 61 < cLine):fz X (compareOp .Eq) (rP X.K id):=by
 intro pins s σ H x y v u Q I rx ry h
 obtain ⟨a,b,h1,h2,d,q⟩:=h
 exact SO I a b h1 h2 rx ry (by omega) X.prog X.w X.xe _ ⟨.bl _,H,I,rfl,q⟩
theorem Nk (hu:X.A.units + 61 < cLine):fz X (compareOp .NotEq) (rP X.K not):=by
 intro pins s σ H x y v u Q I rx ry h
 obtain ⟨a,b,h1,h2,d,q⟩:=h
 exact Qv I a b h1 h2 rx ry (by omega) X.prog X.w X.xe _ ⟨.bl _,H,I,rfl,q⟩
end
end Ov
namespace Ov
open PySem PySem.Spec PySem.Calls PyProof.Rows PySem.W Builtin.Getset_descriptor
def ExcAt (x D:Addr) (h:Heap):Prop:=∃ox,h.get? x=some ox∧ox.cls=.ref D
theorem ExcAt.ty {M:Model} {h:Heap} {x D:Addr} (I:ExcAt x D h):Looks M h (typeOf (.ref x)) (.ref D):=by
 obtain ⟨ox,a,b⟩:=I
 rw [← b]
 exact (Looks.ld a).andThen .now
section
variable {prog:Program} {w:World} {A:Around} {E:Value→Shared→Prop} {s:Shared} {K:Frag} {x D:Addr}
structure qp (K:Frag) (D:Addr):Prop where
 cls:(clsIn K D).isSome=true
 ga:findIn K (.ref D) "__getattribute__"=some (some (.builtin "BaseException.__getattribute__"))
 gt:findIn K (.ref D) "__getattr__"=some none
 ca:findIn K (.ref D) "__class__"=some (some (.builtin "object.__class__"))
 get:specialIn K (.builtin "object.__class__") "__get__"=some (some (.builtin "getset_descriptor.__get__"))
 tk:takesIn K (.builtin "object.__class__")=some true
 obj:mroIn K D (.type "object")=some true
 bex:subIn K (.ref D) (.type "BaseException")=some true
theorem KH {M:Model} {h:Heap} (X:K.In h) (Z:qp K D):Looks M h (Builtin.ObjectAttr.find (.ref x) (.ref D) "__class__") (.bind (.builtin "getset_descriptor.__get__") (.builtin "object.__class__")) :=
 (looks_findIn X Z.ca).andThen ((show Looks M h (Builtin.ObjectAttr.getOf (some (.builtin "object.__class__"))) _ from looks_specialIn X Z.get).andThen
  ((show Looks M h (Builtin.ObjectAttr.dataDescriptor? (some (.builtin "object.__class__")) (some (.builtin "getset_descriptor.__get__"))) (some (.builtin "getset_descriptor.__get__",.builtin "object.__class__")) from (looks_takesIn X Z.tk).andThen .now).andThen (Looks.tag .now)))
theorem N_ {tp:Value} {R:Result→Shared→Prop} (X:K.In s.heap) (Z:qp K D) (I:ExcAt x D s.heap) (h:R (.ok (.ret (.ref D))) s) :
  codeAny (model prog w) A (.call (.builtin "getset_descriptor.__get__") ⟨[.builtin "object.__class__",.ref x,tp],[]⟩) R s:=by
 obtain ⟨hh,g,dr,t,os⟩:=s
 have L0:=I.ty (M:=model prog w)
 have L1:=looks_mroIn (M:=model prog w) X Z.obj
 refine codeAny_call_builtin KF.slot_gs.plain KF.entry_gs ?_
 refine KF.slot_gs.check _ _ _ _ _ _ _ _ KF.type_class (KF.args_gs _ _ _) ?_
 unfold Builtin.«getset_descriptor.__get__» descrGet;rw [dga_obj]
 refine wpAny_bind (wpAny_pure ?_)
 unfold descrGetter descrCheckInstance descrNameAndClass isInstance;simp only [KF.owner_class]
 repeat lk
 refine ⟨Code.quiet_builtin _ (by decide +kernel),?_⟩
 refine codeAny_builtin KF.entry_class ?_
 unfold Builtin.«object.__class__» shownTypeOf;repeat lk
 exact h
theorem HP {tk:Tok} {Q:Fin→Shared→Prop} (X:K.In s.heap) (Z:qp K D) (I:ExcAt x D s.heap) (h:Q (.done (.ret (.ref D))) s) :
  wpAny (model prog w) A (Builtin.«object.__getattribute__» ⟨[.ref x,.str "__class__" tk],[]⟩) Q E s:=by
 obtain ⟨hh,gg,d,t,os⟩:=s
 have L0:=I.ty (M:=model prog w)
 have L1:=KH (x:=x) (M:=model prog w) X Z
 unfold Builtin.«object.__getattribute__»
 refine wpAny_bind (wpAny_pure (wpAny_bind (wpAny_pure (wpAny_bind (L0.at (wpAny_bind (L1.at ?_)))))))
 show wpAny _ _ (holding [.builtin "object.__class__"] (call (.builtin "getset_descriptor.__get__") [.builtin "object.__class__",.ref x,.ref D]) >>= ret) _ _ _
 exact wpAny_bind (wpAny_holding (wpAny_call (N_ (tp:=.ref D) X Z I (wpAny_pure h))))
theorem HM {M:Model} {nameV:Value} {Q:Unit→Shared→Prop} (X:K.In s.heap) (Z:qp K D) (I:ExcAt x D s.heap) (hq:Q () s) :
  wpAny M A (checkBuiltinCall "BaseException.__getattribute__" ⟨[.ref x,nameV],[]⟩) Q E s:=by
 have k:builtinKind "BaseException.__getattribute__"=some .slot:=by decide +kernel
 have sp:splitId "BaseException.__getattribute__"=some ("BaseException","__getattribute__"):=by decide +kernel
 have ok:=F.args_bexc_ga (.ref x) nameV
 have L1:Looks M s.heap (isInstance (.ref x) (.type "BaseException")) true:=I.ty.andThen (looks_subIn X Z.bex)
 obtain ⟨hh,gg,d,t,os⟩:=s
 simp only [checkBuiltinCall,k,sp]
 refine wpAny_bind (L1.at ?_)
 simp only [Bool.not_true,UK,if_false]
 cases sg:Manifest.signature? "BaseException.__getattribute__" with
 | none=>exact wpAny_pure hq
 | some z =>
  unfold argsOk at ok
  rw [sg] at ok
  show wpAny _ _ (Bind.checkArgs _ z _) _ _ _
  rw [show Bind.checkArgs "BaseException.__getattribute__" z ⟨[.ref x,nameV],[]⟩=pure () from ok]
  exact wpAny_pure hq
theorem HN {Q:Option Value→Shared→Prop} (X:K.In s.heap) (Z:qp K D) (I:ExcAt x D s.heap) (h:Q (some (.ref D)) { s with toks:=s.toks + 1 }):wpAny (model prog w) A (getAttr? (.ref x) "__class__") Q E s:=by
 obtain ⟨hh,gg,d,t,os⟩:=s
 have L0:=I.ty (M:=model prog w)
 have L1:=looks_findIn (M:=model prog w) X Z.ga
 have L2:=looks_findIn (M:=model prog w) X Z.gt
 unfold getAttr? getAttrBy? getAttrBy
 refine wpAny_bind (wpAny_mkText (wpAny_bind (wpAny_attempt (wpAny_holding ?_))))
 refine wpAny_bind (L0.at (wpAny_bind (L1.at ?_)))
 have no:(Value.builtin "BaseException.__getattribute__" == Value.builtin "object.__getattribute__")=false:=by decide +kernel
 show wpAny _ _ (if onTheHeap (.ref D) && Value.builtin "BaseException.__getattribute__" == Value.builtin "object.__getattribute__" then _ else _) _ _ _
 rw [no,V3]
 simp only [UK,if_false]
 unfold getAttrByItsOwn hookBefore callGetattribute boundAndCalled
 have f3:=PySem.F.attr_ValueError.ga.bind (.ref x)
 refine wpAny_bind ((show wpAny _ _ (typeLookup (Value.ref D) "__getattr__") _ _ _ from L2.at ?_))
 refine wpAny_bind (wpAny_attempt (wpAny_holding ?_))
 show wpAny _ _ (bindSpecial (Value.builtin "BaseException.__getattribute__") (Value.ref x) >>= _) _ _ _
 rw [f3]
 refine wpAny_bind (wpAny_pure ?_)
 refine wpAny_call (codeAny_call_builtin PySem.F.attr_ValueError.ga.plain PySem.F.entry_bexc_ga (HM (s:=⟨hh,gg,d,t + 1,os⟩) X Z I (HP (s:=⟨hh,gg,d,t + 1,os⟩) X Z I ?_)))
 exact handed_on rfl (wpAny_pure h)
theorem qp.at {h:Heap} (Z:qp K D) (X:K.In h):∃c d cd sl,h.get? D=some ⟨c,d,.cls cd,sl⟩:=by
 obtain ⟨cd,q⟩:=Wd.mp Z.cls
 unfold clsIn at q
 split at q
 ·exact ⟨_,_,_,_,X _ _ (by assumption)⟩
 ·cases q
theorem F3 (Z:qp K D):KitX K (.ref x) (.ref D) (ExcAt x D) where
 ty:=λ_ _ _ I=>I.ty
 it:=λ_ _ X _=>by
  obtain ⟨c,d,cd,sl,o⟩:=Z.at X
  intro A' Q' E' s' k q
  unfold isType loadHead
  exact wpAny_bind (wpAny_loadPart (k _ _ o) (wpAny_pure q))
 ne:=λh tp dd its n sl X htp=>V0.mpr λq=>by
  obtain ⟨c,d,cd,sl',o⟩:=Z.at X
  rw [Value.ref.inj (beq_iff_eq.mp q)] at o
  cases o.symm.trans htp
 ca:=λX I k=>HN X Z I k
end
end Ov
namespace Ov
open PySem PySem.Spec PyProof.Rows L2
structure l9 (P:Program) (w:World) (outer:List Env) (H:Hp) (s:Shared) (ea:Addr) (cls:Value) (H':Hp) (s':Shared):Prop where
 os:s'.os=s.os
 bare:AllBare s'.gens
 un:Un (j6 outer) [] H H' s.heap s'.heap
 hok:nu P w H' s'.heap
 fl:∃B t,Heap.FlyingW B outer ea cls (.ref t) s'.heap∧∀b o,s'.heap.get? b=some o→(H' b≠none∨∃o₀,s.heap.get? b=some o₀)→b ∉ j6 outer→B.get? b=some o
def cP (P:Program) (w:World):tK:=λouter H s E e s'=>∃ea cls H',e=.ref ea∧l9 P w outer H s ea cls H' s'∧E cls none H'
theorem Jm {P:Program} {w:World} {H:Hp} {h:Heap} {a:Addr} {o:HO} (x:dB P w H h a o):∃ob,h.get? a=Vi ob:=by
 have lt:=x.lt
 cases o with
 | lst xs=>obtain ⟨_,_,_,_,e⟩:=x;exact ⟨_,e⟩
 | tup xs=>obtain ⟨_,_,_,ob,e,_⟩:=x;exact ⟨_,e⟩
 | dK kvs=>obtain ⟨_,_,_,_,o,_,_,e,_⟩:=x;exact ⟨_,e⟩
 | dE kvs ep=>obtain ⟨_,_,_,_,o,_,e,_⟩:=x;exact ⟨_,e⟩
 | set S n=>obtain ⟨o,_,_,_,e,_⟩:=x;exact ⟨_,e⟩
 | ins C dx fs=>obtain ⟨_,_,_,e,_⟩:=x;exact ⟨_,e⟩
 | own y=>exact x
 | xd fs=>obtain ⟨_,⟨_,_,_,e,_⟩,_⟩:=x;exact ⟨_,e⟩
 | Ow lo hi=>obtain ⟨_,_,_,e⟩:=x;exact ⟨_,e⟩
 | qJ ob u=>obtain ⟨e,_⟩:=x;exact ⟨_,e⟩
 | tbl ps=>exact ⟨_,x⟩
 | met f y=>exact ⟨_,x⟩
 | ext φ=>obtain ⟨_,e,_⟩:=x;exact e
section
variable {X:Cx} {pins:List (Addr × Obj)} {σ:L2.St} {H H':Hp} {s:Shared} {ea t:Addr} {cls:Value} {B h1 h2:Heap}
theorem ku (I:Inv X pins σ H s) (un:Un (j6 X.stack) [] H H' s.heap h1) {b:Addr} (hb:b∈j6 X.stack):H' b=none∧∃o,h1.get? b=some o∧∀vs,o.data≠.fields vs:=by
 obtain ⟨_,o,ho,hn⟩:=I.stack.mem hb
 have n:=I.xP b hb
 obtain ⟨sl,e⟩:=un.any ho n (by simp)
 exact ⟨un.free b o ho n (by simp),_,e,hn⟩
theorem v_ (I:Inv X pins σ H s) (un:Un (j6 X.stack) [] H H' s.heap h1) (cov:∀b o,h1.get? b=some o→(H' b≠none∨∃o₀,s.heap.get? b=some o₀)→b ∉ j6 X.stack→B.get? b=some o)
  (hB:B.StaysIn h2) (up:h1.UpToSlots h2):Un (j6 X.stack) [] H H' s.heap h2 where
 keep:=λb o e n hb hx=>hB b o (cov b o (un.keep b o e n hb hx) (.inr ⟨o,e⟩) hb)
 slot:=λb o e n hb hx=>by
  obtain ⟨sl,e1⟩:=un.slot b o e n hb hx
  obtain ⟨_,o',e2,hn⟩:=ku I un hb
  rw [e1] at e2;cases e2
  obtain ⟨sl',e3⟩:=up b _ e1 hn
  exact ⟨sl',e3⟩
 free:=un.free
 there:=λb o e hx=>by
  obtain ⟨o',e1⟩:=un.there b o e hx
  by_cases hb:b∈j6 X.stack
  ·obtain ⟨_,o2,e2,hn⟩:=ku I un hb
   obtain ⟨sl',e3⟩:=up b _ e2 hn
   exact ⟨_,e3⟩
  ·exact ⟨o',hB b o' (cov b o' e1 (.inr ⟨o,e⟩) hb)⟩
 tups:=un.tups
 frzs:=un.frzs
 tbls:=un.tbls
theorem v9 (I:Inv X pins σ H s) (un:Un (j6 X.stack) [] H H' s.heap h1) (cov:∀b o,h1.get? b=some o→(H' b≠none∨∃o₀,s.heap.get? b=some o₀)→b ∉ j6 X.stack→B.get? b=some o)
  (hB:B.StaysIn h2) (ok:nu X.prog X.w H' h1):nu X.prog X.w H' h2:=λa o e=>by
 have nf:∀b u,H' b=some u→b ∉ j6 X.stack:=λb u q hb=>by
  have:=(ku I un hb).1
  rw [q] at this;cases this
 refine (ok a o e).pS (λb u hb q=>?_) (λ_ q=>q) λ_ _ q=>q
 rcases hb with rfl | hb
 ·exact hB _ _ (cov _ _ q (.inl (by rw [e];exact λz=>nomatch z)) (nf _ _ e))
 ·exact hB _ _ (cov _ _ q (.inl (by rw [hb];exact λz=>nomatch z)) (nf _ _ hb))
theorem As (un:Un (j6 X.stack) [] H H' s.heap h1) (ok:nu X.prog X.w H' h1) (cov:∀b o,h1.get? b=some o→(H' b≠none∨∃o₀,s.heap.get? b=some o₀)→b ∉ j6 X.stack→B.get? b=some o) (hB:B.StaysIn h2) :
  ∀b o,h2.get? b=some o→(H' b≠none∨∃o₀,s.heap.get? b=some o₀)→b ∉ j6 X.stack→B.get? b=some o:=λb o e hb nb=>by
 have:∃o1,h1.get? b=some o1:=by
  rcases hb with z | ⟨o₀,z⟩
  ·cases q:H' b with
   | none=>exact absurd q z
   | some u=>exact Jm (ok b u q)
  ·exact un.there b o₀ z (by simp)
 obtain ⟨o1,e1⟩:=this
 have c:=cov b o1 e1 hb nb
 have:=hB b o1 c
 rw [e] at this;cases this
 exact c
theorem l9.on {s':Shared} (I:Inv X pins σ H s) (F:l9 X.prog X.w X.stack H s ea cls H' s'):∃B t,Heap.FlyingW B X.stack ea cls (.ref t) s'.heap ∧
  ∀h2,Heap.FlyingW B X.stack ea cls (.ref t) h2→s'.heap.UpToSlots h2→l9 X.prog X.w X.stack H s ea cls H' { s' with heap:=h2 }:=by
 obtain ⟨B,t,fl,cov⟩:=F.fl
 exact ⟨B,t,fl,λh2 fl2 up=>⟨F.os,F.bare,v_ I F.un cov fl2.1 up,v9 I F.un cov fl2.1 F.hok,B,t,fl2,As F.un F.hok cov fl2.1⟩⟩
theorem B0 {s2:Shared} (I:Inv X pins σ H s) (hst:X.stack=X.env :: X.outer) (hfr:X.env.frame=some X.env.locals) (hex:X.ex=[]) (os:s2.os=s.os) (bare:AllBare s2.gens) (un:Un (j6 X.stack) [] H H' s.heap s2.heap)
  (ok:nu X.prog X.w H' s2.heap) (cov:∀b o,s2.heap.get? b=some o→(H' b≠none∨∃o₀,s.heap.get? b=some o₀)→b ∉ j6 X.stack→B.get? b=some o) (fl:Heap.FlyingW B X.outer ea cls (.ref t) s2.heap) :
  l9 X.prog X.w X.outer X.H₀ X.s₀ ea cls H' s2:=by
 have nst:∀b o,X.s₀.heap.get? b=some o→b ∉ X.fs→b ∉ j6 X.stack:=λb o e nb hb=>by
  rcases UI.mp (I.pT b hb) with z | z
  ·have:=UL (Heap.lt_size e) I.ok.above
   rw [z] at this
   exact Vv _ this
  ·exact nb z
 have sub:∀b,b∈X.fs→b∈j6 X.stack:=λb hb=>by rw [hst];unfold j6;rw [VM,hfr];exact UW _ hb
 have nx:∀b:Addr,b ∉ X.ex:=λb=>by rw [hex];simp
 refine ⟨os.trans I.os,bare,⟨λb o e n hb _=>?_,λb o e n hb _=>?_,λb o e n _=>?_,λb o e _=>?_,λb xs q=>un.tups b xs (I.base.tups b xs q),λb o xs q=>un.frzs b o xs (I.base.frzs b o xs q),λb ps q=>?_⟩,ok,B,t,fl,λb o e hb nb=>?_⟩
 ·exact un.keep b o (I.base.keep b o e n hb (nx b)) (I.base.free b o e n (nx b)) (nst b o e hb) (by simp)
 ·obtain ⟨sl,e1⟩:=I.base.slot b o e n hb (nx b)
  obtain ⟨sl',e2⟩:=un.slot b _ e1 (I.base.free b o e n (nx b)) (sub b hb) (by simp)
  exact ⟨sl',e2⟩
 ·obtain ⟨o',e1⟩:=I.base.there b o e (nx b)
  exact un.free b o' e1 (I.base.free b o e n (nx b)) (by simp)
 ·obtain ⟨o',e1⟩:=I.base.there b o e (nx b)
  exact un.there b o' e1 (by simp)
 ·obtain ⟨m1,e1⟩:=I.base.tbls b ps q
  obtain ⟨m2,e2⟩:=un.tbls b _ e1
  exact ⟨m1 ++ m2,by rw [e2,Array.append_assoc]⟩
 ·rcases hb with z | ⟨o₀,z⟩
  ·exact cov b o e (.inl z) λhb=>z (ku I un hb).1
  ·obtain ⟨o1,e1⟩:=I.base.there b o₀ z (nx b)
   exact cov b o e (.inr ⟨o1,e1⟩) (nst b o₀ z nb)
theorem DU {E:XK} {e:Value} {s':Shared} {R:Value→Shared→Prop} (I:Inv X pins σ H s) (hst:X.stack=X.env :: X.outer) (hfr:X.env.frame=some X.env.locals) (hex:X.ex=[]) (h:cP X.prog X.w X.stack H s E e s') :
  wpAny (model X.prog X.w) X.A (leaving X.env e) (λ_ s''=>cP X.prog X.w X.outer X.H₀ X.s₀ E e s'') R s':=by
 obtain ⟨ea,cls,H',rfl,F,q⟩:=h
 obtain ⟨B,t,fl,cov⟩:=F.fl
 refine wpAny_leaves_onW (by rw [I.ok.frames,hst]) hfr (hst ▸ fl) λh2 fl2 up=>?_
 exact ⟨ea,cls,H',rfl,B0 (s2:={ s' with heap:=h2 }) I hst hfr hex F.os F.bare (v_ I F.un cov fl2.1 up) (v9 I F.un cov fl2.1 F.hok) (As F.un F.hok cov fl2.1) fl2,q⟩
theorem leave_new {E:XK} {e C:Addr} {args:List Value} {h':Heap} {R:Value→Shared→Prop} (I:Inv X pins σ H s) (hst:X.stack=X.env :: X.outer) (hfr:X.env.frame=some X.env.locals) (hex:X.ex=[])
  (hx:Heap.MadeExcOf s.heap h' e (.ref C) args) (q:E (.ref C) none H) :
  wpAny (model X.prog X.w) X.A (leaving X.env (.ref e)) (λ_ s''=>cP X.prog X.w X.outer X.H₀ X.s₀ E (.ref e) s'') R { s with heap:=h' }:=by
 have hin:∀env∈X.env :: X.outer,∀a,env.frame=some a→a∈j6 X.stack:=λenv he a ha=>by rw [hst];exact V'.mpr ⟨env,he,ha⟩
 have cov:∀b o,s.heap.get? b=some o→(H b≠none∨∃o₀,s.heap.get? b=some o₀)→b ∉ j6 X.stack→(PySem.W.hideAll s.heap (j6 X.stack)).get? b=some o:=λb o e _ nb=>PySem.W.hideAll_get _ e nb
 refine wpAny_leaves_madeW (base:=PySem.W.hideAll s.heap (j6 X.stack)) (by rw [I.ok.frames,hst]) hfr (λb o z=>PySem.W.of_hideAll _ z) (PySem.W.funFrames_hide (hst ▸ I.stack) hin) hx λh2 t fl _ _ up=>?_
 have up2:s.heap.UpToSlots h2:=(Heap.UpToSlots.of_keeps hx.keeps).trans up
 exact ⟨e,.ref C,H,rfl,B0 (s2:={ s with heap:=h2 }) I hst hfr hex rfl I.bare (v_ I Un.refl cov fl.1 up2) (v9 I Un.refl cov fl.1 I.hok) (As Un.refl I.hok cov fl.1) fl,q⟩
end
abbrev RJ:List Value:=[.type "ValueError",.type "Exception",.type "BaseException",.type "object"]
structure Own (K:PySem.W.Frag) (mg:Str→Option Value) (x:Str) (C:Addr):Prop where
 mg:mg x=some (.ref C)
 own:PySem.W.excIn K C RJ "ValueError.__new__"=true
 xc:qp K C
theorem JB {K:PySem.W.Frag} {h:Heap} {C:Addr} {bmB:List Value} {newId:String} (X:K.In h) (q:PySem.W.excIn K C bmB newId=true) :
  ∃bm N nm qn bs hd sn sub ab col dd k0 k1 k2 k3 k5 mN,h.get? C=some (excClassObj nm qn C N bs bm hd sn sub ab col dd k0 k1 k2 k3 k5 newId)∧h.Ns N mN∧mN "__init__"=none∧OwnTail h bmB bm:=by
 unfold PySem.W.excIn at q
 split at q
 ·next dd cd sl ho =>
  split at q
  ·next C' bm k0 k1 k2 k3 n k5 hm hs =>
   simp only [beq_iff_eq,UX,WE] at q
   obtain ⟨⟨⟨⟨⟨rfl,rfl⟩,e3⟩,e4⟩,e5⟩,e6⟩:=q
   cases cd with
   | mk nm bs mro ns qn hd sn sub ab col del =>
    have hm:mro=.ref C' :: bm:=hm
    have e3:del=false:=e3
    subst hm;subst e3
    have hsl:sl=#[k0,k1,k2,k3,some (.builtin n),k5]:=Array.toList_inj.mp hs
    subst hsl
    exact ⟨bm,ns,nm,qn,bs,hd,sn,sub,ab,col,dd,k0,k1,k2,k3,k5,_,X _ _ ho,.of_isNs (PySem.W.isNs_of_in X e5),PySem.W.nsMap_none_of_in X e5 e6,PySem.W.tail_of_in X e4⟩
  ·cases q
 ·cases q
def N1 (C:Addr) (E:XK) (t:TA):TS:=λ_ σ H=>t σ H λvs H1=>vs.length≤sizeLine∧E (.ref C) none H1
def Throws (X:Cx) (E:XK):Prop:=∀(pins:List (Addr × Obj)) (σ:L2.St) (H:Hp) (s:Shared) (e C:Addr) (args:List Value) (h':Heap),Inv X pins σ H s→Heap.MadeExcOf s.heap h' e (.ref C) args→E (.ref C) none H→X.xe (.ref e) { s with heap:=h' }
theorem Ew {X:Cx} {E:XK} {x:Str} {C:Addr} {e:Expr} {es:List Expr} {np cpos pos:Pos} {t:TA} (O:Own X.K X.mg x C) (hc:X.calm=true) (hx:Throws X E) (hg:Gl X x) (ha:PA X (e :: es) t)
  (hd:(x == ("__debug__":Str))=false:=by decide) (he:starEach (e :: es) X.env=(false,eval e X.env) :: starEach es X.env:=by rfl) (hpl:(backTo cpos (starEach es X.env)).any (·.1)=false:=by rfl) :
  PS X (.Raise (some (.Call (.Name x np) (e :: es) [] cpos)) none pos) (N1 C E t):=by
 intro pins s σ H D I h
 obtain ⟨bm,N,nm,qn,bs,hd',sn,sub,ab,col,dd,k0,k1,k2,k3,k5,mN,hC,hN,hni,T⟩:=JB I.mod.kin O.own
 have hplain:(backTo cpos (starEach (e :: es) X.env)).any (·.1)=false:=by
  rw [he]
  show (false || (backTo cpos (starEach es X.env)).any (·.1))=false
  rw [hpl];rfl
 refine wpAny_Raise_call_subT (C:=C) (N:=N) (nm:=nm) (q:=qn) (bs:=bs) (hdct:=hd') (sn:=sn) (sub:=sub) (ab:=ab) (col:=col) (dd:=dd) (k0:=k0) (k1:=k1) (k2:=k2) (k3:=k3) (k5:=k5) PySem.F.excBase_ValueError (T.hasType (by decide +kernel)) (I.ok.hd hc) hplain hni ?_
 refine lN I hg O.mg ⟨rfl,?_⟩ hd
 have key:=cD (ha cpos pins s σ H _ I h) (Q':=λus s1=>us.length≤sizeLine∧s1.heap.get? C=some (excClassObj nm qn C N bs bm hd' sn sub ab col dd k0 k1 k2 k3 k5 "ValueError.__new__")∧s1.heap.Ns N mN∧OwnTail s1.heap RJ bm ∧
  ∀h' e,Heap.MadeExcOf s1.heap h' e (.ref C) us→X.xe (.ref e) { s1 with heap:=h' }) λus s1 ⟨vs,H1,I1,r,z,q⟩ =>
   ⟨by rw [← r.length];exact z,I1.bk _ _ hC,hN.keeps I1.bk,T.keeps I1.bk,λh' ea hm=>hx pins σ H1 s1 ea C us h' I1 hm q⟩
 rw [he] at key ⊢
 exact PySem.Calls.evalArgs_plain (cD key λ_ _ z=>⟨rfl,z⟩)
section
variable {P:Program} {w:World} {K:PySem.W.Frag} {mg:Str→Option Value} {base:Heap} {N:List Str} {qual:Str} {scope:Scope} {f:Addr} {cd:Value} {A:Around} {outer:List Env} {s:Shared} {H:Hp} {E:XK}
abbrev zM (P:Program) (w:World) (K:PySem.W.Frag) (mg:Str→Option Value) (base:Heap) (N:List Str) (qual:Str) (scope:Scope) (f:Addr) (cd:Value) (A:Around) (outer:List Env) (s:Shared) (H:Hp) (E:XK):Cx:=vZ (cP P w) P w K mg base N qual scope f cd A outer s H E
theorem cK:Throws (zM P w K mg base N qual scope f cd A outer s H E) E:=λpins σ H1 s1 e C args h' I hm q =>
 leave_new (X:=zM P w K mg base N qual scope f cd A outer s H E) I rfl rfl rfl hm q
theorem Av:Passes (cP P w) (zM P w K mg base N qual scope f cd A outer s H E) E:=λpins σ H1 s1 e s' I h =>
 DU (X:=zM P w K mg base N qual scope f cd A outer s H E) I rfl rfl rfl h
theorem b7:PassesOwn (model P w) (zM P w K mg base N qual scope f cd A outer s H E).A (zM P w K mg base N qual scope f cd A outer s H E).env (zM P w K mg base N qual scope f cd A outer s H E).xe:=PassesOwn.leaving
theorem Um {x qual:Str} {st:Stmt} {f:Addr} {fd:FuncData} {N ps:List Str} {k:Nat} {sp:Sp} (F:cb K x qual st f fd) (S:aw N ps (aj st)) (len:∀vs H Q E,sp vs H Q E→vs.length=ps.length)
  (hbody:∀(cdv:Value) (A:Around) (outer:List Env) (s:Shared) (H:Hp) (vs:List V) (Q:VK) (E:XK),bV k (A.deeper (envOfC qual (aj st) s.heap.objs.size f cdv))→sp vs H Q E →
   ∃t,QB (zM P w K mg base N qual (aj st) f cdv A outer s H E) (bX st) t∧t { nx:=λ_ H'=>Q .non H',rt:=Q } (start N vs) H):aQ P w K mg base (cP P w) (k + 1) f fd ps sp:=by
 obtain ⟨oc,od,kV,doc,pm,an,cdv,ct,osl,rfl,lk,hcd⟩:=F.ex
 refine FC lk hcd S len λA outer s H vs Q E hr hsp=>?_
 obtain ⟨t,h,q⟩:=hbody cdv A outer s H vs Q E hr hsp
 exact ⟨t,h.run,q⟩
end
def ET (P:Program) (w:World) (K:PySem.W.Frag) (mg:Str→Option Value) (base:Heap) (k:Nat) (x:Str) (ps:List Str) (sp:Sp):Prop :=
 ∃f fd,aQ P w K mg base (cP P w) k f fd ps sp∧Binds K fd ps []∧PySem.W.keepIn K (.ref f)=true∧mg x=some (.ref f)
theorem JC {X:Cx} {k k':Nat} {x:Str} {ps:List Str} {sp:Sp} {p pos:Pos} {e:Expr} {es:List Expr} {t:TA} {E:XK} (C:ET X.prog X.w X.K X.mg X.base k x ps sp) (hx:Passes (cP X.prog X.w) X E) (hr:bV k' X.A) (hk:k≤k') (hg:Gl X x) (ha:PA X (e :: es) t)
  (hdb:(x == ("__debug__":Str))=false:=by decide) (he:starEach (e :: es) X.env=(false,eval e X.env) :: starEach es X.env:=by rfl) (hpl:(backTo pos (starEach es X.env)).any (·.1)=false:=by rfl) :
  PE X (.Call (.Name x p) (e :: es) [] pos) (tG sp [] E t):=by
 obtain ⟨f,fd,F,b,kp,m⟩:=C
 exact Cp F (hr.mono hk) hg m kp b .nil hx ha hdb he hpl
theorem Def.RL {P:Program} {w:World} {K:PySem.W.Frag} {mg:Str→Option Value} {base:Heap} {x:Str} {st:Stmt} {k:Nat} {ps:List Str} {sp:Sp} (D:Def K mg x st)
  (h:∀f fd,cb K x x st f fd→aQ P w K mg base (cP P w) k f fd ps sp)
  (hb:∀(kV doc pm:Value) (an:Option Addr) (cdv ct:Value) (us:List Value),us.length=ps.length→bindArgs (PySem.W.fnOf x x (dt st) (bX st) (aj st) .none kV doc pm an cdv ct) ⟨us,[]⟩=pure (ps.zip us)) :
  ET P w K mg base k x ps sp:=by
 obtain ⟨f,fd,F,m⟩:=D
 exact ⟨f,fd,h f fd F,F.binds hb,F.kp,m⟩
section
variable {X:Cx} {pins pn:List (Addr × Obj)} {σ:L2.St} {H H':Hp} {s:Shared}
abbrev Mx (X:Cx) (pn:List (Addr × Obj)) (xe:Value→Shared→Prop):Cx:={ X with pn:=pn,xe:=xe }
abbrev Ol (X:Cx) (pn:List (Addr × Obj)) (e:Addr):Cx:={ X with A:=X.A.mark (some (.ref e)),calm:=false,pn:=pn,xe:=λ_ _=>False }
theorem Ss {X:Cx} (ok:X.Ok) (pn:List (Addr × Obj)) (xe:Value→Shared→Prop):(Mx X pn xe).Ok :=
 ⟨ok.mod,ok.kind,ok.glob,ok.blt,ok.above,ok.inj,ok.has,ok.cab,ok.hd,ok.frames,ok.stk,ok.exf,ok.bs,ok.bsz,ok.noex,ok.exfs,ok.mM,ok.frf⟩
theorem Sq {X:Cx} (ok:X.Ok) (pn:List (Addr × Obj)) (e:Addr):(Ol X pn e).Ok :=
 ⟨ok.mod,ok.kind,ok.glob,ok.blt,ok.above,ok.inj,ok.has,ok.cab,(λz=>nomatch z),ok.frames,ok.stk,ok.exf,ok.bs,ok.bsz,ok.noex,ok.exfs,ok.mM,ok.frf⟩
theorem OZ (I:Inv X pins σ H s) (xe:Value→Shared→Prop):Inv (Mx X (X.pn ++ pins) xe) [] σ H s :=
 ⟨Ss I.ok _ xe,I.os,I.bare,I.base,I.loc,I.cell,I.free,I.freeC,λp hp=>I.pin p (by simpa using hp),I.hok,I.len⟩
theorem nS {pins1:List (Addr × Obj)} {xe:Value→Shared→Prop} (ok:X.Ok) (I:Inv (Mx X (X.pn ++ pins) xe) pins1 σ H s):Inv X pins σ H s :=
 ⟨ok,I.os,I.bare,I.base,I.loc,I.cell,I.free,I.freeC,λp hp=>I.pin p (VI _ hp),I.hok,I.len⟩
theorem KU (I:Inv X pins σ H s) (e:Addr):Inv (Ol X (X.pn ++ pins) e) [] σ H s :=
 ⟨Sq I.ok _ e,I.os,I.bare,I.base,I.loc,I.cell,I.free,I.freeC,λp hp=>I.pin p (by simpa using hp),I.hok,I.len⟩
theorem qL {pins1:List (Addr × Obj)} {e:Addr} (ok:X.Ok) (I:Inv (Ol X (X.pn ++ pins) e) pins1 σ H s):Inv X pins σ H s :=
 ⟨ok,I.os,I.bare,I.base,I.loc,I.cell,I.free,I.freeC,λp hp=>I.pin p (VI _ hp),I.hok,I.len⟩
theorem oN {M:Model} {A:Around} {E:Value→Shared→Prop} {i:Nat} {n:Str} {pos:Pos} {Q:Unit→Shared→Prop} (I:Inv X pins σ H s) (hN:X.N.Nodup) (hi:X.N[i]?=some n) (hk:X.env.kindOf n=some .local)
  (h:∀s',Inv X pins (σ.set i none) H s'→Q () s'):wpAny M A (do bindName X.env n .none;unbindBehindTheSuite X.env n pos) Q E s:=by
 obtain ⟨m,hn,hl⟩:=id I.loc
 have hcl:(X.env.scope.kind == .class || (X.env.scope.kind == .module && X.env.locals != X.env.globals))=false:=by rw [I.ok.kind];rfl
 have ne:∀b o,X.s₀.heap.get? b=some o→b≠X.env.locals:=λb o e=>UO (UL (Heap.lt_size e) I.ok.above)
 have hiσ:i < σ.length:=by rw [I.len];exact (Uu.mp hi).1
 refine wpAny_nameGoes_keeps hk hn hcl λh' v hn' hs=>?_
 refine h _ ⟨I.ok,I.os,I.bare,⟨λb o e n hb hx=>(hs.2 b (ne b o e)).trans (I.base.keep b o e n hb hx),λb o e n hb hx=>?_,I.base.free,λb o e hx=>?_,I.base.tups,I.base.frzs,I.base.tbls⟩,
  ⟨_,hn',λj y v' e1 e2 e3=>?_⟩,λy c e=>?_,I.free,I.freeC,λp hp=>?_,λb ob e=>?_,by simpa using I.len⟩
 ·obtain ⟨sl,e1⟩:=I.base.slot b o e n hb hx
  exact ⟨sl,(hs.2 b (ne b o e)).trans e1⟩
 ·obtain ⟨o',e1⟩:=I.base.there b o e hx
  exact ⟨o',(hs.2 b (ne b o e)).trans e1⟩
 ·by_cases hj:j=i
  ·subst hj
   rw [UU hiσ] at e2
   cases e2
  ·rw [U' (Ne.symm hj)] at e2
   obtain ⟨u',r',q⟩:=hl j y v' e1 e2 e3
   refine ⟨u',r',?_⟩
   rcases q with ⟨k,e⟩ | ⟨k,c,e,z⟩
   ·refine .inl ⟨k,?_⟩
    have hy:y≠n:=λe=>hj (se hN e1 (e ▸ hi))
    simp [hy,e]
   ·exact .inr ⟨k,c,e,z.sameBut hs (I.IB y c e)⟩
 ·obtain ⟨w',z⟩:=I.cell y c e
  exact ⟨w',z.sameBut hs (I.IB y c e)⟩
 ·obtain ⟨e,n,nl,nf,d⟩:=I.pin p hp
  exact ⟨(hs.2 p.1 nl).trans e,n,nl,nf,d⟩
 ·refine (I.hok b ob e).pS (λc w' hc q=>(hs.2 c ?_).trans q) (λ_ q=>q) λ_ _ q=>q
  rintro rfl
  rcases hc with z | hc
  ·rw [← z,I.free] at e;cases e
  ·rw [I.free] at hc;cases hc
theorem AF {ea D:Addr} {oe:Obj} {vs:Array Value} (I:Inv X pins σ H s) (he:s.heap.get? ea=some oe) (hc:oe.cls=.ref D) (hd:oe.data=.fields vs) (hn:H ea=none) (h0:X.s₀.heap.get? ea=none) (hp:∀p∈X.pn ++ pins,p.1≠ea) :
  Inv X pins σ (upd H ea (.ext (ExcAt ea D))) s:=by
 have nl:X.env.locals≠ea:=λz=>by
  obtain ⟨m,⟨o,es,ep,ho,hd',_⟩,_⟩:=I.loc
  rw [z,he] at ho;cases ho;rw [hd] at hd';cases hd'
 refine ⟨I.ok,I.os,I.bare,⟨I.base.keep,I.base.slot,λb o e n hx=>?_,I.base.there,λb xs q=>?_,λb o xs q=>?_,λb ps q=>?_⟩,I.loc,I.cell,?_,λx c e=>?_,λp hq=>?_,λb u q=>?_,I.len⟩
 ·rw [aM (λz=>by rw [z,h0] at e;cases e)]
  exact I.base.free b o e n hx
 ·have:=I.base.tups b xs q
  rw [aM (bI this hn)];exact this
 ·have:=I.base.frzs b o xs q
  rw [aM (bI this hn)];exact this
 ·obtain ⟨m,z⟩:=I.base.tbls b ps q
  exact ⟨m,by rw [aM (bI z hn)];exact z⟩
 ·rw [aM nl];exact I.free
 ·rw [aM]
  ·exact I.freeC x c e
  ·rintro rfl
   obtain ⟨v,o,ho,hd'⟩:=I.cell x c e
   rw [he] at ho;cases ho;rw [hd] at hd';cases hd'
 ·obtain ⟨e,n,r⟩:=I.pin p hq
  exact ⟨e,by rw [aM (hp p hq)];exact n,r⟩
 ·by_cases hb:b=ea
  ·subst hb
   rw [aG] at q;cases q
   exact ⟨⟨oe,he,hc⟩,⟨oe,he⟩,λh1 h2 ⟨o,a,c⟩ k=>⟨o,k o a,c⟩⟩
  ·rw [aM hb] at q
   exact (I.hok b u q).pS (λ_ _ _ z=>z) (λc z=>by rw [aM (bI z hn)];exact z) λc xs z=>by rw [aM (bI z hn)];exact z
theorem l9.new {ea:Addr} {cls:Value} {s':Shared} (I:Inv X pins σ H s) (F:l9 X.prog X.w X.stack H s ea cls H' s'):H' ea=none∧s.heap.get? ea=none:=by
 obtain ⟨B,t,fl,cov⟩:=F.fl
 obtain ⟨oe,vs,he,_,hd,_⟩:=fl.first
 have nf:ea ∉ j6 X.stack:=λhb=>by
  obtain ⟨_,o,ho,hn⟩:=ku I F.un hb
  rw [he] at ho;cases ho
  exact hn vs hd
 have no:¬ (H' ea≠none∨∃o₀,s.heap.get? ea=some o₀):=λz=>by
  have:=cov ea oe he z nf
  rw [fl.2.1] at this;cases this
 refine ⟨?_,?_⟩
 ·cases q:H' ea with
  | none=>rfl
  | some u=>exact absurd (.inl (by rw [q];exact λz=>nomatch z)) no
 ·cases q:s.heap.get? ea with
  | none=>rfl
  | some u=>exact absurd (.inr ⟨u,q⟩) no
def SV (K:PySem.W.Frag) (N:Nat) (CW:Addr) (i:Nat) (tb:XK→TS) (ts:TS):TS:=λD σ H=>tb (λcls _ H'=>∃C,cls=.ref C∧PySem.W.exmOne K (.ref C) (.ref CW)=some true ∧
 ∀ea,H' ea=none→ts { nx:=λσ' H2=>D.nx (σ'.set i none) H2,rt:=D.rt,bk:=λσ' H2=>D.bk (σ'.set i none) H2,ct:=λσ' H2=>D.ct (σ'.set i none) H2 } ((Vn N none).set i (some (.ref ea))) (upd H' ea (.ext (ExcAt ea C)))) D σ H
theorem JN {body suite:List Stmt} {b₀:Stmt} {x n:Str} {i:Nat} {CW:Addr} {tb:XK→TS} {ts:TS} {np hpos pos:Pos} (hst:X.stack=X.env :: X.outer) (hfr:X.env.frame=some X.env.locals) (hex:X.ex=[]) (hg:Gl X x) (hm:X.mg x=some (.ref CW))
  (hN:X.N.Nodup) (hi:X.N[i]?=some n) (hk:X.env.kindOf n=some .local) (hb:∀pn xe E,Passes (cP X.prog X.w) (Mx X pn xe) E→tM (Mx X pn xe) body (tb E)) (hs:∀pn ea,tM (Ol X pn ea) (b₀ :: suite) ts) (hd:(x == ("__debug__":Str))=false:=by decide) :
  PS X (.Try body [.ExceptHandler (some (.Name x np)) (some n) (b₀ :: suite) hpos] [] [] pos) (SV X.K X.N.length CW i tb ts):=by
 intro pins s σ H D I h
 refine wpAny_Try_except ?_
 refine wpAny_mono (hb (X.pn ++ pins) (λe s₁=>wpAny (model X.prog X.w) X.A (noteFrame e X.env) (λ_ s₂=>wpAny (model X.prog X.w) X.A (setFlight e none) (λ_ s₃ =>
  wpAny (model X.prog X.w) X.A (handleBy e X.env [.ExceptHandler (some (.Name x np)) (some n) (b₀ :: suite) hpos]) (SP X pins D) X.xe s₃) X.xe s₂) X.xe s₁) _ ?pass [] s σ H D (OZ I _) h) (λf s1 q=>?_) (λ_ _ z=>z)
 case pass =>
  intro pins1 σ1 H1 s1 e s' I1 hf
  obtain ⟨ea,cls,H2,rfl,F,C,rfl,em,k⟩:=hf
  have J1:Inv X pins σ1 H1 s1:=nS I.ok I1
  have F:l9 X.prog X.w X.stack H1 s1 ea (.ref C) H2 s':=F
  obtain ⟨hn,hnew⟩:=l9.new J1 F
  obtain ⟨B,t,fl,on⟩:=l9.on J1 F
  have h0:X.s₀.heap.get? ea=none:=by
   cases q:X.s₀.heap.get? ea with
   | none=>rfl
   | some o =>
    obtain ⟨o',e1⟩:=J1.base.there ea o q (by rw [hex];simp)
    rw [hnew] at e1;cases e1
  refine wpAny_looks_onW (by rw [I.ok.frames,hst]) hfr (hst ▸ fl) λh4 held4 up4=>?_
  refine wpAny_landsW held4 λh5 fl5 up5=>?_
  have F5:=on h5 (hst ▸ fl5) (up4.trans up5)
  have J5:Inv X pins σ1 H2 { s' with heap:=h5 }:=J1.Fm F5.os F5.un F5.hok F5.bare (λb z=>absurd z (by simp))
  have Y5:=KU J5 ea
  refine wpAny_handleBy_cons (codeAny_handlers_test (lN Y5 hg hm ?_ hd)) (by intro q;cases q)
  obtain ⟨ob,hob,hobc⟩:=fl5.there
  have LT:PySem.W.Looks (model X.prog X.w) h5 (typeOf (.ref ea)) (.ref C):=ExcAt.ty ⟨ob,hob,hobc⟩
  refine (PySem.W.exm_one Y5.mO LT em).here ?_
  refine codeAny_handlers_suite_as ?_
  refine lands_againW fl5 λh6 fl6 up6=>?_
  have F6:=on h6 (hst ▸ fl6) ((up4.trans up5).trans up6)
  have J6:Inv X pins σ1 H2 { s' with heap:=h6 }:=J1.Fm F6.os F6.un F6.hok F6.bare (λb z=>absurd z (by simp))
  obtain ⟨oe,vs,hoe,hoec,hoed,_⟩:=fl6.first
  have J7:=AF J6 hoe hoec hoed hn h0 λp hp z=>by
   have:=(J1.pin p hp).1
   rw [z,hnew] at this;cases this
  have Y7:=KU (J7.weak (σ':=Vn X.N.length none) (by rw [Wo,J7.len]) λj v z=>by
   rw [Wf] at z
   split at z <;> cases z) ea
  refine fJ (X:=Ol X (X.pn ++ pins) ea) Y7 hN hi (Or.inl hk) (v:=.ref ea) rfl (λs8 I8=>?_) (Or.inr hk)
  refine wpAny_noRaise (cD (hs (X.pn ++ pins) ea [] s8 _ _ _ I8 (k ea hn)) λf s9 q=>?_)
  cases f with
  | next=>obtain ⟨σ',H',I',q⟩:=q;exact oN (qL I.ok I') hN hi hk λ_ I9=>⟨_,_,I9,q⟩
  | brk=>obtain ⟨σ',H',I',q⟩:=q;exact oN (qL I.ok I') hN hi hk λ_ I9=>⟨_,_,I9,q⟩
  | cont=>obtain ⟨σ',H',I',q⟩:=q;exact oN (qL I.ok I') hN hi hk λ_ I9=>⟨_,_,I9,q⟩
  | ret u=>obtain ⟨v,σ',H',I',r,q⟩:=q;exact oN (qL I.ok I') hN hi hk λ_ I9=>⟨v,_,_,I9,r,q⟩
 ·cases f with
  | next=>obtain ⟨σ',H',I',q⟩:=q;exact wpAny_execs_nil ⟨_,_,nS I.ok I',q⟩
  | brk=>obtain ⟨σ',H',I',q⟩:=q;exact ⟨_,_,nS I.ok I',q⟩
  | cont=>obtain ⟨σ',H',I',q⟩:=q;exact ⟨_,_,nS I.ok I',q⟩
  | ret u=>obtain ⟨v,σ',H',I',r,q⟩:=q;exact ⟨v,_,_,nS I.ok I',r,q⟩
def ON:V→Option Value
 | .ref a=>some (.ref a)
 | .ty n=>some (.type n)
 | _=>none
def Qd (K:PySem.W.Frag):List V→Hp→VK→Prop:=λxs H Q=>∃a D c cv b,xs=[.ref a,c]∧H a=some (.ext (ExcAt a D))∧qp K D∧ON c=some cv∧PySem.W.kitOne K (.ref D) cv=some b∧Q (.bl b) H
theorem cR {X:Cx} {K:PySem.W.Frag} (hK:X.K=K):cj X (.builtin "isinstance") (Qd K):=by
 subst hK
 intro pins s σ H xs us Q I r h
 obtain ⟨a,D,c,cv,b,rfl,ha,xc,rc,e,q⟩:=h
 obtain ⟨u,w',rfl,rx,ry⟩:=vals2 r
 obtain rfl:u=Value.ref a:=rx
 have:w'=cv:=by
  cases c with
  | ref z=>exact (show w'=Value.ref z from ry).trans (Option.some.inj rc)
  | ty z=>exact (show w'=Value.type z from ry).trans (Option.some.inj rc)
  | _=>cases rc
 subst this
 exact PySem.W.kia_one (F3 xc) I.mO (I.hok a _ ha).1 e (by intro z;cases z) λtk=>⟨.bl b,H,I.tok _,rfl,q⟩
end
end Ov
namespace Ov
open PySem PySem.Spec PyProof.Rows
open L2 (V HO Hp Inv Cx St VK TE TT TA TS Ends Loc Gl RelV Vals fz cj tG upd E0 bV XK Passes)
section
variable {X:Cx} {e:Expr} {es:List Expr} {t:TA} {x:Str} {np cpos pos p:Pos}
end
def gX (i:Nat):Str:=(["BadName","Taken","Full","NoCraft","TooFar","BadMoment","Past","NotThere","NoWatch","NoTale"]:List Str).getD i ""
structure Dw (K:PySem.W.Frag) (mg:Str→Option Value) (W:Addr) (c:Nat→Addr):Prop where
 nV:mg "ValueError"=none
 mW:mg "WaterError"=some (.ref W)
 own:∀i,i < 10→Own K mg (gX i) (c i)
 val:∀i,i < 10→PySem.W.kitOne K (.ref (c i)) (.type "ValueError")=some true
 wat:∀i,i < 10→PySem.W.exmOne K (.ref (c i)) (.ref W)=some true
 kit:∀i,i < 10→∀j,j < 10→PySem.W.kitOne K (.ref (c i)) (.ref (c j))=some (decide (i=j))
open PySem.W in
def HR (K:Frag) (D:Addr):Bool:=(clsIn K D).isSome && findIn K (.ref D) "__getattribute__" == some (some (.builtin "BaseException.__getattribute__")) && findIn K (.ref D) "__getattr__" == some none &&
 findIn K (.ref D) "__class__" == some (some (.builtin "object.__class__")) && specialIn K (.builtin "object.__class__") "__get__" == some (some (.builtin "getset_descriptor.__get__")) && takesIn K (.builtin "object.__class__") == some true &&
 mroIn K D (.type "object") == some true && subIn K (.ref D) (.type "BaseException") == some true
theorem KI {K:PySem.W.Frag} {D:Addr} (h:HR K D=true):qp K D:=by
 simp only [HR,UX,beq_iff_eq] at h
 obtain ⟨⟨⟨⟨⟨⟨⟨a,b⟩,c⟩,d⟩,e⟩,f⟩,g⟩,i⟩:=h
 exact ⟨a,b,c,d,e,f,g,i⟩
open PySem.W in
def OT (K:Frag) (W:Addr) (cs:List Addr):Bool:=cs.length == 10 && (Vb 10).all λi=>excIn K (cs.getD i 0) RJ "ValueError.__new__" && HR K (cs.getD i 0) && kitOne K (.ref (cs.getD i 0)) (.type "ValueError") == some true &&
 exmOne K (.ref (cs.getD i 0)) (.ref W) == some true && (Vb 10).all λj=>kitOne K (.ref (cs.getD i 0)) (.ref (cs.getD j 0)) == some (decide (i=j))
theorem II {K:PySem.W.Frag} {h:Heap} {mg:Str→Option Value} (X:K.In h) (G:h.Ns mainGlobals mg) {W c0 c1 c2 c3 c4 c5 c6 c7 c8 c9:Addr} (v:PySem.W.nsIn K mainGlobals "ValueError"=some none) (w:PySem.W.nsIn K mainGlobals "WaterError"=some (some (.ref W)))
  (a0:PySem.W.nsIn K mainGlobals "BadName"=some (some (.ref c0))) (a1:PySem.W.nsIn K mainGlobals "Taken"=some (some (.ref c1))) (a2:PySem.W.nsIn K mainGlobals "Full"=some (some (.ref c2))) (a3:PySem.W.nsIn K mainGlobals "NoCraft"=some (some (.ref c3)))
  (a4:PySem.W.nsIn K mainGlobals "TooFar"=some (some (.ref c4))) (a5:PySem.W.nsIn K mainGlobals "BadMoment"=some (some (.ref c5))) (a6:PySem.W.nsIn K mainGlobals "Past"=some (some (.ref c6))) (a7:PySem.W.nsIn K mainGlobals "NotThere"=some (some (.ref c7)))
  (a8:PySem.W.nsIn K mainGlobals "NoWatch"=some (some (.ref c8))) (a9:PySem.W.nsIn K mainGlobals "NoTale"=some (some (.ref c9))) (b:OT K W [c0,c1,c2,c3,c4,c5,c6,c7,c8,c9]=true):∃W c,Dw K mg W c:=by
 have m:∀i,i < 10→mg (gX i)=some (.ref ([c0,c1,c2,c3,c4,c5,c6,c7,c8,c9].getD i 0)):=λi hi=>by
  match i,hi with
  | 0,_=>exact PySem.W.mg_of X G a0
  | 1,_=>exact PySem.W.mg_of X G a1
  | 2,_=>exact PySem.W.mg_of X G a2
  | 3,_=>exact PySem.W.mg_of X G a3
  | 4,_=>exact PySem.W.mg_of X G a4
  | 5,_=>exact PySem.W.mg_of X G a5
  | 6,_=>exact PySem.W.mg_of X G a6
  | 7,_=>exact PySem.W.mg_of X G a7
  | 8,_=>exact PySem.W.mg_of X G a8
  | 9,_=>exact PySem.W.mg_of X G a9
 unfold OT at b
 have b:=(Bool.and_eq_true_iff.mp b).2
 have k:∀i,i < 10→_:=λi hi=>VC.mp b i (VE.mpr hi)
 simp only [UX,beq_iff_eq,VC,VE] at k
 exact ⟨W,λi=>[c0,c1,c2,c3,c4,c5,c6,c7,c8,c9].getD i 0,PySem.W.mg_none_of X G v,PySem.W.mg_of X G w,λi hi=>⟨m i hi,(k i hi).1.1.1.1,KI (k i hi).1.1.1.2⟩,λi hi=>(k i hi).1.1.2,λi hi=>(k i hi).1.2,λi hi j hj=>(k i hi).2 j hj⟩
open L2 (zK EE fi xR BB tC Ko pZ)
def v8 (i:Nat):List V:=.bl true :: (Vb 10).map λj=>.bl (decide (i=j))
abbrev tI (K:PySem.W.Frag) (m:Nat) (v:V):TE:=Ko (Qd K) (fi (BB m) (fi (tC v) xR))
theorem lB {K:PySem.W.Frag} {m ea:Nat} {D:Addr} {v:V} {cv:Value} {b:Bool} {σ:L2.St} {H:Hp} {Q:VK} (hσ:σ[m]?=some (some (.ref ea))) (hH:H ea=some (.ext (ExcAt ea D))) (xc:qp K D) (hv:ON v=some cv) (hk:PySem.W.kitOne K (.ref D) cv=some b) (q:Q (.bl b) H) :
  tI K m v σ H Q:=⟨_,hσ,ea,D,v,cv,b,rfl,hH,xc,hv,hk,q⟩
theorem Hy {K:PySem.W.Frag} {mg:Str→Option Value} {W:Addr} {c:Nat→Addr} (Er:Dw K mg W c) {i m n:Nat} {ea:Addr} (hi:i < 10) {σ:L2.St} {H:Hp} {D:Ends} (hσ:σ[m]?=some (some (.ref ea))) (hH:H ea=some (.ext (ExcAt ea (c i))))
  (q:∀l,H l=none→D.nx (σ.set n (some (.ref l))) (upd H l (.lst (v8 i)))) :
  zK (EE (fi (tI K m (.ty "ValueError")) (fi (tI K m (.ref (c 0))) (fi (tI K m (.ref (c 1))) (fi (tI K m (.ref (c 2))) (fi (tI K m (.ref (c 3))) (fi (tI K m (.ref (c 4))) (fi (tI K m (.ref (c 5))) (fi (tI K m (.ref (c 6))) (fi (tI K m (.ref (c 7)))
   (fi (tI K m (.ref (c 8))) (fi (tI K m (.ref (c 9))) xR)))))))))))) (pZ n) D σ H:=by
 have xc:=(Er.own i hi).xc
 have k:=Er.kit i hi
 refine lB hσ hH xc rfl (Er.val i hi) (lB hσ hH xc rfl (k 0 (by decide)) (lB hσ hH xc rfl (k 1 (by decide)) (lB hσ hH xc rfl (k 2 (by decide)) (lB hσ hH xc rfl (k 3 (by decide)) (lB hσ hH xc rfl (k 4 (by decide))
  (lB hσ hH xc rfl (k 5 (by decide)) (lB hσ hH xc rfl (k 6 (by decide)) (lB hσ hH xc rfl (k 7 (by decide)) (lB hσ hH xc rfl (k 8 (by decide)) (lB hσ hH xc rfl (k 9 (by decide)) ?_))))))))))
 exact ⟨(by show 11≤sizeLine;decide),λl hl=>q l hl⟩
theorem _root_.L2.bV.aV {k:Nat} {A:Around} (r:bV k A):A.units + 61 < cLine:=by have:=r.un;omega
end Ov
namespace Ov
open PySem PySem.Spec PyProof.Rows L2
def eO (P:Addr) (h:Heap):Prop:=∃ps:Array Value,h.get? P=some { cls:=.none,data:=.fields ps }∧TriplesOk ps.toList
def uO (K:PySem.W.Frag) (c P:Addr):Prop:=c≠P∧∃(o:Obj) (vs:Array Value) (file:Str) (tf:Tok) (flags:Int) (tg:Tok) (inF:Bool) (text:Int) (tt:Tok),
 K.lookup c=some o∧o.cls=.type "code"∧o.data=.fields vs∧vs[11]?=some (.ref P)∧vs.getD 18 .none=.str file tf∧vs.getD 7 .none=.int flags tg∧vs.getD 9 .none=.bool inF∧vs.getD 10 .none=.int text tt
def BMain (mg:Str→Option Value) (h:Heap):Prop:=∃bm ob,mg "__builtins__"=some (.ref bm)∧bm≠builtinsNs∧h.get? bm=some ob∧ob.cls=.type "module"∧ob.dict=some builtinsNs∧ob.data=.plain
theorem uO.at {K:PySem.W.Frag} {h:Heap} {c P:Addr} {ps:Array Value} (Z:uO K c P) (X:K.In h) (hp:h.get? P=some { cls:=.none,data:=.fields ps }) (tr:TriplesOk ps.toList):h.IsCode c P ps∧h.TableAt c P ps:=by
 obtain ⟨ne,o,vs,file,tf,flags,tg,inF,text,tt,lk,hc,hd,h11,h18,h7,h9,h10⟩:=Z
 have e11:vs.getD 11 .none=.ref P:=by
  rw [Array.getD_eq_getD_getElem?,h11];rfl
 exact ⟨⟨o,vs,file,tf,flags,tg,inF,text,tt,_,X _ _ lk,hd,e11,h18,h7,h9,h10,hp,rfl,tr,ne⟩,⟨o,vs,X _ _ lk,hc,hd,h11⟩,hp⟩
section
variable {X:Cx} {pins:List (Addr × Obj)} {σ:L2.St} {H:Hp} {s:Shared} {c P:Addr}
theorem IU {s':Shared} (I:Inv X pins σ H s) (hP:H P=some (.ext (eO P))) (os:s'.os=s.os) (bare:AllBare s'.gens) (k:∀b o,b≠P→s.heap.get? b=some o→s'.heap.get? b=some o) (t:eO P s'.heap):Inv X pins σ H s':=by
 have nP:∀b,H b=none→b≠P:=λb n z=>by rw [z,hP] at n;cases n
 have hok:nu X.prog X.w H s'.heap:=λb u e=>by
  by_cases hb:b=P
  ·subst hb
   rw [hP] at e;cases e
   obtain ⟨ps,hp,_⟩:=id t
   exact ⟨t,⟨_,hp⟩,((I.hok b _ hP)).2.2⟩
  ·refine (I.hok b u e).pS (λd v hd q=>k d v ?_ q) (λ_ q=>q) λ_ _ q=>q
   rcases hd with rfl | hd
   ·exact hb
   ·intro z
    rw [z,hP] at hd;cases hd
 have un:Un (j6 X.stack) [] H H s.heap s'.heap:=⟨λb o e n _ _=>k b o (nP b n) e,λb o e n _ _=>⟨o.slots,k b o (nP b n) e⟩,λ_ _ _ n _=>n,λb o e _=>by
  by_cases hb:b=P
  ·subst hb
   obtain ⟨ps,hp,_⟩:=t
   exact ⟨_,hp⟩
  ·exact ⟨o,k b o hb e⟩,λ_ _ q=>q,λ_ _ _ q=>q,λ_ ps q=>⟨#[],by rw [q];simp⟩⟩
 exact I.Fm os un hok bare λb z=>absurd z (by simp)
theorem FI {M:Model} {A:Around} {E:Value→Shared→Prop} {env:Env} {pos:Pos} {q:Str} {sc:Scope} {Q:Value→Shared→Prop} {s:Shared} (hc:env.code=.ref c) (Z:uO X.K c P) (kin:X.K.In s.heap) (t:eO P s.heap)
  (h:∀code h' tk,(∀b o,b≠P→s.heap.get? b=some o→h'.get? b=some o)→s.heap.objs.size≤h'.objs.size→eO P h'→Q code { s with heap:=h',toks:=tk }):wpAny M A (genexprCode env pos q sc) Q E s:=by
 obtain ⟨ps,hp,tr⟩:=t
 obtain ⟨ic,ta⟩:=Z.at kin hp tr
 cases hf:codeAmong pos ps.toList with
 | some c'=>exact wpAny_genexprCode_hit hc ic hf (h c' s.heap s.toks (λ_ _ _ e=>e) (Ux _) ⟨ps,hp,tr⟩)
 | none =>
  refine wpAny_genexprCodeX hc ic ta hf λc' h' tk ext l1 l2 ic' _ ta' _=>h _ h' tk (λb o nb e=>ext b o nb e) (V_ (Vk l1 l2)) ⟨_,ta'.2,?_⟩
  obtain ⟨_,_,_,_,_,_,_,_,_,_,_,_,_,_,_,_,_,hop,hpd,tr',_⟩:=ic'
  exact tr'
theorem Ff {α:Type} (B:List α) (q:α→Bool):((Vb B.length).all λj=>(B[j]?).elim true q)=B.all q:=by
 rw [Vy,VC,VC]
 refine ⟨λh b hb=>?_,λh j hj=>?_⟩
 ·obtain ⟨j,hj,rfl⟩:=U4 hb
  have:=h j (VE.mpr hj)
  rwa [Ut hj] at this
 ·have hj:=VE.mp hj
  rw [Ut hj]
  exact h _ (U9 hj)
def eG (tx:Str) (ch:Nat):Bool:=!(Builtin.Str.occurrences tx ⟨#[ch]⟩ 0 tx.length 1).isEmpty
def HA (P:Addr) (tx:Str) (ti:TE):TE:=λσ H Q=>ti σ H λv H1=>∃y:Str,v=.str y∧H1 P=some (.ext (eO P))∧Q (.bl (y.cps.toList.all (eG tx))) H1
theorem G6 {prog:Program} {w:World} {env:Env} {scope:Scope} {x g:Str} {tx y:Str} {tt:Tok} {C:Addr} {code:Value} {fp wr:List Addr} {href:Heap} {D U:Nat} {p1 p2 p3:Pos} {mg:Str→Option Value} (sck:scope.kind=.function) (hx:scope.names.lookup x=some .local) (hg:scope.names.lookup g=some .globalImplicit)
  (ns:href.Ns env.globals mg) (hm:mg g=some (.str tx tt)) (h1:env.globals∈fp) (h2:env.globals ∉ wr) (hmk:behindInMarks .In (.Name g p2)=false) (hdx:(x == ("__debug__":Str))=false) (hdg:(g == ("__debug__":Str))=false) :
  QuietGenD prog w (genEnv scope [] C code builtinsNs env) x [] (.Compare (.Name x p1) [.In] [.Name g p2] p3) fp wr (SignAt y) (λ_=>true) (λi v=>∃ch,y.cps[i]?=some ch∧v=.bool (eG tx ch)) href D U where
 tests:=λA' E' i v s₂ m₂ _ _ _ _ _ _ _=>wpAny_pure ⟨rfl,_,_,rfl,λ_ _ e=>e⟩
 elt:=λA' E' i v s₂ m₂ _ _ _ hP _ hn hmx hk=>by
  obtain ⟨ch,u,hch,rfl⟩:=hP
  refine wpAny_Compare1 (wpAny_Name (wpAny_loadName_local (show (genEnv scope [] C code builtinsNs env).scope.kind=.function from sck) (show (genEnv scope [] C code builtinsNs env).kindOf x=some .local from hx) hn hmx ?_) hdx) hmk
  refine Calls.Name_function_global (show (genEnv scope [] C code builtinsNs env).scope.kind=.function from sck) (show (genEnv scope [] C code builtinsNs env).kindOf g=some .globalImplicit from hg) (Calls.loadGlobal_global (ns.at' λo e=>hk _ h1 h2 o e) hm ?_) hdg
  exact in_str ⟨⟨ch,hch,rfl⟩,_,_,rfl,λ_ _ e=>e⟩
theorem Ep {x g:Str} {p px p1 p2 p3 gpos cpos:Pos} {iter:Expr} {ti:TE} {scope:Scope} {tx:Str} {tt:Tok} (hcalm:X.calm=true) (Bm:BMain X.mg X.base) (hcode:X.env.code=.ref c) (Z:uO X.K c P) (hdep:X.A.depth < recursionLimit)
  (hgl:Gl X "all") (hma:X.mg "all"=none) (hsg:X.mg g=some (.str tx tt)) (hi:PE X iter ti) (sck:scope.kind=.function) (hco:scope.isCoroutine=false) (hclos:closureFor scope X.env=pure []) (hcell:∀y∈scope.names,y.2≠.cell)
  (h0:scope.names.lookup (".0":Str)=some NameKind.local) (hx:scope.names.lookup x=some .local) (hsc:scope.names.lookup g=some .globalImplicit) (hmk:behindInMarks .In (.Name g p2)=false) (hs:∀x,genFold iter X.env x=pure x)
  (hst:starEach [.GeneratorExp (.Compare (.Name x p1) [.In] [.Name g p2] p3) [⟨.Name x px,iter,[],0⟩] scope gpos] X.env=[(false,eval (.GeneratorExp (.Compare (.Name x p1) [.In] [.Name g p2] p3) [⟨.Name x px,iter,[],0⟩] scope gpos) X.env)])
  (hdx:(x == ("__debug__":Str))=false) (hdg:(g == ("__debug__":Str))=false) :
  PE X (.Call (.Name "all" p) [.GeneratorExp (.Compare (.Name x p1) [.In] [.Name g p2] p3) [⟨.Name x px,iter,[],0⟩] scope gpos] [] cpos) (HA P tx ti):=by
 intro pins s σ H Q I h
 refine wpAny_Call_Name_kw (mP I hgl hma PyProof.Rows.Boot.«all» ?_)
 refine PyProof.Rows.callWith_builtin1 ?_ hst rfl
 rw [hst]
 show wpAny _ _ (spliced ((false,eval (.GeneratorExp (.Compare (.Name x p1) [.In] [.Name g p2] p3) [⟨.Name x px,iter,[],0⟩] scope gpos) X.env) :: [])) _ _ s
 refine Calls.spliced_cons ?_
 refine wpAny_GeneratorExp_walksQD (I.ok.hd hcalm) hco hclos hcell h0 hx sck hdep ?_ hs
 refine cD (hi pins s σ H _ I h) λxv s1 ⟨v,H1,I1,r1,y,ev,hP,q⟩=>?_
 subst ev
 obtain ⟨ty,rfl⟩:=r1
 have t1:eO P s1.heap:=(I1.hok P _ hP).1
 have ltP:P < s1.heap.objs.size:=I1.hok.lt hP
 refine wpAny_pyIter_str λo St W st0=>?_
 have k1:∀b ob,s1.heap.get? b=some ob→(s1.heap.push o).get? b=some ob:=λb ob e=>Heap.get?_push_of_some _ e
 refine ⟨I1.nolimit.keeps k1,?_⟩
 have t2:eO P (s1.heap.push o):=let ⟨ps,hp,tr⟩:=t1;⟨ps,k1 _ _ hp,tr⟩
 refine FI (X:=X) (s:={ s1 with heap:=s1.heap.push o }) hcode Z (I1.mO.keeps k1) t2 λcode h' tk k sz t'=>?_
 have kk:∀b ob,b≠P→s1.heap.get? b=some ob→h'.get? b=some ob:=λb ob nb e=>k b ob nb (k1 b ob e)
 have nsP:∀(b:Addr) (m:Str→Option Value),s1.heap.Ns b m→b≠P:=λb m hn z=>by
  obtain ⟨ob,es,ep,ho,hd,_⟩:=hn
  obtain ⟨ps,hp,_⟩:=t1
  rw [z,hp] at ho;cases ho;cases hd
 have nsK:∀(b:Addr) (m:Str→Option Value),s1.heap.Ns b m→h'.Ns b m:=λb m hn=>hn.at' λob e=>kk b ob (nsP b m hn) e
 have nsG:s1.heap.Ns X.env.globals X.mg:=by rw [I1.ok.glob];exact I1.mod.glob.keeps I1.bk
 have nl:h'.NoLimit:=let ⟨mc,h1,h2⟩:=I1.nolimit;⟨mc,nsK _ _ h1,h2⟩
 have ltC:cStatics < s1.heap.objs.size:=let ⟨mc,h1,_⟩:=I1.nolimit;h1.lt
 have szI:s1.heap.objs.size < h'.objs.size:=UL (by rw [Heap.size_push];exact VL _) sz
 obtain ⟨bm,ob,b1,b2,b3,b4,b5,b6⟩:=Bm
 have b3':=I1.bk _ _ b3
 have nbm:bm≠P:=λz=>by
  obtain ⟨ps,hp,_⟩:=t1
  rw [z,hp] at b3'
  rw [← Option.some.inj b3'] at b6;cases b6
 refine wpAny_builtinsFor (nsK _ _ nsG) b1 b2 (kk _ _ nbm b3') b4 b5 b6 ?_
 refine ⟨s1.heap.objs.size,[s1.heap.objs.size],[s1.heap.objs.size],y.cps.size,SignAt y,St,λ_=>true,λi v=>∃ch,y.cps[i]?=some ch∧v=.bool (eG tx ch),rfl,W,
  (W X.A (I.ok.hd hcalm)).frame _ _ _ st0 λb hb o' e=>k b o' (by rw [UH.mp hb];exact Wm ltP) e,λb hb=>by rw [UH.mp hb];exact szI,nl,
  λhb=>UO ltC (UH.mp hb),λhref kh=>G6 sck hx hsc ((nsK _ _ nsG).keeps kh) hsg (VE.mpr (nsK _ _ nsG).lt) (λhb=>UO nsG.lt (UH.mp hb)) hmk hdx hdg,λa h5 tk5 gs hgs ltA szA k5 WS G=>?_⟩
 refine Calls.spliced_nil ?_
 have pall:passing (λ_=>true) y.cps.size 0=Vb y.cps.size:=by simp [passing]
 have WS:=WS.in4_1
 refine call_all_walkS (WS.self 0 _ _ _ G ⟨a,_,_,_,_,_,_,(λj=>(y.cps.toList[j]?).elim true (eG tx)),rfl,WS,G,λj v s Q E hv hQ=>?_,λs' hm=>?_⟩)
 ·obtain ⟨i,hi,ch,hch,rfl⟩:=hv
  rw [pall] at hi
  have hji:i=j:=by
   obtain ⟨hj,e⟩:=Uu.mp hi
   simpa using e.symm
  subst hji
  have e:y.cps.toList[i]?=some ch:=by simpa using hch
  simp only [e,Option.elim] at hQ
  exact wpAny_truthy_bool hQ
 ·have nwr:∀b,b < s1.heap.objs.size→b ∉ h'.objs.size :: [s1.heap.objs.size]:=λb hb hm=>by
   rcases UI.mp hm with z | z
   ·omega
   ·have:=UH.mp z
    omega
  refine ⟨.bl _,H1,IU I1 hP hm.os ((I1.bare.push hgs).movedS hm) (λb o' nb e=>hm.heap b o' (nwr b (Heap.lt_size e)) (k5 b o' (kk b o' nb e))) ?_,rfl,?_⟩
  ·obtain ⟨ps,hp,tr⟩:=t'
   exact ⟨ps,hm.heap P _ (nwr P ltP) (k5 P _ hp),tr⟩
  ·rw [pall]
   have e:y.cps.size=y.cps.toList.length:=by simp
   have z:=Ff y.cps.toList (eG tx)
   rw [V1,e,z]
   exact q
end
section
variable {X:Cx} {c P:Addr}
theorem GL {x g:Str} {p px p1 p2 p3 gpos cpos:Pos} {iter:Expr} {ti:TE} {scope:Scope} {tx:Str} {tt:Tok} {k:Nat} (hcalm:X.calm=true) (Bm:BMain X.mg X.base) (hcode:X.env.code=.ref c) (Z:uO X.K c P) (hr:bV k X.A)
  (hgl:Gl X "all") (hma:X.mg "all"=none) (hsg:X.mg g=some (.str tx tt)) (hi:QE X iter ti) (sck:scope.kind=.function:=by rfl) (hco:scope.isCoroutine=false:=by rfl) (hclos:closureFor scope X.env=pure []:=by rfl) (hcell:∀y∈scope.names,y.2≠.cell:=by decide)
  (h0:scope.names.lookup (".0":Str)=some NameKind.local:=by rfl) (hx:scope.names.lookup x=some .local:=by rfl) (hsc:scope.names.lookup g=some .globalImplicit:=by rfl) (hmk:behindInMarks .In (.Name g p2)=false:=by with_unfolding_all rfl) (hs:∀x,genFold iter X.env x=pure x:=by intro _;rfl)
  (hst:starEach [.GeneratorExp (.Compare (.Name x p1) [.In] [.Name g p2] p3) [⟨.Name x px,iter,[],0⟩] scope gpos] X.env=[(false,eval (.GeneratorExp (.Compare (.Name x p1) [.In] [.Name g p2] p3) [⟨.Name x px,iter,[],0⟩] scope gpos) X.env)]:=by rfl)
  (hdx:(x == ("__debug__":Str))=false:=by decide) (hdg:(g == ("__debug__":Str))=false:=by decide) :
  QE X (.Call (.Name "all" p) [.GeneratorExp (.Compare (.Name x p1) [.In] [.Name g p2] p3) [⟨.Name x px,iter,[],0⟩] scope gpos] [] cpos) (HA P tx ti) :=
 ⟨Ep hcalm Bm hcode Z (by have:=hr.dp;omega) hgl hma hsg hi.run sck hco hclos hcell h0 hx hsc hmk hs hst hdx hdg⟩
end
structure Il (K:PySem.W.Frag) (mg:Str→Option Value) (x:Str) (st:Stmt) (P:Addr) (f:Addr) (fd:FuncData) (c:Addr):Prop where
 fn:cb K x x st f fd
 mg:mg x=some (.ref f)
 code:fd.code=.ref c
 tab:uO K c P
 out:K.lookup P=none
def z_ (K:PySem.W.Frag) (mg:Str→Option Value) (x:Str) (st:Stmt) (P:Addr):Prop:=∃f fd c,Il K mg x st P f fd c
section
variable {P:Program} {w:World} {K:PySem.W.Frag} {mg:Str→Option Value} {base:Heap}
theorem Uk {x:Str} {st:Stmt} {T f c:Addr} {fd:FuncData} {N ps:List Str} {k:Nat} {sp:Sp} (F:Il K mg x st T f fd c) (S:aw N ps (aj st)) (len:∀vs H Q E,sp vs H Q E→vs.length=ps.length)
  (hbody:∀(A:Around) (outer:List Env) (s:Shared) (H:Hp) (vs:List V) (Q:VK) (E:XK),bV k (A.deeper (envOfC x (aj st) s.heap.objs.size f (.ref c)))→sp vs H Q E →
   ∃t,QB (vZ rh P w K mg base N x (aj st) f (.ref c) A outer s H E).M5 (bX st) t∧t { nx:=λ_ H'=>Q .non H',rt:=Q } (start N vs) H):aQ P w K mg base rh (k + 1) f fd ps sp:=by
 obtain ⟨oc,od,kV,doc,pm,an,cdv,ct,osl,rfl,lk,hcd⟩:=F.fn.ex
 obtain rfl:cdv=.ref c:=F.code
 refine FC lk hcd S len λA outer s H vs Q E hr hsp=>?_
 obtain ⟨t,h,q⟩:=hbody A outer s H vs Q E hr hsp
 exact ⟨t,h.run.M5,q⟩
theorem z_.Fn {x:Str} {st:Stmt} {T:Addr} {k:Nat} {ps:List Str} {sp:Sp} (D:z_ K mg x st T)
  (h:∀f fd c,Il K mg x st T f fd c→aQ P w K mg base rh k f fd ps sp)
  (hb:∀(kV doc pm:Value) (an:Option Addr) (cdv ct:Value) (us:List Value),us.length=ps.length→bindArgs (PySem.W.fnOf x x (dt st) (bX st) (aj st) .none kV doc pm an cdv ct) ⟨us,[]⟩=pure (ps.zip us)) :
  tL P w K mg base k x ps sp:=by
 obtain ⟨f,fd,c,F⟩:=D
 exact ⟨f,fd,h f fd c F,F.fn.binds hb,F.fn.kp,F.mg⟩
end
def codeB (vs:Array Value):Bool:=(match vs.getD 18 .none with | .str _ _=>true | _=>false) && (match vs.getD 7 .none with | .int _ _=>true | _=>false) && (match vs.getD 9 .none with | .bool _=>true | _=>false) && (match vs.getD 10 .none with | .int _ _=>true | _=>false)
theorem ID {K:PySem.W.Frag} {h:Heap} {mg:Str→Option Value} {x:Str} {st:Stmt} (X:K.In h) (G:h.Ns mainGlobals mg) {f c T:Addr} {od an od':Option Addr} {sl sl':Array (Option Value)} {vs:Array Value} {oc kV dc pm ct:Value}
  (a:PySem.W.nsIn K mainGlobals x=some (some (.ref f))) (l:K.lookup f=some ⟨oc,od,.func (PySem.W.fnOf x x (dt st) (bX st) (aj st) .none kV dc pm an (.ref c) ct),sl⟩) (cc:PySem.W.codeIn K (.ref c) x=true) (k:PySem.W.keepIn K (.ref f)=true)
  (t:K.lookup c=some ⟨.type "code",od',.fields vs,sl'⟩) (p:vs[11]?=some (.ref T)) (b:codeB vs=true) (ne:c≠T) (out:K.lookup T=none):z_ K mg x st T:=by
 refine ⟨f,_,c,AA l cc k,PySem.W.mg_of X G a,rfl,⟨ne,?_⟩,out⟩
 simp only [codeB,UX] at b
 obtain ⟨⟨⟨b1,b2⟩,b3⟩,b4⟩:=b
 cases e1:vs.getD 18 .none with
 | str file tf =>
  cases e2:vs.getD 7 .none with
  | int fl tg =>
   cases e3:vs.getD 9 .none with
   | bool inF =>
    cases e4:vs.getD 10 .none with
    | int text tt=>exact ⟨_,vs,file,tf,fl,tg,inF,text,tt,t,rfl,rfl,p,e1,e2,e3,e4⟩
    | _=>rw [e4] at b4;cases b4
   | _=>rw [e3] at b3;cases b3
  | _=>rw [e2] at b2;cases b2
 | _=>rw [e1] at b1;cases b1
def OD (K:PySem.W.Frag) (mg:Str→Option Value) (names:List Str) (T:Addr):Prop:=∃x∈names,∃st,z_ K mg x st T
theorem DS {P:Program} {w:World} {K:PySem.W.Frag} {mg mb:Str→Option Value} {k:Nat} {fa a:Addr} {fd:FuncData} {x:Str} {sp:Sp} {s₁:Shared} {vs:List Value} {ns:List Int} {tabs:List Addr}
  (KX:K.In s₁.heap) (hns:s₁.heap.Ns mainGlobals mg) (hb:s₁.heap.Ns builtinsNs mb) (hbb:∀x:Str,x≠"__name__"→mb x=bootBuiltins x) (hlim:s₁.heap.NoLimit) (hg:s₁.gens=#[])
  (ha:s₁.heap.get? a=some { cls:=.type "list",data:=.seq vs.toArray }) (hi:IntsAre vs ns) (hl:ns.length≤sizeLine) (hr:bV k callerA) (hbm:BMain mg s₁.heap)
  (htab:∀T∈tabs,isCodeTable s₁.heap T∧s₁.heap.get? T=some { cls:=.none,data:=.fields #[] }∧K.lookup T=none)
  (F:∀base:Heap,K.In base→base.Ns mainGlobals mg→BMain mg base→aQ P w K mg base rh k fa fd [x] sp) (hbind:∀(s:Shared) (u:Value),BindsTo s fd ⟨[u],[]⟩ [(x,u)])
  (hsp:∀H:Hp,(∀T∈tabs,H T=some (.ext (eO T)))→cZ K H a (ns.map V.int)→(∀b,H b≠none→b=a∨b∈tabs)→(∀u,H a=some u→∃o xs,u=.qJ o (.lst xs))→sp [.ref a] H (λv H'=>v=.bl true∧bG H H') λ_ _ _=>False) :
  codeAny (model P w) callerA (.call (.ref fa) ⟨[.ref a],[]⟩) (λr s'=>r=.ok (.ret (.bool true))∧OldK s₁.heap s'.heap∧s'.os=s₁.os∧AllBare s'.gens) s₁:=by
 have rv:=vG hi
 have lenV:=hi.length
 have naT:∀T∈tabs,T≠a:=λT hT z=>by
  have:=(htab T hT).2.1
  rw [z,ha] at this
  have h1:=congrArg Obj.cls (Option.some.inj this)
  cases h1
 have core:∀H:Hp,(∀T∈tabs,H T=some (.ext (eO T)))→cZ K H a (ns.map V.int)→nu P w H s₁.heap→(∀b,H b≠none→b=a∨b∈tabs)→(∀u,H a=some u→K.lookup a=none∧∃o xs,u=.qJ o (.lst xs)) →
   codeAny (model P w) callerA (.call (.ref fa) ⟨[.ref a],[]⟩) (λr s'=>r=.ok (.ret (.bool true))∧OldK s₁.heap s'.heap∧s'.os=s₁.os∧AllBare s'.gens) s₁:=by
  intro H hT hS hok hA hK
  have base_of:∀{b:Addr} {o:Obj},s₁.heap.get? b=some o→H b=none→(uh s₁.heap H).get? b=some o:=λe n=>FN e n
  have no:∀{b:Addr} {o:Obj},s₁.heap.get? b=some o→(∀xs n,o.data≠.seq xs n)→(∀xs,o.data≠.fields xs)→H b=none:=λ{b o} e d1 d2=>by
   cases q:H b with
   | none=>rfl
   | some u =>
    rcases hA b (by rw [q];simp) with rfl | hb
    ·rw [ha] at e;cases e;exact absurd rfl (d1 _ _)
    ·rw [(htab b hb).2.1] at e;cases e;exact absurd rfl (d2 _)
  have nsK:∀{b:Addr} {m:Str→Option Value},s₁.heap.Ns b m→(uh s₁.heap H).Ns b m:=λ{b m} ⟨o,es,ep,e,d,r⟩=>⟨o,es,ep,base_of e (no e (λ_ _ z=>by rw [d] at z;cases z) λ_ z=>by rw [d] at z;cases z),d,r⟩
  have hKb:K.In (uh s₁.heap H):=λb o e=>base_of (KX b o e) (by
   cases q:H b with
   | none=>rfl
   | some u =>
    rcases hA b (by rw [q];simp) with rfl | hb
    ·have:=(hK u q).1
     exact absurd (this.symm.trans e) (λz=>nomatch z)
    ·have:=(htab b hb).2.2
     exact absurd (this.symm.trans e) (λz=>nomatch z))
  have hM:Mod K mg (uh s₁.heap H):=⟨hKb,nsK hns,⟨mb,nsK hb,hbb⟩,let ⟨mc,h1,h2⟩:=hlim;⟨mc,nsK h1,h2⟩⟩
  have hbm':BMain mg (uh s₁.heap H):=by
   obtain ⟨bm,ob,b1,b2,b3,b4,b5,b6⟩:=hbm
   exact ⟨bm,ob,b1,b2,base_of b3 (no b3 (λ_ _ z=>by rw [b6] at z;cases z) λ_ z=>by rw [b6] at z;cases z),b4,b5,b6⟩
  have e0:Aa P w K mg (uh s₁.heap H) callerA [] s₁ H:=⟨rfl,hM,λb o e=>Jn e,Nat.le_of_eq (DN _ _),trivial,λb hb=>absurd (show b∈([]:List Addr) from hb) (by simp),hok,.of_eq hg⟩
  refine codeAny_mono ((F _ hKb (nsK hns) hbm').run callerA [] s₁ H ⟨[.ref a],[]⟩ [.ref a] [.ref a] _ _ hr e0 (hbind s₁ (.ref a)) (.cons rfl .nil) (hsp H hT hS hA λu z=>(hK u z).2)) λr s' h=>?_
  cases r with
  | error e=>exact False.elim h
  | ok fl =>
   cases fl with
   | next=>exact False.elim h
   | brk=>exact False.elim h
   | cont=>exact False.elim h
   | ret u =>
    obtain ⟨v,H',os,bare,un,hok',r',rfl,same⟩:=h
    obtain rfl:u=Value.bool true:=r'
    refine ⟨rfl,⟨λb o e=>?_,λb o e=>?_⟩,os,bare⟩
    ·cases q:H b with
     | none=>exact .inl (un.keep b o e q (by intro z;exact absurd (show b∈([]:List Addr) from z) (by simp)) (by simp))
     | some u =>
      have q':=same b u q
      rcases hA b (by rw [q];simp) with rfl | hb'
      ·obtain ⟨_,ob,xs,rfl⟩:=hK u q
       obtain ⟨e1,_⟩:=hok _ _ q
       obtain ⟨e2,_⟩:=hok' _ _ q'
       rw [e] at e1;cases e1
       exact .inl e2
      ·have hz:=hT b hb'
       rw [q] at hz;cases hz
       obtain ⟨⟨ps,hp,_⟩,_⟩:=hok' _ _ q'
       obtain ⟨t1,t2,_⟩:=htab b hb'
       rw [t2] at e;cases e
       exact .inr (.inl ⟨t1,rfl,#[],ps,rfl,by rw [hp];simp⟩)
    ·exact un.there b o e (by simp)
 have hTt:∀T∈tabs,∀H:Hp,dB P w H s₁.heap T (.ext (eO T)):=λT hT H=>by
  have:=(htab T hT).2.1
  exact ⟨⟨#[],this,trivial⟩,⟨_,this⟩,λh1 h2 ⟨ps,hp,tr⟩ kk=>⟨ps,kk _ hp,tr⟩⟩
 cases hk:K.lookup a with
 | some o =>
  have e:=KX a o hk
  rw [ha] at e
  cases e
  refine core (λb=>if b∈tabs then some (.ext (eO b)) else none) (λT hT=>if_pos hT) (.inr ⟨_,vs.toArray,_,hk,rfl,rfl,rfl,by rw [Uy,lenV];exact hl,by simpa using rv⟩) (λb u z=>?_) (λb z=>?_) λu z=>?_
  ·by_cases hb:b∈tabs
   ·have z':=(if_pos hb).symm.trans z
    cases z'
    exact hTt b hb _
   ·have z':=(if_neg hb).symm.trans z
    cases z'
  ·by_cases hb:b∈tabs
   ·exact .inr hb
   ·exact absurd (if_neg hb) z
  ·have hb:a ∉ tabs:=λhb=>naT a hb rfl
   have z':=(if_neg hb).symm.trans z
   cases z'
 | none =>
  refine core (λb=>if b=a then some (.qJ { cls:=.type "list",data:=.seq vs.toArray } (.lst (ns.map V.int))) else if b∈tabs then some (.ext (eO b)) else none) (λT hT=>?_) (.inl (.inr ⟨{ cls:=.type "list",data:=.seq vs.toArray },if_pos rfl⟩)) (λb u z=>?_) (λb z=>?_) λu z=>?_
  ·show (if T=a then _ else _)=_
   rw [if_neg (naT T hT),if_pos hT]
  ·by_cases hb:b=a
   ·have z':=(if_pos hb).symm.trans z
    cases z'
    subst hb
    exact ⟨ha,by rw [Us];exact hl,vs,_,rv,ha⟩
   ·have z:=(if_neg hb).symm.trans z
    by_cases hb:b∈tabs
    ·have z':=(if_pos hb).symm.trans z
     cases z'
     exact hTt b hb _
    ·have z':=(if_neg hb).symm.trans z
     cases z'
  ·by_cases hb:b=a
   ·exact .inl hb
   ·by_cases hb':b∈tabs
    ·exact .inr hb'
    ·exact absurd ((if_neg hb).trans (if_neg hb')) z
  ·have z':=(if_pos rfl).symm.trans z
   cases z'
   exact ⟨hk,_,_,rfl⟩
theorem N2 {p:Program} {loose:List Str} {mean:ExcName→Option Value} {mg mb:Str→Option Value} {h:Heap} {K:PySem.W.Frag} {x:Str} {st:Stmt} {T:Addr} (Tp:Top p loose mean mg mb h) (KX:K.In h) (hx:∃d∈recsOf p,d.name=x) (D:z_ K mg x st T) :
  isCodeTable h T∧h.get? T=some { cls:=.none,data:=.fields #[] }∧K.lookup T=none:=by
 obtain ⟨f,fd,c,F⟩:=D
 obtain ⟨d,hd,rfl⟩:=hx
 obtain ⟨a',o',fd',c',P',h1,h2,h3,h4,h5,h6⟩:=Tp.tab d hd
 rw [F.mg] at h1;cases h1
 obtain ⟨oc,od,kV,doc,pm,an,cdv,ct,osl,rfl,lk,_⟩:=F.fn.ex
 have:=KX _ _ lk
 rw [h2] at this;cases this
 have e3:fd'=_:=(Data.func.inj h3).symm
 subst e3
 have e4:=F.code.symm.trans h4
 cases e4
 obtain ⟨_,oo,vs,_,_,_,_,_,_,_,lk',_,hd',h11,_⟩:=F.tab
 obtain ⟨⟨o2,vs2,g1,g2,g3,g4⟩,g5⟩:=id h6
 rw [KX _ _ lk'] at g1;cases g1
 rw [hd'] at g3;cases g3
 rw [h11] at g4;cases g4
 exact ⟨h6.isCodeTable,g5,F.out⟩
theorem HL {l:PySem.W.OpenLaw} {n k:Nat} {q:Program} {loose:List Str} {XP:(Str→Option Value)→Heap→Prop} {YP:World→Heap→Prop} {d:DefRec} {K:Params→PySem.W.Frag} {sp:List Addr→PySem.W.Frag→Sp} {x:Str} (names:List Str)
  (hn:l.most=some n) (hn2:n≤sizeLine) (hdf:d.params.defaults=[]) (hr:bV k callerA) (hY:∀(w:World) (h:Heap),YP w h→(K w.params).In h) (hnm:∀x∈names,∃d∈recsOf q,d.name=x)
  (F:∀(w:World) (mg:Str→Option Value) (fa:Addr) (h:Heap),(K w.params).In h→h.Ns mainGlobals mg→mg d.name=some (.ref fa) →
   ∃(fd:FuncData) (tabs:List Addr),(∀(s:Shared) (u:Value),BindsTo s fd ⟨[u],[]⟩ [(x,u)])∧(∀T∈tabs,OD (K w.params) mg names T) ∧
    ∀base:Heap,(K w.params).In base→base.Ns mainGlobals mg→BMain mg base→aQ l.prog w (K w.params) mg base rh k fa fd [x] (sp tabs (K w.params)))
  (hsp:∀(tabs:List Addr) (K:PySem.W.Frag) (H:Hp) (a:Addr) (ns:List Int),ns.length≤n→(∀T∈tabs,H T=some (.ext (eO T)))→cZ K H a (ns.map V.int)→(∀b,H b≠none→b=a∨b∈tabs)→(∀u,H a=some u→∃o xs,u=.qJ o (.lst xs))→sp tabs K [.ref a] H (λv H'=>v=.bl true∧bG H H') λ_ _ _=>False) :
  PySem.W.WalkO q loose XP YP l.row.toRowW d [] (λf vs=>PySem.call f vs):=by
 refine Att.yj hn hdf λw s₀ s₁ mg mb fa o pm cd doc a vs ns G Y ho hd hcd hmg hobj hints hlen hg=>?_
 have KX:=hY w _ Y
 obtain ⟨fd,tabs,hb,ht,hF⟩:=F w mg fa _ KX G.T.g hmg
 refine DS KX G.T.g G.T.b G.T.builtins G.T.nolimit hg hobj hints (UM hlen hn2) hr G.T.bmain (λT hT=>?_) hF hb (λH hT hS hA hK=>hsp tabs _ H a ns hlen hT hS hA hK)
 obtain ⟨x,hx,st,D⟩:=ht T hT
 exact N2 G.T KX (hnm x hx) D
def FV (s:Str):Value→Bool
 | .str y _=>y == s
 | _=>false
def FT (i:Int):Value→Bool
 | .int j _=>j == i
 | _=>false
theorem DG {K:PySem.W.Frag} {h:Heap} {mg:Str→Option Value} {x s:Str} {u:Value} (X:K.In h) (G:h.Ns mainGlobals mg) (e:PySem.W.nsIn K mainGlobals x=some (some u)) (hu:FV s u=true):∃t,mg x=some (.str s t):=by
 cases u with
 | str y t =>
  have:y=s:=by simpa [FV] using hu
  subst this
  exact ⟨t,PySem.W.mg_of X G e⟩
 | _=>cases hu
theorem const_int {K:PySem.W.Frag} {h:Heap} {mg:Str→Option Value} {x:Str} {i:Int} {u:Value} (X:K.In h) (G:h.Ns mainGlobals mg) (e:PySem.W.nsIn K mainGlobals x=some (some u)) (hu:FT i u=true):∃t,mg x=some (.int i t):=by
 cases u with
 | int y t =>
  have:y=i:=by simpa [FT] using hu
  subst this
  exact ⟨t,PySem.W.mg_of X G e⟩
 | _=>cases hu
section
variable {X:Cx} {tg:Expr}
end
end Ov
namespace Ov
open PySem PySem.Spec PyProof.Rows
open L2 (V HO Hp Inv Cx VK XK TE TT TA TS TG qF TI TO ki Ends xY Loc Gl Rd RelV Vals fz yf cj qD uf qE kg R2 upd aG aM cZ gS Sp tK It bG)
inductive PV where
 | non | bl (b:Bool) | int (i:Int) | str (x:Str) | ref (a:Addr) | ty (n:String) | tup (xs:List PV) | fl (xs:List PV)
inductive HQ where
 | lst (xs:List PV) | ins (C:Addr) (fs:List (Str × PV)) | dct (kvs:List (Str × PV)) (ep:Nat) | tab | dtp (hs:List Str→Int) (ks:List (List Str))
def Ru (hs:List Str→Int) (a:Addr) (xs:List (List Str × Addr × Value)) (h:Heap):Prop:=(a == sysModules)=false∧xs.length≤sizeLine∧(xs.map (·.1)).Nodup∧∃o es ep,h.get? a=some o∧o.ExactDict∧o.data=.dict es ep∧es.toList=xs.map λx=>(⟨hs x.1,.ref x.2.1,x.2.2⟩:DictEntry)
abbrev Hq:=Addr→Option HQ
def put (J:Hq) (a:Addr) (o:HQ):Hq:=λb=>if b=a then some o else J b
theorem ar {J:Hq} {a:Addr} {o:HQ}:put J a o a=some o:=by unfold put;rw [if_pos rfl]
theorem ak {J:Hq} {a b:Addr} {o:HQ} (h:b≠a):put J a o b=J b:=by unfold put;rw [if_neg h]
theorem d_ {J:Hq} {a:Addr} {o u:HQ}:put (put J a o) a u=put J a u:=by
 funext b;unfold put;split <;> rfl
theorem GZ {J:Hq} {a b:Addr} {o u:HQ} (h:a≠b):put (put J a o) b u=put (put J b u) a o:=by
 funext c;unfold put
 by_cases h1:c=b <;> by_cases h2:c=a <;> simp [h1,h2]
 ·exact absurd (h2.symm.trans h1) h
 ·intro z;exact absurd z.symm h
 ·intro z;exact absurd z h
theorem Bg {J:Hq} {a:Addr} {o:HQ} (h:J a=some o):put J a o=J:=by
 funext b;unfold put
 by_cases e:b=a
 ·subst e;rw [if_pos rfl,h]
 ·rw [if_neg e]
def E1 (K:PySem.W.Frag) (J:Hq) (H:Hp) (a:Addr) (vs:List V):Prop:=(J a=none∧Rd H a (.lst vs))∨∃(o:Obj) (its:Array Value) (n:Nat),K.lookup a=some o∧o.cls=.type "list"∧o.dict=none∧o.data=.seq its n∧its.size≤sizeLine∧Vals vs its.toList
theorem E1.sq {K:PySem.W.Frag} {J:Hq} {H:Hp} {a:Addr} {vs:List V} (h:E1 K J H a vs):cZ K H a vs:=by
 rcases h with h | h
 ·exact .inl h.2
 ·exact .inr h
section
variable (K:PySem.W.Frag)
mutual
def cE (J:Hq) (H:Hp):PV→V→Prop
 | .non,v=>v=.non
 | .bl b,v=>v=.bl b
 | .int i,v=>v=.int i
 | .str x,v=>v=.str x
 | .ref a,v=>v=.ref a
 | .ty n,v=>v=.ty n
 | .tup xs,v=>∃a vs,v=.ref a∧gS K H a vs∧aU J H xs vs
 | .fl xs,v=>∃a vs,v=.ref a∧E1 K J H a vs∧aU J H xs vs
def aU (J:Hq) (H:Hp):List PV→List V→Prop
 | [],vs=>vs=[]
 | x :: xs,vs=>∃v us,vs=v :: us∧cE J H x v∧aU J H xs us
end
def mG {κ:Type} (J:Hq) (H:Hp) (fs:List (κ × PV)) (gs:List (κ × V)):Prop:=fs.map (·.1)=gs.map (·.1)∧aU K J H (fs.map (·.2)) (gs.map (·.2))
def Fb (J:Hq) (H:Hp) (a:Addr):HQ→Prop
 | .lst xs=>∃vs,H a=some (.lst vs)∧aU K J H xs vs
 | .ins C fs=>∃dx gs,H a=some (.ins C dx gs)∧mG K J H fs gs
 | .dct kvs ep=>∃gs,H a=some (.dE gs ep)∧mG K J H kvs gs
 | .tab=>H a=some (.ext (eO a))
 | .dtp hs ks=>∃xs:List (List Str × Addr × Value),xs.map (·.1)=ks∧H a=some (.ext (Ru hs a xs))∧∀x∈xs,gS K H x.2.1 (x.1.map V.str)
def Rep (J:Hq) (H:Hp):Prop:=∀a o,J a=some o→Fb K J H a o
structure Ext (J:Hq) (H:Hp) (J':Hq) (H':Hp):Prop where
 tup:∀a vs,gS K H a vs→gS K H' a vs
 ll:∀a o,J a=none→H a=some o→((∃vs,o=.lst vs)∨∃ob vs,o=.qJ ob (.lst vs))→J' a=none∧H' a=some o
end
section
variable {K:PySem.W.Frag} {J J' J'':Hq} {H H' H'':Hp}
theorem Ext.fl (e:Ext K J H J' H') (a:Addr) (vs:List V) (n:J a=none) (h:Rd H a (.lst vs)):J' a=none∧Rd H' a (.lst vs):=by
 rcases h with h | ⟨o,h⟩
 ·obtain ⟨a,b⟩:=e.ll a _ n h (.inl ⟨_,rfl⟩);exact ⟨a,.inl b⟩
 ·obtain ⟨a,b⟩:=e.ll a _ n h (.inr ⟨_,_,rfl⟩);exact ⟨a,.inr ⟨o,b⟩⟩
theorem Ext.flat (e:Ext K J H J' H') {a:Addr} {vs:List V} (h:E1 K J H a vs):E1 K J' H' a vs:=by
 rcases h with h | h
 ·exact .inl (e.fl a vs h.1 h.2)
 ·exact .inr h
mutual
theorem Ext.rep (e:Ext K J H J' H'):∀{x:PV} {v:V},cE K J H x v→cE K J' H' x v
 | .non,_,h=>h
 | .bl _,_,h=>h
 | .int _,_,h=>h
 | .str _,_,h=>h
 | .ref _,_,h=>h
 | .ty _,_,h=>h
 | .tup xs,_,⟨a,vs,e1,h,k⟩=>⟨a,vs,e1,e.tup _ _ h,Ext.jG e k⟩
 | .fl xs,_,⟨a,vs,e1,h,k⟩=>⟨a,vs,e1,e.flat h,Ext.jG e k⟩
theorem Ext.jG (e:Ext K J H J' H'):∀{xs:List PV} {vs:List V},aU K J H xs vs→aU K J' H' xs vs
 | [],_,h=>h
 | _ :: _,_,⟨v,us,e1,h,k⟩=>⟨v,us,e1,Ext.rep e h,Ext.jG e k⟩
end
theorem Ext.refl:Ext K J H J H:=⟨λ_ _ h=>h,λ_ _ n h _=>⟨n,h⟩⟩
theorem Ext.trans (a:Ext K J H J' H') (b:Ext K J' H' J'' H''):Ext K J H J'' H'' :=
 ⟨λc vs h=>b.tup c vs (a.tup c vs h),λc o n h z=>b.ll c o (a.ll c o n h z).1 (a.ll c o n h z).2 z⟩
theorem Ext.xb {κ:Type} (e:Ext K J H J' H') {fs:List (κ × PV)} {gs:List (κ × V)} (h:mG K J H fs gs):mG K J' H' fs gs:=⟨h.1,e.jG h.2⟩
theorem Ext.same (s:bG H H'):Ext K J H J H':=⟨λa vs h=>s.tup h,λa o n h _=>⟨n,s _ _ h⟩⟩
theorem Fb.same (s:bG H H') {a:Addr} {o:HQ} (h:Fb K J H a o):Fb K J H' a o:=by
 have e:=Ext.same (K:=K) (J:=J) s
 cases o with
 | lst xs=>obtain ⟨vs,h1,h2⟩:=h;exact ⟨vs,s _ _ h1,e.jG h2⟩
 | ins C fs=>obtain ⟨dx,gs,h1,h2⟩:=h;exact ⟨dx,gs,s _ _ h1,e.xb h2⟩
 | dct kvs ep=>obtain ⟨gs,h1,h2⟩:=h;exact ⟨gs,s _ _ h1,e.xb h2⟩
 | tab=>exact s _ _ (show H a=some (.ext (eO a)) from h)
 | dtp hs ks=>obtain ⟨xs,h0,h1,h2⟩:=h;exact ⟨xs,h0,s _ _ h1,λx hx=>s.tup (h2 x hx)⟩
theorem Rep.same (s:bG H H') (h:Rep K J H):Rep K J H':=λa o q=>(h a o q).same s
theorem Ext.less (h:∀a,J' a=J a∨J' a=none):Ext K J H J' H:=⟨λ_ _ h=>h,λa o n z _=>⟨(h a).elim (λe=>e.trans n) (λe=>e),z⟩⟩
theorem Rep.less (h:∀a,J' a=J a∨J' a=none) (r:Rep K J H):Rep K J' H:=λa o q=>by
 have e:J a=some o:=by
  rcases h a with e | e
  ·rw [← e];exact q
  ·rw [e] at q;cases q
 have x:=Ext.less (K:=K) (H:=H) h
 have z:=r a o e
 cases o with
 | lst xs=>obtain ⟨vs,h1,h2⟩:=z;exact ⟨vs,h1,x.jG h2⟩
 | ins C fs=>obtain ⟨dx,gs,h1,h2⟩:=z;exact ⟨dx,gs,h1,x.xb h2⟩
 | dct kvs ep=>obtain ⟨gs,h1,h2⟩:=z;exact ⟨gs,h1,x.xb h2⟩
 | tab=>exact z
 | dtp hs ks=>exact z
theorem aU.length:∀{xs:List PV} {vs:List V},aU K J H xs vs→xs.length=vs.length
 | [],_,h=>by cases h;rfl
 | _ :: xs,_,⟨v,us,e1,_,k⟩=>by subst e1;simp [aU.length k]
theorem aU.get:∀{xs:List PV} {vs:List V} {i:Nat} {x:PV},aU K J H xs vs→xs[i]?=some x→∃v,vs[i]?=some v∧cE K J H x v
 | [],_,i,x,h,e=>by simp at e
 | y :: xs,_,0,x,⟨v,us,e1,h,k⟩,e=>by subst e1;simp at e;subst e;exact ⟨v,rfl,h⟩
 | y :: xs,_,i + 1,x,⟨v,us,e1,h,k⟩,e=>by
  subst e1
  obtain ⟨w,h1,h2⟩:=aU.get (i:=i) (x:=x) k (by simpa using e)
  exact ⟨w,by simpa using h1,h2⟩
theorem aU.get':∀{xs:List PV} {vs:List V} {i:Nat} {v:V},aU K J H xs vs→vs[i]?=some v→∃x,xs[i]?=some x∧cE K J H x v
 | [],_,i,x,h,e=>by cases h;simp at e
 | y :: xs,_,0,x,⟨v,us,e1,h,k⟩,e=>by subst e1;simp at e;subst e;exact ⟨y,rfl,h⟩
 | y :: xs,_,i + 1,x,⟨v,us,e1,h,k⟩,e=>by
  subst e1
  obtain ⟨w,h1,h2⟩:=aU.get' (i:=i) (v:=x) k (by simpa using e)
  exact ⟨w,by simpa using h1,h2⟩
theorem aU.append:∀{xs ys:List PV} {vs us:List V},aU K J H xs vs→aU K J H ys us→aU K J H (xs ++ ys) (vs ++ us)
 | [],_,_,_,h,k=>by cases h;exact k
 | x :: xs,ys,_,us,⟨v,ws,e1,h,h'⟩,k=>by subst e1;exact ⟨v,ws ++ us,rfl,h,aU.append h' k⟩
theorem aU.drop:∀(n:Nat) {xs:List PV} {vs:List V},aU K J H xs vs→aU K J H (xs.drop n) (vs.drop n)
 | 0,_,_,h=>h
 | n + 1,[],_,h=>by cases h;rfl
 | n + 1,x :: xs,_,⟨v,ws,e1,h,h'⟩=>by subst e1;exact aU.drop n h'
theorem aU.take:∀(n:Nat) {xs:List PV} {vs:List V},aU K J H xs vs→aU K J H (xs.take n) (vs.take n)
 | 0,_,_,h=>rfl
 | n + 1,[],_,h=>by cases h;rfl
 | n + 1,x :: xs,_,⟨v,ws,e1,h,h'⟩=>by subst e1;exact ⟨v,_,rfl,h,aU.take n h'⟩
theorem mG.look {κ:Type} [BEq κ] [LawfulBEq κ] {f:κ}:∀{fs:List (κ × PV)} {gs:List (κ × V)} {x:PV},mG K J H fs gs→fs.lookup f=some x→∃v,gs.lookup f=some v∧cE K J H x v
 | [],_,_,_,e=>by cases e
 | (k,y) :: fs,[],x,h,e=>by cases h.1
 | (k,y) :: fs,(k',w) :: gs,x,h,e=>by
  obtain ⟨h1,v,us,h2,h3,h4⟩:=h
  simp only [UB,List.cons.injEq] at h1 h2
  obtain ⟨rfl,h1⟩:=h1
  obtain ⟨rfl,rfl⟩:=h2
  rw [U1] at e ⊢
  cases hk:f == k with
  | true=>rw [hk] at e;cases e;exact ⟨w,rfl,h3⟩
  | false=>rw [hk] at e;exact mG.look ⟨h1,h4⟩ e
theorem mG.none {κ:Type} [BEq κ] [LawfulBEq κ] {f:κ}:∀{fs:List (κ × PV)} {gs:List (κ × V)},mG K J H fs gs→fs.lookup f=none→gs.lookup f=none
 | [],[],_,_=>rfl
 | [],_ :: _,h,e=>by cases h.1
 | (k,y) :: fs,[],h,e=>by cases h.1
 | (k,y) :: fs,(k',w) :: gs,h,e=>by
  obtain ⟨h1,v,us,h2,h3,h4⟩:=h
  simp only [UB,List.cons.injEq] at h1 h2
  obtain ⟨rfl,h1⟩:=h1
  obtain ⟨rfl,rfl⟩:=h2
  rw [U1] at e ⊢
  cases hk:f == k with
  | true=>rw [hk] at e;cases e
  | false=>rw [hk] at e;exact mG.none ⟨h1,h4⟩ e
end
section
variable {K:PySem.W.Frag} {J J':Hq} {H H':Hp} {p:Addr}
theorem Jk {a p:Addr} {o:HQ} (r:Rep K J H) (h:J a=some o) (n:H p=none):a≠p:=by
 intro e;subst e
 have:=r _ _ h
 cases o with
 | lst xs=>obtain ⟨vs,h1,_⟩:=this;rw [n] at h1;cases h1
 | ins C fs=>obtain ⟨dx,gs,h1,_⟩:=this;rw [n] at h1;cases h1
 | dct kvs ep=>obtain ⟨gs,h1,_⟩:=this;rw [n] at h1;cases h1
 | tab=>have h1:H a=some (.ext (eO a)):=this;rw [n] at h1;cases h1
 | dtp hs ks=>obtain ⟨xs,_,h1,_⟩:=this;rw [n] at h1;cases h1
theorem Rep.free (r:Rep K J H) (n:H p=none):J p=none:=by
 cases e:J p with
 | none=>rfl
 | some o=>exact absurd rfl (Jk r e n)
theorem Ext.laid {o:HO} {u:HQ} (n:H p=none):Ext K J H (put J p u) (upd H p o):=by
 refine ⟨λa vs h=>(bG.new n o).tup h,λa o' z h _=>⟨?_,bG.new n o _ _ h⟩⟩
 have ne:a≠p:=by intro e;subst e;rw [n] at h;cases h
 rw [ak ne];exact z
theorem Rep.BF {J':Hq} {H':Hp} (e:Ext K J H J' H') (r:Rep K J H) (p:Addr) (q:∀a,a≠p→J' a=J a) (s:∀a o,a≠p→J a≠none→H a=some o→H' a=some o) (h:∀u,J' p=some u→Fb K J' H' p u):Rep K J' H':=λa o z=>by
 by_cases ep:a=p
 ·subst ep;exact h o z
 ·rw [q a ep] at z
  have t:=r a o z
  have jn:J a≠none:=by rw [z];exact λy=>nomatch y
  cases o with
  | lst xs=>obtain ⟨vs,h1,h2⟩:=t;exact ⟨vs,s _ _ ep jn h1,e.jG h2⟩
  | ins C fs=>obtain ⟨dx,gs,h1,h2⟩:=t;exact ⟨dx,gs,s _ _ ep jn h1,e.xb h2⟩
  | dct kvs eq=>obtain ⟨gs,h1,h2⟩:=t;exact ⟨gs,s _ _ ep jn h1,e.xb h2⟩
  | tab=>exact s _ _ ep jn (show H a=some (.ext (eO a)) from t)
  | dtp hs ks=>obtain ⟨xs,h0,h1,h2⟩:=t;exact ⟨xs,h0,s _ _ ep jn h1,λx hx=>e.tup _ _ (h2 x hx)⟩
theorem Rep.F4 {xs:List PV} {vs:List V} (r:Rep K J H) (n:H p=none) (h:aU K J H xs vs):Rep K (put J p (.lst xs)) (upd H p (.lst vs)):=by
 have e:=Ext.laid (K:=K) (J:=J) (o:=.lst vs) (u:=.lst xs) n
 refine r.BF e p (λa ne=>ak ne) (λa o ne _ z=>by rw [aM ne];exact z) λu z=>?_
 rw [ar] at z;cases z
 exact ⟨vs,aG,e.jG h⟩
theorem Ext.wrote {xs ys:List PV} {ws vs:List V} (h:J p=some (.lst xs)) (k:H p=some (.lst ws)):Ext K J H (put J p (.lst ys)) (upd H p (.lst vs)):=by
 have sm:∀a u,(∀l,u≠HO.lst l)∨a≠p→Rd H a u→Rd (upd H p (.lst vs)) a u:=λa u d z=>by
  have ne:a≠p:=by
   rcases d with d | d
   ·intro e;subst e
    rcases z with z | ⟨o,z⟩
    ·rw [k] at z;cases z;exact d _ rfl
    ·rw [k] at z;cases z
   ·exact d
  rcases z with z | ⟨o,z⟩
  ·exact .inl (by rw [aM ne];exact z)
  ·exact .inr ⟨o,by rw [aM ne];exact z⟩
 refine ⟨λa vs' z=>?_,λa o z q _=>?_⟩
 ·rcases z with z | z
  ·exact .inl (sm a _ (.inl λl e=>nomatch e) z)
  ·exact .inr z
 ·have ne:a≠p:=by intro e;subst e;rw [h] at z;cases z
  exact ⟨by rw [ak ne];exact z,by rw [aM ne];exact q⟩
theorem Rep.wrote {xs ys:List PV} {ws vs:List V} (r:Rep K J H) (h:J p=some (.lst xs)) (k:H p=some (.lst ws)) (q:aU K J H ys vs):Rep K (put J p (.lst ys)) (upd H p (.lst vs)):=by
 have e:=Ext.wrote (K:=K) (ys:=ys) (vs:=vs) h k
 refine r.BF e p (λa ne=>ak ne) (λa o ne _ z=>by rw [aM ne];exact z) λu z=>?_
 rw [ar] at z;cases z
 exact ⟨vs,aG,e.jG q⟩
end
abbrev Sr:=List (Option PV)
abbrev dz:=Sr→Hq→(PV→Hq→Prop)→Prop
abbrev mI:=Sr→Hq→(Bool→Hq→Prop)→Prop
abbrev pW:=Sr→Hq→(List PV→Hq→Prop)→Prop
structure En where
 nx:Sr→Hq→Prop
 rt:PV→Hq→Prop
 bk:Sr→Hq→Prop:=λ_ _=>False
 ct:Sr→Hq→Prop:=λ_ _=>False
abbrev iM:=En→Sr→Hq→Prop
structure mH (K:PySem.W.Frag) (J:Hq) (H:Hp) (τ:Sr) (σ:L2.St):Prop where
 len:τ.length=σ.length
 get:∀(i:Nat) (x:PV),τ[i]?=some (some x)→∃v,σ[i]?=some (some v)∧cE K J H x v
theorem mH.ext {K:PySem.W.Frag} {J J':Hq} {H H':Hp} {τ:Sr} {σ:L2.St} (r:mH K J H τ σ) (e:Ext K J H J' H'):mH K J' H' τ σ :=
 ⟨r.len,λi x h=>let ⟨v,a,b⟩:=r.get i x h;⟨v,a,e.rep b⟩⟩
theorem mH.set {K:PySem.W.Frag} {J:Hq} {H:Hp} {τ:Sr} {σ:L2.St} (r:mH K J H τ σ) {x:PV} {v:V} (i:Nat) (h:cE K J H x v):mH K J H (τ.set i (some x)) (σ.set i (some v)):=by
 refine ⟨by rw [VN,VN,r.len],λj y e=>?_⟩
 by_cases hj:i=j
 ·subst hj
  by_cases hl:i < τ.length
  ·rw [UU hl] at e
   cases e
   exact ⟨v,UU (by rw [← r.len];exact hl),h⟩
  ·rw [U6 (by rw [VN];omega)] at e
   cases e
 ·rw [U' hj] at e ⊢
  exact r.get j y e
abbrev G2:=Hq × Hp
structure xX (K:PySem.W.Frag) (G:G2) (τ:Sr) (J:Hq) (σ:L2.St) (H:Hp):Prop where
 sl:mH K J H τ σ
 hp:Rep K J H
 ext:Ext K G.1 G.2 J H
section
variable (K:PySem.W.Frag) (G:G2)
def LE (t:dz):TE:=λσ H Q=>∃τ J Q2,xX K G τ J σ H∧t τ J Q2∧∀x J' v H',cE K J' H' x v→Rep K J' H'→Ext K J H J' H'→Q2 x J'→Q v H'
def LT (t:mI):TT:=λσ H Q=>∃τ J Q2,xX K G τ J σ H∧t τ J Q2∧∀b J' H',Rep K J' H'→Ext K J H J' H'→Q2 b J'→Q b H'
def LA (t:pW):TA:=λσ H Q=>∃τ J Q2,xX K G τ J σ H∧t τ J Q2∧∀xs J' vs H',aU K J' H' xs vs→Rep K J' H'→Ext K J H J' H'→Q2 xs J'→Q vs H'
structure Goes (J:Hq) (H:Hp) (D2:En) (D:Ends):Prop where
 nx:∀τ J' σ H',mH K J' H' τ σ→Rep K J' H'→Ext K J H J' H'→D2.nx τ J'→D.nx σ H'
 rt:∀x J' v H',cE K J' H' x v→Rep K J' H'→Ext K J H J' H'→D2.rt x J'→D.rt v H'
 bk:∀τ J' σ H',mH K J' H' τ σ→Rep K J' H'→Ext K J H J' H'→D2.bk τ J'→D.bk σ H'
 ct:∀τ J' σ H',mH K J' H' τ σ→Rep K J' H'→Ext K J H J' H'→D2.ct τ J'→D.ct σ H'
def LS (t:iM):TS:=λD σ H=>∃τ J D2,xX K G τ J σ H∧t D2 τ J∧Goes K J H D2 D
end
theorem Goes.ext {K:PySem.W.Frag} {J J':Hq} {H H':Hp} {D2:En} {D:Ends} (g:Goes K J H D2 D) (e:Ext K J H J' H'):Goes K J' H' D2 D :=
 ⟨λτ J1 σ H1 a b c=>g.nx τ J1 σ H1 a b (e.trans c),λx J1 v H1 a b c=>g.rt x J1 v H1 a b (e.trans c),λτ J1 σ H1 a b c=>g.bk τ J1 σ H1 a b (e.trans c),λτ J1 σ H1 a b c=>g.ct τ J1 σ H1 a b (e.trans c)⟩
theorem xX.go {K:PySem.W.Frag} {G:G2} {τ:Sr} {J J':Hq} {σ:L2.St} {H H':Hp} (a:xX K G τ J σ H) (r:Rep K J' H') (e:Ext K J H J' H'):xX K G τ J' σ H':=⟨a.sl.ext e,r,a.ext.trans e⟩
structure RE (X:Cx) (G:G2) (e:Expr) (t:dz):Prop where
 run:L2.PE X e (LE X.K G t)
structure RT (X:Cx) (G:G2) (e:Expr) (t:mI):Prop where
 run:L2.PT X e (LT X.K G t)
structure RW (X:Cx) (G:G2) (e:Expr) (t:mI):Prop where
 run:L2.PW X e (LT X.K G t)
structure RA (X:Cx) (G:G2) (es:List Expr) (t:pW):Prop where
 run:L2.PA X es (LA X.K G t)
structure RS (X:Cx) (G:G2) (st:Stmt) (t:iM):Prop where
 run:L2.PS X st (LS X.K G t)
structure RB (X:Cx) (G:G2) (st:List Stmt) (t:iM):Prop where
 run:L2.tM X st (LS X.K G t)
theorem l7 {X:Cx} {e:Expr} {t t':TE} (h:L2.PE X e t) (k:∀σ H Q,t' σ H Q→t σ H Q):L2.PE X e t':=λpins s σ H Q I q=>h pins s σ H Q I (k _ _ _ q)
theorem Rh {X:Cx} {e:Expr} {t t':TT} (h:L2.PT X e t) (k:∀σ H Q,t' σ H Q→t σ H Q):L2.PT X e t':=λpins s σ H Q I q=>h pins s σ H Q I (k _ _ _ q)
theorem TV {X:Cx} {e:Expr} {t t':TT} (h:L2.PW X e t) (k:∀σ H Q,t' σ H Q→t σ H Q):L2.PW X e t':=λwh pins s σ H Q I q=>h wh pins s σ H Q I (k _ _ _ q)
theorem Sw {X:Cx} {e:List Expr} {t t':TA} (h:L2.PA X e t) (k:∀σ H Q,t' σ H Q→t σ H Q):L2.PA X e t':=λpos pins s σ H Q I q=>h pos pins s σ H Q I (k _ _ _ q)
theorem zN {X:Cx} {e:Stmt} {t t':TS} (h:L2.PS X e t) (k:∀D σ H,t' D σ H→t D σ H):L2.PS X e t':=λpins s σ H D I q=>h pins s σ H D I (k _ _ _ q)
theorem Sx {X:Cx} {e:List Stmt} {t t':TS} (h:L2.tM X e t) (k:∀D σ H,t' D σ H→t D σ H):L2.tM X e t':=λpins s σ H D I q=>h pins s σ H D I (k _ _ _ q)
end Ov
namespace Ov
open PySem PySem.Spec PyProof.Rows
open L2 (V HO Hp Inv Cx VK XK TE TT TA TS TG qF TI TO ki Ends xY Loc Gl Rd RelV Vals fz yf cj qD uf qE kg R2 upd aG aM cZ gS Sp tK It bG dq bV Passes qj aH Meth Mk Binds aQ cb aw dk gm)
def gR {α:Sort _} (_:α):Type:=Unit
def dp {α:Sort _} {k:α}:gR k:=()
def wJ {α:Type} (o:Option α) (k:α→Prop) (_:gR k:=dp):Prop:=match o with | some x=>k x | none=>False
def Oq (o:Option (Option PV)) (k:PV→Prop) (_:gR k:=dp):Prop:=match o with | some (some x)=>k x | _=>False
def ER (x:PV) (k:Int→Prop) (_:gR k:=dp):Prop:=match x with | .int i=>k i | _=>False
def K' (x:PV) (k:Bool→Prop) (_:gR k:=dp):Prop:=match x with | .bl i=>k i | _=>False
def Lb (x:PV) (k:Str→Prop) (_:gR k:=dp):Prop:=match x with | .str i=>k i | _=>False
def Cm (x:PV) (k:Addr→Prop) (_:gR k:=dp):Prop:=match x with | .ref a=>k a | _=>False
def Ot (x:PV) (k:List PV→Prop) (_:gR k:=dp):Prop:=match x with | .tup a=>k a | _=>False
def Ck (xs:List PV) (k:PV→Prop) (_:gR k:=dp):Prop:=match xs with | [x]=>k x | _=>False
def Rf (o:Option HQ) (k:List PV→Prop) (_:gR k:=dp):Prop:=match o with | some (.lst xs)=>k xs | _=>False
def GB (o:Option HQ) (k:List (Str × PV)→Nat→Prop) (_:gR k:=dp):Prop:=match o with | some (.dct xs e)=>k xs e | _=>False
def M_ (C:Addr) (o:Option HQ) (k:List (Str × PV)→Prop) (_:gR k:=dp):Prop:=match o with | some (.ins C' fs)=>if C'=C then k fs else False | _=>False
def Su (xs:List PV) (k:Prop) (_:gR k:=dp):Prop:=match xs with | []=>k | _=>False
def M' (xs:List PV) (k:PV→List PV→Prop) (_:gR k:=dp):Prop:=match xs with | x :: r=>k x r | []=>False
def Nd (xs:List PV) (k:PV→PV→Prop) (_:gR k:=dp):Prop:=match xs with | [x,y]=>k x y | _=>False
theorem PB {k:Prop} {d:gR k}:Su [] k d=k:=rfl
theorem Na {x:PV} {r:List PV} {k:PV→List PV→Prop} {d:gR k}:M' (x :: r) k d=k x r:=rfl
theorem PC {x y:PV} {k:PV→PV→Prop} {d:gR k}:Nd [x,y] k d=k x y:=rfl
theorem Nc {xs:List PV} {k:Prop} {d:gR k} (h:Su xs k d):xs=[]∧k:=by cases xs with | nil=>exact ⟨rfl,h⟩ | cons x r=>exact h.elim
theorem Jr {xs:List PV} {k:PV→List PV→Prop} {d:gR k} (h:M' xs k d):∃x r,xs=x :: r∧k x r:=by cases xs with | nil=>exact h.elim | cons x r=>exact ⟨_,_,rfl,h⟩
theorem AY {xs:List PV} {k:PV→PV→Prop} {d:gR k} (h:Nd xs k d):∃x y,xs=[x,y]∧k x y:=by
 unfold Nd at h
 split at h
 ·exact ⟨_,_,rfl,h⟩
 ·exact h.elim
theorem PF {α:Type} {x:α} {k:α→Prop} {d:gR k}:wJ (some x) k d=k x:=rfl
theorem Pt {x:PV} {k:PV→Prop} {d:gR k}:Oq (some (some x)) k d=k x:=rfl
theorem Px {x:Int} {k:Int→Prop} {d:gR k}:ER (.int x) k d=k x:=rfl
theorem Pu {x:Bool} {k:Bool→Prop} {d:gR k}:K' (.bl x) k d=k x:=rfl
theorem PH {x:Str} {k:Str→Prop} {d:gR k}:Lb (.str x) k d=k x:=rfl
theorem PD {x:Addr} {k:Addr→Prop} {d:gR k}:Cm (.ref x) k d=k x:=rfl
theorem PJ {x:List PV} {k:List PV→Prop} {d:gR k}:Ot (.tup x) k d=k x:=rfl
theorem Pr {x:PV} {k:PV→Prop} {d:gR k}:Ck [x] k d=k x:=rfl
theorem Pz {x:List PV} {k:List PV→Prop} {d:gR k}:Rf (some (.lst x)) k d=k x:=rfl
theorem Pw {x:List (Str × PV)} {e:Nat} {k:List (Str × PV)→Nat→Prop} {d:gR k}:GB (some (.dct x e)) k d=k x e:=rfl
theorem La {C:Addr} {x:List (Str × PV)} {k:List (Str × PV)→Prop} {d:gR k}:M_ C (some (.ins C x)) k d=k x:=if_pos rfl
theorem eV {α:Type} {o:Option α} {k:α→Prop} {d:gR k} (h:wJ o k d):∃x,o=some x∧k x:=by cases o with | none=>exact h.elim | some x=>exact ⟨x,rfl,h⟩
theorem fP {α:Type} {o:Option α} {x:α} {k:α→Prop} (e:o=some x) (h:k x):wJ o k:=by rw [e];exact h
theorem GA {o:Option (Option PV)} {k:PV→Prop} {d:gR k} (h:Oq o k d):∃x,o=some (some x)∧k x:=by
 unfold Oq at h
 split at h
 ·exact ⟨_,rfl,h⟩
 ·exact h.elim
theorem M9 {o:Option (Option PV)} {x:PV} {k:PV→Prop} (e:o=some (some x)) (h:k x):Oq o k:=by rw [e];exact h
theorem ij {x:PV} {k:Int→Prop} {d:gR k} (h:ER x k d):∃i,x=.int i∧k i:=by cases x <;> first | exact ⟨_,rfl,h⟩ | exact False.elim h
theorem pf {x:PV} {k:Bool→Prop} {d:gR k} (h:K' x k d):∃i,x=.bl i∧k i:=by cases x <;> first | exact ⟨_,rfl,h⟩ | exact False.elim h
theorem ph {x:PV} {k:Str→Prop} {d:gR k} (h:Lb x k d):∃i,x=.str i∧k i:=by cases x <;> first | exact ⟨_,rfl,h⟩ | exact False.elim h
theorem gE {x:PV} {k:Addr→Prop} {d:gR k} (h:Cm x k d):∃i,x=.ref i∧k i:=by cases x <;> first | exact ⟨_,rfl,h⟩ | exact False.elim h
theorem GC {x:PV} {k:List PV→Prop} {d:gR k} (h:Ot x k d):∃i,x=.tup i∧k i:=by cases x <;> first | exact ⟨_,rfl,h⟩ | exact False.elim h
theorem jw {xs:List PV} {k:PV→Prop} {d:gR k} (h:Ck xs k d):∃x,xs=[x]∧k x:=by
 unfold Ck at h
 split at h
 ·exact ⟨_,rfl,h⟩
 ·exact h.elim
theorem Nb {o:Option HQ} {k:List PV→Prop} {d:gR k} (h:Rf o k d):∃x,o=some (.lst x)∧k x:=by
 unfold Rf at h
 split at h
 ·exact ⟨_,rfl,h⟩
 ·exact h.elim
theorem mU {o:Option HQ} {k:List (Str × PV)→Nat→Prop} {d:gR k} (h:GB o k d):∃x e,o=some (.dct x e)∧k x e:=by
 unfold GB at h
 split at h
 ·exact ⟨_,_,rfl,h⟩
 ·exact h.elim
theorem AX {C:Addr} {o:Option HQ} {k:List (Str × PV)→Prop} {d:gR k} (h:M_ C o k d):∃x,o=some (.ins C x)∧k x:=by
 unfold M_ at h
 split at h
 ·split at h
  ·rename_i e;subst e;exact ⟨_,rfl,h⟩
  ·exact h.elim
 ·exact h.elim
theorem AZ {x:PV} {xs:List PV} {k:List PV→Prop} (e:x=.tup xs) (h:k xs):Ot x k:=by rw [e];exact h
theorem wI {x:PV} {b:Bool} {k:Bool→Prop} (e:x=.bl b) (h:k b):K' x k:=by rw [e];exact h
theorem fN {C:Addr} {o:Option HQ} {x:List (Str × PV)} {k:List (Str × PV)→Prop} (e:o=some (.ins C x)) (h:k x):M_ C o k:=by rw [e,La];exact h
section
variable {X:Cx} {G:G2} {a b c e o:Expr} {es rest:List Expr} {ta tb te tc to:dz} {tA tB':mI} {t:pW} {pos px p p2 apos cpos:Pos} {x:Str} {i j:Nat}
def jF (i:Nat):dz:=λτ J Q=>Oq τ[i]? λx=>Q x J
theorem rv (i:Nat) {x:Str} {pos:Pos} (hN:X.N[i]?=some x:=by rfl) (hv:xY X.env.scope x:=by first | exact Or.inl rfl | exact Or.inr (Or.inl rfl) | exact Or.inr (Or.inr rfl)) (hd:(x == ("__debug__":Str))=false:=by decide)
  (hcd:(x == ("__classdict__":Str))=false:=by decide):RE X G (.Name x pos) (jF i) :=
 ⟨l7 (L2.A8 hN hv hd hcd) λσ H Q ⟨τ,J,Q2,a2,hq,k⟩=>let ⟨y,ey,q⟩:=GA hq;let ⟨v,e1,r⟩:=a2.sl.get i y ey;⟨v,e1,k y J v H r a2.hp .refl q⟩⟩
def rC (x:PV):dz:=λ_ J Q=>Q x J
theorem ag {i:Int} {j pos}:RE X G (.Constant (.int i) j pos) (rC (.int i)):=⟨l7 L2.aS λσ H Q ⟨τ,J,Q2,a2,q,k⟩=>k (.int i) J _ H rfl a2.hp .refl q⟩
theorem dh {b:Bool} {j pos}:RE X G (.Constant (.bool b) j pos) (rC (.bl b)):=⟨l7 L2.y6 λσ H Q ⟨τ,J,Q2,a2,q,k⟩=>k (.bl b) J _ H rfl a2.hp .refl q⟩
theorem mY {j pos}:RE X G (.Constant .none j pos) (rC .non):=⟨l7 L2.A5 λσ H Q ⟨τ,J,Q2,a2,q,k⟩=>k .non J _ H rfl a2.hp .refl q⟩
theorem bR {x:Str} {j pos}:RE X G (.Constant (.str x) j pos) (rC (.str x)):=⟨l7 L2.pq λσ H Q ⟨τ,J,Q2,a2,q,k⟩=>k (.str x) J _ H rfl a2.hp .refl q⟩
theorem f' {v:V} {u:Value} (y:PV) (hg:Gl X x) (hm:X.mg x=some u) (r:RelV v u) (hr:∀J H,cE X.K J H y v) (hd:(x == ("__debug__":Str))=false:=by decide):RE X G (.Name x pos) (rC y) :=
 ⟨l7 (L2.du hg hm r hd) λσ H Q ⟨τ,J,Q2,a2,q,k⟩=>k y J v H (hr J H) a2.hp .refl q⟩
theorem k7 {n:String} (hg:Gl X x) (hm:X.mg x=none) (hv:bootBuiltins x=some (.type n)) (hn:x≠"__name__":=by decide) (hd:(x == ("__debug__":Str))=false:=by decide):RE X G (.Name x pos) (rC (.ty n)) :=
 ⟨l7 (L2.qP (v:=.ty n) hg hm hv rfl hn hd) λσ H Q ⟨τ,J,Q2,a2,q,k⟩=>k (.ty n) J _ H rfl a2.hp .refl q⟩
abbrev nG:=PV→PV→Hq→(PV→Hq→Prop)→Prop
abbrev OB:=PV→Hq→(PV→Hq→Prop)→Prop
abbrev Aj:=List PV→Hq→(PV→Hq→Prop)→Prop
def Kn (K:PySem.W.Frag) (J:Hq) (H:Hp) (Q2:PV→Hq→Prop) (Q:VK):Prop:=∀z J' u H',cE K J' H' z u→Rep K J' H'→Ext K J H J' H'→Q2 z J'→Q u H'
def LR (K:PySem.W.Frag) (r:R2) (q:nG):Prop:=∀J H x y v w Q2 Q,cE K J H x v→cE K J H y w→Rep K J H→q x y J Q2→Kn K J H Q2 Q→r v w H Q
def T' (K:PySem.W.Frag) (r:V→Hp→VK→Prop) (q:OB):Prop:=∀J H x v Q2 Q,cE K J H x v→Rep K J H→q x J Q2→Kn K J H Q2 Q→r v H Q
def Tq (K:PySem.W.Frag) (r:List V→Hp→VK→Prop) (q:Aj):Prop:=∀J H xs vs Q2 Q,aU K J H xs vs→Rep K J H→q xs J Q2→Kn K J H Q2 Q→r vs H Q
def nv (X:Cx) (f:Value→Value→Sem Value) (q:nG):Prop:=∃r,fz X f r∧LR X.K r q
def Tt (X:Cx) (f:Value→Sem Value) (q:OB):Prop:=∃r,yf X f r∧T' X.K r q
def Rv (X:Cx) (q:nG):Prop:=∃r,qD X r∧LR X.K r q
def KJ (X:Cx) (f:Value) (q:Aj):Prop:=∃r,cj X f r∧Tq X.K r q
def xZ (q:nG) (ta tb:dz):dz:=λτ J Q=>ta τ J λx J1=>tb τ J1 λy J2=>q x y J2 Q
def T5 (q:OB) (ta:dz):dz:=λτ J Q=>ta τ J λx J1=>q x J1 Q
theorem qN {r:R2} {q:nG} (lr:LR X.K r q):∀σ H Q,LE X.K G (xZ q ta tb) σ H Q→L2.HF r (LE X.K G ta) (LE X.K G tb) σ H Q:=λσ H Q ⟨τ,J,Q2,a2,h,k⟩ =>
 ⟨τ,J,_,a2,h,λx J1 v H1 rx r1 e1 q1=>⟨τ,J1,_,a2.go r1 e1,q1,λy J2 w H2 ry r2 e2 q2 =>
  lr J2 H2 x y v w Q2 Q (e2.rep rx) ry r2 q2 λz J' u H' rz rr ee qq=>k z J' u H' rz rr ((e1.trans e2).trans ee) qq⟩⟩
theorem aR {op:Operator} {q:nG} (ho:nv X (binaryOp op) q) (ha:RE X G a ta) (hb:RE X G b tb):RE X G (.BinOp a op b pos) (xZ q ta tb):=by
 obtain ⟨r,h,lr⟩:=ho
 exact ⟨l7 (L2.bF h ha.run hb.run) (qN lr)⟩
theorem vm {op:UnaryOp} {q:OB} (ho:Tt X (unaryOp op) q) (ha:RE X G a ta):RE X G (.UnaryOp op a pos) (T5 q ta):=by
 obtain ⟨r,h,lr⟩:=ho
 exact ⟨l7 (L2.Cq h ha.run) λσ H Q ⟨τ,J,Q2,a2,h,k⟩=>⟨τ,J,_,a2,h,λx J1 v H1 rx r1 e1 q1 =>
  lr J1 H1 x v Q2 Q rx r1 q1 λz J' u H' rz rr ee qq=>k z J' u H' rz rr (e1.trans ee) qq⟩⟩
theorem au {q:nG} (hr:Rv X q) (ha:RE X G a ta) (hb:RE X G b tb) (hs:dq b:=by exact λ_ _=>rfl):RE X G (.Subscript a b pos) (xZ q ta tb):=by
 obtain ⟨r,h,lr⟩:=hr
 exact ⟨l7 (L2.cn h ha.run hb.run hs) (qN lr)⟩
theorem eZ {op:CmpOp} {q:nG} (ho:nv X (compareOp op) q) (ha:RE X G a ta) (hb:RE X G b tb) (hm:behindInMarks op b=false:=by first | exact L2.ft _ | with_unfolding_all rfl):RE X G (.Compare a [op] [b] pos) (xZ q ta tb):=by
 obtain ⟨r,h,lr⟩:=ho
 exact ⟨l7 (L2.qQ h ha.run hb.run hm) (qN lr)⟩
def rB (t:dz):mI:=λτ J Q=>t τ J λx J1=>K' x λk=>Q k J1
theorem aL {op:CmpOp} {q:nG} (ho:nv X (compareOp op) q) (ha:RE X G a ta) (hb:RE X G b tb) (hm:behindInMarks op b=false:=by first | exact L2.ft _ | with_unfolding_all rfl):RT X G (.Compare a [op] [b] pos) (rB (xZ q ta tb)):=by
 obtain ⟨r,h,lr⟩:=ho
 refine ⟨Rh (L2.dO h ha.run hb.run hm) λσ H Q ⟨τ,J,Q2,a2,h,k⟩=>?_⟩
 refine qN lr σ H _ ⟨τ,J,_,a2,h,λz J' u H' rz rr ee qq=>?_⟩
 obtain ⟨b,rfl,q⟩:=pf qq
 exact ⟨b,rz,k b J' H' rr ee q⟩
theorem bA (h:RE X G e te) (he:∀whole,isTrue e X.env whole=(do let v ← whole;standAt e.pos;holding [v] (truthy v)):=by intro _;rfl):RT X G e (rB te) :=
 ⟨Rh (L2.Bc h.run he) λσ H Q ⟨τ,J,Q2,a2,h,k⟩=>⟨τ,J,_,a2,h,λz J' u H' rz rr ee qq=>by obtain ⟨b,eb,q⟩:=pf qq;subst eb;exact ⟨b,rz,k b J' H' rr ee q⟩⟩⟩
def xV (J:Hq):PV→Option Bool
 | .non=>some false
 | .bl b=>some b
 | .int i=>some (i != 0)
 | .tup xs=>some (!xs.isEmpty)
 | .fl xs=>some (!xs.isEmpty)
 | .ref a=>match J a with
  | some (.lst xs)=>some (!xs.isEmpty)
  | some (.dct kvs _)=>some (!kvs.isEmpty)
  | _=>none
 | _=>none
theorem gY {α β:Type} {xs:List α} {ys:List β} (h:xs.length=ys.length):xs.isEmpty=ys.isEmpty:=by cases xs <;> cases ys <;> simp_all
theorem Kx {K:PySem.W.Frag} {J:Hq} {H:Hp} {x:PV} {v:V} {k:Bool} (r:cE K J H x v) (hp:Rep K J H) (h:xV J x=some k):L2.Mj K v H k:=by
 cases x with
 | non=>cases r;cases h;rfl
 | bl b=>cases r;cases h;rfl
 | int i=>cases r;cases h;rfl
 | str s=>cases h
 | ty n=>cases h
 | tup xs=>obtain ⟨a,vs,rfl,h1,h2⟩:=r;cases h;exact .inr (.inl ⟨vs,h1,by rw [gY h2.length]⟩)
 | fl xs=>obtain ⟨a,vs,rfl,h1,h2⟩:=r;cases h;exact .inl ⟨vs,h1.sq,by rw [gY h2.length]⟩
 | ref a =>
  cases r
  unfold xV at h
  dsimp only at h
  cases e:J a with
  | none=>rw [e] at h;cases h
  | some o =>
   rw [e] at h
   have z:=hp a o e
   cases o with
   | lst xs=>obtain ⟨vs,h1,h2⟩:=z;cases h;exact .inl ⟨vs,.inl (.inl h1),by rw [gY h2.length]⟩
   | ins C fs=>cases h
   | tab=>cases h
   | dtp hs ks=>cases h
   | dct kvs ep =>
    obtain ⟨gs,h1,h2⟩:=z;cases h
    refine .inr (.inr ⟨gs,ep,h1,?_⟩)
    have:=congrArg Vl h2.1
    simp only [Us] at this
    rw [gY this]
def Qq (te:dz):mI:=λτ J Q=>te τ J λx J1=>wJ (xV J1 x) λk=>Q k J1
theorem NP (h:RE X G e te) (he:∀whole,isTrue e X.env whole=(do let v ← whole;standAt e.pos;holding [v] (truthy v)):=by intro _;rfl):RT X G e (Qq te) :=
 ⟨Rh (L2.GU h.run he) λσ H Q ⟨τ,J,Q2,a2,h,k⟩=>⟨τ,J,_,a2,h,λz J' u H' rz rr ee qq=>let ⟨b,eb,q⟩:=eV qq;⟨b,Kx rz rr eb,k b J' H' rr ee q⟩⟩⟩
def JS (t u:mI):mI:=λτ J Q=>t τ J λc J1=>if c=true then u τ J1 Q else Q false J1
def SK (t u:mI):mI:=λτ J Q=>t τ J λc J1=>if c=true then Q true J1 else u τ J1 Q
def Qj (t:mI):mI:=λτ J Q=>t τ J λc J1=>Q (!c) J1
theorem bS (ha:RT X G a tA):RT X G (.UnaryOp .Not a pos) (Qj tA):=⟨Rh (L2.Bb ha.run) λσ H Q ⟨τ,J,Q2,a2,h,k⟩=>⟨τ,J,_,a2,h,λb J' H' rr ee q=>k _ J' H' rr ee q⟩⟩
theorem fb (ha:RT X G a tA):RW X G (.BoolOp .And [a] pos) tA:=⟨L2.qT ha.run⟩
theorem fe (ha:RT X G a tA):RW X G (.BoolOp .Or [a] pos) tA:=⟨L2.wZ ha.run⟩
theorem Fi {σ:L2.St} {H:Hp} {Q:Bool→Hp→Prop}:LT X.K G (JS tA tB') σ H Q→L2.HB (LT X.K G tA) (LT X.K G tB') σ H Q:=λ⟨τ,J,Q2,a2,h,k⟩ =>
 ⟨τ,J,_,a2,h,λb J' H' rr ee q=>by
  cases b with
  | true=>simp only [if_true] at q ⊢;exact ⟨τ,J',Q2,a2.go rr ee,q,λb J2 H2 r2 e2 q2=>k b J2 H2 r2 (ee.trans e2) q2⟩
  | false=>simp only [UK,if_false] at q ⊢;exact k _ J' H' rr ee q⟩
theorem JA {σ:L2.St} {H:Hp} {Q:Bool→Hp→Prop}:LT X.K G (SK tA tB') σ H Q→L2.QH (LT X.K G tA) (LT X.K G tB') σ H Q:=λ⟨τ,J,Q2,a2,h,k⟩ =>
 ⟨τ,J,_,a2,h,λb J' H' rr ee q=>by
  cases b with
  | false=>simp only [UK,if_false] at q ⊢;exact ⟨τ,J',Q2,a2.go rr ee,q,λb J2 H2 r2 e2 q2=>k b J2 H2 r2 (ee.trans e2) q2⟩
  | true=>simp only [if_true] at q ⊢;exact k _ J' H' rr ee q⟩
theorem fT (ha:RT X G a tA) (hb:RW X G (.BoolOp .And (b :: rest) pos) tB'):RW X G (.BoolOp .And (a :: b :: rest) pos) (JS tA tB'):=⟨TV (L2.wY ha.run hb.run) λσ H Q h=>Fi h⟩
theorem fY (ha:RT X G a tA) (hb:RW X G (.BoolOp .Or (b :: rest) pos) tB'):RW X G (.BoolOp .Or (a :: b :: rest) pos) (SK tA tB'):=⟨TV (L2.Cz ha.run hb.run) λσ H Q h=>JA h⟩
theorem di (h:RW X G e tA):RT X G e tA:=⟨h.run.pt⟩
def Ls (ta tb:dz):dz:=λτ J Q=>ta τ J λx J1=>K' x λc=>if c=true then tb τ J1 Q else Q (.bl false) J1
def Qk (ta tb:dz):dz:=λτ J Q=>ta τ J λx J1=>K' x λc=>if c=true then Q (.bl true) J1 else tb τ J1 Q
def Ly (ta:dz):dz:=λτ J Q=>ta τ J λx J1=>K' x λc=>Q (.bl (!c)) J1
theorem xa {op} (h:RE X G a ta):RE X G (.BoolOp op [a] pos) ta:=⟨L2.A7 h.run⟩
theorem Bi (ha:RE X G a ta) (hb:RE X G (.BoolOp .And (b :: rest) pos) tb):RE X G (.BoolOp .And (a :: b :: rest) pos) (Ls ta tb):=⟨l7 (L2.A4 ha.run hb.run) λσ H Q ⟨τ,J,Q2,a2,h,k⟩ =>
 ⟨τ,J,_,a2,h,λx J' v H' rx rr ee qq=>by
  obtain ⟨c,ec,q⟩:=pf qq
  subst ec
  refine ⟨c,rx,?_⟩
  cases c with
  | true=>simp only [if_true] at q ⊢;exact ⟨τ,J',Q2,a2.go rr ee,q,λz J2 u H2 rz r2 e2 q2=>k z J2 u H2 rz r2 (ee.trans e2) q2⟩
  | false=>simp only [UK,if_false] at q ⊢;exact k (.bl false) J' _ H' rfl rr ee q⟩⟩
theorem Qu (ha:RE X G a ta) (hb:RE X G (.BoolOp .Or (b :: rest) pos) tb):RE X G (.BoolOp .Or (a :: b :: rest) pos) (Qk ta tb):=⟨l7 (L2.GQ ha.run hb.run) λσ H Q ⟨τ,J,Q2,a2,h,k⟩ =>
 ⟨τ,J,_,a2,h,λx J' v H' rx rr ee qq=>by
  obtain ⟨c,ec,q⟩:=pf qq
  subst ec
  refine ⟨c,rx,?_⟩
  cases c with
  | false=>simp only [UK,if_false] at q ⊢;exact ⟨τ,J',Q2,a2.go rr ee,q,λz J2 u H2 rz r2 e2 q2=>k z J2 u H2 rz r2 (ee.trans e2) q2⟩
  | true=>simp only [if_true] at q ⊢;exact k (.bl true) J' _ H' rfl rr ee q⟩⟩
theorem NJ (ha:RE X G a ta):RE X G (.UnaryOp .Not a pos) (Ly ta):=⟨l7 (L2.A6 ha.run) λσ H Q ⟨τ,J,Q2,a2,h,k⟩ =>
 ⟨τ,J,_,a2,h,λx J' v H' rx rr ee qq=>by obtain ⟨c,ec,q⟩:=pf qq;subst ec;exact ⟨c,rx,k (.bl (!c)) J' _ H' rfl rr ee q⟩⟩⟩
def T1 (t:mI) (ta tb:dz):dz:=λτ J Q=>t τ J λc J1=>if c=true then ta τ J1 Q else tb τ J1 Q
theorem Qt (hc:RT X G c tA) (ha:RE X G a ta) (hb:RE X G b tb):RE X G (.IfExp c a b pos) (T1 tA ta tb):=⟨l7 (L2.sx hc.run ha.run hb.run) λσ H Q ⟨τ,J,Q2,a2,h,k⟩ =>
 ⟨τ,J,_,a2,h,λc J' H' rr ee q=>by
  cases c with
  | true=>simp only [if_true] at q ⊢;exact ⟨τ,J',Q2,a2.go rr ee,q,λz J2 u H2 rz r2 e2 q2=>k z J2 u H2 rz r2 (ee.trans e2) q2⟩
  | false=>simp only [UK,if_false] at q ⊢;exact ⟨τ,J',Q2,a2.go rr ee,q,λz J2 u H2 rz r2 e2 q2=>k z J2 u H2 rz r2 (ee.trans e2) q2⟩⟩⟩
def uG:pW:=λ_ J Q=>Q [] J
def kZ (ta:dz) (tr:pW):pW:=λτ J Q=>ta τ J λx J1=>tr τ J1 λxs J2=>Q (x :: xs) J2
theorem ah:RA X G [] uG:=⟨Sw L2.bj λσ H Q ⟨τ,J,Q2,a2,h,k⟩=>k [] J [] H rfl a2.hp .refl h⟩
theorem af (ha:RE X G e te) (hr:RA X G es t) (hs:starEach (e :: es) X.env=(false,eval e X.env) :: starEach es X.env:=by rfl):RA X G (e :: es) (kZ te t) :=
 ⟨Sw (L2.az ha.run hr.run hs) λσ H Q ⟨τ,J,Q2,a2,h,k⟩=>⟨τ,J,_,a2,h,λx J' v H' rx rr ee q=>⟨τ,J',_,a2.go rr ee,q,λxs J2 vs H2 rs r2 e2 q2=>k (x :: xs) J2 (v :: vs) H2 ⟨v,vs,rfl,e2.rep rx,rs⟩ r2 (ee.trans e2) q2⟩⟩⟩
def vP:V→PV
 | .non=>.non | .bl b=>.bl b | .int i=>.int i | .str x=>.str x | _=>.non
theorem sI {K:PySem.W.Frag} {J:Hq} {H:Hp}:∀{es:List Expr} {vs:List V},es.map vY=vs.map some→aU K J H (vs.map vP) vs
 | [],[],_=>rfl
 | [],_ :: _,h=>by cases h
 | _ :: _,[],h=>by cases h
 | e :: es,v :: vs,h=>by
  rw [UB,UB] at h
  injection h with h1 h2
  refine ⟨v,vs,rfl,?_,sI h2⟩
  cases e with
  | Constant c j pos =>
   cases c with
   | int i=>cases h1;rfl
   | str x=>cases h1;rfl
   | bool b=>cases h1;rfl
   | _=>cases h1
  | _=>cases h1
theorem w9 {es:List Expr} (vs:List V) (h:es.map vY=vs.map some) (xs:List PV) (hx:vs.map vP=xs):RA X G es (λ_ J Q=>Q xs J) :=
 ⟨Sw (su vs h) λσ H Q ⟨τ,J,Q2,a2,q,k⟩=>k _ J _ H (by rw [← hx];exact sI h) a2.hp .refl q⟩
def Qs (t:pW):dz:=λτ J Q=>t τ J λxs J1=>xs.length≤sizeLine∧Q (.tup xs) J1
theorem cu {x1} (h:RA X G es t):RE X G (.Tuple es x1 pos) (Qs t):=⟨l7 (L2.sy h.run) λσ H Q ⟨τ,J,Q2,a2,h,k⟩=>⟨τ,J,_,a2,h,λxs J' vs H' rs rr ee ⟨hl,q⟩ =>
 ⟨by rw [← rs.length];exact hl,λp hp=>by
  have sm:=bG.new hp (.tup vs)
  have e2:=Ext.same (K:=X.K) (J:=J') sm
  exact k (.tup xs) J' (.ref p) _ ⟨p,vs,rfl,.inl (.inl aG),e2.jG rs⟩ (rr.same sm) (ee.trans e2) q⟩⟩⟩
def Qi (t:pW):dz:=λτ J Q=>t τ J λxs J1=>xs.length≤sizeLine∧∀p,J1 p=none→Q (.ref p) (put J1 p (.lst xs))
theorem mV (h:RA X G es t):RE X G (.List es pos) (Qi t):=⟨l7 (L2.jy h.run) λσ H Q ⟨τ,J,Q2,a2,h,k⟩=>⟨τ,J,_,a2,h,λxs J' vs H' rs rr ee ⟨hl,q⟩ =>
 ⟨by rw [← rs.length];exact hl,λp hp=>k (.ref p) _ (.ref p) _ rfl (rr.F4 hp rs) (ee.trans (.laid hp)) (q p (rr.free hp))⟩⟩⟩
def TZ (t:pW):dz:=λτ J Q=>t τ J λxs J1=>xs.length≤sizeLine∧Q (.fl xs) J1
theorem sd {K:PySem.W.Frag} {J:Hq} {H:Hp} {xs:List PV} {vs:List V} {p:Addr} (rr:Rep K J H) (rs:aU K J H xs vs) (hp:H p=none):cE K J (upd H p (.lst vs)) (.fl xs) (.ref p)∧Rep K J (upd H p (.lst vs))∧Ext K J H J (upd H p (.lst vs)):=by
 have sm:=bG.new hp (.lst vs)
 have e2:=Ext.same (K:=K) (J:=J) sm
 exact ⟨⟨p,vs,rfl,.inl ⟨rr.free hp,.inl aG⟩,e2.jG rs⟩,rr.same sm,e2⟩
theorem k4 (h:RA X G es t):RE X G (.List es pos) (TZ t):=⟨l7 (L2.jy h.run) λσ H Q ⟨τ,J,Q2,a2,h,k⟩=>⟨τ,J,_,a2,h,λxs J' vs H' rs rr ee ⟨hl,q⟩ =>
 ⟨by rw [← rs.length];exact hl,λp hp=>let ⟨x1,x2,x3⟩:=sd rr rs hp;k (.fl xs) _ (.ref p) _ x1 x2 (ee.trans x3) q⟩⟩⟩
abbrev Og:=Sr→Hq→(Option Int→Hq→Prop)→Prop
def LO (K:PySem.W.Frag) (G:G2) (t:Og):TO:=λσ H Q=>∃τ J Q2,xX K G τ J σ H∧t τ J Q2∧∀b J' H',Rep K J' H'→Ext K J H J' H'→Q2 b J'→Q b H'
structure RO (X:Cx) (G:G2) (e:Option Expr) (t:Og):Prop where
 run:L2.PO X e (LO X.K G t)
theorem TR {X:Cx} {e:Option Expr} {t t':TO} (h:L2.PO X e t) (k:∀σ H Q,t' σ H Q→t σ H Q):L2.PO X e t':=λpins s σ H Q I q=>h pins s σ H Q I (k _ _ _ q)
def CF:Og:=λ_ J Q=>Q none J
def Lz (t:dz):Og:=λτ J Q=>t τ J λx J1=>ER x λi=>Q (some i) J1
theorem jI:RO X G none CF:=⟨TR L2.qR λσ H Q ⟨τ,J,Q2,a2,h,k⟩=>k none J H a2.hp .refl h⟩
theorem e_ (h:RE X G e te):RO X G (some e) (Lz te):=⟨TR (L2.lR h.run) λσ H Q ⟨τ,J,Q2,a2,h,k⟩=>⟨τ,J,_,a2,h,λx J' v H' rx rr ee qq=>by obtain ⟨i,ei,q⟩:=ij qq;subst ei;exact ⟨i,rx,k _ J' H' rr ee q⟩⟩⟩
abbrev DC:=PV→Option Int→Option Int→Hq→(PV→Hq→Prop)→Prop
def Ry (X:Cx) (q:DC):Prop:=∃r,uf X r∧∀J H x lo hi v Q2 Q,cE X.K J H x v→Rep X.K J H→q x lo hi J Q2→Kn X.K J H Q2 Q→r v lo hi H Q
def T4 (q:DC) (te:dz) (tl th:Og):dz:=λτ J Q=>te τ J λx J1=>tl τ J1 λl J2=>th τ J2 λu J3=>q x l u J3 Q
theorem e8 {lo hi:Option Expr} {tl th:Og} {q:DC} (hr:Ry X q) (he:RE X G e te) (hl:RO X G lo tl) (hu:RO X G hi th):RE X G (.Subscript e (.Slice lo hi none p2) pos) (T4 q te tl th):=by
 obtain ⟨r,h,lr⟩:=hr
 exact ⟨l7 (L2.kM h he.run hl.run hu.run) λσ H Q ⟨τ,J,Q2,a2,h,k⟩=>⟨τ,J,_,a2,h,λx J' v H' rx rr ee q1=>⟨τ,J',_,a2.go rr ee,q1,λl J2 H2 r2 e2 q2 =>
  ⟨τ,J2,_,a2.go r2 (ee.trans e2),q2,λu J3 H3 r3 e3 q3=>lr J3 H3 x l u v Q2 Q ((e2.trans e3).rep rx) r3 q3 λz J4 w H4 rz r4 e4 q4=>k z J4 w H4 rz r4 (((ee.trans e2).trans e3).trans e4) q4⟩⟩⟩⟩
def Qa (q:Aj) (t:pW):dz:=λτ J Q=>t τ J λxs J1=>q xs J1 Q
theorem BO {r:List V→Hp→VK→Prop} {q:Aj} (lr:Tq X.K r q):∀σ H Q,LE X.K G (Qa q t) σ H Q→L2.Ko r (LA X.K G t) σ H Q:=λσ H Q ⟨τ,J,Q2,a2,h,k⟩ =>
 ⟨τ,J,_,a2,h,λxs J1 vs H1 rs r1 e1 q1=>lr J1 H1 xs vs Q2 Q rs r1 q1 λz J' u H' rz rr ee qq=>k z J' u H' rz rr (e1.trans ee) qq⟩
theorem aI {id:String} {q:Aj} (hc:KJ X (.builtin id) q) (hg:Gl X x) (hm:X.mg x=none) (hv:bootBuiltins x=some (.builtin id)) (ha:RA X G (e :: es) t) (hn:x≠"__name__":=by decide) (hdb:(x == ("__debug__":Str))=false:=by decide)
  (he:starEach (e :: es) X.env=(false,eval e X.env) :: starEach es X.env:=by rfl) (hpl:(backTo pos (starEach es X.env)).any (·.1)=false:=by rfl):RE X G (.Call (.Name x p) (e :: es) [] pos) (Qa q t):=by
 obtain ⟨r,h,lr⟩:=hc
 exact ⟨l7 (L2.bL h hg hm hv ha.run hn hdb he hpl) (BO lr)⟩
theorem dP {T:String} {q:Aj} (hc:KJ X (.type T) q) (hg:Gl X x) (hm:X.mg x=none) (hv:bootBuiltins x=some (.type T)) (ha:RA X G (e :: es) t) (hn:x≠"__name__":=by decide) (hdb:(x == ("__debug__":Str))=false:=by decide)
  (he:starEach (e :: es) X.env=(false,eval e X.env) :: starEach es X.env:=by rfl) (hpl:(backTo pos (starEach es X.env)).any (·.1)=false:=by rfl):RE X G (.Call (.Name x p) (e :: es) [] pos) (Qa q t):=by
 obtain ⟨r,h,lr⟩:=hc
 exact ⟨l7 (L2.pj h hg hm hv ha.run hn hdb he hpl) (BO lr)⟩
abbrev EM:=PV→List PV→Hq→(PV→Hq→Prop)→Prop
def Mi (X:Cx) (T id:String) (q:EM):Prop:=∃r,qE X id r∧∀J H x xs v vs Q2 Q,cE X.K J H x v→aU X.K J H xs vs→Rep X.K J H→q x xs J Q2→Kn X.K J H Q2 Q→r v vs H Q
def Oy (T:String) (J:Hq):PV→Prop
 | .str _=>T="str"
 | .fl _=>T="list"
 | .ref a=>(T="list"∧∃xs,J a=some (.lst xs))∨(T="dict"∧∃kvs ep,J a=some (.dct kvs ep))
 | _=>False
theorem De {K:PySem.W.Frag} {T:String} {J:Hq} {H:Hp} {x:PV} {v:V} (r:cE K J H x v) (hp:Rep K J H) (h:Oy T J x):L2.Rq K T v H:=by
 cases x with
 | str s=>cases r;exact h
 | fl xs=>obtain ⟨a,vs,rfl,h1,h2⟩:=r;exact .inl ⟨h,vs,h1.sq⟩
 | ref a =>
  cases r
  rcases h with ⟨h,xs,e⟩ | ⟨h,kvs,ep,e⟩
  ·obtain ⟨vs,h1,_⟩:=hp _ _ e;exact .inl ⟨h,vs,.inl (.inl h1)⟩
  ·obtain ⟨gs,h1,_⟩:=hp _ _ e;exact .inr (.inr (.inl ⟨h,.inr ⟨gs,ep,h1⟩⟩))
 | _=>cases h
def SG (T:String) (q:EM) (to:dz) (t:pW):dz:=λτ J Q=>to τ J λx J1=>Oy T J1 x∧t τ J1 λxs J2=>q x xs J2 Q
def P_ (T:String) (q:EM) (to:dz):dz:=λτ J Q=>to τ J λx J1=>Oy T J1 x∧q x [] J1 Q
theorem my {name:Str} {T id:String} {q:EM} (pa:PlainAttrs T) (slot:Slot T name id) (hty:typeOf (.builtin id)=pure (.type "method_descriptor")) (hm:Mi X T id q) (ho:RE X G o to) (ha:RA X G (e :: es) t)
  (hbase:attributeBase o name X.env (eval o X.env)=eval o X.env:=by rfl)
  (hfew:((backTo cpos (starEach (e :: es) X.env)).all (λx=>!x.1) && (backToKw cpos (keywordEach [] X.env)).all (λx=>x.1.isSome)
   && decide ((e :: es).length + ([]:List Keyword).length + (if ([]:List Keyword).isEmpty then 0 else 1) < 30))=true:=by rfl)
  (hline:(apos.endLine == cpos.line)=true:=by rfl) (hs:starEach (e :: es) X.env=(false,eval e X.env) :: starEach es X.env:=by rfl) (hplain:(backTo cpos (starEach es X.env)).any (·.1)=false:=by rfl) :
  RE X G (.Call (.Attribute o name apos) (e :: es) [] cpos) (SG T q to t):=by
 obtain ⟨r,h,lr⟩:=hm
 exact ⟨l7 (L2.sv pa slot hty h ho.run ha.run hbase hfew hline hs hplain) λσ H Q ⟨τ,J,Q2,a2,h,k⟩=>⟨τ,J,_,a2,h,λx J1 v H1 rx r1 e1 ⟨ty,q1⟩=>⟨De rx r1 ty,τ,J1,_,a2.go r1 e1,q1,λxs J2 vs H2 rs r2 e2 q2 =>
  lr J2 H2 x xs v vs Q2 Q (e2.rep rx) rs r2 q2 λz J' u H' rz rr ee qq=>k z J' u H' rz rr ((e1.trans e2).trans ee) qq⟩⟩⟩
theorem NI {name:Str} {T id:String} {q:EM} (pa:PlainAttrs T) (slot:Slot T name id) (hty:typeOf (.builtin id)=pure (.type "method_descriptor")) (hm:Mi X T id q) (ho:RE X G o to)
  (hbase:attributeBase o name X.env (eval o X.env)=eval o X.env:=by rfl) (hline:(apos.endLine == cpos.line)=true:=by rfl):RE X G (.Call (.Attribute o name apos) [] [] cpos) (P_ T q to):=by
 obtain ⟨r,h,lr⟩:=hm
 exact ⟨l7 (L2.Np pa slot hty h ho.run hbase hline) λσ H Q ⟨τ,J,Q2,a2,h,k⟩=>⟨τ,J,_,a2,h,λx J1 v H1 rx r1 e1 ⟨ty,q1⟩=>⟨De rx r1 ty,
  lr J1 H1 x [] v [] Q2 Q rx rfl r1 q1 λz J' u H' rz rr ee qq=>k z J' u H' rz rr (e1.trans ee) qq⟩⟩⟩
end
end Ov
namespace Ov
open PySem PySem.Spec PyProof.Rows
open L2 (V HO Hp Inv Cx VK XK TE TT TA TS TG qF TI TO ki Ends xY Loc Gl Rd RelV Vals fz yf cj qD uf qE kg R2 upd aG aM cZ gS Sp tK It bG dq bV Passes qj aH Meth Mk Binds aQ cb aw dk gm fh)
abbrev cA:=List PV→Hq→(PV→Hq→Prop)→(Addr→Hq→Prop)→Prop
def KL (K:PySem.W.Frag) (J:Hq) (H:Hp) (E2:Addr→Hq→Prop) (E:XK):Prop:=∀c J' H',Rep K J' H'→Ext K J H J' H'→E2 c J'→E (.ref c) none H'
def dn (K:PySem.W.Frag) (sp:cA):Sp:=λvs H Q E=>∃xs J Q2 E2,aU K J H xs vs∧Rep K J H∧sp xs J Q2 E2∧Kn K J H Q2 Q∧KL K J H E2 E
theorem KL.ext {K:PySem.W.Frag} {J J':Hq} {H H':Hp} {E2:Addr→Hq→Prop} {E:XK} (k:KL K J H E2 E) (e:Ext K J H J' H'):KL K J' H' E2 E:=λc J1 H1 r x q=>k c J1 H1 r (e.trans x) q
theorem _root_.L2.aQ.Uc {P:Program} {w:World} {K:PySem.W.Frag} {mg:Str→Option Value} {base:Heap} {k:Nat} {f:Addr} {fd:FuncData} {ps:List Str} {sp:Sp} (F:aQ P w K mg base L2.rh k f fd ps sp):aQ P w K mg base (cP P w) k f fd ps sp :=
 ⟨F.len,λA outer s H args us vs Q E hr he hb hv hs=>codeAny_mono (F.run A outer s H args us vs Q E hr he hb hv hs) λr s' q=>by
  cases r with
  | error e=>exact False.elim q
  | ok fl=>cases fl <;> exact q⟩
theorem _root_.L2.aQ.Q1 {P:Program} {w:World} {K:PySem.W.Frag} {mg:Str→Option Value} {base:Heap} {k:Nat} {f:Addr} {fd:FuncData} {ps:List Str} {sp:Sp} (F:aQ P w K mg base (cP P w) k f fd ps sp):aQ P w K mg base L2.rh k f fd ps (λvs H Q _=>sp vs H Q L2.E0) :=
 ⟨λvs H Q E q=>F.len vs H Q _ q,λA outer s H args us vs Q E hr he hb hv hs=>codeAny_mono (F.run A outer s H args us vs Q _ hr he hb hv hs) λr s' q=>by
  cases r with
  | error e=>obtain ⟨_,_,_,_,_,z⟩:=q;exact z.elim
  | ok fl=>cases fl <;> exact q⟩
def bz (P:Program) (w:World) (K:PySem.W.Frag) (mg:Str→Option Value) (base:Heap) (k:Nat) (x:Str) (ps:List Str) (sp:cA):Prop:=ET P w K mg base k x ps (dn K sp)
theorem _root_.Ov.tL.lift {P:Program} {w:World} {K:PySem.W.Frag} {mg:Str→Option Value} {base:Heap} {k:Nat} {x:Str} {ps:List Str} {sp:Sp} (C:tL P w K mg base k x ps sp) {sp':cA}
  (h:∀xs J vs H Q2 E2 Q E,aU K J H xs vs→Rep K J H→sp' xs J Q2 E2→Kn K J H Q2 Q→sp vs H Q E):bz P w K mg base k x ps sp':=by
 obtain ⟨f,fd,F,r⟩:=C
 exact ⟨f,fd,(F.Uc).imp λvs H Q E ⟨xs,J,Q2,E2,a,b,c,d,_⟩=>h xs J vs H Q2 E2 Q E a b c d,r⟩
theorem ET.lift {P:Program} {w:World} {K:PySem.W.Frag} {mg:Str→Option Value} {base:Heap} {k:Nat} {x:Str} {ps:List Str} {sp:Sp} (C:ET P w K mg base k x ps sp) {sp':cA}
  (h:∀xs J vs H Q2 E2 Q E,aU K J H xs vs→Rep K J H→sp' xs J Q2 E2→Kn K J H Q2 Q→KL K J H E2 E→sp vs H Q E):bz P w K mg base k x ps sp':=by
 obtain ⟨f,fd,F,r⟩:=C
 exact ⟨f,fd,F.imp λvs H Q E ⟨xs,J,Q2,E2,a,b,c,d,e⟩=>h xs J vs H Q2 E2 Q E a b c d e,r⟩
section
variable {X:Cx} {G:G2} {a b c e o value:Expr} {es rest:List Expr} {ta tb te tc to tv:dz} {tA tB':mI} {t:pW} {pos px p p2 apos cpos pos':Pos} {x:Str} {i j:Nat} {E:XK} {E2:Addr→Hq→Prop}
structure Dv (X:Cx) (G:G2) (E2:Addr→Hq→Prop) (E:XK):Prop where
 pass:Passes (cP X.prog X.w) X E
 kn:KL X.K G.1 G.2 E2 E
def ze (sp:cA) (E2:Addr→Hq→Prop) (t:pW):dz:=λτ J Q=>t τ J λxs J1=>sp xs J1 Q E2
theorem aO {k k':Nat} {ps:List Str} {sp:cA} (C:bz X.prog X.w X.K X.mg X.base k x ps sp) (B:Dv X G E2 E) (hr:bV k' X.A) (ha:RA X G (e :: es) t) (hk:k≤k':=by decide) (hg:Gl X x:=by rfl)
  (hdb:(x == ("__debug__":Str))=false:=by decide) (he:starEach (e :: es) X.env=(false,eval e X.env) :: starEach es X.env:=by rfl) (hpl:(backTo pos (starEach es X.env)).any (·.1)=false:=by rfl) :
  RE X G (.Call (.Name x p) (e :: es) [] pos) (ze sp E2 t) :=
 ⟨l7 (JC C B.pass hr hk hg ha.run hdb he hpl) λσ H Q ⟨τ,J,Q2,a2,h,k⟩=>⟨τ,J,_,a2,h,λxs J1 vs H1 rs r1 e1 q1=>by
  simp only [Vq]
  exact ⟨xs,J1,Q2,E2,rs,r1,q1,λz J' u H' rz rr ee qq=>k z J' u H' rz rr (e1.trans ee) qq,B.kn.ext (a2.ext.trans e1)⟩⟩⟩
def Qb (C:Addr) (ta:dz) (f:Str):dz:=λτ J Q=>ta τ J λx J1=>Cm x λa=>M_ C (J1 a) λfs=>wJ (fs.lookup f) λv=>Q v J1
theorem aT {C:Addr} {f:Str} (cl:qj X.K C) (na:aH X.K C f) (he:RE X G e ta) (hb:attributeBase e f X.env (eval e X.env)=eval e X.env:=by rfl):RE X G (.Attribute e f pos) (Qb C ta f) :=
 ⟨l7 (L2.Nt he.run hb) λσ H Q ⟨τ,J,Q2,a2,h,k⟩=>⟨τ,J,_,a2,h,λx J1 v H1 rx r1 e1 hh=>by
  obtain ⟨a,ex,hh⟩:=gE hh;obtain ⟨fs,ja,hh⟩:=AX hh;obtain ⟨y,lk,q⟩:=eV hh
  subst ex;cases rx
  obtain ⟨dx,gs,ha,rf⟩:=r1 _ _ ja
  obtain ⟨w,lw,rw'⟩:=rf.look lk
  exact ⟨a,C,dx,gs,w,rfl,ha,cl,na,lw,k y J1 w H1 rw' r1 e1 q⟩⟩⟩
structure cI (P:Program) (w:World) (K:PySem.W.Frag) (mg:Str→Option Value) (base:Heap) (C:Addr) (k:Nat) (m:Str) (ps:List Str) (sp:cA):Prop where
 cl:qj K C
 ex:∃f fd,Meth K C m f∧aQ P w K mg base (cP P w) k f fd ps (dn K sp)∧Binds K fd ps []
theorem cI.imp {P:Program} {w:World} {K:PySem.W.Frag} {mg:Str→Option Value} {base:Heap} {C:Addr} {k:Nat} {m:Str} {ps:List Str} {sp sp':cA} (M:cI P w K mg base C k m ps sp) (h:∀xs J Q E,sp' xs J Q E→sp xs J Q E):cI P w K mg base C k m ps sp':=by
 obtain ⟨cl,f,fd,hm,F,r⟩:=M
 exact ⟨cl,f,fd,hm,F.imp λvs H Q E ⟨xs,J,Q2,E2,a,b,c,d⟩=>⟨xs,J,Q2,E2,a,b,h _ _ _ _ c,d⟩,r⟩
def JW (C:Addr) (m:Str) (sp:cA) (E2:Addr→Hq→Prop) (ta:dz) (t:pW):dz:=λτ J Q=>ta τ J λx J1=>Cm x λa=>M_ C (J1 a) λfs=>fs.lookup m=none∧t τ J1 λxs J2=>sp (x :: xs) J2 Q E2
theorem yK {C:Addr} {m:Str} {sp:cA} (B:Dv X G E2 E):∀σ H Q,LE X.K G (JW C m sp E2 to t) σ H Q→L2.HE C m (dn X.K sp) [] E (LE X.K G to) (LA X.K G t) σ H Q:=λσ H Q ⟨τ,J,Q2,a2,h,k⟩ =>
 ⟨τ,J,_,a2,h,λx J1 v H1 rx r1 e1 hh=>by
  obtain ⟨a,ex,hh⟩:=gE hh;obtain ⟨fs,ja,lk,q⟩:=AX hh
  subst ex;cases rx
  obtain ⟨dx,gs,ha,rf⟩:=r1 _ _ ja
  refine ⟨a,dx,gs,rfl,ha,rf.none lk,τ,J1,_,a2.go r1 e1,q,λxs J2 vs H2 rs r2 e2 q2=>?_⟩
  simp only [Vq]
  exact ⟨.ref a :: xs,J2,Q2,E2,⟨.ref a,vs,rfl,rfl,rs⟩,r2,q2,λz J' u H' rz rr ee qq=>k z J' u H' rz rr ((e1.trans e2).trans ee) qq,B.kn.ext ((a2.ext.trans e1).trans e2)⟩⟩
theorem bK {C:Addr} {m:Str} {k k':Nat} {ps:List Str} {sp:cA} {pl:Sem Bool} (M:cI X.prog X.w X.K X.mg X.base C k m ps sp) (B:Dv X G E2 E) (hr:bV k' X.A) (ho:RE X G o to) (ha:RA X G (e :: es) t) (hk:k≤k':=by decide)
  (hst:starEach (e :: es) X.env=(false,eval e X.env) :: starEach es X.env:=by rfl) (hpl:(backTo pos (starEach es X.env)).any (·.1)=false:=by rfl)
  (ht:eval (.Call (.Attribute o m apos) (e :: es) [] pos) X.env=(do
   let ov ← eval o X.env
   standAt apos.atName
   let (f,first) ← holding [ov] (getMethod ov m pl)
   callWith pos f first (backTo pos (starEach (e :: es) X.env)) (backToKw pos (keywordEach [] X.env))):=by rfl) :
  RE X G (.Call (.Attribute o m apos) (e :: es) [] pos) (JW C m sp E2 to t):=by
 obtain ⟨cl,f,fd,hm,F,b⟩:=M
 exact ⟨l7 (L2.JF (pl:=pl) ho.run cl hm F (hr.mono hk) b .nil B.pass ha.run hst hpl ht) (yK B)⟩
theorem cW {C:Addr} {m:Str} {k k':Nat} {ps:List Str} {sp:cA} {pl:Sem Bool} (M:cI X.prog X.w X.K X.mg X.base C k m ps sp) (B:Dv X G E2 E) (hr:bV k' X.A) (ho:RE X G o to) (hk:k≤k':=by decide)
  (ht:eval (.Call (.Attribute o m apos) [] [] pos) X.env=(do
   let ov ← eval o X.env
   standAt apos.atName
   let (f,first) ← holding [ov] (getMethod ov m pl)
   callWith pos f first (backTo pos (starEach [] X.env)) (backToKw pos (keywordEach [] X.env))):=by rfl) :
  RE X G (.Call (.Attribute o m apos) [] [] pos) (JW C m sp E2 to uG):=by
 obtain ⟨cl,f,fd,hm,F,b⟩:=M
 refine ⟨l7 (L2.GP (pl:=pl) ho.run cl hm F (hr.mono hk) b .nil B.pass ht) λσ H Q h=>?_⟩
 have z:=yK B σ H Q h
 obtain ⟨τ,J,Q2,a2,h1,k1⟩:=z
 refine ⟨τ,J,Q2,a2,h1,λx J1 v H1 rx r1 e1 q1=>?_⟩
 obtain ⟨a,dx,fs,h2,h3,h4,τ',J',Q',a2',h5,k5⟩:=k1 x J1 v H1 rx r1 e1 q1
 exact ⟨a,dx,fs,h2,h3,h4,k5 [] J' [] H1 rfl a2'.hp .refl h5⟩
structure vT (P:Program) (w:World) (K:PySem.W.Frag) (mg:Str→Option Value) (base:Heap) (C:Addr) (k:Nat) (x:Str) (ps:List Str) (sp:cA):Prop where
 m:mg x=some (.ref C)
 ex:∃f fd,Mk K C f∧aQ P w K mg base (cP P w) k f fd ps (dn K sp)∧Binds K fd ps []
def JV (C:Addr) (sp:cA) (E2:Addr→Hq→Prop) (t:pW):dz:=λτ J Q=>t τ J λxs J1=>∀a,J1 a=none→sp (.ref a :: xs) (put J1 a (.ins C [])) (λv J2=>v=.non∧Q (.ref a) J2) E2
theorem yG {C:Addr} {sp:cA} (B:Dv X G E2 E):∀σ H Q,LE X.K G (JV C sp E2 t) σ H Q→L2.HD C (dn X.K sp) [] E (LA X.K G t) σ H Q:=λσ H Q ⟨τ,J,Q2,a2,h,k⟩ =>
 ⟨τ,J,_,a2,h,λxs J1 vs H1 rs r1 e1 q1 x dx hx hdx ne=>by
  have s1:=bG.new hdx (.own x)
  have hx':upd H1 dx (.own x) x=none:=by rw [aM (Ne.symm ne)];exact hx
  have r2:=r1.same s1
  have e2:Ext X.K J1 H1 (put J1 x (.ins C [])) (upd (upd H1 dx (.own x)) x (.ins C dx [])):=(Ext.same s1).trans (.laid hx')
  have r3:Rep X.K (put J1 x (.ins C [])) (upd (upd H1 dx (.own x)) x (.ins C dx [])):=r2.BF (.laid hx') x (λa ne=>ak ne) (λa o ne _ z=>by rw [aM ne];exact z) λu z=>by
   rw [ar] at z;cases z
   exact ⟨dx,[],aG,rfl,rfl⟩
  simp only [Vq]
  refine ⟨.ref x :: xs,_,_,E2,⟨.ref x,vs,rfl,rfl,e2.jG rs⟩,r3,q1 x (r1.free hx),λz J' u H' rz rr ee ⟨ez,qq⟩=>?_,B.kn.ext ((a2.ext.trans e1).trans e2)⟩
  subst ez
  exact ⟨rz,k (.ref x) J' (.ref x) H' rfl rr ((e1.trans e2).trans ee) qq⟩⟩
theorem CG {C:Addr} {k k':Nat} {ps:List Str} {sp:cA} (M:vT X.prog X.w X.K X.mg X.base C k x ps sp) (B:Dv X G E2 E) (hr:bV k' X.A) (ha:RA X G (e :: es) t) (hk:k + 1≤k':=by decide) (hg:Gl X x:=by rfl)
  (hdb:(x == ("__debug__":Str))=false:=by decide) (he:starEach (e :: es) X.env=(false,eval e X.env) :: starEach es X.env:=by rfl) (hpl:(backTo pos (starEach es X.env)).any (·.1)=false:=by rfl) :
  RE X G (.Call (.Name x p) (e :: es) [] pos) (JV C sp E2 t):=by
 obtain ⟨hm,f,fd,mk,F,b⟩:=M
 exact ⟨l7 (L2.JE mk F (hr.mono hk) hg hm b .nil B.pass ha.run hdb he hpl) (yG B)⟩
theorem k6 {C:Addr} {k k':Nat} {ps:List Str} {sp:cA} (M:vT X.prog X.w X.K X.mg X.base C k x ps sp) (B:Dv X G E2 E) (hr:bV k' X.A) (hk:k + 1≤k':=by decide) (hg:Gl X x:=by rfl)
  (hdb:(x == ("__debug__":Str))=false:=by decide):RE X G (.Call (.Name x p) [] [] pos) (JV C sp E2 uG):=by
 obtain ⟨hm,f,fd,mk,F,b⟩:=M
 refine ⟨l7 (L2.GO mk F (hr.mono hk) hg hm b .nil B.pass hdb) λσ H Q h=>?_⟩
 obtain ⟨τ,J,Q2,a2,h1,k1⟩:=yG (t:=uG) B σ H Q h
 exact k1 [] J [] H rfl a2.hp .refl h1
end
section
variable {X:Cx} {G:G2} {st:Stmt} {rest:List Stmt} {t u:iM} {e tg o value:Expr} {es:List Expr} {te ta tv:dz} {tc:mI} {pos pos':Pos}
def sH:iM:=λD τ J=>D.nx τ J
def bZ (t u:iM):iM:=λD τ J=>t { D with nx:=u D } τ J
theorem aK:RB X G [] sH:=⟨Sx L2.f_ λD σ H ⟨τ,J,D2,a2,h,g⟩=>g.nx τ J σ H a2.sl a2.hp .refl h⟩
theorem ai (h1:RS X G st t) (h2:RB X G rest u):RB X G (st :: rest) (bZ t u):=⟨Sx (L2.a_ h1.run h2.run) λD σ H ⟨τ,J,D2,a2,h,g⟩=>⟨τ,J,{ D2 with nx:=u D2 },a2,h,
 { nx:=λτ' J' σ' H' rs rr ee q=>⟨τ',J',D2,⟨rs,rr,a2.ext.trans ee⟩,q,g.ext ee⟩,rt:=g.rt,bk:=g.bk,ct:=g.ct }⟩⟩
theorem aq (h1:RS X G st t):RB X G [st] t:=⟨L2.bN h1.run⟩
def G7 (t u:iM):iM:=λD τ J=>∃M:Sr→Hq→Prop,t { D with nx:=M } τ J∧∀τ' J',M τ' J'→u D τ' J'
theorem ed (h1:RS X G st t) (h2:RB X G rest u):RB X G (st :: rest) (G7 t u):=⟨Sx (L2.a_ h1.run h2.run) λD σ H ⟨τ,J,D2,a2,⟨M,h,hm⟩,g⟩=>⟨τ,J,{ D2 with nx:=M },a2,h,
 { nx:=λτ' J' σ' H' rs rr ee q=>⟨τ',J',D2,⟨rs,rr,a2.ext.trans ee⟩,hm _ _ q,g.ext ee⟩,rt:=g.rt,bk:=g.bk,ct:=g.ct }⟩⟩
def SH:iM:=λD τ J=>D.bk τ J
def SI:iM:=λD τ J=>D.ct τ J
def CD (te:dz):iM:=λD τ J=>te τ J λ_ J1=>D.nx τ J1
theorem bt (he:RE X G e te) (hs:swapsWith e none pos.line X.env=pure false:=by rfl):RS X G (.Expr e pos) (CD te):=⟨zN (L2.lS he.run hs) λD σ H ⟨τ,J,D2,a2,h,g⟩ =>
 ⟨τ,J,_,a2,h,λx J' v H' rx rr ee q=>g.nx τ J' σ H' (a2.sl.ext ee) rr ee q⟩⟩
def Qn (te:dz):iM:=λD τ J=>te τ J D.rt
theorem aA (he:RE X G e te):RS X G (.Return (some e) pos) (Qn te):=⟨zN (L2.dY he.run) λD σ H ⟨τ,J,D2,a2,h,g⟩=>⟨τ,J,_,a2,h,λx J' v H' rx rr ee q=>g.rt x J' v H' rx rr ee q⟩⟩
def LB:iM:=λD _ J=>D.rt .non J
theorem Kb:RS X G (.Return none pos) LB:=⟨zN L2.wU λD σ H ⟨τ,J,D2,a2,h,g⟩=>g.rt .non J .non H rfl a2.hp .refl h⟩
def Bh (c:mI) (t u:iM):iM:=λD τ J=>c τ J λb J1=>if b=true then t D τ J1 else u D τ J1
theorem aX {c:Expr} {a b:List Stmt} (hc:RT X G c tc) (ha:RB X G a t) (hb:RB X G b u):RS X G (.If c a b pos) (Bh tc t u):=⟨zN (L2.ot hc.run ha.run hb.run) λD σ H ⟨τ,J,D2,a2,h,g⟩ =>
 ⟨τ,J,_,a2,h,λc J' H' rr ee q=>by
  cases c with
  | true=>simp only [if_true] at q ⊢;exact ⟨τ,J',D2,a2.go rr ee,q,g.ext ee⟩
  | false=>simp only [UK,if_false] at q ⊢;exact ⟨τ,J',D2,a2.go rr ee,q,g.ext ee⟩⟩⟩
abbrev Ak:=PV→Sr→Hq→(Sr→Hq→Prop)→Prop
abbrev ye:=List PV→Sr→Hq→(Sr→Hq→Prop)→Prop
def LG (K:PySem.W.Frag) (G:G2) (t:Ak):TG:=λv σ H Q=>∃x τ J Q2,cE K J H x v∧xX K G τ J σ H∧t x τ J Q2∧∀τ' J' σ' H',mH K J' H' τ' σ'→Rep K J' H'→Ext K J H J' H'→Q2 τ' J'→Q σ' H'
def T9 (K:PySem.W.Frag) (G:G2) (t:ye):qF:=λvs σ H Q=>∃xs τ J Q2,aU K J H xs vs∧xX K G τ J σ H∧t xs τ J Q2∧∀τ' J' σ' H',mH K J' H' τ' σ'→Rep K J' H'→Ext K J H J' H'→Q2 τ' J'→Q σ' H'
structure RG (X:Cx) (G:G2) (e:Expr) (t:Ak):Prop where
 run:L2.PG X e (LG X.K G t)
structure Q7 (X:Cx) (G:G2) (es:List Expr) (t:ye):Prop where
 run:L2.KN X es (T9 X.K G t)
theorem Sy {X:Cx} {e:Expr} {t t':TG} (h:L2.PG X e t) (k:∀v σ H Q,t' v σ H Q→t v σ H Q):L2.PG X e t':=λpins s σ H v u Q I r q=>h pins s σ H v u Q I r (k _ _ _ _ q)
theorem PR {X:Cx} {e:List Expr} {t t':qF} (h:L2.KN X e t) (k:∀v σ H Q,t' v σ H Q→t v σ H Q):L2.KN X e t':=λpins s σ H v u Q I r q=>h pins s σ H v u Q I r (k _ _ _ _ q)
def IK (i:Nat):Ak:=λx τ J Q=>Q (τ.set i (some x)) J
theorem bC {i:Nat} {x:Str} (hN:X.N.Nodup) (hi:X.N[i]?=some x:=by rfl) (hx:Loc X.env.scope x:=by first | exact .inl rfl | exact .inr rfl) (hf:X.fn x=true∨X.env.scope.names.lookup x=some .local:=by first | exact .inl rfl | exact .inr rfl | assumption):RG X G (.Name x pos) (IK i) :=
 ⟨Sy (L2.lQ hN hi hx hf) λv σ H Q ⟨x,τ,J,Q2,rx,a2,q,k⟩=>k _ J _ H (a2.sl.set i rx) a2.hp .refl q⟩
def Tx:ye:=λvs τ J Q=>Su vs (Q τ J)
def Tw (t:Ak) (u:ye):ye:=λvs τ J Q=>M' vs λv r=>t v τ J λτ' J'=>u r τ' J' Q
theorem lU:Q7 X G [] Tx:=⟨PR L2.wN λvs σ H Q ⟨xs,τ,J,Q2,rs,a2,hh,k⟩=>by obtain ⟨e,q⟩:=Nc hh;subst e;exact ⟨rs,k τ J σ H a2.sl a2.hp .refl q⟩⟩
theorem cx {e:Expr} {es:List Expr} {t:Ak} {u:ye} (h1:RG X G e t) (h2:Q7 X G es u)
  (hs:(assignEach (e :: es) X.env).map (·.2)=assign e X.env :: (assignEach es X.env).map (·.2):=by rfl):Q7 X G (e :: es) (Tw t u):=⟨PR (L2.sC h1.run h2.run hs) λvs σ H Q ⟨xs,τ,J,Q2,rs,a2,hh,k⟩=>by
 obtain ⟨y,r,e,q⟩:=Jr hh
 subst e
 obtain ⟨v,us,rfl,rv,ru⟩:=rs
 exact ⟨v,us,rfl,y,τ,J,_,rv,a2,q,λτ' J' σ' H' rs' rr ee q'=>⟨r,τ',J',Q2,ee.jG ru,⟨rs',rr,a2.ext.trans ee⟩,q',λτ2 J2 σ2 H2 rs2 rr2 ee2 q2=>k τ2 J2 σ2 H2 rs2 rr2 (ee.trans ee2) q2⟩⟩⟩
def Tz (n:Nat) (t:ye):Ak:=λx τ J Q=>Ot x λxs=>xs.length=n∧t xs τ J Q
theorem pE {k:Nat} {t:ye} {n:Nat} (hc:X.calm=true) (h:Q7 X G es t)
  (hn:(assignEach es X.env).length=n:=by rfl) (hst:(assignEach es X.env).findIdx? (·.1)=none:=by rfl):RG X G (.Tuple es k pos) (Tz n t):=⟨Sy (L2.A9 hc h.run hn hst) λv σ H Q ⟨x,τ,J,Q2,rx,a2,hh,k⟩=>by
 obtain ⟨xs,e,l,q⟩:=GC hh
 subst e
 obtain ⟨a,vs,rfl,h1,h2⟩:=rx
 exact ⟨a,vs,rfl,h1,by rw [← h2.length];exact l,xs,τ,J,Q2,h2,a2,q,k⟩⟩
def uF (te:dz) (g:Ak):iM:=λD τ J=>te τ J λx J1=>g x τ J1 D.nx
theorem sL {tg e:Expr} {g:Ak} (he:RE X G e te) (hg:RG X G tg g) (hs:swapsWithSole [tg] e pos.line X.env=pure false:=by rfl) (hw:swappedStores [tg] e X.env=pure none:=by rfl)
  (h1:(assignEach [tg] X.env).map (·.2)=[assign tg X.env]:=by rfl):RS X G (.Assign [tg] e pos) (uF te g):=⟨zN (L2.wR he.run hg.run hs hw h1) λD σ H ⟨τ,J,D2,a2,h,g⟩ =>
 ⟨τ,J,_,a2,h,λx J' v H' rx rr ee q=>⟨x,τ,J',_,rx,a2.go rr ee,q,λτ' J2 σ' H2 rs r2 e2 q2=>g.nx τ' J2 σ' H2 rs r2 (ee.trans e2) q2⟩⟩⟩
theorem aE {i:Nat} {x:Str} {pos':Pos} (hN:X.N.Nodup) (he:RE X G e te) (hi:X.N[i]?=some x:=by rfl) (hx:Loc X.env.scope x:=by first | exact .inl rfl | exact .inr rfl) (hs:swapsWith e (some (.Name x pos')) pos.line X.env=pure false:=by rfl) (hf:X.fn x=true∨X.env.scope.names.lookup x=some .local:=by first | exact .inl rfl | exact .inr rfl | assumption) :
  RS X G (.Assign [.Name x pos'] e pos) (uF te (IK i)):=⟨zN (L2.cV hN hi hx he.run hs hf) λD σ H ⟨τ,J,D2,a2,h,g⟩ =>
 ⟨τ,J,_,a2,h,λx J' v H' rx rr ee q=>g.nx _ J' _ H' ((a2.sl.ext ee).set i rx) rr ee q⟩⟩
def Ql (i j:Nat) (ta:pW):iM:=λD τ J=>ta τ J λvs J1=>Nd vs λv w=>D.nx ((τ.set i (some v)).set j (some w)) J1
theorem NN {i j:Nat} {x y:Str} {a b:Expr} {ta:pW} {px py pt:Pos} {kt k2 pt2} (hc:X.calm=true) (hN:X.N.Nodup) (hi:X.N[i]?=some x) (hj:X.N[j]?=some y) (hij:i≠j)
  (hx:X.env.scope.names.lookup x=some .local) (hy:X.env.scope.names.lookup y=some .local) (ha:RA X G [a,b] ta)
  (hw:swappedStores [.Tuple [.Name x px,.Name y py] kt pt] (.Tuple [a,b] k2 pt2) X.env=pure (some [x,y]))
  (hs:swapsWithSole [.Tuple [.Name x px,.Name y py] kt pt] (.Tuple [a,b] k2 pt2) pos.line X.env=pure false:=by rfl) :
  RS X G (.Assign [.Tuple [.Name x px,.Name y py] kt pt] (.Tuple [a,b] k2 pt2) pos) (Ql i j ta):=⟨zN (L2.pz hc hN hi hj hij hx hy ha.run hw hs) λD σ H ⟨τ,J,D2,a2,h,g⟩ =>
 ⟨τ,J,_,a2,h,λxs J' vs H' rs rr ee hh=>by
  obtain ⟨v,w,e,q⟩:=AY hh
  subst e
  obtain ⟨v',us,rfl,rv,w',us',rfl,rw',e'⟩:=rs
  cases e'
  exact ⟨v',w',rfl,g.nx _ J' _ H' (((a2.sl.ext ee).set i rv).set j rw') rr ee q⟩⟩⟩
def kY (f:Str) (v:PV):List (Str × PV)→List (Str × PV)
 | []=>[(f,v)]
 | (g,w) :: r=>if g=f then (g,v) :: r else (g,w) :: kY f v r
theorem zd {K:PySem.W.Frag} {J:Hq} {H:Hp} {f:Str} {y:PV} {v:V} (r:cE K J H y v):∀{fs:List (Str × PV)} {gs:List (Str × V)},mG K J H fs gs→mG K J H (kY f y fs) (fh f v gs)
 | [],[],_=>⟨rfl,v,[],rfl,r,rfl⟩
 | [],_ :: _,h=>by cases h.1
 | _ :: _,[],h=>by cases h.1
 | (k,y') :: fs,(k',w) :: gs,h=>by
  obtain ⟨h1,v',us,h2,h3,h4⟩:=h
  simp only [UB,List.cons.injEq] at h1 h2
  obtain ⟨rfl,h1⟩:=h1
  obtain ⟨rfl,rfl⟩:=h2
  unfold kY L2.fh
  by_cases hk:k=f
  ·rw [if_pos hk,if_pos hk]
   exact ⟨by simp only [UB,h1],v,_,rfl,r,h4⟩
  ·rw [if_neg hk,if_neg hk]
   obtain ⟨z1,z2⟩:=zd (f:=f) r (⟨h1,h4⟩:mG K J H fs gs)
   exact ⟨by simp only [UB,z1],w,_,rfl,h3,z2⟩
def Lu (C:Addr) (ta tv:dz) (f:Str):iM:=λD τ J=>tv τ J λy J1=>ta τ J1 λx J2=>Cm x λa=>M_ C (J2 a) λfs=>fs.length < 1000∧D.nx τ (put J2 a (.ins C (kY f y fs)))
theorem Ext.N9 {K:PySem.W.Frag} {J:Hq} {H:Hp} {p C dx:Addr} {fs gs:List (Str × PV)} {fs' gs':List (Str × V)} (h:J p=some (.ins C fs)) (k:H p=some (.ins C dx fs')):Ext K J H (put J p (.ins C gs)) (upd H p (.ins C dx gs')):=by
 have sm:∀a u,a≠p→Rd H a u→Rd (upd H p (.ins C dx gs')) a u:=λa u ne z=>by
  rcases z with z | ⟨o,z⟩
  ·exact .inl (by rw [aM ne];exact z)
  ·exact .inr ⟨o,by rw [aM ne];exact z⟩
 have nn:∀a u,(∀c d l,u≠HO.ins c d l)→Rd H a u→a≠p:=λa u d z e=>by
  subst e
  rcases z with z | ⟨o,z⟩
  ·rw [k] at z;cases z;exact d _ _ _ rfl
  ·rw [k] at z;cases z
 refine ⟨λa vs' z=>?_,λa o z q _=>?_⟩
 ·rcases z with z | z
  ·exact .inl (sm a _ (nn a (.tup vs') (λ_ _ _ e=>nomatch e) z) z)
  ·exact .inr z
 ·have ne:a≠p:=by intro e;subst e;rw [h] at z;cases z
  exact ⟨by rw [ak ne];exact z,by rw [aM ne];exact q⟩
theorem eD {C:Addr} {f:Str} (cl:qj X.K C) (na:aH X.K C f) (ha:RE X G o ta) (hv:RE X G value tv) (hs:swapsWith value (some (.Attribute o f pos')) pos.line X.env=pure false:=by rfl):RS X G (.Assign [.Attribute o f pos'] value pos) (Lu C ta tv f) :=
 ⟨zN (L2.Nx ha.run hv.run hs) λD σ H ⟨τ,J,D2,a2,h,g⟩=>⟨τ,J,_,a2,h,λy J1 v H1 ry r1 e1 q1=>⟨τ,J1,_,a2.go r1 e1,q1,λx J2 w H2 rx r2 e2 hh=>by
  obtain ⟨a,ex,hh⟩:=gE hh;obtain ⟨fs,ja,hl,q2⟩:=AX hh
  subst ex;cases rx
  obtain ⟨dx,gs,h2,rf⟩:=r2 _ _ ja
  have ll:gs.length=fs.length:=by have:=congrArg Vl rf.1;simpa using this.symm
  have e3:=Ext.N9 (K:=X.K) (gs:=kY f y fs) (gs':=fh f v gs) ja h2
  refine ⟨a,C,dx,gs,rfl,h2,cl,na,by omega,g.nx τ _ σ _ (((a2.sl.ext e1).ext e2).ext e3) ?_ ((e1.trans e2).trans e3) q2⟩
  refine r2.BF e3 a (λb ne=>ak ne) (λb o ne _ z=>by rw [aM ne];exact z) λu z=>?_
  rw [ar] at z;cases z
  exact ⟨dx,_,aG,e3.xb (zd (e2.rep ry) rf)⟩⟩⟩⟩
def G9 (c:mI) (tb:iM):iM:=λD τ J=>∃W:Nat→Sr→Hq→Prop,(∃m,W m τ J)∧∀m τ J,W m τ J →
 c τ J λb J1=>if b=true then ∃N:Sr→Hq→Prop,(∀τ' J',N τ' J'→∃m',m' < m∧W m' τ' J')∧tb { D with nx:=N,ct:=N,bk:=D.nx } τ J1 else D.nx τ J1
theorem k9 {c:Expr} {body:List Stmt} {tb:iM} (hp:PassesOwn (model X.prog X.w) X.A X.env X.xe) (hc:RT X G c tc) (hb:RB X G body tb):RS X G (.While c body [] pos) (G9 tc tb):=⟨zN (L2.kX hp hc.run hb.run) λD σ H ⟨τ,J,D2,a2,⟨W,⟨m0,w0⟩,h⟩,g⟩=>by
 refine ⟨λm σ' H'=>∃τ' J',xX X.K G τ' J' σ' H'∧Ext X.K J H J' H'∧W m τ' J',⟨m0,τ,J,a2,.refl,w0⟩,λm σ1 H1 ⟨τ1,J1,a1,e1,w1⟩=>?_⟩
 refine ⟨τ1,J1,_,a1,h m τ1 J1 w1,λb J2 H2 r2 e2 q=>?_⟩
 cases b with
 | false=>simp only [UK,if_false] at q ⊢;exact g.nx τ1 J2 σ1 H2 (a1.sl.ext e2) r2 (e1.trans e2) q
 | true =>
  simp only [if_true] at q ⊢
  obtain ⟨N,hN,q⟩:=q
  refine ⟨λσ' H'=>∃τ' J',xX X.K G τ' J' σ' H'∧Ext X.K J H J' H'∧N τ' J',λσ' H' ⟨τ',J',a',e',n'⟩=>let ⟨m',lt,w'⟩:=hN τ' J' n';⟨m',lt,τ',J',a',e',w'⟩,τ1,J2,{ D2 with nx:=N,ct:=N,bk:=D2.nx },a1.go r2 e2,q,?_⟩
  have ge:=g.ext (e1.trans e2)
  exact { nx:=λτ' J' σ' H' rs rr ee q=>⟨τ',J',⟨rs,rr,(a1.ext.trans e2).trans ee⟩,(e1.trans e2).trans ee,q⟩,rt:=ge.rt,bk:=ge.nx,ct:=λτ' J' σ' H' rs rr ee q=>⟨τ',J',⟨rs,rr,(a1.ext.trans e2).trans ee⟩,(e1.trans e2).trans ee,q⟩ }⟩
structure Ab where
 xs:List PV
 ok:Hq→Prop
structure uP (K:PySem.W.Frag) (it:Ab) (I:It) (J:Hq) (H:Hp):Prop where
 go:∀J' H',Ext K J H J' H'→Rep K J' H'→it.ok J'→∀i,i < it.xs.length→I.go i H'
 yl:∀J' H',Ext K J H J' H'→Rep K J' H'→it.ok J'→∀i,i < it.xs.length→∀v H2,I.yld i H' v H2→∃x,it.xs[i]?=some x∧cE K J' H2 x v∧Rep K J' H2∧Ext K J' H' J' H2
 stop:∀J' H',Ext K J H J' H'→Rep K J' H'→it.ok J'→I.stop it.xs.length H'
abbrev ug:=Sr→Hq→(Ab→Hq→Prop)→Prop
def LI (K:PySem.W.Frag) (G:G2) (t:ug):TI:=λσ H R=>∃τ J R2,xX K G τ J σ H∧t τ J R2∧∀it J' I H',uP K it I J' H'→Rep K J' H'→Ext K J H J' H'→R2 it J'→R I H'
structure RI (X:Cx) (G:G2) (tg e:Expr) (t:ug):Prop where
 run:L2.PI X tg e (LI X.K G t)
theorem PU {X:Cx} {tg e:Expr} {t t':TI} (h:L2.PI X tg e t) (k:∀σ H Q,t' σ H Q→t σ H Q):L2.PI X tg e t':=λpins s σ H Q I q=>h pins s σ H Q I (k _ _ _ q)
def Qc (wi:ug) (g:Ak) (tb:iM):iM:=λD τ J=>wi τ J λit J1=>∃Pv:Nat→Sr→Hq→Prop,Pv 0 τ J1∧(∀i τ J,Pv i τ J→it.ok J) ∧
 (∀i x τ J,it.xs[i]?=some x→Pv i τ J→g x τ J λτ2 J2=>tb { D with nx:=Pv (i + 1),ct:=Pv (i + 1),bk:=D.nx } τ2 J2)∧∀τ J,Pv it.xs.length τ J→D.nx τ J
theorem eE {iter:Expr} {body:List Stmt} {wi:ug} {g:Ak} {tb:iM} {pos:Pos} (hp:PassesOwn (model X.prog X.w) X.A X.env X.xe) (hc:X.calm=true) (hi:RI X G tg iter wi) (hg:RG X G tg g) (hb:RB X G body tb)
  (hs:∀x,foldedSetIterable iter X.env x=pure x:=by intro _;rfl):RS X G (.For tg iter body [] pos) (Qc wi g tb):=⟨zN (L2.pw hp hc hi.run hg.run hb.run hs) λD σ H ⟨τ,J,D2,a2,h,g⟩=>by
 refine ⟨τ,J,_,a2,h,λit J1 I H1 ir r1 e1 ⟨Pv,p0,pok,step,fin⟩=>?_⟩
 refine ⟨λi m σ' H'=>m=it.xs.length - i∧i≤it.xs.length∧∃τ' J',xX X.K G τ' J' σ' H'∧Ext X.K J1 H1 J' H'∧Pv i τ' J',⟨_,rfl,UZ _,τ,J1,a2.go r1 e1,.refl,p0⟩,?_⟩
 rintro i m σ2 H2 ⟨rfl,hil,τ2,J2,a3,e3,p3⟩
 by_cases hlt:i < it.xs.length
 ·refine .inr ⟨ir.go J2 H2 e3 a3.hp (pok _ _ _ p3) i hlt,λσ' H'=>∃τ' J',xX X.K G τ' J' σ' H'∧Ext X.K J1 H1 J' H'∧Pv (i + 1) τ' J',λσ' H' z=>⟨_,by omega,rfl,hlt,z⟩,λv H4 y=>?_⟩
  obtain ⟨x,ex,rx,r4,e4⟩:=ir.yl J2 H2 e3 a3.hp (pok _ _ _ p3) i hlt v H4 y
  refine ⟨x,τ2,J2,_,rx,a3.go r4 e4,step i x τ2 J2 ex p3,λτ5 J5 σ5 H5 rs5 r5 e5 q5=>?_⟩
  have ae:=(a3.ext.trans e4).trans e5
  have ge:=g.ext (((e1.trans e3).trans e4).trans e5)
  refine ⟨τ5,J5,{ D2 with nx:=Pv (i + 1),ct:=Pv (i + 1),bk:=D2.nx },⟨rs5,r5,ae⟩,q5,?_⟩
  exact { nx:=λτ' J' σ' H' rs rr ee q=>⟨τ',J',⟨rs,rr,ae.trans ee⟩,((e3.trans e4).trans e5).trans ee,q⟩,rt:=ge.rt,bk:=ge.nx,ct:=λτ' J' σ' H' rs rr ee q=>⟨τ',J',⟨rs,rr,ae.trans ee⟩,((e3.trans e4).trans e5).trans ee,q⟩ }
 ·have ei:i=it.xs.length:=by omega
  subst ei
  exact .inl ⟨ir.stop J2 H2 e3 a3.hp (pok _ _ _ p3),g.nx τ2 J2 σ2 H2 a3.sl a3.hp (e1.trans e3) (fin _ _ p3)⟩⟩
def Rb (J:Hq):PV→Option Ab
 | .fl xs=>some ⟨xs,λ_=>True⟩
 | .ref a=>match J a with
  | some (.lst xs)=>some ⟨xs,λJ'=>J' a=some (.lst xs)⟩
  | _=>none
 | _=>none
def TF (te:dz):ug:=λτ J R=>te τ J λx J1=>wJ (Rb J1 x) λit=>R it J1
theorem uP.list {K:PySem.W.Frag} {it:Ab} {a:Addr} {J:Hq} {H:Hp} (h:∀J' H',Ext K J H J' H'→Rep K J' H'→it.ok J'→∃vs,cZ K H' a vs∧aU K J' H' it.xs vs):uP K it (L2.Im K a) J H where
 go:=λJ' H' e r o i hi=>by
  obtain ⟨vs,s,rs⟩:=h J' H' e r o
  exact ⟨vs,vs[i]'(by rw [← rs.length];exact hi),s,by simp⟩
 yl:=λJ' H' e r o i hi v H2 y=>by
  obtain ⟨vs,s,rs⟩:=h J' H' e r o
  obtain ⟨e1,y⟩:=y
  subst e1
  obtain ⟨x,ex,rx⟩:=rs.get' (y vs s)
  exact ⟨x,ex,rx,r,.refl⟩
 stop:=λJ' H' e r o=>by
  obtain ⟨vs,s,rs⟩:=h J' H' e r o
  exact ⟨vs,s,by rw [rs.length];exact Ux _⟩
theorem dQ {l:Expr} {tl:dz} (hl:RE X G l tl):RI X G tg l (TF tl):=⟨PU (L2.n9 hl.run) λσ H R ⟨τ,J,R2,a2,h,k⟩=>⟨τ,J,_,a2,h,λx J1 v H1 rx r1 e1 hh=>by
 obtain ⟨it,ei,q⟩:=eV hh
 cases x with
 | fl xs =>
  obtain ⟨a,vs,rfl,h1,h2⟩:=rx
  cases ei
  refine ⟨a,rfl,⟨vs,h1.sq⟩,k _ J1 _ H1 (.list λJ' H' e r _=>⟨vs,(e.flat h1).sq,e.jG h2⟩) r1 e1 q⟩
 | ref a =>
  cases rx
  unfold Rb at ei
  dsimp only at ei
  cases ej:J1 a with
  | none=>rw [ej] at ei;cases ei
  | some o =>
   rw [ej] at ei
   cases o with
   | lst xs =>
    cases ei
    obtain ⟨vs,h1,h2⟩:=r1 _ _ ej
    refine ⟨a,rfl,⟨vs,.inl (.inl h1)⟩,k _ J1 _ H1 (.list λJ' H' e r o=>?_) r1 e1 q⟩
    obtain ⟨vs',h1',h2'⟩:=r _ _ o
    exact ⟨vs',.inl (.inl h1'),h2'⟩
   | _=>cases ei
 | _=>cases ei⟩⟩
def Ue (te:dz):ug:=λτ J R=>te τ J λx J1=>Ot x λxs=>R ⟨xs,λ_=>True⟩ J1
def o6 (lo:Int) (n:Nat):List PV:=(Vb n).map λ(i:Nat)=>PV.int (lo + (i:Int))
theorem fE (lo:Int) (n:Nat):(o6 lo n).length=n:=by simp [o6]
theorem nW (lo:Int) (n i:Nat) (x:PV):(o6 lo n)[i]?=some x↔i < n∧x=.int (lo + i):=by
 unfold o6
 rw [Uz]
 by_cases h:i < n
 ·rw [WA h];simp [h,eq_comm]
 ·rw [U6 (by simpa using h)];simp [h]
theorem uP.Ow {K:PySem.W.Frag} {J:Hq} {H:Hp} (lo:Int) (n:Nat):uP K ⟨o6 lo n,λ_=>True⟩ (L2.E3 lo n) J H where
 go:=λJ' H' e r o i hi=>by
  show i < n
  simpa [fE] using hi
 yl:=λJ' H' e r o i hi v H2 y=>by
  obtain ⟨e1,y⟩:=y
  subst e1 y
  exact ⟨.int (lo + i),(nW lo n i _).mpr ⟨by simpa [fE] using hi,rfl⟩,rfl,r,.refl⟩
 stop:=λJ' H' e r o=>by
  show n≤(o6 lo n).length
  rw [fE];exact Ux _
def TH (ta:pW):ug:=λτ J R=>ta τ J λvs J1=>Ck vs λx=>ER x λj=>-(2 ^ 62)≤j∧j < 2 ^ 62∧R ⟨o6 0 j.toNat,λ_=>True⟩ J1
def Ud (ta:pW):ug:=λτ J R=>ta τ J λvs J1=>Nd vs λx y=>ER x λi=>ER y λj=>(-(2 ^ 62)≤i∧i < 2 ^ 62∧-(2 ^ 62)≤j∧j < 2 ^ 62)∧R ⟨o6 i (j - i).toNat,λ_=>True⟩ J1
theorem gi {a:Expr} {ta:pW} {p pos:Pos} (hg:Gl X "range") (hm:X.mg "range"=none) (ha:RA X G [a] ta) (hs:starEach [a] X.env=[(false,eval a X.env)]:=by rfl):RI X G tg (.Call (.Name "range" p) [a] [] pos) (TH ta) :=
 ⟨PU (L2.gh hg hm ha.run hs) λσ H R ⟨τ,J,R2,a2,h,k⟩=>⟨τ,J,_,a2,h,λxs J1 vs H1 rs r1 e1 hh=>by
  obtain ⟨x,ex,hh⟩:=jw hh;obtain ⟨j,ej,l1,l2,q⟩:=ij hh;subst ej ex
  obtain ⟨v,us,rfl,rv,e'⟩:=rs
  cases rv;cases e'
  exact ⟨j,rfl,l1,l2,k _ J1 _ H1 (.Ow 0 _) r1 e1 q⟩⟩⟩
def fS (C:Addr) (E2:Addr→Hq→Prop) (t:pW):iM:=λ_ τ J=>t τ J λxs J1=>xs.length≤sizeLine∧E2 C J1
theorem d6 {E:XK} {E2:Addr→Hq→Prop} {C:Addr} {x:Str} {t:pW} {np cpos:Pos} (O:Own X.K X.mg x C) (hc:X.calm=true) (hx:Throws X E) (kn:KL X.K G.1 G.2 E2 E) (hg:Gl X x) (ha:RA X G (e :: es) t)
  (hd:(x == ("__debug__":Str))=false:=by decide) (he:starEach (e :: es) X.env=(false,eval e X.env) :: starEach es X.env:=by rfl) (hpl:(backTo cpos (starEach es X.env)).any (·.1)=false:=by rfl) :
  RS X G (.Raise (some (.Call (.Name x np) (e :: es) [] cpos)) none pos) (fS C E2 t):=⟨zN (Ew O hc hx hg ha.run hd he hpl) λD σ H ⟨τ,J,D2,a2,h,g⟩ =>
 ⟨τ,J,_,a2,h,λxs J1 vs H1 rs r1 e1 ⟨hl,q⟩=>⟨by rw [← rs.length];exact hl,kn C J1 H1 r1 (a2.ext.trans e1) q⟩⟩⟩
end
section
variable {P:Program} {w:World} {K:PySem.W.Frag} {mg:Str→Option Value} {base:Heap}
section
variable {α β:Type} {a b:α} {l m:List α} {i:Nat} {f:α→β} {c:Bool}
theorem Od:VQ f (a :: l)=f a :: VQ f l:=rfl
theorem Oe:VQ f []=[]:=rfl
theorem Ob:(a :: l).length=l.length + 1:=rfl
theorem Oc:([]:List α).length=0:=rfl
theorem N':(a :: l) ++ m=a :: (l ++ m):=rfl
theorem Oa:[] ++ m=m:=rfl
theorem S8:(a :: l)[0]?=some a:=rfl
theorem S9:(a :: l)[i + 1]?=l[i]?:=rfl
theorem Tf:(a :: l).set 0 b=b :: l:=rfl
theorem Tg:(a :: l).set (i + 1) b=a :: l.set i b:=rfl
theorem Tc:Option.map f (some a)=some (f a):=rfl
theorem Tb:(some a).getD b=a:=rfl
theorem Ta:(!true)=false:=rfl
theorem S_:(!false)=true:=rfl
theorem Th:(true && c)=c:=rfl
theorem S7:(false && c)=false:=rfl
theorem Td:Vn 0 a=[]:=rfl
theorem Te:Vn (i + 1) a=a :: Vn i a:=rfl
theorem Q3:(a :: l).isEmpty=false:=rfl
theorem Q4:([]:List α).isEmpty=true:=rfl
end
def xQ (N:List Str) (xs:List PV):Sr:=xs.map some ++ Vn (N.length - xs.length) none
theorem Hw {J:Hq} {H:Hp} {N:List Str} {xs:List PV} {vs:List V} (r:aU K J H xs vs):mH K J H (xQ N xs) (L2.start N vs):=by
 refine ⟨by simp [xQ,L2.start,r.length],λi x e=>?_⟩
 unfold xQ at e
 unfold L2.start
 by_cases hi:i < xs.length
 ·rw [Vx (by simpa using hi),Uz] at e
  cases ex:xs[i]? with
  | none=>rw [ex] at e;cases e
  | some y =>
   rw [ex] at e
   cases e
   obtain ⟨v,h1,h2⟩:=r.get ex
   exact ⟨v,by rw [Vx (by rw [Us,← r.length];exact hi),Uz,h1];rfl,h2⟩
 ·rw [Vs (by simpa using hi)] at e
  have:=Uw e
  rw [List.mem_replicate] at this
  cases this.2
theorem So {x qual:Str} {st:Stmt} {f:Addr} {fd:FuncData} {N ps:List Str} {k:Nat} {sp:cA} (F:cb K x qual st f fd) (S:aw N ps (L2.aj st)) (len:∀xs J Q E,sp xs J Q E→xs.length=ps.length)
  (hbody:∀(cdv:Value) (A:Around) (outer:List Env) (s:Shared) (H:Hp) (E:XK) (G:G2) (xs:List PV) (J:Hq) (Q:PV→Hq→Prop) (E2:Addr→Hq→Prop),bV k (A.deeper (envOfC qual (L2.aj st) s.heap.objs.size f cdv))→sp xs J Q E2 →
   Dv (zM P w K mg base N qual (L2.aj st) f cdv A outer s H E) G E2 E →
   ∃t,RB (zM P w K mg base N qual (L2.aj st) f cdv A outer s H E) G (L2.bX st) t∧t { nx:=λ_ J'=>Q .non J',rt:=Q } (xQ N xs) J):aQ P w K mg base (cP P w) (k + 1) f fd ps (dn K sp):=by
 refine Um F S (λvs H Q E ⟨xs,J,Q2,E2,a,_,b,_⟩=>by rw [← a.length];exact len _ _ _ _ b) λcdv A outer s H vs Q E hr ⟨xs,J,Q2,E2,rs,rr,hs,kn,ke⟩=>?_
 obtain ⟨t,hb,q⟩:=hbody cdv A outer s H E (J,H) xs J Q2 E2 hr hs ⟨Av,ke⟩
 refine ⟨_,⟨hb.run⟩,xQ N xs,J,_,⟨Hw rs,rr,.refl⟩,q,?_⟩
 exact { nx:=λτ J' σ H' _ r e q=>kn .non J' .non H' rfl r e q,rt:=λx J' v H' rx r e q=>kn x J' v H' rx r e q,bk:=λ_ _ _ _ _ _ _ q=>q.elim,ct:=λ_ _ _ _ _ _ _ q=>q.elim }
theorem Ul {x qual:Str} {st:Stmt} {f:Addr} {fd:FuncData} {N ps:List Str} {k:Nat} {sp:cA} {t:(Addr→Hq→Prop)→iM} (F:cb K x qual st f fd) (S:aw N ps (L2.aj st)) (len:∀xs J Q E,sp xs J Q E→xs.length=ps.length)
  (rd:∀(cdv:Value) (A:Around) (outer:List Env) (s:Shared) (H:Hp) (E:XK) (G:G2) (E2:Addr→Hq→Prop),bV k (A.deeper (envOfC qual (L2.aj st) s.heap.objs.size f cdv)) →
   Dv (zM P w K mg base N qual (L2.aj st) f cdv A outer s H E) G E2 E→RB (zM P w K mg base N qual (L2.aj st) f cdv A outer s H E) G (L2.bX st) (t E2))
  (run:∀(xs:List PV) (J:Hq) (Q:PV→Hq→Prop) (E2:Addr→Hq→Prop),sp xs J Q E2→∀X:Prop,(t E2 { nx:=λ_ J'=>Q .non J',rt:=Q } (xQ N xs) J→X)→X):aQ P w K mg base (cP P w) (k + 1) f fd ps (dn K sp) :=
 So F S len λcdv A outer s H E G xs J Q E2 hr h B=>⟨_,rd cdv A outer s H E G E2 hr B,run xs J Q E2 h _ id⟩
theorem _root_.Ov.Def.eu {x:Str} {st:Stmt} {k:Nat} {ps:List Str} {sp:cA} (D:Def K mg x st)
  (h:∀f fd,cb K x x st f fd→aQ P w K mg base (cP P w) k f fd ps (dn K sp))
  (hb:∀(kV doc pm:Value) (an:Option Addr) (cdv ct:Value) (us:List Value),us.length=ps.length→bindArgs (PySem.W.fnOf x x (L2.dt st) (L2.bX st) (L2.aj st) .none kV doc pm an cdv ct) ⟨us,[]⟩=pure (ps.zip us)) :
  bz P w K mg base k x ps sp:=D.RL h hb
end
section
variable {X:Cx} {K:PySem.W.Frag}
def G3 (g:Int→Int→PV):nG:=λx y J Q=>ER x λi=>ER y λj=>Q (g i j) J
def qI (C:Int→Int→Prop) (g:Int→Int→PV):nG:=λx y J Q=>ER x λi=>ER y λj=>C i j∧Q (g i j) J
theorem vh {g:Int→Int→V} {g':Int→Int→PV} (hg:∀J H i j,cE K J H (g' i j) (g i j)):LR K (L2.HW g) (G3 g'):=λJ H x y v w Q2 Q rx ry r h k=>by
 obtain ⟨i,ex,h⟩:=ij h;obtain ⟨j,ey,q⟩:=ij h
 subst ex ey;exact ⟨i,j,rx,ry,k _ J _ H (hg _ _ _ _) r .refl q⟩
theorem MZ {C:Int→Int→Prop} {g:Int→Int→V} {g':Int→Int→PV} (hg:∀J H i j,cE K J H (g' i j) (g i j)):LR K (L2.rI C g) (qI C g'):=λJ H x y v w Q2 Q rx ry r h k=>by
 obtain ⟨i,ex,h⟩:=ij h;obtain ⟨j,ey,c,q⟩:=ij h
 subst ex ey;exact ⟨i,j,rx,ry,c,k _ J _ H (hg _ _ _ _) r .refl q⟩
theorem cS:nv X (binaryOp .Add) (G3 λi j=>.int (i + j)):=⟨_,L2.jx,vh λ_ _ _ _=>rfl⟩
theorem eW:nv X (binaryOp .Sub) (G3 λi j=>.int (i - j)):=⟨_,L2.A2,vh λ_ _ _ _=>rfl⟩
theorem cF:nv X (binaryOp .Mult) (qI CM λi j=>.int (i * j)):=⟨_,cQ,MZ λ_ _ _ _=>rfl⟩
theorem qO:nv X (binaryOp .FloorDiv) (qI CQ λi j=>.int (i.fdiv j)):=⟨_,gF,MZ λ_ _ _ _=>rfl⟩
theorem fu:nv X (binaryOp .Mod) (qI (λ_ j=>0 < j) λi j=>.int (i % j)):=⟨_,L2.gG,MZ λ_ _ _ _=>rfl⟩
theorem gZ:nv X (compareOp .Lt) (G3 λi j=>.bl (decide (i < j))):=⟨_,L2.Cn,vh λ_ _ _ _=>rfl⟩
theorem Lg:nv X (compareOp .LtE) (G3 λi j=>.bl (decide (i≤j))):=⟨_,L2.Le,vh λ_ _ _ _=>rfl⟩
theorem n8:nv X (compareOp .Gt) (G3 λi j=>.bl (decide (j < i))):=⟨_,L2.Ld,vh λ_ _ _ _=>rfl⟩
theorem GH:nv X (compareOp .GtE) (G3 λi j=>.bl (decide (j≤i))):=⟨_,L2.Lc,vh λ_ _ _ _=>rfl⟩
def qU (g:Int→PV):OB:=λx J Q=>ER x λi=>Q (g i) J
theorem pU:Tt X (unaryOp .USub) (qU λi=>.int (-i)):=⟨_,L2.HK,λJ H x v Q2 Q rx r h k=>by obtain ⟨i,ex,q⟩:=ij h;subst ex;exact ⟨i,rx,k (.int (-i)) J _ H rfl r .refl q⟩⟩
def P4:nG:=λx y J Q=>Lb x λi=>Lb y λj=>Q (.bl (decide (i.cps.toList < j.cps.toList))) J
theorem A3:nv X (compareOp .Lt) P4:=⟨_,L2.Ek,λJ H x y v w Q2 Q rx ry r h k=>by obtain ⟨i,ex,h⟩:=ph h;obtain ⟨j,ey,q⟩:=ph h;subst ex ey;exact ⟨i,j,rx,ry,k (.bl _) J _ H rfl r .refl q⟩⟩
def FU:PV→Bool
 | .non=>true
 | _=>false
theorem Ca {J:Hq} {H:Hp} {x:PV} {v:V} (r:cE K J H x v):decide (v=.non)=FU x:=by
 cases x with
 | non=>cases r;rfl
 | tup xs=>obtain ⟨a,vs,rfl,_⟩:=r;rfl
 | fl xs=>obtain ⟨a,vs,rfl,_⟩:=r;rfl
 | _=>cases r;rfl
def TX:nG:=λx y J Q=>y=.non∧Q (.bl (FU x)) J
def G4:nG:=λx y J Q=>y=.non∧Q (.bl (!FU x)) J
theorem PM:nv X (compareOp .Is) TX:=⟨_,L2.Nj,λJ H x y v w Q2 Q rx ry r ⟨ey,q⟩ k=>by subst ey;cases ry;exact ⟨rfl,by rw [Ca rx];exact k (.bl _) J _ H rfl r .refl q⟩⟩
theorem sj:nv X (compareOp .IsNot) G4:=⟨_,L2.Jv,λJ H x y v w Q2 Q rx ry r ⟨ey,q⟩ k=>by subst ey;cases ry;exact ⟨rfl,by rw [Ca rx];exact k (.bl _) J _ H rfl r .refl q⟩⟩
mutual
def fR:PV→Py
 | .non=>.non | .bl b=>.bl b | .int i=>.int i | .str x=>.str x | .ref _=>.non | .ty _=>.non | .tup xs=>.tup (fG xs) | .fl xs=>.lst (fG xs)
def fG:List PV→List Py
 | []=>[]
 | x :: xs=>fR x :: fG xs
end
mutual
def mx:PV→Bool
 | .ref _=>false | .ty _=>false | .tup xs=>i8 xs | .fl xs=>i8 xs | _=>true
def i8:List PV→Bool
 | []=>true
 | x :: xs=>mx x && i8 xs
end
mutual
theorem vW {J:Hq} {H:Hp}:∀{x:PV} {v:V},mx x=true→cE K J H x v→At K H (fR x) v
 | .non,_,_,h=>h
 | .bl _,_,_,h=>h
 | .int _,_,_,h=>h
 | .str _,_,_,h=>h
 | .tup xs,_,p,⟨a,vs,e,h,k⟩=>⟨a,vs,e,h,rJ (by simpa [mx] using p) k⟩
 | .fl xs,_,p,⟨a,vs,e,h,k⟩=>⟨a,vs,e,h.sq,rJ (by simpa [mx] using p) k⟩
theorem rJ {J:Hq} {H:Hp}:∀{xs:List PV} {vs:List V},i8 xs=true→aU K J H xs vs→tO K H (fG xs) vs
 | [],_,_,h=>h
 | x :: xs,_,p,⟨v,us,e,h,k⟩=>by
  have p':mx x=true∧i8 xs=true:=by simpa [i8] using p
  exact ⟨v,us,e,vW p'.1 h,rJ p'.2 k⟩
end
def eqQ (x y:PV):Bool:=lM (fR x) (fR y)
def HS (x:PV):Prop:=mx x=true∧dep (fR x)≤60
def Lm (f:Bool→Bool):nG:=λx y J Q=>HS x∧mx y=true∧Q (.bl (f (eqQ x y))) J
theorem K6 (f:Bool→Bool):LR K (rP K f) (Lm f):=λJ H x y v w Q2 Q rx ry r ⟨⟨px,d⟩,py,q⟩ k=>⟨fR x,fR y,vW px rx,vW py ry,d,k (.bl _) J _ H rfl r .refl q⟩
theorem cT (hu:X.A.units + 61 < cLine):nv X (compareOp .Eq) (Lm id):=⟨_,Nh hu,K6 id⟩
theorem g6 (hu:X.A.units + 61 < cLine):nv X (compareOp .NotEq) (Lm not):=⟨_,Nk hu,K6 not⟩
def fL (J:Hq):PV→PV→Option PV
 | .tup xs,.int i=>dk xs i
 | .fl xs,.int i=>dk xs i
 | .ref a,.int i=>match J a with
  | some (.lst xs)=>dk xs i
  | _=>none
 | _,_=>none
theorem aU.dk {J:Hq} {H:Hp} {xs:List PV} {vs:List V} {i:Int} {x:PV} (r:aU K J H xs vs) (h:L2.dk xs i=some x):∃v,L2.dk vs i=some v∧cE K J H x v:=by
 unfold L2.dk at h ⊢
 rw [← r.length]
 cases e:L2.EO xs.length i with
 | none=>rw [e] at h;cases h
 | some j =>
  rw [e] at h
  obtain ⟨v,h1,h2⟩:=r.get h
  exact ⟨v,h1,h2⟩
def Lo:nG:=λx y J Q=>wJ (fL J x y) λv=>Q v J
theorem av:Rv X Lo:=⟨_,L2.wc.or L2.c_,λJ H x y v w Q2 Q rx ry r h k=>by
 obtain ⟨z,ez,q⟩:=eV h
 cases y with
 | int i =>
  cases ry
  cases x with
  | tup xs =>
   obtain ⟨a,vs,rfl,h1,h2⟩:=rx
   obtain ⟨u,e1,e2⟩:=h2.dk (show L2.dk xs i=some z from ez)
   exact .inr ⟨a,vs,i,u,rfl,rfl,h1,e1,k z J u H e2 r .refl q⟩
  | fl xs =>
   obtain ⟨a,vs,rfl,h1,h2⟩:=rx
   obtain ⟨u,e1,e2⟩:=h2.dk (show L2.dk xs i=some z from ez)
   exact .inl ⟨a,vs,i,u,rfl,rfl,h1.sq,e1,k z J u H e2 r .refl q⟩
  | ref a =>
   cases rx
   unfold fL at ez
   dsimp only at ez
   cases ej:J a with
   | none=>rw [ej] at ez;cases ez
   | some o =>
    rw [ej] at ez
    cases o with
    | lst xs =>
     obtain ⟨vs,h1,h2⟩:=r _ _ ej
     obtain ⟨u,e1,e2⟩:=h2.dk (show L2.dk xs i=some z from ez)
     exact .inl ⟨a,vs,i,u,rfl,rfl,.inl (.inl h1),e1,k z J u H e2 r .refl q⟩
    | _=>cases ez
  | _=>cases ez
 | _=>cases x <;> cases ez⟩
def ko (xs:List PV) (lo hi:Option Int):List PV:=(xs.drop (HT.dZ xs.length 0 lo)).take (HT.dZ xs.length xs.length hi - HT.dZ xs.length 0 lo)
theorem BR {J:Hq} {H:Hp} {xs:List PV} {vs:List V} {lo hi:Option Int} (r:aU K J H xs vs):aU K J H (ko xs lo hi) (L2.oX vs lo hi):=by
 unfold ko L2.oX
 rw [← r.length]
 exact (r.drop _).take _
def P8:DC:=λx lo hi J Q=>Ot x λxs=>¬ (HT.dZ xs.length 0 lo=0∧HT.dZ xs.length xs.length hi=xs.length)∧Q (.tup (ko xs lo hi)) J
theorem Bz:Ry X P8:=⟨_,L2.NV,λJ H x lo hi v Q2 Q rx r h k=>by
 obtain ⟨xs,ex,hn,q⟩:=GC h
 subst ex
 obtain ⟨a,vs,rfl,h1,h2⟩:=rx
 refine ⟨a,vs,rfl,h1,by rw [← h2.length];exact hn,λp hp=>?_⟩
 have sm:=bG.new hp (.tup (L2.oX vs lo hi))
 have e2:=Ext.same (K:=X.K) (J:=J) sm
 exact k (.tup (ko xs lo hi)) J (.ref p) _ ⟨p,_,rfl,.inl (.inl aG),e2.jG (BR h2)⟩ (r.same sm) e2 q⟩
def kF (J:Hq):PV→Option (List PV)
 | .fl xs=>some xs
 | .ref a=>match J a with
  | some (.lst xs)=>some xs
  | _=>none
 | _=>none
theorem nY {J:Hq} {H:Hp} {x:PV} {v:V} {xs:List PV} (rx:cE K J H x v) (r:Rep K J H) (h:kF J x=some xs):∃a vs,v=.ref a∧cZ K H a vs∧aU K J H xs vs:=by
 cases x with
 | fl ys=>obtain ⟨a,vs,rfl,h1,h2⟩:=rx;cases h;exact ⟨a,vs,rfl,h1.sq,h2⟩
 | ref a =>
  cases rx
  unfold kF at h
  dsimp only at h
  cases ej:J a with
  | none=>rw [ej] at h;cases h
  | some o =>
   rw [ej] at h
   cases o with
   | lst ys=>cases h;obtain ⟨vs,h1,h2⟩:=r _ _ ej;exact ⟨a,vs,rfl,.inl (.inl h1),h2⟩
   | _=>cases h
 | _=>cases h
def P7:DC:=λx lo hi J Q=>wJ (kF J x) λxs=>Q (.fl (ko xs lo hi)) J
theorem vA:Ry X P7:=⟨_,L2.xB,λJ H x lo hi v Q2 Q rx r h k=>by
 obtain ⟨xs,ex,q⟩:=eV h
 obtain ⟨a,vs,rfl,h1,h2⟩:=nY rx r ex
 refine ⟨a,vs,rfl,h1,λp hp=>?_⟩
 obtain ⟨x1,x2,x3⟩:=sd r (BR (lo:=lo) (hi:=hi) h2) hp
 exact k _ J _ _ x1 x2 x3 q⟩
def SF:DC:=λx lo hi J Q=>wJ (kF J x) λxs=>∀p,J p=none→Q (.ref p) (put J p (.lst (ko xs lo hi)))
def PY:Aj:=λxs J Q=>Ck xs λx=>ER x λi=>Q (.int (if i < 0 then -i else i)) J
theorem Au:KJ X (.builtin "abs") PY:=⟨_,L2.nJ,λJ H xs vs Q2 Q rs r h k=>by
 obtain ⟨x,ex,h⟩:=jw h;obtain ⟨i,ei,q⟩:=ij h;subst ei
 subst ex;obtain ⟨v,us,rfl,rv,e⟩:=rs;cases rv;cases e
 exact ⟨i,rfl,k (.int _) J _ H rfl r .refl q⟩⟩
def wo (J:Hq):PV→Option Nat
 | .tup xs=>some xs.length
 | x=>(kF J x).map Vl
def NC:Aj:=λxs J Q=>Ck xs λx=>wJ (wo J x) λn=>Q (.int n) J
theorem bO:KJ X (.builtin "len") NC:=⟨_,L2.jh,λJ H xs vs Q2 Q rs r h k=>by
 obtain ⟨x,ex,h⟩:=jw h;obtain ⟨n,en,q⟩:=eV h
 subst ex;obtain ⟨v,us,rfl,rv,e⟩:=rs;cases e
 have go:∀ys,kF J x=some ys→ys.length=n→∃p ws,([v]:List V)=[.ref p]∧(cZ X.K H p ws∨gS X.K H p ws)∧Q (.int ws.length) H:=λys h1 h2=>by
  obtain ⟨a,ws,rfl,h3,h4⟩:=nY rv r h1
  exact ⟨a,ws,rfl,.inl h3,by rw [← h4.length,h2];exact k (.int _) J _ H rfl r .refl q⟩
 cases x with
 | tup ys =>
  obtain ⟨a,ws,rfl,h1,h2⟩:=rv
  cases en
  exact ⟨a,ws,rfl,.inr h1,by rw [← h2.length];exact k (.int _) J _ H rfl r .refl q⟩
 | fl ys=>cases en;exact go _ rfl rfl
 | ref a =>
  unfold wo at en
  cases el:kF J (.ref a) with
  | none=>simp [el] at en
  | some ys=>simp [el] at en;exact go _ el en
 | _=>cases en⟩
def BE (J:Hq):PV→Option String
 | .non=>some "NoneType" | .bl _=>some "bool" | .int _=>some "int" | .str _=>some "str" | .tup _=>some "tuple" | .fl _=>some "list"
 | .ref a=>match J a with
  | some (.lst _)=>some "list"
  | some (.dct _ _)=>some "dict"
  | _=>none
 | _=>none
def nq (t n:String):Option Bool :=
 if n∈["int","bool","str","tuple","list"] then some (t == n || (t == "bool" && n == "int")) else none
theorem IW (K:PySem.W.Frag) {t n:String} {b:Bool} (ht:t∈["NoneType","bool","int","str","tuple","list","dict"]) (h:nq t n=some b):PySem.W.kitOne K (.type t) (.type n)=some b:=by
 unfold nq at h
 by_cases hn:n∈["int","bool","str","tuple","list"]
 ·rw [if_pos hn] at h
  simp only [UI,UT,or_false] at ht hn
  rcases ht with rfl | rfl | rfl | rfl | rfl | rfl | rfl <;> rcases hn with rfl | rfl | rfl | rfl | rfl <;> cases h <;> with_unfolding_all rfl
 ·rw [if_neg hn] at h;cases h
theorem Kz {J:Hq} {x:PV} {t:String} (h:BE J x=some t):t∈["NoneType","bool","int","str","tuple","list","dict"]:=by
 cases x with
 | ref a =>
  unfold BE at h
  dsimp only at h
  cases ej:J a with
  | none=>rw [ej] at h;cases h
  | some o=>rw [ej] at h;cases o <;> cases h <;> simp
 | ty n=>cases h
 | _=>cases h;simp
def Sv (x:PV) (k:String→Prop) (_:gR k:=dp):Prop:=match x with | .ty n=>k n | _=>False
theorem PK {x:String} {k:String→Prop} {d:gR k}:Sv (.ty x) k d=k x:=rfl
theorem Nf {x:PV} {k:String→Prop} {d:gR k} (h:Sv x k d):∃n,x=.ty n∧k n:=by cases x <;> first | exact ⟨_,rfl,h⟩ | exact False.elim h
def P0:Aj:=λxs J Q=>Nd xs λx y=>Sv y λn=>wJ (BE J x) λt=>wJ (nq t n) λb=>Q (.bl b) J
theorem DF:cj X (.builtin "isinstance") (λxs H Q=>∃x n t b,xs=[x,.ty n]∧(gm X.K H x (.type t)∨(t="tuple"∧∃a vs,x=.ref a∧gS X.K H a vs)∨(t="list"∧∃a vs,x=.ref a∧cZ X.K H a vs))∧PySem.W.kitOne X.K (.type t) (.type n)=some b∧Q (.bl b) H):=by
 intro pins s σ H xs us Q I r h
 obtain ⟨x,n,t,b,rfl,ty,e,q⟩:=h
 obtain ⟨u,w',rfl,rx,ry⟩:=L2.vals2 r
 cases (show w'=Value.type n from ry)
 rcases ty with ty | ⟨rfl,a,vs,rfl,hs⟩ | ⟨rfl,a,vs,rfl,hs⟩
 ·exact L2.DP I rx ty e λtk=>⟨.bl b,H,I.tok _,rfl,q⟩
 ·cases rx
  obtain ⟨its,_,⟨o,h1,h2,_⟩,_⟩:=I.tuple hs
  exact PySem.W.kia_one PySem.W.kitx_tuple I.mO ⟨o,h1,h2⟩ e (λz=>nomatch z) λtk=>⟨.bl b,H,I.tok _,rfl,q⟩
 ·cases rx
  obtain ⟨its,_,⟨o,_,h1,h2,_⟩,_⟩:=I.list hs
  exact PySem.W.kia_one PySem.W.kitx_list I.mO ⟨o,h1,h2⟩ e (λz=>nomatch z) λtk=>⟨.bl b,H,I.tok _,rfl,q⟩
theorem gr:KJ X (.builtin "isinstance") P0:=⟨_,DF,λJ H xs vs Q2 Q rs r h k=>by
 obtain ⟨x,y,ex,h⟩:=AY h;obtain ⟨n,ey,h⟩:=Nf h;obtain ⟨t,et,h⟩:=eV h;obtain ⟨b,es,q⟩:=eV h
 subst ey
 subst ex
 obtain ⟨v,us,rfl,rv,w,us',rfl,rw',e⟩:=rs
 cases rw';cases e
 refine ⟨v,n,t,b,rfl,?_,IW X.K (Kz et) es,k (.bl _) J _ H rfl r .refl q⟩
 cases x with
 | non=>cases rv;cases et;exact .inl .non
 | bl i=>cases rv;cases et;exact .inl (.bl i)
 | int i=>cases rv;cases et;exact .inl (.int i)
 | str i=>cases rv;cases et;exact .inl (.str i)
 | tup xs=>obtain ⟨a,ws,rfl,h1,_⟩:=rv;cases et;exact .inr (.inl ⟨rfl,a,ws,rfl,h1⟩)
 | fl xs =>
  obtain ⟨a,ws,rfl,h1,_⟩:=rv;cases et
  exact .inr (.inr ⟨rfl,a,ws,rfl,h1.sq⟩)
 | ty n=>cases et
 | ref a =>
  cases rv
  unfold BE at et
  dsimp only at et
  cases ej:J a with
  | none=>rw [ej] at et;cases et
  | some o =>
   rw [ej] at et
   have z:=r _ _ ej
   cases o with
   | lst xs=>obtain ⟨ws,h1,_⟩:=z;cases et;exact .inl (.lst h1)
   | dct kvs ep=>obtain ⟨gs,h1,_⟩:=z;cases et;exact .inl (.dE h1)
   | tab=>cases et
   | dtp hs ks=>cases et
   | ins C fs=>cases et⟩
def NA:Aj:=λxs J Q=>Ck xs λx=>wJ (kF J x) λys=>Q (.fl ys) J
def G0:Aj:=λxs J Q=>Ck xs λx=>wJ (kF J x) λys=>∀p,J p=none→Q (.ref p) (put J p (.lst ys))
theorem iN:KJ X (.type "list") G0:=⟨_,L2.vX,λJ H xs vs Q2 Q rs r h k=>by
 obtain ⟨x,ex,h⟩:=jw h;obtain ⟨ys,el,q⟩:=eV h
 subst ex;obtain ⟨v,us,rfl,rv,e⟩:=rs;cases e
 obtain ⟨a,ws,rfl,h3,h4⟩:=nY rv r el
 exact ⟨a,ws,rfl,.inl h3,λp hp=>k (.ref p) _ _ _ rfl (r.F4 hp h4) (.laid hp) (q p (r.free hp))⟩⟩
def SE:Aj:=λxs J Q=>∃i j,xs=[.int i,.int j]∧Q (.int (if j > i then j else i)) J
def w6:EM:=λx xs J Q=>Cm x λa=>Ck xs λy=>Rf (J a) λys=>ys.length < sizeLine∧Q .non (put J a (.lst (ys ++ [y])))
theorem lO:Mi X "list" "list.append" w6:=⟨_,L2.iX,λJ H x xs v vs Q2 Q rx rs r h k=>by
 obtain ⟨a,ex,h⟩:=gE h;obtain ⟨y,exs,h⟩:=jw h;obtain ⟨ys,ja,hl,q⟩:=Nb h
 subst ex exs;cases rx;obtain ⟨w,us,rfl,rw',e⟩:=rs;cases e
 obtain ⟨ws,h1,h2⟩:=r _ _ ja
 exact ⟨a,ws,w,rfl,rfl,h1,by rw [← h2.length];exact hl,k .non _ _ _ rfl (r.wrote (ys:=ys ++ [y]) ja h1 (h2.append (show aU X.K J H [y] [w] from ⟨w,[],rfl,rw',rfl⟩))) (.wrote ja h1) q⟩⟩
def P5:EM:=λx xs J Q=>∃a ys y,x=.ref a∧xs=[]∧J a=some (.lst ys)∧ys[ys.length - 1]?=some y∧Q y (put J a (.lst ys.dropLast))
theorem aU.dropLast {J:Hq} {H:Hp} {xs:List PV} {vs:List V} (r:aU K J H xs vs):aU K J H xs.dropLast vs.dropLast:=by
 rw [V4,V4,← r.length]
 exact r.take _
theorem M3:Mi X "list" "list.pop" P5:=⟨_,L2.M4,λJ H x xs v vs Q2 Q rx rs r ⟨a,ys,y,ex,exs,ja,hy,q⟩ k=>by
 subst ex exs;cases rx;cases rs
 obtain ⟨ws,h1,h2⟩:=r _ _ ja
 obtain ⟨w,e1,e2⟩:=h2.get hy
 have ex:=Ext.wrote (K:=X.K) (ys:=ys.dropLast) (vs:=ws.dropLast) ja h1
 exact ⟨a,ws,w,rfl,rfl,h1,by rw [← h2.length];exact e1,k y _ w _ (ex.rep e2) (r.wrote ja h1 h2.dropLast) ex q⟩⟩
def Nz:EM:=λx xs J Q=>∃a ys,x=.ref a∧xs=[]∧J a=some (.lst ys)∧Q .non (put J a (.lst []))
def JU:V→List V→Hp→VK→Prop:=λx vs H Q=>∃l xs i y,x=.ref l∧vs=[.int (i:Nat),y]∧H l=some (.lst xs)∧i≤xs.length∧xs.length < sizeLine∧i < 2 ^ 62∧Q .non (upd H l (.lst (xs.take i ++ y :: xs.drop i)))
theorem AE (its:List Value) (i:Nat) (u:Value) (h:i≤its.length):((its.toArray.extract 0 (min ((i:Int)).toNat its.toArray.size)).push u ++ its.toArray.extract (min ((i:Int)).toNat its.toArray.size))=(its.take i ++ u :: its.drop i).toArray:=by
 have e:min ((i:Int)).toNat its.toArray.size=i:=by simp;omega
 rw [e]
 apply Array.ext'
 simp
 exact Vr (by simp)
theorem D9:qE X "list.insert" JU:=by
 intro pins s σ H x vs v us Q I rx rv h
 obtain ⟨l,xs,i,y,rfl,rfl,hH,hi,hz,hb,q⟩:=h
 cases rx
 obtain ⟨u,w,rfl,ru,rw'⟩:=L2.vals2 rv
 obtain ⟨t,rfl⟩:=ru
 obtain ⟨z,its,n,r,hl,e⟩:=I.Jb hH
 have h63:((i:Nat):Int) < 2 ^ 63:=by
  have:((i:Nat):Int) < ((2 ^ 62:Nat):Int):=Int.ofNat_lt.mpr hb
  exact Int.lt_trans this (by decide)
 have hf:Builtin.List.listFitsIndex ((i:Nat):Int)=true:=fitsIndex_both (Int.le_trans (by decide) (Int.natCast_nonneg i)) h63
 have hs:its.toArray.size≤sizeLine:=by rw [Uy,← hl];exact z
 have hn:¬(!Builtin.List.listFitsIndex ((i:Nat):Int))=true:=by rw [hf];exact λz=>nomatch z
 have hneg:¬ (((i:Nat):Int) < 0):=by omega
 have hins:=AE its i w (by omega)
 clear hb h63 hf
 generalize ((i:Nat):Int)=ii at *
 have mm:=PySem.AutoSeq1.list_insert_list_int_val_1 l its.toArray n ii t w hn hs
 refine call_meets PySem.F.slot_list_insert ⟨_,e,rfl⟩ PySem.F.entry_list_insert (PySem.F.args_list_insert_3 _ _ _) mm ⟨e,?_⟩
 refine ⟨.non,_,I.I_ (its':=its.take i ++ w :: its.drop i) hH e ?_ ((r.take i).append (.cons rw' (r.drop i))) ?_,rfl,q⟩
 ·simp only [if_neg hneg]
  exact hins
 ·rw [UP,UQ,UR,Vu];omega
def CA:EM:=λx xs J Q=>∃a ys i y,x=.ref a∧xs=[.int (i:Nat),y]∧J a=some (.lst ys)∧i≤ys.length∧ys.length < sizeLine∧i < 2 ^ 62∧Q .non (put J a (.lst (ys.take i ++ y :: ys.drop i)))
theorem lP:Mi X "list" "list.insert" CA:=⟨_,D9,λJ H x xs v vs Q2 Q rx rs r ⟨a,ys,i,y,ex,exs,ja,hi,hl,hb,q⟩ k=>by
 subst ex exs;cases rx;obtain ⟨w0,us,rfl,rw0,w,us',rfl,rw',e⟩:=rs;cases e;cases rw0
 obtain ⟨ws,h1,h2⟩:=r _ _ ja
 exact ⟨a,ws,i,w,rfl,rfl,h1,by rw [← h2.length];exact hi,by rw [← h2.length];exact hl,hb,k .non _ _ _ rfl (r.wrote (ys:=ys.take i ++ y :: ys.drop i) ja h1 ((h2.take i).append (show aU X.K J H (y :: ys.drop i) (w :: ws.drop i) from ⟨w,_,rfl,rw',h2.drop i⟩))) (.wrote ja h1) q⟩⟩
end
def pN (ks:List (Str × Nat)) (τ:Sr):Sr:=ks.map λp=>(τ[p.2]?).getD none
theorem CI {K:PySem.W.Frag} {J:Hq} {H:Hp} {τ:Sr} {σ:L2.St} (r:mH K J H τ σ) {x:PV} {v:V} (rx:cE K J H x v) (ks:List (Str × Nat)):mH K J H (some x :: pN ks τ) (some v :: d8 ks σ):=by
 refine ⟨by simp [pN,d8],λi y e=>?_⟩
 cases i with
 | zero=>rw [VP] at e ⊢;cases e;exact ⟨v,rfl,rx⟩
 | succ i =>
  rw [U_] at e ⊢
  unfold pN at e
  unfold d8
  rw [Uz] at e ⊢
  cases ep:ks[i]? with
  | none=>rw [ep] at e;cases e
  | some p =>
   rw [ep] at e
   have e':(τ[p.2]?).getD none=some y:=Option.some.inj e
   have e2:τ[p.2]?=some (some y):=by
    cases q:τ[p.2]? with
    | none=>rw [q] at e';cases e'
    | some w=>rw [q] at e';exact congrArg some e'
   obtain ⟨v',h1,h2⟩:=r.get _ _ e2
   exact ⟨v',by show some ((σ[p.2]?).getD none)=_;rw [h1];rfl,h2⟩
def Sub (J J':Hq):Prop:=∀a o,J a=some o→J' a=some o
theorem Sub.put {J:Hq} {D:Addr} {o:HQ} (h:J D=none):Sub J (put J D o):=λa u e=>by
 have ne:a≠D:=by intro z;subst z;rw [h] at e;cases e
 rw [ak ne];exact e
def Rw (it:Ab) (J1:Hq) (ks:List (Str × Nat)) (τ:Sr) (tc:mI) (te:dz) (c:PV→Bool) (g:PV→PV):Prop:=it.xs.length < sizeLine∧∀J',Sub J1 J'→it.ok J' ∧
 ∀x∈it.xs,tc (some x :: pN ks τ) J' (λb J2=>b=c x∧J2=J')∧(c x=true→te (some x :: pN ks τ) J' λy J2=>y=g x∧J2=J')
def sG (wi:ug) (ks:List (Str × Nat)) (tc:mI) (te:dz):dz:=λτ J Q=>wi τ J λit J1=>∃(c:PV→Bool) (g:PV→PV),Rw it J1 ks τ tc te c g∧Q (.fl ((it.xs.filter c).map g)) J1
def NG (wi:ug) (ks:List (Str × Nat)) (tc:mI) (te:dz):dz:=λτ J Q=>wi τ J λit J1=>∃(c:PV→Bool) (g:PV→PV),Rw it J1 ks τ tc te c g∧∀p,J1 p=none→Q (.ref p) (put J1 p (.lst ((it.xs.filter c).map g)))
def zf:mI:=λ_ J Q=>Q true J
section
variable {X:Cx} {G:G2}
theorem qi {α:Type} (c:α→Bool) {xs:List α} {i:Nat} {x:α} (h:xs[i]?=some x):(xs.take (i + 1)).filter c=(xs.take i).filter c ++ (if c x=true then [x] else []):=by
 rw [U0,h,VR]
 congr 1
 simp only [Option.toList_some,U2,Wr]
theorem wj {K:PySem.W.Frag} {ks:List (Str × Nat)} {tc:mI} {te:dz} {σ:L2.St} {H:Hp} {Q:VK} {τ:Sr} {J:Hq} (a2:xX K G τ J σ H) {it:Ab} {J1:Hq} {I:It} {H1:Hp} (ir:uP K it I J1 H1) (r1:Rep K J1 H1) (e1:Ext K J H J1 H1) {c:PV→Bool} {g:PV→PV}
  (w:Rw it J1 ks τ tc te c g)
  (q:∀D H2,H1 D=none→J1 D=none→Rep K (put J1 D (.lst ((it.xs.filter c).map g))) H2→Ext K J1 H1 (put J1 D (.lst ((it.xs.filter c).map g))) H2→Q (.ref D) H2) :
  ∀D,H1 D=none→∃W:Nat→Nat→Hp→Prop,(∃m,W 0 m (upd H1 D (.lst [])))∧∀i m H2,W i m H2→(I.stop i H2∧Q (.ref D) H2) ∨
   (I.go i H2∧∀v H3,I.yld i H2 v H3→LT K G tc (some v :: d8 ks σ) H3 λb H4=>if b=true then LE K G te (some v :: d8 ks σ) H4 λy H5=>∃ys,H5 D=some (.lst ys)∧ys.length < sizeLine∧∃m',m' < m∧W (i + 1) m' (upd H5 D (.lst (ys ++ [y]))) else ∃m',m' < m∧W (i + 1) m' H4):=by
 intro D hD
 obtain ⟨hlen,w⟩:=w
 have jD:J1 D=none:=r1.free hD
 refine ⟨λi m H2=>m=it.xs.length - i∧i≤it.xs.length∧Rep K (put J1 D (.lst (((it.xs.take i).filter c).map g))) H2∧Ext K J1 H1 (put J1 D (.lst (((it.xs.take i).filter c).map g))) H2,⟨_,rfl,UZ _,r1.F4 (xs:=[]) (vs:=[]) hD rfl,.laid hD⟩,?_⟩
 rintro i m H2 ⟨rfl,hi,r2,e2⟩
 obtain ⟨ok,ww⟩:=w _ (Sub.put (o:=.lst (((it.xs.take i).filter c).map g)) jD)
 by_cases hlt:i < it.xs.length
 ·refine .inr ⟨ir.go _ H2 e2 r2 ok i hlt,λv H3 y=>?_⟩
  obtain ⟨x,ex,rx,r3,e3⟩:=ir.yl _ H2 e2 r2 ok i hlt v H3 y
  obtain ⟨hc,he⟩:=ww x (Uw ex)
  have a3:xX K G (some x :: pN ks τ) _ (some v :: d8 ks σ) H3:=⟨CI (a2.sl.ext ((e1.trans e2).trans e3)) rx ks,r3,((a2.ext.trans e1).trans e2).trans e3⟩
  refine ⟨_,_,_,a3,hc,λb J4 H4 r4 e4 ⟨eb,ej⟩=>?_⟩
  subst ej
  cases hb:c x with
  | false =>
   rw [eb,hb]
   simp only [UK,if_false]
   refine ⟨_,by omega,rfl,hlt,?_⟩
   rw [qi c ex,hb]
   simp only [UK,if_false,Vq]
   exact ⟨r4,(e2.trans e3).trans e4⟩
  | true =>
   rw [eb,hb]
   simp only [if_true]
   refine ⟨_,_,_,a3.go r4 e4,he hb,λz J5 u H5 rz r5 e5 ⟨ez,ej⟩=>?_⟩
   subst ej ez
   obtain ⟨ys,h5,ry⟩:=r5 D _ ar
   have ll:ys.length≤i:=by
    rw [← ry.length,Us]
    exact UM (Vj _ _) (by rw [UR];omega)
   have r6:=r5.wrote (ys:=((it.xs.take i).filter c).map g ++ [g x]) (vs:=ys ++ [u]) ar h5 (ry.append (show aU K _ H5 [g x] [u] from ⟨u,[],rfl,rz,rfl⟩))
   have e6:=Ext.wrote (K:=K) (ys:=((it.xs.take i).filter c).map g ++ [g x]) (vs:=ys ++ [u]) (J:=put J1 D (.lst (((it.xs.take i).filter c).map g))) ar h5
   rw [d_] at r6 e6
   refine ⟨ys,h5,by omega,_,by omega,rfl,hlt,?_⟩
   rw [qi c ex,hb,if_pos rfl,UA]
   exact ⟨r6,(((e2.trans e3).trans e4).trans e5).trans e6⟩
 ·have ei:i=it.xs.length:=by omega
  subst ei
  rw [UY] at r2 e2 ok
  exact .inl ⟨ir.stop _ H2 e2 r2 ok,q D H2 hD jD r2 e2⟩
theorem freeze {K:PySem.W.Frag} {J1:Hq} {H2:Hp} {D:Addr} {xs:List PV} (jD:J1 D=none) (r:Rep K (put J1 D (.lst xs)) H2):cE K J1 H2 (.fl xs) (.ref D)∧Rep K J1 H2∧Ext K (put J1 D (.lst xs)) H2 J1 H2:=by
 obtain ⟨ys,h,ry⟩:=r D _ ar
 have less:∀a,J1 a=put J1 D (.lst xs) a∨J1 a=none:=λa=>by
  by_cases e:a=D
  ·subst e;exact .inr jD
  ·rw [ak e];exact .inl rfl
 have e:=Ext.less (K:=K) (H:=H2) less
 exact ⟨⟨D,ys,rfl,.inl ⟨jD,.inl h⟩,e.jG ry⟩,r.less less,e⟩
theorem F9 {wi:ug} {ks:List (Str × Nat)} {tc:mI} {te:dz}:∀σ H Q,LE X.K G (sG wi ks tc te) σ H Q→Kq (LI X.K G wi) ks (LT X.K G tc) (LE X.K G te) σ H Q:=λσ H Q ⟨τ,J,Q2,a2,h,k⟩ =>
 ⟨τ,J,_,a2,h,λit J1 I H1 ir r1 e1 ⟨c,g,w,q⟩=>wj (Q:=Q) a2 ir r1 e1 w λD H2 hD jD r2 e2=>let ⟨x1,x2,x3⟩:=freeze jD r2;k _ J1 _ H2 x1 x2 ((e1.trans e2).trans x3) q⟩
theorem F_ {wi:ug} {ks:List (Str × Nat)} {tc:mI} {te:dz}:∀σ H Q,LE X.K G (NG wi ks tc te) σ H Q→Kq (LI X.K G wi) ks (LT X.K G tc) (LE X.K G te) σ H Q:=λσ H Q ⟨τ,J,Q2,a2,h,k⟩ =>
 ⟨τ,J,_,a2,h,λit J1 I H1 ir r1 e1 ⟨c,g,w,q⟩=>wj (Q:=Q) a2 ir r1 e1 w λD H2 hD jD r2 e2=>k (.ref D) _ _ H2 rfl r2 (e1.trans e2) (q D jD)⟩
theorem yB {wi:ug} {ks:List (Str × Nat)} {te:dz}:∀σ H Q,LE X.K G (sG wi ks zf te) σ H Q→Rm (LI X.K G wi) ks (LE X.K G te) σ H Q:=λσ H Q ⟨τ,J,Q2,a2,h,k⟩ =>
 ⟨τ,J,_,a2,h,λit J1 I H1 ir r1 e1 ⟨c,g,w,q⟩ D hD=>by
  obtain ⟨W,w0,turn⟩:=wj (Q:=Q) a2 ir r1 e1 w (λD H2 hD jD r2 e2=>let ⟨x1,x2,x3⟩:=freeze jD r2;k _ J1 _ H2 x1 x2 ((e1.trans e2).trans x3) q) D hD
  refine ⟨W,w0,λi m H2 hw=>?_⟩
  rcases turn i m H2 hw with z | ⟨go,z⟩
  ·exact .inl z
  ·refine .inr ⟨go,λv H3 y=>?_⟩
   obtain ⟨τ',J',Q',a',t',k'⟩:=z v H3 y
   have:=k' true J' H3 a'.hp .refl t'
   simpa using this⟩
variable {elt iter cnd:Expr} {x y:Str} {px py:Pos} {sc:Scope} {pos spos:Pos} {wi:ug} {te:dz} {tc:mI} {i:Nat}
theorem LF (osc:Scope) (N:List Str) (ks:List (Str × Nat)) (hc:X.calm=true) (ho:X.env.scope=osc) (hN:X.N=N) (hi:RI X G (.Name x px) iter wi) (he:∀cl C s₀ H₀ fp pins,RE (gu X sc cl C x ks s₀ H₀ fp pins) G elt te)
  (ok:cY sc osc N x ks:=by decide +kernel) (hs:∀x,foldedSetIterable iter X.env x=pure x:=by intro _;rfl):RE X G (.ListComp elt [⟨.Name x px,iter,[],0⟩] sc pos) (sG wi ks zf te) :=
 ⟨l7 (Lh osc N ks hc ho hN hi.run (λcl C s₀ H₀ fp pins=>(he cl C s₀ H₀ fp pins).run) ok hs) yB⟩
theorem rX {t:dz} {u:TE} (h:∀σ H Q,LE X.K G t σ H Q→u σ H Q):∀D σ H,LS X.K G (uF t (IK i)) D σ H→u σ H λv H1=>D.nx (σ.set i (some v)) H1:=λD σ H ⟨τ,J,D2,a2,q,g⟩ =>
 h σ H _ ⟨τ,J,_,a2,q,λx J' v H' rx rr ee q=>g.nx _ J' _ H' ((a2.sl.ext ee).set i rx) rr ee q⟩
theorem NM (osc:Scope) (N:List Str) (ks:List (Str × Nat)) (hc:X.calm=true) (ho:X.env.scope=osc) (hN:X.N=N) (hnd:X.N.Nodup) (hy:X.N[i]?=some y) (hl:Loc X.env.scope y) (hi:RI X G (.Name x px) iter wi) (he:∀cl C s₀ H₀ fp pins,RE (gu X sc cl C x ks s₀ H₀ fp pins) G elt te) (hcn:∀cl C s₀ H₀ fp pins,RT (gu X sc cl C x ks s₀ H₀ fp pins) G cnd tc)
  (ok:cY sc osc N x ks:=by decide +kernel) (hs:∀x,foldedSetIterable iter X.env x=pure x:=by intro _;rfl) (hsw:swapsWith (.ListComp elt [⟨.Name x px,iter,[cnd],0⟩] sc pos) (some (.Name y py)) spos.line X.env=pure true:=by rfl) (hf:X.fn y=true∨X.env.scope.names.lookup y=some .local:=by first | exact .inl rfl | exact .inr rfl | assumption) :
  RS X G (.Assign [.Name y py] (.ListComp elt [⟨.Name x px,iter,[cnd],0⟩] sc pos) spos) (uF (sG wi ks tc te) (IK i)) :=
 ⟨zN (Ba osc N ks hc ho hN hnd hy hl hi.run (λcl C s₀ H₀ fp pins=>(he cl C s₀ H₀ fp pins).run) (λcl C s₀ H₀ fp pins=>Cu (hcn cl C s₀ H₀ fp pins).run) ok hs hsw hf) (rX F9)⟩
theorem Ka (osc:Scope) (N:List Str) (ks:List (Str × Nat)) (hc:X.calm=true) (ho:X.env.scope=osc) (hN:X.N=N) (hnd:X.N.Nodup) (hy:X.N[i]?=some y) (hl:Loc X.env.scope y) (hi:RI X G (.Name x px) iter wi) (he:∀cl C s₀ H₀ fp pins,RE (gu X sc cl C x ks s₀ H₀ fp pins) G elt te) (hcn:∀cl C s₀ H₀ fp pins,RT (gu X sc cl C x ks s₀ H₀ fp pins) G cnd tc)
  (ok:cY sc osc N x ks:=by decide +kernel) (hs:∀x,foldedSetIterable iter X.env x=pure x:=by intro _;rfl) (hsw:swapsWith (.ListComp elt [⟨.Name x px,iter,[cnd],0⟩] sc pos) (some (.Name y py)) spos.line X.env=pure true:=by rfl) (hf:X.fn y=true∨X.env.scope.names.lookup y=some .local:=by first | exact .inl rfl | exact .inr rfl | assumption) :
  RS X G (.Assign [.Name y py] (.ListComp elt [⟨.Name x px,iter,[cnd],0⟩] sc pos) spos) (uF (NG wi ks tc te) (IK i)) :=
 ⟨zN (Ba osc N ks hc ho hN hnd hy hl hi.run (λcl C s₀ H₀ fp pins=>(he cl C s₀ H₀ fp pins).run) (λcl C s₀ H₀ fp pins=>Cu (hcn cl C s₀ H₀ fp pins).run) ok hs hsw hf) (rX F_)⟩
theorem He (osc:Scope) (N:List Str) (ks:List (Str × Nat)) (hc:X.calm=true) (ho:X.env.scope=osc) (hN:X.N=N) (hnd:X.N.Nodup) (hy:X.N[i]?=some y) (hl:Loc X.env.scope y) (hi:RI X G (.Name x px) iter wi) (he:∀cl C s₀ H₀ fp pins,RE (gu X sc cl C x ks s₀ H₀ fp pins) G elt te)
  (ok:cY sc osc N x ks:=by decide +kernel) (hs:∀x,foldedSetIterable iter X.env x=pure x:=by intro _;rfl) (hsw:swapsWith (.ListComp elt [⟨.Name x px,iter,[],0⟩] sc pos) (some (.Name y py)) spos.line X.env=pure true:=by rfl) (hf:X.fn y=true∨X.env.scope.names.lookup y=some .local:=by first | exact .inl rfl | exact .inr rfl | assumption) :
  RS X G (.Assign [.Name y py] (.ListComp elt [⟨.Name x px,iter,[],0⟩] sc pos) spos) (uF (sG wi ks zf te) (IK i)) :=
 ⟨zN (Li osc N ks hc ho hN hnd hy hl hi.run (λcl C s₀ H₀ fp pins=>(he cl C s₀ H₀ fp pins).run) ok hs hsw hf) (rX yB)⟩
end
end Ov
namespace Ov
open PySem PySem.Spec PyProof.Rows
section
open HT (lexLt)
def mQ:List Str→List Str→Bool
 | [],[]=>false
 | [],_ :: _=>true
 | _ :: _,[]=>false
 | x :: xs,y :: ys=>if x=y then mQ xs ys else decide (x.cps.toList < y.cps.toList)
theorem o_ (x y:Str) (xs ys:List Str):mQ (x :: xs) (y :: ys)=if x=y then mQ xs ys else decide (x.cps.toList < y.cps.toList):=rfl
theorem nX:mQ [] []=false:=rfl
theorem uj (y:Str) (ys:List Str):mQ [] (y :: ys)=true:=rfl
theorem ui (x:Str) (xs:List Str):mQ (x :: xs) []=false:=rfl
theorem Fy (A:Around) (s:Shared) (a:Str) (t:Tok) (c:Str) (u:Tok):∃e,SeqAt.EqAt A s (.str a t) (.str c u) e∧(e=true↔a=c) :=
 ⟨(a == c),SeqAt.EqAt.str_str a t c u,by simp⟩
theorem Ha (A:Around) (s:Shared) (a:Str) (t:Tok) (c:Str) (u:Tok) (prog:Program) (w:World) (E:Value→Shared→Prop) (Q:Value→Shared→Prop) (h:Q (.bool (decide (a.cps.toList < c.cps.toList))) s) :
  wpAny (model prog w) A (richCompare .Lt (.str a t) (.str c u)) Q E s :=
 (PyProof.Rows.lt_str h:wpAny (model prog w) A (compareOp .Lt (.str a t) (.str c u)) Q E s)
open PySem.SeqAt
open PySem.AutoSeq1 (wpAny_loadPart')
open PySem.MeetsSeq PySem.MeetsSeq2 PySem.MeetsSeq3
theorem uN (l b:Addr) (items items2:Array Value) (n n2:Nat) (dd dd2:Option Addr) (sl sl2:Array (Option Value)) (ns ms:List Str) (hi:StrsAre items.toList ns) (hj:StrsAre items2.toList ms) :
  Meets (Builtin.«tuple.__lt__» ⟨[.ref l,.ref b],[]⟩)
   (λ_ R s=>s.heap.get? l=some { cls:=.type "tuple",dict:=dd,data:=.seq items n,slots:=sl }∧s.heap.get? b=some { cls:=.type "tuple",dict:=dd2,data:=.seq items2 n2,slots:=sl2 } ∧
    R (.ok (.ret (.bool (mQ ns ms)))) s) :=
 .of_wp λprog w A R s h=>by
  obtain ⟨hp,g,d,tk,os⟩:=s;obtain ⟨hl,hb,h⟩:=h
  have f2:=AutoSeq1.sub_tuple_tuple
  have z1:items.size=ns.length:=by rw [← hi.length];simp
  have z2:items2.size=ms.length:=by rw [← hj.length];simp
  wp_walk using wpAny_loadPart' hl,wpAny_loadPart' hb,wpAny_forIn_list _ (λrest b s'=>b.1=none∧s'=⟨hp,g,d,tk,os⟩∧∃(vs ws:List Value) (ns' ms':List Str),rest=vs.zip ws ∧
   StrsAre vs ns'∧StrsAre ws ms'∧ns'.length + items2.size=ms'.length + items.size∧R (.ok (.ret (.bool (mQ ns' ms')))) ⟨hp,g,d,tk,os⟩) _
  case turn =>
   rintro ⟨y,x⟩ rest b s' ⟨hb',rfl,vs,ws,ns',ms',hz,hvi,hwi,hlen,hR⟩
   cases hvi with
   | nil=>rw [List.zip_nil_left] at hz;cases hz
   | cons a t hvi' =>
    cases hwi with
    | nil=>rw [List.zip_nil_right] at hz;cases hz
    | cons c u hwi' =>
     rw [WC] at hz
     injection hz with hyx hrest
     injection hyx with hy hx
     subst hy hx
     rw [o_] at hR
     simp only [UQ] at hlen
     obtain ⟨e,he,hiff⟩:=Fy A.in1 ⟨hp,g,d,tk,os⟩ a t c u
     refine wpAny_bind (he prog w _ _ ?_)
     cases e with
     | true =>
      rw [if_pos (hiff.mp rfl)] at hR
      wp_walk
      exact ⟨rfl,rfl,_,_,_,_,hrest,hvi',hwi',by omega,hR⟩
     | false =>
      rw [if_neg (λq=>absurd (hiff.mpr q) UJ)] at hR
      have hri:=Ha A.in1 ⟨hp,g,d,tk,os⟩ a t c u prog w
      wp_walk using hri
      exact ⟨_,rfl,by simpa using hR⟩
  case fin =>
   rintro ⟨b1,b2⟩ s' ⟨hb',rfl,vs,ws,ns',ms',hz,hvi,hwi,hlen,hR⟩
   simp only at hb'
   subst hb'
   have hv:mQ ns' ms'=decide (items.size < items2.size):=by
    cases hvi with
    | nil =>
     cases hwi with
     | nil =>
      simp only [VS] at hlen
      rw [nX]
      exact (decide_eq_false (by omega)).symm
     | cons c u hw =>
      simp only [VS,UQ] at hlen
      rw [uj]
      exact (decide_eq_true (by omega)).symm
    | cons a t hv =>
     cases hwi with
     | nil =>
      simp only [VS,UQ] at hlen
      rw [ui]
      exact (decide_eq_false (by omega)).symm
     | cons c u hw =>
      rw [WC] at hz
      cases hz
   rw [hv] at hR
   wp_walk
   exact ⟨_,rfl,by simpa [Builtin.Tuple.tupleCompareSizes] using hR⟩
  case h =>
   exact ⟨rfl,rfl,items.toList,items2.toList,ns,ms,rfl,hi,hj,by omega,h⟩
section
variable {prog:Program} {w:World} {A:Around} {E:Value→Shared→Prop} {s:Shared}
theorem AM {l b:Addr} {items items2:Array Value} {ns ms:List Str} {Q:Value→Shared→Prop} (hl:IsTup s.heap l items) (hb:IsTup s.heap b items2) (hi:StrsAre items.toList ns) (hj:StrsAre items2.toList ms)
  (hu:A.units < cLine) (h:Q (.bool (mQ ns ms)) s):wpAny (model prog w) A (compareOp .Lt (.ref l) (.ref b)) Q E s:=by
 obtain ⟨⟨cls,dd,data,sl⟩,ho,hc,n,hd⟩:=id hl
 obtain ⟨⟨cls2,dd2,data2,sl2⟩,ho2,hc2,n2,hd2⟩:=id hb
 simp only at hc hd hc2 hd2
 subst hc hd hc2 hd2
 exact richCompare_meets_room (op:=.Lt) ⟨_,ho,rfl⟩ ⟨_,ho2,rfl⟩ PySem.F.slot_tuple_lt PySem.F.entry_tuple_lt (PySem.F.args_tuple_lt_2 _ _) (uN l b items items2 n n2 dd dd2 sl sl2 ns ms hi hj)
  ⟨ho,ho2,show Value.bool (mQ ns ms)≠Value.notImplemented∧Q (.bool (mQ ns ms)) s from ⟨(λx=>nomatch x),h⟩⟩ hu
end
end
open L2 (V HO Hp Inv Cx VK XK TE TT TA TS TG qF TI TO ki Ends xY Loc Gl Rd RelV Vals fz yf cj qD uf qE kg R2 upd aG aM cZ gS Sp tK It bG dq bV Passes qj aH Meth Mk Binds aQ cb aw dk gm fh)
section
variable {X:Cx} {K:PySem.W.Frag}
theorem Ju (hu:X.A.units < cLine):fz X (compareOp .Lt) (λx y H Q=>∃a b ns ms,x=.ref a∧y=.ref b∧gS X.K H a (ns.map V.str)∧gS X.K H b (ms.map V.str)∧Q (.bl (mQ ns ms)) H):=by
 intro pins s σ H x y v u Q I rx ry h
 obtain ⟨a,b,ns,ms,rfl,rfl,ha,hb,q⟩:=h
 cases rx;cases ry
 obtain ⟨is,r1,t1,_⟩:=I.tuple ha
 obtain ⟨js,r2,t2,_⟩:=I.tuple hb
 exact AM t1 t2 (by simpa using jU r1) (by simpa using jU r2) hu ⟨.bl _,H,I,rfl,q⟩
theorem tF {J:Hq} {H:Hp}:∀{ns:List Str} {vs:List V},aU K J H (ns.map PV.str) vs→vs=ns.map V.str
 | [],_,h=>h
 | n :: ns,_,⟨v,us,e,h,k⟩=>by subst e;cases h;rw [tF k];rfl
def Lp:nG:=λx y J Q=>∃ns ms,x=.tup (ns.map .str)∧y=.tup (ms.map .str)∧Q (.bl (mQ ns ms)) J
theorem Jy (hu:X.A.units < cLine):nv X (compareOp .Lt) Lp:=⟨_,Ju hu,λJ H x y v w Q2 Q rx ry r ⟨ns,ms,ex,ey,q⟩ k=>by
 subst ex ey
 obtain ⟨a,vs,rfl,h1,h2⟩:=rx
 obtain ⟨b,ws,rfl,h3,h4⟩:=ry
 cases tF h2;cases tF h4
 exact ⟨a,b,ns,ms,rfl,rfl,h1,h3,k (.bl _) J _ H rfl r .refl q⟩⟩
theorem Jt:fz X (binaryOp .Add) (λx y H Q=>∃l b xs zs,x=.ref l∧y=.ref b∧cZ X.K H l xs∧cZ X.K H b zs∧xs.length + zs.length≤sizeLine∧∀p,H p=none→Q (.ref p) (upd H p (.lst (xs ++ zs)))):=by
 intro pins s σ H x y v u Q I rx ry h
 obtain ⟨l,b,xs,zs,rfl,rfl,hH,hB,hz,q⟩:=h
 cases rx;cases ry
 obtain ⟨its,r,pl,_⟩:=I.list hH
 obtain ⟨its2,r2,pl2,_⟩:=I.list hB
 have l1:=r.length
 have l2:=r2.length
 obtain ⟨⟨c1,d1,da1,sl1⟩,n,e,hc,hd,hda⟩:=pl
 obtain ⟨⟨c2,d2,da2,sl2⟩,n2,e2,hc2,hd2,hda2⟩:=pl2
 simp only at hc hd hda hc2 hd2 hda2
 subst hc hd hda hc2 hd2 hda2
 refine concat_meets ⟨_,e,rfl⟩ ⟨_,e2,rfl⟩ noFill_list_add seq_list_add PySem.F.slot_list_add PySem.F.entry_list_add (PySem.F.args_list_add_2 _ _) (list_addW l b its.toArray its2.toArray n n2 none none sl1 sl2 (by simp only [Uy];omega)) ⟨e,e2,?_⟩
 have ea:its.toArray ++ its2.toArray=(its ++ its2).toArray:=by simp
 rw [ea]
 exact ⟨.ref _,_,I.Sg (t':=s.toks) (r.append r2) (by rw [UP];omega),rfl,q _ I.fresh⟩
def Ll:nG:=λx y J Q=>∃xs ys,kF J x=some xs∧kF J y=some ys∧xs.length + ys.length≤sizeLine∧Q (.fl (xs ++ ys)) J
theorem Jw:nv X (binaryOp .Add) Ll:=⟨_,Jt,λJ H x y v w Q2 Q rx ry r ⟨xs,ys,ex,ey,hl,q⟩ k=>by
 obtain ⟨a,vs,rfl,h1,h2⟩:=nY rx r ex
 obtain ⟨b,ws,rfl,h3,h4⟩:=nY ry r ey
 refine ⟨a,b,vs,ws,rfl,rfl,h1,h3,by rw [← h2.length,← h4.length];exact hl,λp hp=>?_⟩
 obtain ⟨x1,x2,x3⟩:=sd r (h2.append h4) hp
 exact k _ J _ _ x1 x2 x3 q⟩
end
def dX (K:PySem.W.Frag) (C:Addr) (m qual:Str) (st:Stmt):Prop:=∃f fd,Meth K C m f∧cb K m qual st f fd
structure dW (K:PySem.W.Frag) (mg:Str→Option Value) (x:Str) (C:Addr):Prop where
 cl:qj K C
 m:mg x=some (.ref C)
 mkz:PySem.W.makesIn K C=true
 kp:PySem.W.keepIn K (.ref C)=true
theorem bB {K:PySem.W.Frag} {C f:Addr} {m qual:Str} {st:Stmt} {od an:Option Addr} {sl:Array (Option Value)} {oc kV dc pm cd ct:Value} (a:PySem.W.findIn K (.ref C) m=some (some (.ref f))) (i:PySem.W.isFn K (.ref f)=true)
  (l:K.lookup f=some ⟨oc,od,.func (PySem.W.fnOf m qual (L2.dt st) (L2.bX st) (L2.aj st) .none kV dc pm an cd ct),sl⟩) (c:PySem.W.codeIn K cd qual=true) (k:PySem.W.keepIn K (.ref f)=true):dX K C m qual st :=
 ⟨f,_,⟨a,i,k⟩,L2.AA l c k⟩
theorem wd {K:PySem.W.Frag} {h:Heap} {mg:Str→Option Value} {x:Str} {C:Addr} (X:K.In h) (G:h.Ns mainGlobals mg) (aC:PySem.W.nsIn K mainGlobals x=some (some (.ref C)))
  (pg:PySem.W.plainGet K C Str.empty=true) (hd:PySem.W.hasDictIn K C=true) (po:PySem.W.plainOver K C=true) (sa:PySem.W.findIn K (.ref C) "__setattr__"=some (some (.builtin "object.__setattr__"))) (mk:PySem.W.makesIn K C=true) (kc:PySem.W.keepIn K (.ref C)=true):dW K mg x C :=
 ⟨⟨pg,hd,po,sa⟩,PySem.W.mg_of X G aC,mk,kc⟩
section
variable {P:Program} {w:World} {K:PySem.W.Frag} {mg:Str→Option Value} {base:Heap}
theorem dX.qv {C:Addr} {m qual:Str} {st:Stmt} {k:Nat} {ps:List Str} {sp:cA} (D:dX K C m qual st) (cl:qj K C) (h:∀f fd,cb K m qual st f fd→aQ P w K mg base (cP P w) k f fd ps (dn K sp))
  (hb:∀(kV doc pm:Value) (an:Option Addr) (cdv ct:Value) (us:List Value),us.length=ps.length→bindArgs (PySem.W.fnOf m qual (L2.dt st) (L2.bX st) (L2.aj st) .none kV doc pm an cdv ct) ⟨us,[]⟩=pure (ps.zip us)):cI P w K mg base C k m ps sp:=by
 obtain ⟨f,fd,hm,F⟩:=D
 exact ⟨cl,f,fd,hm,h f fd F,F.binds hb⟩
theorem dX.Si {x:Str} {C:Addr} {qual:Str} {st:Stmt} {k:Nat} {ps:List Str} {sp:cA} (D:dX K C "__init__" qual st) (kd:dW K mg x C) (h:∀f fd,cb K "__init__" qual st f fd→aQ P w K mg base (cP P w) k f fd ps (dn K sp))
  (hb:∀(kV doc pm:Value) (an:Option Addr) (cdv ct:Value) (us:List Value),us.length=ps.length→bindArgs (PySem.W.fnOf "__init__" qual (L2.dt st) (L2.bX st) (L2.aj st) .none kV doc pm an cdv ct) ⟨us,[]⟩=pure (ps.zip us)):vT P w K mg base C k x ps sp:=by
 obtain ⟨f,fd,hm,F⟩:=D
 exact ⟨kd.m,f,fd,⟨kd.mkz,hm.at_,hm.fn,kd.kp⟩,h f fd F,F.binds hb⟩
end
theorem Oi {n:Nat} {F:List Value→Prop} (h:∀a us,us.length=n→F (a :: us)) (us:List Value) (hu:us.length=n + 1):F us:=by
 cases us with
 | nil=>cases hu
 | cons a us=>exact h a us (Nat.succ.inj hu)
theorem Ua {F:List Value→Prop} (h:F []) (us:List Value) (hu:us.length=0):F us:=by
 cases us with
 | nil=>exact h
 | cons a us=>cases hu
theorem yi {F:List Value→Prop} (h:∀a,F [a]):∀us:List Value,us.length=1→F us:=Oi λa=>Ua (F:=λus=>F (a :: us)) (h a)
theorem jc {F:List Value→Prop} (h:∀a b,F [a,b]):∀us:List Value,us.length=2→F us:=Oi λa=>yi (F:=λus=>F (a :: us)) (h a)
theorem Mm {F:List Value→Prop} (h:∀a b c,F [a,b,c]):∀us:List Value,us.length=3→F us:=Oi λa=>jc (F:=λus=>F (a :: us)) (h a)
theorem Oh {F:List Value→Prop} (h:∀a b c d,F [a,b,c,d]):∀us:List Value,us.length=4→F us:=Oi λa=>Mm (F:=λus=>F (a :: us)) (h a)
theorem RF {F:List Value→Prop} (h:∀a b c d e,F [a,b,c,d,e]):∀us:List Value,us.length=5→F us:=Oi λa=>Oh (F:=λus=>F (a :: us)) (h a)
theorem Ub {F:List Value→Prop} (h:∀a b c d e f,F [a,b,c,d,e,f]):∀us:List Value,us.length=6→F us:=Oi λa=>RF (F:=λus=>F (a :: us)) (h a)
end Ov
namespace Ov
open PySem PySem.Spec PyProof.Rows
open L2 (V HO Hp Inv Cx VK XK Rd cZ gS Sp bG bV Passes aQ cb aw dk upd aG aM)
def fr (q:Rat):PV:=.tup [.int q.num,.int (q.den:Int)]
theorem MF (a b:Rat):(fr a=fr b)=(a=b):=by
 apply propext
 constructor
 ·intro h
  unfold fr at h
  simp only [PV.tup.injEq,List.cons.injEq,PV.int.injEq,and_true] at h
  exact Rat.ext h.1 (by have:=h.2;omega)
 ·intro h;rw [h]
theorem KQ (a:Rat):fr a=.tup [.int a.num,.int (a.den:Int)]:=rfl
theorem MK (J:Hq) (q:Rat):fL J (fr q) (.int 0)=some (.int q.num):=dU _ _
theorem ML (J:Hq) (q:Rat):fL J (fr q) (.int 1)=some (.int (q.den:Int)):=fW _ _ _
theorem QV (J:Hq) (q:Rat):BE J (fr q)=some "tuple":=rfl
theorem MU (J:Hq) (q:Rat):wo J (fr q)=some 2:=rfl
theorem wW (q:Rat):mx (fr q)=true:=by simp [fr,mx,i8]
theorem rW (q:Rat):FU (fr q)=false:=rfl
theorem MA (q:Rat):dep (fR (fr q))=1:=by simp [fr,fR,fG,dep,dI]
theorem OP (q:Rat):HS (fr q)=True:=eq_true ⟨wW q,by rw [MA];decide⟩
theorem Ms (i:Int):HS (.int i)=True:=eq_true ⟨by simp [mx],by simp [fR,dep]⟩
theorem Mu (i:Str):HS (.str i)=True:=eq_true ⟨by simp [mx],by simp [fR,dep]⟩
theorem OO (i:Bool):HS (.bl i)=True:=eq_true ⟨by simp [mx],by simp [fR,dep]⟩
theorem Mt:HS .non=True:=eq_true ⟨by simp [mx],by simp [fR,dep]⟩
theorem Cw (i:Int):mx (.int i)=true:=by simp [mx]
theorem wX (i:Str):mx (.str i)=true:=by simp [mx]
theorem Bf (i:Bool):mx (.bl i)=true:=by simp [mx]
theorem JP:mx .non=true:=by simp [mx]
theorem Cy (xs:List PV):mx (.tup xs)=i8 xs:=by simp [mx]
theorem GW (xs:List PV):mx (.fl xs)=i8 xs:=by simp [mx]
theorem lT (x:PV) (xs:List PV):i8 (x :: xs)=(mx x && i8 xs):=by simp [i8]
theorem sF:i8 []=true:=by simp [i8]
theorem za {α:Type} (g:α→PV) (h:∀a,mx (g a)=true):∀xs:List α,i8 (xs.map g)=true
 | []=>by simp [i8]
 | x :: xs=>by simp [i8,h,za g h xs]
theorem eq_int (a b:Int):eqQ (.int a) (.int b)=decide (a=b):=by unfold eqQ fR lM;rw [Ws]
theorem eq_str (a b:Str):eqQ (.str a) (.str b)=decide (a=b):=by
 unfold eqQ fR lM
 cases h:a == b with
 | true=>simp at h;simp [h]
 | false=>simp at h;simp [h]
theorem OS (a b:Bool):eqQ (.bl a) (.bl b)=decide (a=b):=by unfold eqQ fR lM;rw [Ws]
def Aw (xs ys:List PV):Bool:=kr (fG xs) (fG ys)
theorem v7 (xs ys:List PV):eqQ (.tup xs) (.tup ys)=Aw xs ys:=by unfold eqQ fR lM Aw;rfl
theorem d5 (x y:PV) (xs ys:List PV):Aw (x :: xs) (y :: ys)=(eqQ x y && Aw xs ys):=by unfold Aw eqQ;simp [fG,kr]
theorem qG:Aw [] []=true:=by unfold Aw;simp [fG,kr]
theorem eq_self (x:PV):eqQ x x=true:=yu _
theorem BY (a b:Rat):eqQ (fr a) (fr b)=decide (a=b):=by
 rw [KQ,KQ,v7,d5,d5,qG,eq_int,eq_int,VB,← VF]
 exact decide_eq_decide.mpr (by rw [JY])
theorem Uq (a b c:PV):ko [a,b,c] (some 1) none=[b,c]:=rfl
theorem N5:nq "int" "int"=some true:=by simp [nq]
theorem KA:nq "int" "bool"=some false:=by simp [nq]
theorem QZ:nq "bool" "bool"=some true:=by simp [nq]
theorem N6:nq "str" "str"=some true:=by simp [nq]
theorem N7:nq "tuple" "tuple"=some true:=by simp [nq]
theorem KC:nq "list" "list"=some true:=by simp [nq]
theorem dJ {n:Nat} (h:n≤1000):n≤sizeLine:=V_ (L2.bp h)
theorem K5:(0≤sizeLine)=True:=eq_true (UZ _)
theorem Pa:(1≤sizeLine)=True:=eq_true (dJ (by decide))
theorem Pb:(2≤sizeLine)=True:=eq_true (dJ (by decide))
theorem Pc:(3≤sizeLine)=True:=eq_true (dJ (by decide))
theorem Pd:(4≤sizeLine)=True:=eq_true (dJ (by decide))
section
variable (J:Hq) (xs:List PV) (a:Addr) (i:Int) (b:Bool) (z:Str) (T:String)
theorem R8:fL J (.tup xs) (.int i)=dk xs i:=rfl
theorem R7:fL J (.fl xs) (.int i)=dk xs i:=rfl
theorem O5:fL J (.ref a) (.int i)=(match J a with | some (.lst xs)=>dk xs i | _=>none):=rfl
theorem Sh:kF J (.fl xs)=some xs:=rfl
theorem Gg:kF J (.ref a)=(match J a with | some (.lst xs)=>some xs | _=>none):=rfl
theorem O_:wo J (.tup xs)=some xs.length:=rfl
theorem O9:wo J (.fl xs)=some xs.length:=rfl
theorem K3:wo J (.ref a)=(match J a with | some (.lst xs)=>some xs | _=>none).map Vl:=rfl
theorem S4:BE J .non=some "NoneType":=rfl
theorem QU:BE J (.bl b)=some "bool":=rfl
theorem S3:BE J (.int i)=some "int":=rfl
theorem S5:BE J (.str z)=some "str":=rfl
theorem S6:BE J (.tup xs)=some "tuple":=rfl
theorem S2:BE J (.fl xs)=some "list":=rfl
theorem QY:BE J (.ref a)=(match J a with | some (.lst _)=>some "list" | some (.dct _ _)=>some "dict" | _=>none):=rfl
theorem QN:xV J .non=some false:=rfl
theorem LP:xV J (.bl b)=some b:=rfl
theorem QM:xV J (.int i)=some (i != 0):=rfl
theorem QQ:xV J (.tup xs)=some (!xs.isEmpty):=rfl
theorem QL:xV J (.fl xs)=some (!xs.isEmpty):=rfl
theorem QP:xV J (.ref a)=(match J a with | some (.lst xs)=>some (!xs.isEmpty) | some (.dct kvs _)=>some (!kvs.isEmpty) | _=>none):=rfl
theorem R5:Rb J (.fl xs)=some ⟨xs,λ_=>True⟩:=rfl
theorem R6:Rb J (.ref a)=(match J a with | some (.lst xs)=>some ⟨xs,λJ'=>J' a=some (.lst xs)⟩ | _=>none):=rfl
theorem O1:FU .non=true:=rfl
theorem RY:FU (.bl b)=false:=rfl
theorem R0:FU (.int i)=false:=rfl
theorem R3:FU (.str z)=false:=rfl
theorem R4:FU (.tup xs)=false:=rfl
theorem RZ:FU (.fl xs)=false:=rfl
theorem R1:FU (.ref a)=false:=rfl
theorem SW:Oy T J (.fl xs)=(T="list"):=rfl
theorem SY:Oy T J (.str z)=(T="str"):=rfl
theorem SX:Oy T J (.ref a)=((T="list"∧∃xs,J a=some (.lst xs))∨(T="dict"∧∃kvs ep,J a=some (.dct kvs ep))):=rfl
end
def Fo (it:Ab) (g:Ak) (tb:iM) (D:En) (τ:Sr) (J1:Hq):Prop:=∃Pv:Nat→Sr→Hq→Prop,Pv 0 τ J1∧(∀i τ J,Pv i τ J→it.ok J) ∧
 (∀i x τ J,it.xs[i]?=some x→Pv i τ J→g x τ J λτ2 J2=>tb { D with nx:=Pv (i + 1),ct:=Pv (i + 1),bk:=D.nx } τ2 J2)∧∀τ J,Pv it.xs.length τ J→D.nx τ J
theorem JT (wi:ug) (g:Ak) (tb:iM) (D:En) (τ:Sr) (J:Hq):Qc wi g tb D τ J=wi τ J λit J1=>Fo it g tb D τ J1:=rfl
theorem qH {lo:Int} {n:Nat} {g:Ak} {tb:iM} {D:En} {τ:Sr} {J1:Hq} (Pv:Nat→Sr→Hq→Prop) (h0:Pv 0 τ J1)
  (hs:∀(i:Nat) τ J,i < n→Pv i τ J→g (.int (lo + (i:Int))) τ J λτ2 J2=>tb { D with nx:=Pv (i + 1),ct:=Pv (i + 1),bk:=D.nx } τ2 J2) (hd:∀τ J,Pv n τ J→D.nx τ J):Fo ⟨o6 lo n,λ_=>True⟩ g tb D τ J1 :=
 ⟨Pv,h0,λ_ _ _ _=>trivial,λi x τ J e p=>by obtain ⟨a,b⟩:=(nW lo n i x).mp e;subst b;exact hs i τ J a p,λτ J p=>hd τ J (by simpa [fE] using p)⟩
structure bQ (mg:Str→Option Value):Prop extends EL mg where
 str:mg "str"=none
 dict:mg "dict"=none
 max:mg "max"=none
 zip:mg "zip"=none
 enumerate:mg "enumerate"=none
def oS (J' J:Hq):Prop:=∀a,J' a=J a∨J' a=none
def Fg (Q:PV→Hq→Prop) (v:PV) (J:Hq):Prop:=∃x J',oS J' J∧(x=v∨∃a xs,v=.ref a∧x=.fl xs∧J a=some (.lst xs)∧J' a=none)∧Q x J'
theorem Fg.same {Q:PV→Hq→Prop} {v:PV} {J:Hq} (h:Q v J):Fg Q v J:=⟨v,J,λ_=>.inl rfl,.inl rfl,h⟩
theorem Fg.less {Q:PV→Hq→Prop} {v:PV} {J J':Hq} (l:oS J' J) (h:Q v J'):Fg Q v J:=⟨v,J',l,.inl rfl,h⟩
theorem Fg.qJ {Q:PV→Hq→Prop} {a:Addr} {xs:List PV} {J J':Hq} (l:oS J' J) (ha:J a=some (.lst xs)) (hn:J' a=none) (h:Q (.fl xs) J'):Fg Q (.ref a) J:=⟨.fl xs,J',l,.inr ⟨a,xs,rfl,rfl,ha,hn⟩,h⟩
section
variable {P:Program} {w:World} {K:PySem.W.Frag} {mg:Str→Option Value} {base:Heap}
theorem Fg.kn {J:Hq} {H:Hp} {Q2:PV→Hq→Prop} {Q:VK} (k:Kn K J H Q2 Q):Kn K J H (Fg Q2) Q:=λz J1 u H1 rz r1 e1 ⟨x,J',l,hx,q⟩=>by
 have el:=Ext.less (K:=K) (H:=H1) l
 rcases hx with rfl | ⟨a,xs,rfl,rfl,ha,hn⟩
 ·exact k x J' u H1 (el.rep rz) (r1.less l) (e1.trans el) q
 ·cases rz
  obtain ⟨vs,h1,h2⟩:=r1 _ _ ha
  exact k (.fl xs) J' _ H1 ⟨a,vs,rfl,.inl ⟨hn,.inl h1⟩,el.jG h2⟩ (r1.less l) (e1.trans el) q
theorem Uj {x qual:Str} {st:Stmt} {f:Addr} {fd:FuncData} {N ps:List Str} {k:Nat} {sp:cA} (F:cb K x qual st f fd) (S:aw N ps (L2.aj st)) (len:∀xs J Q E,sp xs J Q E→xs.length=ps.length)
  (hbody:∀(cdv:Value) (A:Around) (outer:List Env) (s:Shared) (H:Hp) (E:XK) (G:G2) (xs:List PV) (J:Hq) (Q:PV→Hq→Prop) (E2:Addr→Hq→Prop),bV k (A.deeper (envOfC qual (L2.aj st) s.heap.objs.size f cdv))→sp xs J Q E2 →
   Dv (zM P w K mg base N qual (L2.aj st) f cdv A outer s H E) G E2 E →
   ∃t,RB (zM P w K mg base N qual (L2.aj st) f cdv A outer s H E) G (L2.bX st) t∧t { nx:=λ_ J'=>Fg Q .non J',rt:=Fg Q } (xQ N xs) J):aQ P w K mg base (cP P w) (k + 1) f fd ps (dn K sp):=by
 have:=So (sp:=λxs J Q E=>∃Q0,Q=Fg Q0∧sp xs J Q0 E) F S (λxs J Q E ⟨Q0,_,h⟩=>len xs J Q0 E h) (λcdv A outer s H E G xs J Q E2 hr ⟨Q0,eq,h⟩ B=>by subst eq;exact hbody cdv A outer s H E G xs J Q0 E2 hr h B)
 exact this.imp λvs H Q E ⟨xs,J,Q2,E2,a,b,c,d,e⟩=>⟨xs,J,Fg Q2,E2,a,b,⟨Q2,rfl,c⟩,Fg.kn d,e⟩
end
section
variable {P:Program} {w:World} {K:PySem.W.Frag} {mg:Str→Option Value} {base:Heap}
theorem Sn {x qual:Str} {st:Stmt} {f:Addr} {fd:FuncData} {N ps:List Str} {k:Nat} {sp:cA} {t:(Addr→Hq→Prop)→iM} (F:cb K x qual st f fd) (S:aw N ps (L2.aj st)) (len:∀xs J Q E,sp xs J Q E→xs.length=ps.length)
  (rd:∀(cdv:Value) (A:Around) (outer:List Env) (s:Shared) (H:Hp) (E:XK) (G:G2) (E2:Addr→Hq→Prop),bV k (A.deeper (envOfC qual (L2.aj st) s.heap.objs.size f cdv)) →
   Dv (zM P w K mg base N qual (L2.aj st) f cdv A outer s H E) G E2 E→RB (zM P w K mg base N qual (L2.aj st) f cdv A outer s H E) G (L2.bX st) (t E2))
  (run:∀(xs:List PV) (J:Hq) (Q:PV→Hq→Prop) (E2:Addr→Hq→Prop),sp xs J Q E2→∀X:Prop,(t E2 { nx:=λ_ J'=>Fg Q .non J',rt:=Fg Q } (xQ N xs) J→X)→X):aQ P w K mg base (cP P w) (k + 1) f fd ps (dn K sp) :=
 Uj F S len λcdv A outer s H E G xs J Q E2 hr h B=>⟨_,rd cdv A outer s H E G E2 hr B,run xs J Q E2 h _ id⟩
end
theorem Fx {X:Cx} {G:G2}:Dv X G (λ_ _=>False) L2.E0:=⟨λ_ _ _ _ _ _ _ ⟨_,_,_,_,_,z⟩=>z.elim,λ_ _ _ _ _ z=>z.elim⟩
theorem pB {K:PySem.W.Frag} {J:Hq} {H:Hp}:∀ns:List Int,aU K J H (ns.map PV.int) (ns.map V.int)
 | []=>rfl
 | n :: ns=>⟨_,_,rfl,rfl,pB ns⟩
end Ov
namespace Ov
open PySem PySem.Spec PyProof.Rows L2
theorem OG {α:Type} (a b c d e:α) (xs:List α):dk (a :: b :: c :: d :: e :: xs) 4=some e:=bq (j:=4) rfl
theorem OH {α:Type} (a b c d e f:α) (xs:List α):dk (a :: b :: c :: d :: e :: f :: xs) 5=some f:=bq (j:=5) rfl
theorem OI {α:Type} (a b c d e f g:α) (xs:List α):dk (a :: b :: c :: d :: e :: f :: g :: xs) 6=some g:=bq (j:=6) rfl
theorem OJ {α:Type} (a b c d e f g h:α) (xs:List α):dk (a :: b :: c :: d :: e :: f :: g :: h :: xs) 7=some h:=bq (j:=7) rfl
theorem OK {α:Type} (a b c d e f g h i:α) (xs:List α):dk (a :: b :: c :: d :: e :: f :: g :: h :: i :: xs) 8=some i:=bq (j:=8) rfl
theorem OL {α:Type} (a b c d e f g h i j:α) (xs:List α):dk (a :: b :: c :: d :: e :: f :: g :: h :: i :: j :: xs) 9=some j:=bq (j:=9) rfl
theorem Mn {α:Type} (a b c d e f g h i j k:α) (xs:List α):dk (a :: b :: c :: d :: e :: f :: g :: h :: i :: j :: k :: xs) 10=some k:=bq (j:=10) rfl
theorem Mo {α:Type} (a b c d e f g h i j k l:α) (xs:List α):dk (a :: b :: c :: d :: e :: f :: g :: h :: i :: j :: k :: l :: xs) 11=some l:=bq (j:=11) rfl
theorem Pe:(5≤sizeLine)=True:=eq_true (dJ (by decide))
theorem Pf:(6≤sizeLine)=True:=eq_true (dJ (by decide))
theorem Pg:(7≤sizeLine)=True:=eq_true (dJ (by decide))
theorem Ph:(8≤sizeLine)=True:=eq_true (dJ (by decide))
theorem Pj:(9≤sizeLine)=True:=eq_true (dJ (by decide))
theorem MV:(10≤sizeLine)=True:=eq_true (dJ (by decide))
theorem MW:(11≤sizeLine)=True:=eq_true (dJ (by decide))
theorem MX:(12≤sizeLine)=True:=eq_true (dJ (by decide))
theorem lA {ss:List Int} (h:ss.all (λs=>decide (0 < s) && decide (s < 2 ^ 63))=true):∀s∈ss,0 < s∧Bd 9000 s:=λs hs=>by
 have:=VC.mp h s hs
 rw [UX,decide_eq_true_eq,decide_eq_true_eq] at this
 exact ⟨this.1,(Bd.small (by omega) (by omega)).mono (by decide)⟩
theorem Sz.div {n:Nat} {t b:Int} (ht:Bd n t) (hb:Bd n b) (h:b≠0):Sz n (Rat.divInt t b):=⟨ht.le (Ci t b),hb.le (v3 h)⟩
end Ov
namespace Ov
open PySem PySem.Spec PyProof.Rows
open L2 (V HO Hp Inv Cx VK XK TE TT TA TS TG qF TI TO ki Ends xY Loc Gl Rd RelV Vals fz yf cj qD uf qE kg R2 upd aG aM cZ gS Sp tK It bG dq bV Passes qj aH Meth Mk Binds aQ cb aw dk gm fh)
section
variable {X:Cx} {G:G2}
abbrev DD:=PV→PV→PV→Hq→(Hq→Prop)→Prop
def Rz (X:Cx) (q:DD):Prop:=∃r,kg X r∧∀J H o i y ov iv u R2 R,cE X.K J H o ov→cE X.K J H i iv→cE X.K J H y u→Rep X.K J H→q o i y J R2→(∀J' H',Rep X.K J' H'→Ext X.K J H J' H'→R2 J'→R H')→r ov iv u H R
def RU (to ti:dz) (t:DD):Ak:=λy τ J R=>to τ J λo J1=>ti τ J1 λi J2=>t o i y J2 λJ3=>R τ J3
theorem NK {o i:Expr} {to ti:dz} {t:DD} {pos:Pos} (hs:Rz X t) (ho:RE X G o to) (hi:RE X G i ti)
  (ha:∀v,assign (.Subscript o i pos) X.env v=(do
   let ov ← holding [v] (eval o X.env)
   let iv ← holding [v,ov] (eval i X.env)
   standAt pos
   holding [v,ov,iv] (setItem ov iv v)
   release [v,ov,iv] []):=by intro _;rfl):RG X G (.Subscript o i pos) (RU to ti t):=by
 obtain ⟨r,hr,lf⟩:=hs
 exact ⟨Sy (L2.wM ho.run hi.run hr ha) λv σ H Q ⟨y,τ,J,Q2,ry,a2,h,k⟩ =>
  ⟨τ,J,_,a2,h,λx J1 ov H1 rx r1 e1 h1=>⟨τ,J1,_,a2.go r1 e1,h1,λz J2 iv H2 rz r2 e2 h2 =>
   lf J2 H2 x z y ov iv v _ _ (e2.rep rx) rz (e2.rep (e1.rep ry)) r2 h2 λJ3 H3 r3 e3 q=>k τ J3 σ H3 ((((a2.sl.ext e1).ext e2).ext e3)) r3 ((e1.trans e2).trans e3) q⟩⟩⟩
def P6:DD:=λo i y J R=>∃p xs k j,o=.ref p∧i=.int k∧J p=some (.lst xs)∧L2.EO xs.length k=some j∧R (put J p (.lst (xs.set j y)))
theorem xh {o i e:Expr} {to ti te:dz} {t:DD} {pos pos':Pos} (hs:Rz X t) (ho:RE X G o to) (hi:RE X G i ti) (he:RE X G e te)
  (ha:∀v,assign (.Subscript o i pos') X.env v=(do
   let ov ← holding [v] (eval o X.env)
   let iv ← holding [v,ov] (eval i X.env)
   standAt pos'
   holding [v,ov,iv] (setItem ov iv v)
   release [v,ov,iv] []):=by intro _;rfl)
  (hq:swapsWithSole [.Subscript o i pos'] e pos.line X.env=pure false:=by rfl) (hw:swappedStores [.Subscript o i pos'] e X.env=pure none:=by rfl)
  (h1:(assignEach [.Subscript o i pos'] X.env).map (·.2)=[assign (.Subscript o i pos') X.env]:=by rfl):RS X G (.Assign [.Subscript o i pos'] e pos) (uF te (RU to ti t)):=sL he (NK hs ho hi ha) hq hw h1
def Ti (X:Cx) (op:Operator) (q:nG):Prop:=∃r,L2.Rx X op r∧LR X.K r q
def P9 (i:Nat) (te:dz) (q:nG):iM:=λD τ J=>Oq τ[i]? λx=>te τ J λy J1=>q x y J1 λz J2=>D.nx (τ.set i (some z)) J2
theorem Hd {i:Nat} {x:Str} {e:Expr} {te:dz} {op:Operator} {q:nG} {pos pos':Pos} (hN:X.N.Nodup) (he:RE X G e te) (ho:Ti X op q) (hi:X.N[i]?=some x:=by rfl) (hx:Loc X.env.scope x:=by first | exact .inl rfl | exact .inr rfl) (hf:X.fn x=true∨X.env.scope.names.lookup x=some .local:=by first | exact .inl rfl | exact .inr rfl | assumption) :
  RS X G (.AugAssign (.Name x pos') op e pos) (P9 i te q):=by
 obtain ⟨r,hr,lf⟩:=ho
 exact ⟨zN (L2.Nw hN hi hx he.run hr hf) λD σ H ⟨τ,J,D2,a2,hh,g⟩=>by
  obtain ⟨x,hx,h⟩:=GA hh
  obtain ⟨v,h1,h2⟩:=a2.sl.get _ _ hx
  exact ⟨v,h1,τ,J,_,a2,h,λy J1 u H1 ry r1 e1 q1=>lf J1 H1 x y v u _ _ (e1.rep h2) ry r1 q1 λz J2 u2 H2 rz r2 e2 q2=>g.nx _ J2 _ H2 (((a2.sl.ext e1).ext e2).set i rz) r2 (e1.trans e2) q2⟩⟩
theorem FR:Ti X .Sub (G3 λi j=>.int (i - j)):=⟨_,L2.MJ,λJ H x y v w Q2 Q rx ry r h k=>by
 obtain ⟨i,ex,h⟩:=ij h;obtain ⟨j,ey,q⟩:=ij h
 subst ex ey;cases rx;cases ry;exact ⟨i,j,rfl,rfl,k (.int _) J _ H rfl r .refl q⟩⟩
end
theorem gw {xs:List PV} {ok:Hq→Prop} {g:Ak} {tb:iM} {D:En} {τ:Sr} {J1:Hq} (Pv:Nat→Sr→Hq→Prop) (h0:Pv 0 τ J1) (hk:∀i τ J,Pv i τ J→ok J)
  (hs:∀(i:Nat) x τ J,xs[i]?=some x→Pv i τ J→g x τ J λτ2 J2=>tb { D with nx:=Pv (i + 1),ct:=Pv (i + 1),bk:=D.nx } τ2 J2) (hd:∀τ J,Pv xs.length τ J→D.nx τ J):Fo ⟨xs,ok⟩ g tb D τ J1:=⟨Pv,h0,hk,hs,hd⟩
theorem BM {α:Type} (xs:List α) (x:α):dk (xs ++ [x]) (-1)=some x:=by
 unfold L2.dk L2.EO
 rw [if_neg (by decide),if_pos (by simp;omega)]
 have e:(-1 + ((xs ++ [x]).length:Int)).toNat=xs.length:=by simp only [UP,UQ,VS];omega
 rw [e]
 simp
theorem kG {J:Hq} {x:PV} {ys:List PV} (h:kF J x=some ys):x=.fl ys∨∃a,x=.ref a∧J a=some (.lst ys):=by
 cases x with
 | fl xs=>cases h;exact .inl rfl
 | ref a =>
  right
  refine ⟨a,rfl,?_⟩
  unfold kF at h
  simp only at h
  split at h
  ·rename_i e;cases h;exact e
  ·cases h
 | _=>cases h
theorem K7 {J:Hq} {x:PV} {ys:List PV} (h:kF J x=some ys):BE J x=some "list":=by
 rcases kG h with rfl | ⟨a,rfl,ha⟩
 ·rfl
 ·rw [QY,ha]
theorem AL {J:Hq} {x:PV} {ys:List PV} (h:kF J x=some ys):wo J x=some ys.length:=by
 rcases kG h with rfl | ⟨a,rfl,ha⟩
 ·rfl
 ·rw [K3,ha];rfl
theorem Ce {J:Hq} {x:PV} {ys:List PV} (h:kF J x=some ys) (i:Int):fL J x (.int i)=dk ys i:=by
 rcases kG h with rfl | ⟨a,rfl,ha⟩
 ·rfl
 ·rw [O5,ha]
def mL (j:Nat):List PV:=.bl true :: (Vb 10).map λk=>.bl (decide (j=k))
theorem DI {K:PySem.W.Frag} {J:Hq} {H:Hp} (j:Nat):aU K J H (mL j) (v8 j):=by
 unfold mL v8
 refine ⟨_,_,rfl,rfl,?_⟩
 generalize Vb 10=l
 induction l with
 | nil=>rfl
 | cons k l ih=>exact ⟨_,_,rfl,rfl,ih⟩
def Qr (c:Nat→Addr) (N n:Nat) (t:(Addr→Hq→Prop)→iM):iM:=λD τ J =>
 t (λa J'=>∃j,j < 10∧a=c j∧D.nx ((Vn N none).set n (some (.fl (mL j)))) J') D τ J
section
variable {X:Cx} {G:G2}
theorem NO {body suite:List Stmt} {b₀:Stmt} {x m:Str} {i n:Nat} {W:Addr} {c:Nat→Addr} {t:(Addr→Hq→Prop)→iM} {ts:TS} {np hpos pos:Pos} (Er:Dw X.K X.mg W c) (hg:Gl X x) (hm:X.mg x=some (.ref W))
  (hN:X.N.Nodup) (hi:X.N[i]?=some m) (hin:i≠n) (hk:X.env.kindOf m=some .local) (hb:∀pn xe E G' E2,Dv (Mx X pn xe) G' E2 E→RB (Mx X pn xe) G' body (t E2)) (hs:∀pn ea,QB (Ol X pn ea) (b₀ :: suite) ts)
  (hq:∀(j:Nat),j < 10→∀(σ:L2.St) (H:Hp) (ea:Addr) (D:Ends),σ[i]?=some (some (.ref ea))→H ea=some (.ext (ExcAt ea (c j)))→(∀l,H l=none→D.nx (σ.set n (some (.ref l))) (upd H l (.lst (v8 j))))→ts D σ H)
  (hst:X.stack=X.env :: X.outer:=by rfl) (hfr:X.env.frame=some X.env.locals:=by rfl) (hex:X.ex=[]:=by rfl) (hd:(x == ("__debug__":Str))=false:=by decide) :
  RS X G (.Try body [.ExceptHandler (some (.Name x np)) (some m) (b₀ :: suite) hpos] [] [] pos) (Qr c X.N.length n t):=by
 have hiN:i < X.N.length:=by
  rcases Wt i X.N.length with e | e
  ·exact e
  ·rw [U6 e] at hi;cases hi
 refine ⟨zN (JN (tb:=λE D σ H=>∃(G':G2) (E2:Addr→Hq→Prop),KL X.K G'.1 G'.2 E2 E∧LS X.K G' (t E2) D σ H) hst hfr hex hg hm hN hi hk (λpn xe E hp pins s σ H D I ⟨G',E2,kn,h⟩=>(hb pn xe E G' E2 ⟨hp,kn⟩).run pins s σ H D I h) (λpn ea=>(hs pn ea).run) hd) ?_⟩
 intro D σ H ⟨τ,J,D2,a2,h,g⟩
 refine ⟨(J,H),_,?_,τ,J,D2,⟨a2.sl,a2.hp,.refl⟩,h,g⟩
 intro C J' H' r e ⟨j,hj,hC,q⟩
 subst hC
 refine ⟨c j,rfl,Er.wat j hj,λea he=>?_⟩
 refine hq j hj _ _ ea _ (by rw [UU (by simpa using hiN)]) aG λl hl=>?_
 have s1:bG H' (upd H' ea (.ext (ExcAt ea (c j)))):=bG.new he _
 have r1:=r.same s1
 obtain ⟨x1,x2,x3⟩:=sd (xs:=mL j) r1 (DI j) hl
 refine g.nx _ J' _ _ ?_ x2 ((e.trans (.same s1)).trans x3) q
 refine ⟨by simp,λk y hy=>?_⟩
 have hkn:k=n:=by
  rcases Wt k X.N.length with hlt | hge
  ·by_cases e:n=k
   ·exact e.symm
   ·rw [U' e,List.getElem?_replicate_of_lt hlt] at hy;cases hy
  ·rw [U6 (by simpa using hge)] at hy;cases hy
 subst hkn
 have hkN:k < X.N.length:=by
  rcases Wt k X.N.length with e | e
  ·exact e
  ·rw [U6 (by simpa using e)] at hy;cases hy
 rw [UU (by simpa using hkN)] at hy
 cases hy
 exact ⟨.ref l,by rw [U' hin,UU (by simpa using hkN)],x1⟩
end
theorem NS {a b:iM} {D:En} {τ:Sr} {J:Hq} (h:∀N:Sr→Hq→Prop,(∀τ' J',b D τ' J'→N τ' J')→a { D with nx:=N } τ J):bZ a b D τ J:=h _ λ_ _ z=>z
def Ox (J:Hq):PV→Option (List PV)
 | .tup xs=>some xs
 | .fl xs=>some xs
 | .ref a=>match J a with
  | some (.lst xs)=>some xs
  | _=>none
 | _=>none
theorem Hv {K:PySem.W.Frag} {J:Hq} {H:Hp} {y:PV} {u:V} {xs:List PV} (h:Ox J y=some xs) (r:cE K J H y u) (rr:Rep K J H):∃p vs,u=.ref p∧(cZ K H p vs∨gS K H p vs)∧aU K J H xs vs:=by
 cases y with
 | tup ys=>cases h;obtain ⟨a,vs,rfl,h1,h2⟩:=r;exact ⟨a,vs,rfl,.inr h1,h2⟩
 | fl ys=>cases h;obtain ⟨a,vs,rfl,h1,h2⟩:=r;exact ⟨a,vs,rfl,.inl h1.sq,h2⟩
 | ref a =>
  cases r
  unfold Ox at h
  simp only at h
  split at h
  ·rename_i e;cases h
   obtain ⟨vs,h1,h2⟩:=rr _ _ e
   exact ⟨a,vs,rfl,.inl (cZ.of h1),h2⟩
  ·cases h
 | _=>cases h
theorem jH {K:PySem.W.Frag} {J:Hq} {H:Hp}:∀{ns:List Str} {vs:List V},aU K J H (ns.map PV.str) vs→vs=ns.map V.str
 | [],_,h=>h
 | n :: ns,_,⟨v,us,e,h,k⟩=>by subst e;cases h;rw [jH k];rfl
theorem oy {K:PySem.W.Frag} {J:Hq} {H:Hp}:∀{ns:List Int} {vs:List V},aU K J H (ns.map PV.int) vs→vs=ns.map V.int
 | [],_,h=>h
 | n :: ns,_,⟨v,us,e,h,k⟩=>by subst e;cases h;rw [oy k];rfl
theorem BN {α:Type} [BEq α] [LawfulBEq α] [DecidableEq α] (x y:α):(x == y)=decide (x=y):=by by_cases h:x=y <;> simp [h]
theorem IT (s:Str) (ss:List Str):L2.Om (.str s) (ss.map V.str)=decide (s∈ss):=by
 unfold L2.Om
 induction ss with
 | nil=>rfl
 | cons x ss ih =>
  rw [UB,VO,ih,show L2.HU (.str x) (.str s)=(x == s) from rfl,BN]
  by_cases h:x=s
  ·subst h;simp
  ·simp [h,show ¬ s=x from λe=>h e.symm]
theorem IS (s:Int) (ss:List Int):L2.Om (.int s) (ss.map V.int)=decide (s∈ss):=by
 unfold L2.Om
 induction ss with
 | nil=>rfl
 | cons x ss ih =>
  rw [UB,VO,ih,show L2.HU (.int x) (.int s)=(x == s) from rfl,BN]
  by_cases h:x=s
  ·subst h;simp
  ·simp [h,show ¬ s=x from λe=>h e.symm]
section
variable {X:Cx} {G:G2}
def PZ (f:Bool→Bool):nG:=λx y J Q=>∃(s:Str) (ss:List Str),x=.str s∧Ox J y=some (ss.map .str)∧Q (.bl (f (decide (s∈ss)))) J
def SD (f:Bool→Bool):nG:=λx y J Q=>∃(s:Int) (ss:List Int),x=.int s∧Ox J y=some (ss.map .int)∧Q (.bl (f (decide (s∈ss)))) J
theorem DK (ss:List Str):(ss.map V.str).all L2.jY=true:=by simp [L2.jY]
theorem DJ (ss:List Int):(ss.map V.int).all L2.jY=true:=by simp [L2.jY]
theorem Co:nv X (compareOp .NotIn) (PZ not):=⟨_,L2.wK,λJ H x y v w Q2 Q rx ry r ⟨s,ss,ex,hy,q⟩ k=>by
 subst ex;cases rx
 obtain ⟨p,vs,rfl,hq,h2⟩:=Hv hy ry r
 cases jH h2
 exact ⟨p,_,rfl,hq,rfl,DK ss,k (.bl _) J _ H (by rw [if_pos rfl,IT];rfl) r .refl q⟩⟩
theorem Nn:nv X (compareOp .In) (SD id):=⟨_,L2.Ej,λJ H x y v w Q2 Q rx ry r ⟨s,ss,ex,hy,q⟩ k=>by
 subst ex;cases rx
 obtain ⟨p,vs,rfl,hq,h2⟩:=Hv hy ry r
 cases oy h2
 exact ⟨p,_,rfl,hq,rfl,DJ ss,k (.bl _) J _ H (by rw [if_neg (by decide),IS];rfl) r .refl q⟩⟩
end
end Ov
namespace L2
open PySem PySem.Spec PyProof.Rows
section
variable {X:Cx} {tg:Expr}
end
end L2
namespace Ov
open PySem PySem.Spec PyProof.Rows
open L2 (V HO Hp Inv Cx VK XK TE TT TA TS TG qF TI TO ki Ends xY Loc Gl Rd RelV Vals fz yf cj qD uf qE kg R2 upd aG aM cZ gS Sp tK It bG dq bV Passes qj aH Meth Mk Binds aQ cb aw dk gm fh)
section
variable {X:Cx} {G:G2} {tg:Expr}
theorem pd {K:PySem.W.Frag} {J:Hq} {H:Hp} {y:PV} {u:V} {xs:List PV} (h:kF J y=some xs) (r:cE K J H y u) (rr:Rep K J H):∃p vs,u=.ref p∧cZ K H p vs∧aU K J H xs vs:=by
 rcases kG h with rfl | ⟨a,rfl,ha⟩
 ·obtain ⟨a,vs,rfl,h1,h2⟩:=r;exact ⟨a,vs,rfl,h1.sq,h2⟩
 ·cases r
  obtain ⟨vs,h1,h2⟩:=rr _ _ ha
  exact ⟨a,vs,rfl,cZ.of h1,h2⟩
end
end Ov
namespace L2
open PySem PySem.Spec PyProof.Rows
section
variable {X:Cx} {pins:List (Addr × Obj)} {σ:St} {H:Hp} {s:Shared} {h':Heap}
theorem Inv.rg {t':Nat} {ch:List Addr} (I:Inv X pins σ H s) (k:∀b o,b ∉ ch→s.heap.get? b=some o→h'.get? b=some o) (hf:∀b∈ch,lZ X pins H b):Inv X pins σ H { s with heap:=h',toks:=t' }:=by
 have nit:∀b u,H b=some u→b ∉ ch:=λb u e z=>by rw [(hf b z).1] at e;cases e
 refine I.step (g':=s.gens) (d':=s.drawn) (ch:=ch) (λb hb=>?_) (λb o _ _ hc e _=>k b o hc e) (λb o _ _ hc e _=>⟨o.slots,k b o hc e⟩) (λ_ _ _ _ n=>n)
  (λb o hc e=>⟨o,k b o hc e⟩) (λ_ _ e=>e) (λ_ _ _ e=>e) (λb ps e=>⟨#[],by rw [e];simp⟩) (λm hm=>?_) (λb u e=>?_) I.bare
 ·obtain ⟨f0,f1,f2,f3,f4,f5⟩:=hf b hb
  exact ⟨f3,f1,f4,f5⟩
 ·obtain ⟨o,es,ep,ho,r⟩:=hm
  exact ⟨o,es,ep,k _ o (λz=>(hf _ z).2.1 rfl) ho,r⟩
 ·refine (I.hok b u e).pS (λc v hc q=>k c v ?_ q) (λ_ q=>q) λ_ _ q=>q
  rcases hc with z | z
  ·rw [z];exact nit b u e
  ·exact nit c _ z
end
def To (K:PySem.W.Frag) (a b:Addr):It :=
 ⟨λi H=>∃xs ys x y,cZ K H a xs∧cZ K H b ys∧xs[i]?=some x∧ys[i]?=some y,
  λi H z H'=>∃T x y,H T=none∧z=.ref T∧H'=upd H T (.tup [x,y])∧(∀xs,cZ K H a xs→xs[i]?=some x)∧∀ys,cZ K H b ys→ys[i]?=some y,
  λi H=>∃xs ys,cZ K H a xs∧cZ K H b ys∧(xs.length≤i∨ys.length≤i)⟩
theorem HI {P:Program} {w:World} {K:PySem.W.Frag} {elts:List Expr} {x1} {pos:Pos} {z TI TO i1 i2 l1 l2:Addr} (D:ZipApart z TI TO i1 i2 l1 l2) :
  Turn P w K (.Tuple elts x1 pos) (To K l1 l2) [z,TI,TO,i1,i2] z (λi h=>IsZip h z TI TO .none∧IsPair h TI (.ref i1) (.ref i2)∧(∃a b,IsPair h TO a b)∧h.IsListIter i1 l1 i∧h.IsListIter i2 l2 i) where
 mem:=by simp
 obj:=λi h ⟨hz,hTI,⟨a,b,hTO⟩,h1,h2⟩ c hc=>by
  simp only [UI,UT,or_false] at hc
  rcases hc with rfl | rfl | rfl | rfl | rfl
  ·exact ⟨_,hz,λv z=>by cases z⟩
  ·exact ⟨_,hTI,λv z=>by cases z⟩
  ·exact ⟨_,hTO,λv z=>by cases z⟩
  ·obtain ⟨o,e,c,d⟩:=h1;exact ⟨o,e,λv z=>by rw [d] at z;cases z⟩
  ·obtain ⟨o,e,c,d⟩:=h2;exact ⟨o,e,λv z=>by rw [d] at z;cases z⟩
 keep:=λi h h' ⟨hz,hTI,⟨a,b,hTO⟩,h1,h2⟩ k=>⟨k z (by simp) _ hz,k TI (by simp) _ hTI,⟨a,b,k TO (by simp) _ hTO⟩,h1.at λo e=>k i1 (by simp) o e,h2.at λo e=>k i2 (by simp) o e⟩
 item:=by
  intro X hP hw hK hc i pins s σ H E I hf st hg
  subst hP hw hK
  obtain ⟨hz,hTI,⟨a,b,hTO⟩,h1,h2⟩:=st
  obtain ⟨xs,ys,x,y,hqx,hqy,hx,hy⟩:=hg
  obtain ⟨its,rv,p,hzx⟩:=I.list hqx
  obtain ⟨jts,ru,p',hzy⟩:=I.list hqy
  obtain ⟨u,hu,rx⟩:=rv.get hx
  obtain ⟨v,hv,ry⟩:=ru.get hy
  refine wpAny_pyNext_zip_item D hz hTI hTO h1 h2 p.isList p'.isList (x:=u) (y:=v) (by simpa using hu) (by simpa using hv) λh' a1 a2 a3 a4 a5 a6 hk=>?_
  refine ⟨_,rfl,wpAny_letOwnedTupleGo_zip a1 λh'' hz' hs'=>?_⟩
  have hT:H s.heap.objs.size=none:=I.hok.fresh (Ux _)
  have lt:∀{c o},s.heap.get? c=some o→c≠s.heap.objs.size:=λe=>UO (Heap.lt_size e)
  have nz:s.heap.objs.size≠z:=Ne.symm (lt hz)
  have I0:Inv X pins σ (upd H s.heap.objs.size (.tup [x,y])) { s with heap:=s.heap.push { cls:=.type "tuple",data:=.seq #[u,v] },toks:=s.toks }:=I.laid (t':=s.toks) (λb u e=>Heap.get?_push_of_some _ e) (Ux _) ⟨by simp [sizeLine],[u,v],.cons rx (.cons ry .nil),⟨_,Heap.get?_push_size _ rfl,rfl,_,rfl⟩⟩
  have fpn:∀b∈[z,TI,TO,i1,i2],b≠s.heap.objs.size:=λb hb=>by
   simp only [UI,UT,or_false] at hb
   rcases hb with rfl | rfl | rfl | rfl | rfl
   ·exact lt hz
   ·exact lt hTI
   ·exact lt hTO
   ·obtain ⟨o,e,_⟩:=h1;exact lt e
   ·obtain ⟨o,e,_⟩:=h2;exact lt e
  have fpu:∀b∈[z,TI,TO,i1,i2],lZ X pins (upd H s.heap.objs.size (.tup [x,y])) b:=λb hb=>⟨by rw [aM (fpn b hb)];exact (hf b hb).1,(hf b hb).2⟩
  have I1:Inv X pins σ (upd H s.heap.objs.size (.tup [x,y])) { s with heap:=h'' }:=Inv.rg (s:={ s with heap:=s.heap.push { cls:=.type "tuple",data:=.seq #[u,v] },toks:=s.toks }) (t':=s.toks) (ch:=[z,TI,TO,i1,i2]) I0 (λb o hb e=>by
   simp only [UI,UT,or_false,not_or] at hb
   rcases Heap.get?_push_cases e with ⟨rfl,rfl⟩ | e'
   ·exact hs'.extBut _ _ hb.1 a5
   ·exact hs'.extBut _ _ hb.1 (hk b o hb.1 hb.2.2.1 hb.2.2.2.1 hb.2.2.2.2 e')) fpu
  refine ⟨.ref s.heap.objs.size,_,I1,rfl,⟨_,x,y,hT,rfl,rfl,λzs hq=>by rw [I.kD hq hqx];exact hx,λzs hq=>by rw [I.kD hq hqy];exact hy⟩,⟨hz',hs'.extBut _ _ D.TIz (hk _ _ D.TIz D.TITO D.TIi1 D.TIi2 hTI),⟨_,_,hs'.extBut _ _ D.TOz a2⟩,a3.extBut hs'.extBut D.i1z,a4.extBut hs'.extBut D.i2z⟩,λb hb=>(fpu b hb).1⟩
 done:=by
  intro X hP hw hK hc i pins s σ H E I hf st hg
  subst hP hw hK
  obtain ⟨hz,hTI,⟨a,b,hTO⟩,h1,h2⟩:=st
  obtain ⟨xs,ys,hqx,hqy,hl⟩:=hg
  obtain ⟨its,rv,p,hzx⟩:=I.list hqx
  obtain ⟨jts,ru,p',hzy⟩:=I.list hqy
  have e1:=rv.length
  have e2:=ru.length
  refine wpAny_pyNext_zip_end (I.ok.hd hc) D hz hTI hTO h1 h2 p.isList p'.isList ?_ λh' hk=>⟨rfl,I.rg (t':=s.toks) (ch:=[z,TI,TO,i1,i2]) (λb o hb e=>?_) hf⟩
  ·rcases hl with hl | hl
   ·exact .inl (by simp;omega)
   ·exact .inr (by simp;omega)
  ·simp only [UI,UT,or_false,not_or] at hb
   exact hk b o hb.1 hb.2.2.1 hb.2.2.2.1 hb.2.2.2.2 e
 self:=λ_ _ _ _ _ st h=>wpAny_pyIter_zip st.1 h
def RX (K:PySem.W.Frag) (ta:TA):TI:=λσ H R=>ta σ H λvs H1=>∃a b xs ys,vs=[.ref a,.ref b]∧cZ K H1 a xs∧cZ K H1 b ys∧R (To K a b) H1
section
variable {X:Cx}
theorem Nv {l m:Expr} {elts:List Expr} {x1} {tp:Pos} {ta:TA} {p pos:Pos} (hg:Gl X "zip") (hm:X.mg "zip"=none) (ha:PA X [l,m] ta) (hs:starEach [l,m] X.env=(false,eval l X.env) :: starEach [m] X.env:=by rfl) (hp:(backTo pos (starEach [m] X.env)).any (·.1)=false:=by rfl):PI X (.Tuple elts x1 tp) (.Call (.Name "zip" p) [l,m] [] pos) (RX X.K ta):=by
 intro pins s σ H R I h
 refine Call_ (mP I hg hm PyProof.Rows.Boot.«zip» (PyProof.Rows.callWith_type1 (cD (ha pos pins s σ H _ I h) λus s1 ⟨vs,H1,I1,r1,q1⟩=>?_) hs hp))
 obtain ⟨a,b,xs,ys,e,hqa,hqb,q⟩:=q1
 subst e
 cases r1 with
 | cons r rr =>
  cases rr with
  | cons r' rr' =>
   cases rr'
   cases r
   cases r'
   obtain ⟨its,rv,pl,hz⟩:=I1.list hqa
   obtain ⟨jts,ru,pl',hz'⟩:=I1.list hqb
   refine call_zip_2 pl.isList pl'.isList λh' b1 b2 b3 b4 b5 b6 hk=>?_
   refine wpAny_pyIter_zip b1 ?_
   have la:a < s1.heap.objs.size:=by obtain ⟨o,e,_⟩:=pl.isList;exact Heap.lt_size e
   have lb:b < s1.heap.objs.size:=by obtain ⟨o,e,_⟩:=pl'.isList;exact Heap.lt_size e
   have D:ZipApart (s1.heap.objs.size + 4) (s1.heap.objs.size + 2) (s1.heap.objs.size + 3) s1.heap.objs.size (s1.heap.objs.size + 1) a b:=by
    have la':@LT.lt Nat _ a s1.heap.objs.size:=la
    have lb':@LT.lt Nat _ b s1.heap.objs.size:=lb
    constructor <;> (show @Ne Nat _ _;omega)
   refine ⟨_,_,_,_,H1,rfl,I1.kept (t':=s1.toks) hk,HI D,⟨b1,b2,⟨_,_,b3⟩,b4,b5⟩,λc hc=>?_,q⟩
   have hc':s1.heap.objs.size≤c:=by
    simp only [UI,UT,or_false] at hc
    show @LE.le Nat _ _ _
    rcases hc with rfl | rfl | rfl | rfl | rfl
    ·exact VD _ _
    ·exact VD _ _
    ·exact VD _ _
    ·exact Ux _
    ·exact VD _ _
   exact I1.FE hc' (I1.hok.fresh hc')
end
end L2
namespace Ov
open PySem PySem.Spec PyProof.Rows
open L2 (V HO Hp Inv Cx VK XK TE TT TA TS TG qF TI TO ki Ends xY Loc Gl Rd RelV Vals fz yf cj qD uf qE kg R2 upd aG aM cZ gS Sp tK It bG dq bV Passes qj aH Meth Mk Binds aQ cb aw dk gm fh)
section
variable {X:Cx} {G:G2}
def TJ (ta:pW):ug:=λτ J R=>ta τ J λvs J1=>Nd vs λx y=>wJ (kF J1 x) λxs=>wJ (kF J1 y) λys=>R ⟨(xs.zip ys).map λp=>.tup [p.1,p.2],λJ'=>kF J' x=some xs∧kF J' y=some ys⟩ J1
theorem NL {l m:Expr} {elts:List Expr} {x1} {tp:Pos} {ta:pW} {p pos:Pos} (hg:Gl X "zip") (hm:X.mg "zip"=none) (ha:RA X G [l,m] ta) (hs:starEach [l,m] X.env=(false,eval l X.env) :: starEach [m] X.env:=by rfl) (hp:(backTo pos (starEach [m] X.env)).any (·.1)=false:=by rfl) :
  RI X G (.Tuple elts x1 tp) (.Call (.Name "zip" p) [l,m] [] pos) (TJ ta):=⟨PU (L2.Nv hg hm ha.run hs hp) λσ H R ⟨τ,J,R2,a2,h,k⟩=>⟨τ,J,_,a2,h,λvs J1 us H1 rs r1 e1 hh=>by
 obtain ⟨x,y,ev,hh⟩:=AY hh;obtain ⟨xs,hx,hh⟩:=eV hh;obtain ⟨ys,hy,q⟩:=eV hh
 subst ev
 obtain ⟨v,us',rfl,rv,v',us'',rfl,rv',e'⟩:=rs
 cases e'
 obtain ⟨a,ws,rfl,h1,h2⟩:=pd hx rv r1
 obtain ⟨b,ws',rfl,h1',h2'⟩:=pd hy rv' r1
 refine ⟨a,b,ws,ws',rfl,h1,h1',k _ J1 _ H1 ?_ r1 e1 q⟩
 have at_:∀J' H',Ext X.K J1 H1 J' H'→Rep X.K J' H'→kF J' x=some xs∧kF J' y=some ys→∃vs us,cZ X.K H' a vs∧aU X.K J' H' xs vs∧cZ X.K H' b us∧aU X.K J' H' ys us:=λJ' H' e r o=>by
  obtain ⟨c,vs,eb,g1,g2⟩:=pd o.1 (e.rep rv) r
  cases eb
  obtain ⟨c',us,eb,g1',g2'⟩:=pd o.2 (e.rep rv') r
  cases eb
  exact ⟨vs,us,g1,g2,g1',g2'⟩
 exact {
  go:=λJ' H' e r o i hi=>by
   obtain ⟨vs,us,s,rs,s',rs'⟩:=at_ J' H' e r o
   rw [Us,VT] at hi
   have i1:i < vs.length:=by rw [← rs.length];omega
   have i2:i < us.length:=by rw [← rs'.length];omega
   exact ⟨vs,us,vs[i],us[i],s,s',Ut i1,Ut i2⟩
  yl:=λJ' H' e r o i hi v H2 y=>by
   obtain ⟨vs,us,s,rs,s',rs'⟩:=at_ J' H' e r o
   obtain ⟨T,z,z',hT,rfl,rfl,y1,y2⟩:=y
   obtain ⟨c,ec,rc⟩:=rs.get' (y1 vs s)
   obtain ⟨c',ec',rc'⟩:=rs'.get' (y2 us s')
   have sm:=bG.new hT (.tup [z,z'])
   have e2:=Ext.same (K:=X.K) (J:=J') sm
   refine ⟨.tup [c,c'],?_,⟨T,[z,z'],rfl,.inl (.inl aG),e2.jG ⟨z,_,rfl,rc,z',_,rfl,rc',rfl⟩⟩,r.same sm,e2⟩
   rw [Uz,(Vc (z:=(c,c'))).mpr ⟨ec,ec'⟩];rfl
  stop:=λJ' H' e r o=>by
   obtain ⟨vs,us,s,rs,s',rs'⟩:=at_ J' H' e r o
   refine ⟨vs,us,s,s',?_⟩
   rw [Us,VT,← rs.length,← rs'.length]
   omega }⟩⟩
end
end Ov
namespace L2
open PySem PySem.Spec PyProof.Rows
section
variable {α β:Type}
def mC (kvs:List (Str × α)) (k:Str):Option α:=(kvs.find? λkv=>decide (kv.1=k)).map (·.2)
def tN (kvs:List (Str × α)) (k:Str) (v:α):List (Str × α):=if kvs.any (λkv=>decide (kv.1=k)) then kvs.map (λkv=>if kv.1=k then (kv.1,v) else kv) else kvs ++ [(k,v)]
def EN (kvs:List (Str × α)) (k:Str):List (Str × α):=kvs.filter λkv=>decide (kv.1≠k)
theorem oP (p:Str × α) (r:List (Str × α)) (k:Str):mC (p :: r) k=if p.1=k then some p.2 else mC r k:=by
 unfold mC
 rw [List.find?_cons]
 by_cases h:p.1=k <;> simp [h]
theorem Cv (kvs:List (Str × α)) (k:Str) (v:α):(tN kvs k v).length≤kvs.length + 1:=by
 unfold tN;split <;> simp
theorem IF (kvs:List (Str × α)) (k:Str):(EN kvs k).length≤kvs.length:=Vj _ _
abbrev qo (R:α→β→Prop):List (Str × α)→List (Str × β)→Prop:=Paired λp q=>p.1=q.1∧R p.2 q.2
variable {R:α→β→Prop}
theorem qo.va {kvs:List (Str × α)} {vs:List (Str × β)} (h:qo R kvs vs) (k:Str):(∀x,mC kvs k=some x→∃y,mC vs k=some y∧R x y)∧(mC kvs k).isSome=(mC vs k).isSome:=by
 induction h with
 | nil=>exact ⟨λx e=>by simp [mC] at e,rfl⟩
 | @cons p q kvs vs r _ ih =>
  rw [oP,oP,← r.1]
  by_cases e:p.1=k
  ·rw [if_pos e,if_pos e];exact ⟨λx z=>by cases z;exact ⟨_,rfl,r.2⟩,rfl⟩
  ·rw [if_neg e,if_neg e];exact ih
theorem qo.any {kvs:List (Str × α)} {vs:List (Str × β)} (h:qo R kvs vs) (k:Str):(kvs.any λkv=>decide (kv.1=k))=vs.any λkv=>decide (kv.1=k):=by
 induction h with
 | nil=>rfl
 | cons r _ ih=>rw [VO,VO,ih,r.1]
theorem qo.snoc {kvs:List (Str × α)} {vs:List (Str × β)} (h:qo R kvs vs) {k:Str} {x:α} {y:β} (r:R x y):qo R (kvs ++ [(k,x)]) (vs ++ [(k,y)]):=by
 induction h with
 | nil=>exact .cons ⟨rfl,r⟩ .nil
 | cons q _ ih=>exact .cons q ih
theorem qo.pu {kvs:List (Str × α)} {vs:List (Str × β)} (h:qo R kvs vs) {k:Str} {x:α} {y:β} (r:R x y):qo R (tN kvs k x) (tN vs k y):=by
 unfold tN
 rw [h.any k]
 split
 ·rename_i hany;clear hany
  induction h with
  | nil=>exact .nil
  | @cons p q kvs vs z _ ih =>
   rw [UB,UB]
   refine .cons ?_ ih
   by_cases e:p.1=k
   ·rw [if_pos e,if_pos (z.1 ▸ e)];exact ⟨z.1,r⟩
   ·rw [if_neg e,if_neg (z.1 ▸ e)];exact z
 ·exact h.snoc r
theorem qo.dr {kvs:List (Str × α)} {vs:List (Str × β)} (h:qo R kvs vs) (k:Str):qo R (EN kvs k) (EN vs k):=by
 unfold EN
 induction h with
 | nil=>exact .nil
 | @cons p q kvs vs z _ ih =>
  rw [U2,U2,z.1]
  split
  ·exact .cons z ih
  ·exact ih
theorem qo.len {kvs:List (Str × α)} {vs:List (Str × β)} (h:qo R kvs vs):kvs.length=vs.length:=Paired.length h
theorem qo.keys {kvs:List (Str × α)} {vs:List (Str × β)} (h:qo R kvs vs):kvs.map (·.1)=vs.map (·.1):=by
 induction h with
 | nil=>rfl
 | cons r _ ih=>rw [UB,UB,ih,r.1]
end
theorem vF (vs:List (Str × Value)) (k:Str):valueAt vs k=mC vs k:=rfl
theorem str_is {P:Program} {w:World} {k:Str} {u:Value} (r:RelV (.str k) u):(PySem.strKind P w).is k u=true:=by
 obtain ⟨t,rfl⟩:=r
 simp [PySem.strKind,Value.isStrOf]
theorem FW {P:Program} {w:World} {k:Str} {u:Value} (h:(PySem.strKind P w).is k u=true):RelV (.str k) u:=Value.isStrOf_shape h
section
variable {X:Cx} {pins:List (Addr × Obj)} {σ:St} {H:Hp} {s:Shared} {a:Addr} {A:Around} {E:Value→Shared→Prop} {kvs:List (Str × V)} {ep:Nat}
theorem kq (I:Inv X pins σ H s) (e:H a=some (.dE kvs ep)):kvs.length≤sizeLine∧(a == sysModules)=false∧∃vs,qo RelV kvs vs∧s.heap.DictAt (PySem.strKind X.prog X.w) a vs ep:=I.hok a _ e
theorem rM {h':Heap} {t':Nat} {kvs':List (Str × V)} {vs':List (Str × Value)} (I:Inv X pins σ H s) (e:H a=some (.dE kvs ep)) (hs:Heap.SameBut a s.heap h') (hz:kvs'.length≤sizeLine) (hd:(a == sysModules)=false) (rel:qo RelV kvs' vs') (dd:h'.DictOf (PySem.strKind X.prog X.w) a vs') :
  ∃ep',Inv X pins σ (upd H a (.dE kvs' ep')) { s with heap:=h',toks:=t' }:=by
 obtain ⟨ep',da⟩:=dd.dictAt
 refine ⟨ep',I.write (x:=a) (e:=a) (by rw [e];exact True.intro) (.inl rfl) (λb q hb z=>(hs.2 b hb).trans z) (let ⟨q,_,_,hq,_⟩:=dd;⟨q,hq⟩) ⟨hz,hd,vs',rel,da⟩⟩
theorem Inv.Mq (I:Inv X pins σ H s):sysModules < s.heap.objs.size:=by
 have h:mainGlobals < s.heap.objs.size:=(I.mod.glob.keeps I.bk).lt
 exact Nat.lt_trans (by decide) h
end
theorem DQ {P:Program} {w:World} {kvs:List (Str × V)} {vs:List (Str × Value)} (rel:qo RelV kvs vs):∀{us:List Value},us.length=kvs.length→(∀(j:Nat) (v:Value),us[j]?=some v→∃k x,vs[j]?=some (k,x)∧(PySem.strKind P w).is k v=true)→Vals (kvs.map λkv=>V.str kv.1) us:=by
 induction rel with
 | nil =>
  intro us hlen _
  cases us with
  | nil=>exact .nil
  | cons _ _=>cases hlen
 | @cons p q kvs vs z _ ih =>
  intro us hlen hget
  cases us with
  | nil=>cases hlen
  | cons u us =>
   rw [UB]
   refine .cons ?_ (ih (by simpa using hlen) λj v e=>?_)
   ·obtain ⟨k,x,e1,e2⟩:=hget 0 u rfl
    rw [VP] at e1
    cases e1
    rw [z.1];exact FW e2
   ·obtain ⟨k,x,e1,e2⟩:=hget (j + 1) v (by rw [U_];exact e)
    rw [U_] at e1
    exact ⟨k,x,e1,e2⟩
def SJ:R2:=λx y H Q=>∃a kvs ep k v,x=.ref a∧y=.str k∧H a=some (.dE kvs ep)∧mC kvs k=some v∧Q v H
def NF (f:Bool→Bool):R2:=λx y H Q=>∃a kvs ep k,x=.str k∧y=.ref a∧H a=some (.dE kvs ep)∧Q (.bl (f (mC kvs k).isSome)) H
def NH:List V→Hp→VK→Prop:=λxs H Q=>∃a kvs ep,xs=[.ref a]∧H a=some (.dE kvs ep)∧∀p,H p=none→Q (.ref p) (upd H p (.lst (kvs.map λkv=>.str kv.1)))
def Qm:V→List V→Hp→VK→Prop:=λx xs H Q=>∃a kvs ep k v,x=.ref a∧xs=[.str k]∧H a=some (.dE kvs ep)∧mC kvs k=some v∧∀ep',Q v (upd H a (.dE (EN kvs k) ep'))
def Qo:ki:=λo i v H Q=>∃a kvs ep k,o=.ref a∧i=.str k∧H a=some (.dE kvs ep)∧kvs.length < sizeLine∧∀ep',Q (upd H a (.dE (tN kvs k v) ep'))
def QF:TE:=λ_ H Q=>∀p,H p=none→∀ep,Q (.ref p) (upd H p (.dE [] ep))
section
variable {X:Cx}
theorem O2:qD X SJ:=by
 intro value slice pins s σ H x y v u Q I rx ry q hs
 obtain ⟨a,kvs,ep,k,z,rfl,rfl,hp,hz,q⟩:=q
 cases rx
 obtain ⟨_,hd,vs,rel,da⟩:=kq I hp
 have hT:s.TypeIs (.ref a) "dict":=da.dictOf.typeIs
 obtain ⟨w',hw,rw'⟩:=(rel.va k).1 z hz
 unfold subscriptTail
 refine wpAny_bind ?_
 rw [getitemInPython_of_ne hT.not_modules]
 refine wpAny_bind (wpAny_specialOf hT PySem.F.slot_dict_getitem.lookup ?_)
 have fin:wpAny (model X.prog X.w) X.A (subscripted slice false (.ref a) u) (λr s₃=>wpAny (model X.prog X.w) X.A (letTemporaryGo value (.ref a) r >>= λ_=>pure r) (EP X pins σ Q) X.xe s₃) X.xe s:=by
  rw [hs]
  exact wpAny_operating (wpAny_getItem_of (str_is ry) da.dictOf.mapOf hw (wpAny_bind (wpAny_letTemporaryGo (wpAny_pure ⟨z,H,I.tok _,rw',q⟩))))
 first
  | exact wpAny_pure (wpAny_bind fin)
  | exact wpAny_bind (wpAny_pure (wpAny_bind fin))
  | exact wpAny_bind fin
theorem Ni:fz X (compareOp .In) (NF id):=by
 intro pins s σ H x y v u Q I rx ry ⟨a,kvs,ep,k,ex,ey,hp,q⟩
 subst ex ey
 cases ry
 obtain ⟨_,hd,vs,rel,da⟩:=kq I hp
 refine wpAny_in_of (str_is rx) hd da.dictOf.mapOf ?_
 exact ⟨.bl _,H,I.tok _,by rw [vF,← (rel.va k).2];rfl,q⟩
theorem El:fz X (compareOp .NotIn) (NF not):=by
 intro pins s σ H x y v u Q I rx ry ⟨a,kvs,ep,k,ex,ey,hp,q⟩
 subst ex ey
 cases ry
 obtain ⟨_,hd,vs,rel,da⟩:=kq I hp
 refine wpAny_notIn_of (str_is rx) hd da.dictOf.mapOf ?_
 exact ⟨.bl _,H,I.tok _,by rw [vF,← (rel.va k).2];rfl,q⟩
theorem yn (hc:X.calm=true):cj X (.type "list") NH:=by
 intro pins s σ H xs us Q I r ⟨a,kvs,ep,ex,hp,q⟩
 subst ex
 obtain ⟨u,rfl,ru⟩:=vals1 r
 cases ru
 obtain ⟨hz,hd,vs,rel,da⟩:=kq I hp
 have hl:=rel.len
 refine PySem.W.kdl_call (PySem.W.kdl_dict (knd:=PySem.strKind X.prog X.w) (kvs:=vs) (ep:=ep) hd) (I.ok.hd hc) da (by rw [← hl];exact hz) λh' tk acc c hk hS hacc=>?_
 have hkeys:Vals (kvs.map λkv=>V.str kv.1) acc.toList:=by
  have hlen:acc.toList.length=kvs.length:=by rw [Array.length_toList,hacc.1,hl]
  have hget:∀j v,acc.toList[j]?=some v→∃k x,vs[j]?=some (k,x)∧(PySem.strKind X.prog X.w).is k v=true:=λj v e=>hacc.2 j v (by rw [← Array.getElem?_toList];exact e)
  exact DQ rel hlen hget
 have I2:Inv X pins σ (upd H s.heap.objs.size (.lst (kvs.map λkv=>V.str kv.1))) { s with heap:=h',toks:=tk } :=
  I.laid (t':=tk) hk (Ux _) (show dB X.prog X.w _ _ _ (.lst _) from ⟨by rw [Us];exact hz,acc.toList,c,hkeys,by rw [Array.toArray_toList];exact hS⟩)
 exact ⟨.ref s.heap.objs.size,_,I2,rfl,q _ (I.hok.fresh (Ux _))⟩
theorem Ji:qE X "dict.pop" Qm:=by
 intro pins s σ H x xs v us Q I rx r ⟨a,kvs,ep,k,z,ex,exs,hp,hv,q⟩
 subst ex exs
 cases rx
 obtain ⟨u,rfl,ru⟩:=vals1 r
 obtain ⟨hz,hd,vs,rel,da⟩:=kq I hp
 obtain ⟨w',hw,rw'⟩:=(rel.va k).1 z hv
 have hpart:(keyPart u).isSome=true:=by obtain ⟨t,q⟩:=(show ∃t,u=Value.str k t from ru);subst q;rfl
 refine call_meetsIn PySem.F.slot_dict_pop da.dictOf.typeIs PySem.F.entry_dict_pop (PySem.F.args_dict_pop_2 _ _) (meets_dict_pop_there (PySem.strKind X.prog X.w) a (str_is ru) [] (.inl rfl) hpart)
  ⟨vs,w',da.dictOf,by rw [← rel.len];exact hz,hw,λh' dd' hs=>?_⟩
 obtain ⟨ep',I2⟩:=rM (t':=s.toks + 1) I hp hs (UM (IF kvs k) hz) hd (rel.dr k) dd'
 exact ⟨z,_,I2,rw',q ep'⟩
theorem NU:kg X Qo:=by
 intro pins s σ H o i v ov iv u Q I ro ri rv ⟨a,kvs,ep,k,eo,ei,hp,hl,q⟩
 subst eo ei
 cases ro
 obtain ⟨hz,hd,vs,rel,da⟩:=kq I hp
 refine wpAny_setItem_pairs (hsz:=by rw [← rel.len];exact hz) (str_is ri) da.dictOf λh' dd' hs=>?_
 obtain ⟨ep',I2⟩:=rM (t':=s.toks + 1) I hp hs (show (tN kvs k v).length≤sizeLine from UM (Cv kvs k v) hl) hd (rel.pu rv) dd'
 exact ⟨_,I2,q ep'⟩
theorem JG {pos:Pos}:PE X (.Dict [] [] pos) QF:=λpins s σ H Q I h=>by
 have hd:(s.heap.push { cls:=.type "dict",data:=.dict #[] }).DictOf (PySem.strKind X.prog X.w) s.heap.objs.size []:=Heap.DictOf.new s.heap
 obtain ⟨ep,da⟩:=hd.dictAt
 exact wpAny_Dict_empty ⟨.ref s.heap.objs.size,_,I.laid (a:=s.heap.objs.size) (o:=.dE [] ep) (t':=s.toks) (λ_ _ q=>Heap.get?_push_of_some _ q) (Ux _)
  ⟨UZ _,beq_eq_false_iff_ne.mpr (Ne.symm (UO I.Mq)),[],.nil,da⟩,rfl,h _ (I.hok.fresh (Ux _)) ep⟩
end
def Tj (a:Addr) (ks:List Str) (ep:Nat):It :=
 ⟨λi H=>(∃kvs,H a=some (.dE kvs ep)∧kvs.map (·.1)=ks)∧i < ks.length,
  λi H z H'=>H'=H∧∃k,ks[i]?=some k∧z=.str k,
  λi H=>(∃kvs,H a=some (.dE kvs ep)∧kvs.map (·.1)=ks)∧ks.length≤i⟩
theorem EG {P:Program} {w:World} {K:PySem.W.Frag} {tg:Expr} (a it:Addr) (ks:List Str) (ep:Nat):Turn P w K tg (Tj a ks ep) [it] it (λi h=>h.IsKeyIter it a i ks.length ep) where
 mem:=by simp
 obj:=λi h st b hb=>by
  have e:b=it:=by simpa using hb
  subst e
  obtain ⟨o,e,c,d⟩:=st
  exact ⟨o,e,λv z=>by rw [d] at z;cases z⟩
 keep:=λi h h' st k=>st.at λo e=>k it (by simp) o e
 item:=by
  intro X hP hw hK hc i pins s σ H E I hf st hg
  subst hP hw hK
  obtain ⟨⟨kvs,hp,hks⟩,hi⟩:=hg
  obtain ⟨hz,hd,vs,rel,da⟩:=kq I hp
  have hl:ks.length=vs.length:=by rw [← hks,Us];exact rel.len
  obtain ⟨f0,f1,f2,f3,f4,f5⟩:=hf it (by simp)
  obtain ⟨⟨k,x⟩,hx⟩:∃p,vs[i]?=some p:=⟨vs[i]'(by omega),Ut (by omega)⟩
  have hk:ks[i]?=some k:=by rw [← hks,rel.keys,Uz,hx];rfl
  refine wpAny_pyNext_dict_item (by rw [← hl];exact st) da hx λkey h' hkey st' sb=>?_
  rw [← hl] at st'
  have I1:Inv X pins σ H { s with heap:=h' }:=I.turned (t':=s.toks) (λb o hb e=>(sb.2 b hb).trans e) f0 f1 f3 f4 f5
  obtain ⟨o,e,c,d⟩:=id st'
  exact ⟨key,rfl,FK (s:={ s with heap:=h' }) e c d (by decide) ⟨.str k,H,I1,FW hkey,⟨rfl,k,hk,rfl⟩,st',λb hb=>(hf b hb).1⟩⟩
 done:=by
  intro X hP hw hK hc i pins s σ H E I hf st hg
  subst hP hw hK
  obtain ⟨⟨kvs,hp,hks⟩,hi⟩:=hg
  obtain ⟨hz,hd,vs,rel,da⟩:=kq I hp
  have hl:ks.length=vs.length:=by rw [← hks,Us];exact rel.len
  obtain ⟨f0,f1,f2,f3,f4,f5⟩:=hf it (by simp)
  refine wpAny_pyNext_dict_end (I.ok.hd hc) (by rw [← hl];exact st) da (by rw [Wb];omega) λh' hk=>⟨rfl,I.turned (t':=s.toks) (λb o hb e=>hk b o hb e) f0 f1 f3 f4 f5⟩
 self:=λ_ _ _ _ _ st h=>wpAny_pyIter_keyiter st h
def OX (td:TE):TI:=λσ H R=>td σ H λx H1=>∃a kvs ep,x=.ref a∧H1 a=some (.dE kvs ep)∧R (Tj a (kvs.map (·.1)) ep) H1
theorem JH {X:Cx} {tg l:Expr} {tl:TE} (hl:PE X l tl):PI X tg l (OX tl):=by
 intro pins s σ H R I h
 refine cD (hl pins s σ H _ I h) λv s1 ⟨x,H1,I1,r1,q1⟩=>?_
 obtain ⟨a,kvs,ep,e,hp,q⟩:=q1
 subst e
 cases r1
 obtain ⟨hz,hd,vs,rel,da⟩:=kq I1 hp
 refine wpAny_pyIter_dict hd da ?_
 refine ⟨s1.heap.objs.size,[s1.heap.objs.size],_,_,H1,rfl,I1.kept (t':=s1.toks) λb o e=>Heap.get?_push_of_some _ e,EG a _ (kvs.map (·.1)) ep,⟨_,Heap.get?_push_size _ rfl,rfl,by rw [Us,rel.len];rfl⟩,λb hb=>?_,q⟩
 have e:b=s1.heap.objs.size:=by simpa using hb
 subst e
 exact I1.FE (Ux _) (I1.hok.fresh (Ux _))
end L2
namespace Ov
open PySem PySem.Spec PyProof.Rows L2
section
variable {prog:Program} {w:World} {A:Around} {R:Result→Shared→Prop} {s:Shared}
theorem AK {kx vx iter:Expr} {ifs:List Expr} {x:Str} {px:Pos} {sc:Scope} {pos:Pos} {it:Value} {D:Addr} {env:Env} (I:Nat→Shared→Prop)
  (turn:∀n s,I n s→wpAny (model prog w) A (pyNext it) (λr s₁=>match r with
   | none=>R (.ok .next) s₁
   | some v=>wpAny (model prog w) A (letOwnedTupleGo (.Name x px) it v) (λ_ s₂=>wpAny (model prog w) A (assign (.Name x px) env v) (λ_ s₃=>wpAny (model prog w) A (forIn ifs true λc r=>if r=true then do let ok ← isTrue c env (eval c env);pure (ForInStep.yield ok) else pure (ForInStep.yield r)) (λok s₃=>if ok=true then wpAny (model prog w) A (eval kx env) (λkv s₄ =>
     wpAny (model prog w) A (eval vx env) (λvv s₅=>wpAny (model prog w) A (dictSet D kv vv) (λ_ s₅=>∃m,m < n∧I m s₅) (λ_ _=>False) s₅) (λ_ _=>False) s₄) (λ_ _=>False) s₃ else ∃m,m < n∧I m s₃) (λ_ _=>False) s₃) (λ_ _=>False) s₂) (λ_ _=>False) s₁) (λ_ _=>False) s)
  (n:Nat) (h:I n s):codeAny (model prog w) A (.compLoop (.DictComp kx vx [⟨.Name x px,iter,ifs,0⟩] sc pos) 0 it (.ref D) env) R s:=by
 refine codeAny_loop rfl I (λn s hI=>?_) n h
 show wpAny _ _ ((compTurn (.DictComp kx vx [⟨.Name x px,iter,ifs,0⟩] sc pos) 0 it (.ref D) env).onRaise (λx=>do noteFrame x env;theTreesLotGoes x)) _ _ s
 refine wpAny_noted ?_
 rw [compTurn_dict]
 have no:∀(e:Value) (s':Shared),False→notedBy (model prog w) A env (λe s'=>R (.error e) s') e s':=λ_ _ z=>z.elim
 refine wpAny_bind (wpAny_standAt (wpAny_bind (wpAny_mono (turn n s hI) (λr s₁ h₁=>?_) no)))
 cases r with
 | none=>exact wpAny_pure h₁
 | some v =>
  refine wpAny_bind (wpAny_mono h₁ (λ_ s₂ h₂=>?_) no)
  refine wpAny_bind (wpAny_mono h₂ (λ_ s₃ h₃=>wpAny_bind (wpAny_mono h₃ (λok s₃' h₃'=>?_) no)) no)
  cases ok with
  | false=>exact wpAny_pure ⟨rfl,h₃'⟩
  | true =>
   exact wpAny_bind (wpAny_bind (wpAny_mono h₃' (λkv s₄ h₄=>wpAny_bind (wpAny_holding (wpAny_mono h₄ (λvv s₅ h₅=>wpAny_bind (wpAny_standAt (wpAny_holding (wpAny_mono h₅ (λ_ s₆ h₆=>wpAny_pure ⟨rfl,h₆⟩) no)))) no))) no))
end
def T6 (wi:TI) (ks:List (Str × Nat)) (tc:TT) (tk te:TE):TE:=λσ H Q=>wi σ H λJ H1=>∀D,H1 D=none→∀ep,∃W:Nat→Nat→Hp→Prop,(∃m,W 0 m (upd H1 D (.dE [] ep))) ∧
 ∀i m H2,W i m H2→(J.stop i H2∧Q (.ref D) H2)∨(J.go i H2∧∀v H3,J.yld i H2 v H3→tc (some v :: d8 ks σ) H3 λb H4=>if b=true then tk (some v :: d8 ks σ) H4 λy H5=>te (some v :: d8 ks σ) H5 λz H6=>∃kvs ep k,y=.str k∧H6 D=some (.dE kvs ep)∧kvs.length < sizeLine∧∃m',m' < m∧∀ep',W (i + 1) m' (upd H6 D (.dE (L2.tN kvs k z) ep')) else ∃m',m' < m∧W (i + 1) m' H4)
section
variable {X:Cx}
theorem Ey {kx vx iter:Expr} {ifs:List Expr} {x:Str} {px:Pos} {sc:Scope} {pos:Pos} {tk te:TE} {tc:TT} {ks:List (Str × Nat)} {cl:List (Str × Addr)} {pins:List (Addr × Obj)} {σ:L2.St} {H:Hp} {s:Shared} {it:Addr} {fp:List Addr} {tn:Nat→Heap→Prop} {J:It} {Q:VK}
  {RR:Value→Addr→Result→Shared→Prop} {E:Value→Shared→Prop}
  (hc:X.calm=true) (ok:cY sc X.env.scope X.N x ks) (h1:∀y c,cl.lookup y=some c→X.env.cells.lookup y=some c) (h2:∀y∈sc.names,y.2=.free→∃c,cl.lookup y.1=some c)
  (hk:∀cl C s₀ H₀ fp pins,PE (gu X sc cl C x ks s₀ H₀ fp pins) kx tk) (he:∀cl C s₀ H₀ fp pins,PE (gu X sc cl C x ks s₀ H₀ fp pins) vx te) (hcn:∀cl C s₀ H₀ fp pins,Iw (gu X sc cl C x ks s₀ H₀ fp pins) ifs tc)
  (I:Inv X pins σ H s) (T:Turn X.prog X.w X.K (.Name x px) J fp it tn) (st:tn 0 s.heap) (f:∀b∈fp,lZ X pins H b)
  (hw:∀D,H D=none→∀ep,∃W:Nat→Nat→Hp→Prop,(∃m,W 0 m (upd H D (.dE [] ep)))∧∀i m H2,W i m H2→(J.stop i H2∧Q (.ref D) H2) ∨
   (J.go i H2∧∀v H3,J.yld i H2 v H3→tc (some v :: d8 ks σ) H3 λb H4=>if b=true then tk (some v :: d8 ks σ) H4 λy H5=>te (some v :: d8 ks σ) H5 λz H6=>∃kvs ep k,y=.str k∧H6 D=some (.dE kvs ep)∧kvs.length < sizeLine∧∃m',m' < m∧∀ep',W (i + 1) m' (upd H6 D (.dE (L2.tN kvs k z) ep')) else ∃m',m' < m∧W (i + 1) m' H4))
  (hR:∀(D C:Addr) (s':Shared) (H':Hp) (m:Str→Option Value),Inv X pins σ H' s'→Q (.ref D) H'→s'.heap.Ns C m→H' C=none→C≠X.env.locals→X.s₀.heap.objs.size≤C→(∀y c,X.env.cells.lookup y=some c→c≠C)→(∀p∈X.pn ++ pins,p.1≠C)→RR (.ref D) C (.ok .next) s') :
  wpAny (model X.prog X.w) X.A newDict (λacc s₃=>wpAny (model X.prog X.w) X.A (newFunctionEnv sc X.env.globals cl [] X.env.qual none .none (some X.env)) (λcenv s₄ =>
   codeAny (model X.prog X.w) X.A (.compStart (.DictComp kx vx [⟨.Name x px,iter,ifs,0⟩] sc pos) 0 (.ref it) acc { cenv with scope:=relabel sc X.env }) (RR acc cenv.locals) s₄) E s₃) E s:=by
 have okk:=ok
 obtain ⟨kd,nc,lx,ll,fr,kk,nd⟩:=okk
 have hD0:H s.heap.objs.size=none:=I.hok.fresh (Ux _)
 have hdd:(s.heap.push { cls:=.type "dict",dict:=none,data:=.dict #[] }).DictOf (PySem.strKind X.prog X.w) s.heap.objs.size []:=Heap.DictOf.new s.heap
 obtain ⟨ep0,da⟩:=hdd.dictAt
 obtain ⟨W,⟨m0,w0⟩,turn⟩:=hw s.heap.objs.size hD0 ep0
 refine wpAny_newObj_type ?_
 have I3:Inv X pins σ (upd H s.heap.objs.size (.dE [] ep0)) { s with heap:=s.heap.push { cls:=.type "dict",dict:=none,data:=.dict #[] } } :=
  I.laid (t':=s.toks) (λb u e=>Heap.get?_push_of_some _ e) (Ux _) ⟨UZ _,beq_eq_false_iff_ne.mpr (Ne.symm (UO I.Mq)),[],.nil,da⟩
 have st3:tn 0 (s.heap.push { cls:=.type "dict",dict:=none,data:=.dict #[] }):=T.keep 0 _ _ st λb hb o e=>Heap.get?_push_of_some _ e
 clear da hdd
 generalize hD:s.heap.objs.size=D at *
 generalize hH:upd H D (.dE [] ep0)=H3 at *
 generalize hs3:({ s with heap:=s.heap.push { cls:=.type "dict",dict:=none,data:=.dict #[] } }:Shared)=s3 at *
 have e3:s.heap.push { cls:=.type "dict",dict:=none,data:=.dict #[] }=s3.heap:=by rw [← hs3]
 rw [e3] at st3
 have fD:∀b∈fp,b≠D:=λb hb z=>by
  obtain ⟨o,ho,_⟩:=T.obj 0 _ st b hb
  have:=Heap.lt_size ho
  rw [z,← hD] at this
  exact Vv _ this
 have f3:∀b∈fp,lZ X pins H3 b:=λb hb=>⟨by rw [← hH,aM (fD b hb)];exact (f b hb).1,(f b hb).2⟩
 have g3:∀b∈fp,∃o,s3.heap.get? b=some o:=λb hb=>by
  obtain ⟨o,ho,_⟩:=T.obj 0 _ st3 b hb
  exact ⟨o,ho⟩
 refine wpAny_newFunctionEnv nc (by intro y hy;simp at hy) (λh₁ hns hsb=>?_) kd
 have kp:∀b o,s3.heap.get? b=some o→h₁.get? b=some o:=λb o e=>hsb.extBut b o (UO (Heap.lt_size e)) (Heap.get?_push_of_some _ e)
 have J0:=yA (fp:=fp) (cl:=cl) (t':=s3.toks + ([]:List (Str × Value)).length) I3 ok h1 h2 (λb hb=>⟨f3 b hb,g3 b hb⟩) hns kp
 have st4:tn 0 h₁:=T.keep 0 _ _ st3 λb hb o e=>kp b o e
 have ltC:∀b o,s3.heap.get? b=some o→b≠s3.heap.objs.size:=λb o e=>UO (Heap.lt_size e)
 have cC:∀y c,X.env.cells.lookup y=some c→c≠s3.heap.objs.size:=λy c e=>by
  obtain ⟨v,o,ho,_⟩:=I3.cell y c e
  exact ltC c o ho
 have pC:∀p∈X.pn ++ pins,p.1≠s3.heap.objs.size:=λp hp=>ltC _ _ (I3.pin p hp).1
 have lC:s3.heap.objs.size≠X.env.locals:=Wm I3.lt
 have fX:∀{H':Hp},(∀b∈fp,H' b=none)→∀b∈fp,lZ (gu X sc cl s3.heap.objs.size x ks s3 H3 fp pins) [] H' b:=λhn b hb=>by
  obtain ⟨o,ho⟩:=g3 b hb
  obtain ⟨_,q1,q2,q3,q4,q5⟩:=f b hb
  refine ⟨hn b hb,ltC b o ho,λz=>?_,.inl hb,λy c e=>q4 y c (h1 y c e),λp hp=>q5 p (by simpa [gu] using hp)⟩
  rcases UI.mp (I3.pT b z) with e | e
  ·exact q1 e
  ·exact q2 e
 have back:∀{o:Option V} {H':Hp} {s':Shared},Inv (gu X sc cl s3.heap.objs.size x ks s3 H3 fp pins) [] (o :: d8 ks σ) H' s'→Inv X pins σ H' s':=λ{o H' s'} J=>by
  obtain ⟨hh,g,d,t,os'⟩:=s'
  obtain rfl:os'=s3.os:=J.os
  exact I3.call (h':=hh) (g':=g) (d':=d) (t':=t) (ch:=fp) J.base J.hok J.bare λb hb=>⟨(f b hb).2.2.2.1,(f b hb).2.1,(f b hb).2.2.2.2.1,(f b hb).2.2.2.2.2⟩
 have lookX:(relabel sc X.env).names.lookup x=some .local:=lookup_relabel_local lx
 have loop:∀s',(∃(i:Nat) (o:Option V) (H':Hp),Inv (gu X sc cl s3.heap.objs.size x ks s3 H3 fp pins) [] (o :: d8 ks σ) H' s'∧tn i s'.heap∧(∀b∈fp,H' b=none)∧W i m0 H') →
   codeAny (model X.prog X.w) X.A (.compLoop (.DictComp kx vx [⟨.Name x px,iter,ifs,0⟩] sc pos) 0 (.ref it) (.ref D) (compEnvC sc cl s3.heap.objs.size X.env)) (RR (.ref D) s3.heap.objs.size) s':=by
  intro s' hs'
  refine AK (λn s'=>∃(i:Nat) (o:Option V) (H':Hp),Inv (gu X sc cl s3.heap.objs.size x ks s3 H3 fp pins) [] (o :: d8 ks σ) H' s'∧tn i s'.heap∧(∀b∈fp,H' b=none)∧W i n H') ?_ m0 hs'
  rintro n s5 ⟨i,o,H5,J5,t5,n5,w5⟩
  rcases turn i n H5 w5 with ⟨stop,hq⟩ | ⟨go,step⟩
  ·refine cD (T.done (gu X sc cl s3.heap.objs.size x ks s3 H3 fp pins) rfl rfl rfl hc i [] s5 _ H5 _ J5 (fX n5) t5 stop) λr s6 ⟨hr,J6⟩=>?_
   subst hr
   obtain ⟨m,hm,_⟩:=J6.loc
   exact hR D _ s6 H5 m (back J6) hq hm J6.free lC I3.sz cC pC
  ·refine cD (T.item (gu X sc cl s3.heap.objs.size x ks s3 H3 fp pins) rfl rfl rfl hc i [] s5 _ H5 _ J5 (fX n5) t5 go) λr s6 ⟨u,hr,h6⟩=>?_
   subst hr
   refine cD h6 λ_ s7 ⟨v,H7,J7,r7,y7,t7,n7⟩=>?_
   have J7':=J7.pinned (fX n7) (T.obj _ _ t7)
   refine wpAny_assign_Name (fJ (X:=gu X sc cl s3.heap.objs.size x ks s3 H3 fp pins) (i:=0) J7' nd rfl (.inl lookX) r7 (λs8 J8=>?_) (.inr lookX))
   refine cD (hcn cl s3.heap.objs.size s3 H3 fp pins _ s8 _ H7 _ J8 (step v H7 y7)) λok s8' ⟨H8,J8',q8⟩=>?_
   cases ok with
   | false =>
    simp only [UK,if_false] at q8 ⊢
    obtain ⟨m',hm,w'⟩:=q8
    refine ⟨m',hm,i + 1,_,_,J8'.gQ,?_,?_,w'⟩
    ·exact T.keep _ _ _ t7 λb hb o e=>(J8'.pin (b,o) (UG _ (UG _ (cM hb e)))).1
    ·intro b hb
     obtain ⟨o,e,d⟩:=T.obj _ _ t7 b hb
     exact (J8'.pin (b,o) (UG _ (UG _ (cM hb e)))).2.1
   | true =>
    simp only [if_true] at q8 ⊢
    refine cD (hk cl s3.heap.objs.size s3 H3 fp pins _ s8' _ H8 _ J8' q8) λky s8'' ⟨vk,H8',J8'',rk,q8'⟩=>?_
    refine cD (he cl s3.heap.objs.size s3 H3 fp pins _ s8'' _ H8' _ J8'' q8') λy s9 ⟨vy,H9,J9,r9,kvs,ep,k,ek,hys,hz,m',hm,w'⟩=>?_
    subst ek
    obtain ⟨hz',hd',vs,rel,da⟩:=kq J9 hys
    refine wpAny_dictSet_pairs (hsz:=by rw [← rel.len];exact hz') (str_is rk) da.dictOf λh' dd' hsb=>?_
    obtain ⟨ep',J10⟩:=rM (t':=s9.toks + 1) J9 hys hsb (show (L2.tN kvs k vy).length≤sizeLine from UM (Cv kvs k vy) hz) hd' (rel.pu r9) dd'
    refine ⟨m',hm,i + 1,_,_,J10.gQ,?_,?_,w' ep'⟩
    ·exact T.keep _ _ _ t7 λb hb o e=>(J10.pin (b,o) (UG _ (UG _ (cM hb e)))).1
    ·intro b hb
     obtain ⟨o,e,d⟩:=T.obj _ _ t7 b hb
     exact (J10.pin (b,o) (UG _ (UG _ (cM hb e)))).2.1
 have l0:=loop _ ⟨0,none,H3,J0,st4,λb hb=>(f3 b hb).1,w0⟩
 exact codeAny_compStart_dict l0 (T.self _ 0 _ _ _ st4 l0)
theorem PQ {kx vx iter:Expr} {ifs:List Expr} {x:Str} {px:Pos} {sc:Scope} {pos:Pos} {wi:TI} {tk te:TE} {tc:TT} (osc:Scope) (N:List Str) (ks:List (Str × Nat)) (hc:X.calm=true) (ho:X.env.scope=osc) (hN:X.N=N) (hi:PI X (.Name x px) iter wi)
  (hk:∀cl C s₀ H₀ fp pins,PE (gu X sc cl C x ks s₀ H₀ fp pins) kx tk) (he:∀cl C s₀ H₀ fp pins,PE (gu X sc cl C x ks s₀ H₀ fp pins) vx te) (hcn:∀cl C s₀ H₀ fp pins,Iw (gu X sc cl C x ks s₀ H₀ fp pins) ifs tc) (ok:cY sc osc N x ks:=by decide +kernel) (hs:∀x,foldedSetIterable iter X.env x=pure x:=by intro _;rfl) :
  PE X (.DictComp kx vx [⟨.Name x px,iter,ifs,0⟩] sc pos) (T6 wi ks tc tk te):=by
 intro pins s σ H Q I hw
 obtain ⟨cl,hcl,h1,h2⟩:=mJ (so ok I ho)
 have ok':cY sc X.env.scope X.N x ks:=by rw [ho,hN];exact ok
 rw [arm_eval_DictComp]
 refine wpAny_comprehension_free (use:=none) rfl hs hcl ok.1 ok.2.2.2.1 (cD (hi pins s σ H _ I hw) λv s1 h3=>cD h3 λitv s2 h4=>?_)
 obtain ⟨it,fp,tn,J,H2,rfl,I2,T,st2,f2,hR⟩:=h4
 refine Ey (RR:=λacc C=>compPost (model X.prog X.w) X.A X.xe none (EP X pins σ Q) acc C) hc ok' h1 h2 hk he hcn I2 T st2 f2 hR ?_
 intro D C s' H' m J' q hn hC cl' cs cc cp
 refine ⟨m,hn,λh' hsb=>⟨.ref D,H',?_,rfl,q⟩⟩
 exact J'.turned (t':=s'.toks) (it:=C) (λb o ne e=>hsb.extBut b o ne e) hC cl' (.inr cs) cc cp
end
end Ov
namespace Ov
open PySem PySem.Spec PyProof.Rows
open L2 (V HO Hp Inv Cx VK XK TE TT TA TS TG qF TI TO ki Ends xY Loc Gl Rd RelV Vals fz yf cj qD uf qE kg R2 upd aG aM cZ gS Sp tK It bG dq bV Passes qj aH Meth Mk Binds aQ cb aw dk gm fh mC tN EN qo)
section
variable {K:PySem.W.Frag} {J:Hq} {H:Hp}
theorem e9:∀{kvs:List (Str × PV)} {gs:List (Str × V)},mG K J H kvs gs→qo (cE K J H) kvs gs
 | [],[],_=>.nil
 | [],_ :: _,h=>by cases h.1
 | _ :: _,[],h=>by cases h.1
 | (k,y) :: fs,(k',w) :: gs,h=>by
  obtain ⟨h1,v',us,h2,h3,h4⟩:=h
  simp only [UB,List.cons.injEq] at h1 h2
  obtain ⟨rfl,h1⟩:=h1
  obtain ⟨rfl,rfl⟩:=h2
  exact .cons ⟨rfl,h3⟩ (e9 ⟨h1,h4⟩)
theorem y9:∀{kvs:List (Str × PV)} {gs:List (Str × V)},qo (cE K J H) kvs gs→mG K J H kvs gs
 | _,_,.nil=>⟨rfl,rfl⟩
 | _,_,.cons (a:=p) (b:=q) r t=>by
  obtain ⟨h1,h2⟩:=y9 t
  exact ⟨by rw [UB,UB,h1,r.1],q.2,_,rfl,r.2,h2⟩
theorem Ext.lF {p:Addr} {kvs kvs':List (Str × PV)} {gs gs':List (Str × V)} {ep ep':Nat} (h:J p=some (.dct kvs ep)) (k:H p=some (.dE gs ep)):Ext K J H (put J p (.dct kvs' ep')) (upd H p (.dE gs' ep')):=by
 have sm:∀a u,a≠p→Rd H a u→Rd (upd H p (.dE gs' ep')) a u:=λa u ne z=>by
  rcases z with z | ⟨o,z⟩
  ·exact .inl (by rw [aM ne];exact z)
  ·exact .inr ⟨o,by rw [aM ne];exact z⟩
 refine ⟨λa vs' z=>?_,λa o z q _=>?_⟩
 ·rcases z with z | z
  ·have ne:a≠p:=by
    intro e;subst e
    rcases z with z | ⟨o,z⟩
    ·rw [k] at z;cases z
    ·rw [k] at z;cases z
   exact .inl (sm a _ ne z)
  ·exact .inr z
 ·have ne:a≠p:=by intro e;subst e;rw [h] at z;cases z
  exact ⟨by rw [ak ne];exact z,by rw [aM ne];exact q⟩
theorem Rep.lF {p:Addr} {kvs kvs':List (Str × PV)} {gs gs':List (Str × V)} {ep ep':Nat} (r:Rep K J H) (h:J p=some (.dct kvs ep)) (k:H p=some (.dE gs ep)) (q:qo (cE K J H) kvs' gs'):Rep K (put J p (.dct kvs' ep')) (upd H p (.dE gs' ep')):=by
 have e:=Ext.lF (K:=K) (kvs':=kvs') (gs':=gs') (ep':=ep') h k
 refine r.BF e p (λa ne=>ak ne) (λa o ne _ z=>by rw [aM ne];exact z) λu z=>?_
 rw [ar] at z;cases z
 exact ⟨gs',aG,e.xb (y9 q)⟩
theorem Rep.K0 {p:Addr} {ep:Nat} (r:Rep K J H) (n:H p=none):Rep K (put J p (.dct [] ep)) (upd H p (.dE [] ep)):=by
 have e:=Ext.laid (K:=K) (J:=J) (o:=.dE [] ep) (u:=.dct [] ep) n
 refine r.BF e p (λa ne=>ak ne) (λa o ne _ z=>by rw [aM ne];exact z) λu z=>?_
 rw [ar] at z;cases z
 exact ⟨[],aG,⟨rfl,rfl⟩⟩
end
def P1:nG:=λx y J Q=>Cm x λa=>Lb y λk=>GB (J a) λkvs _=>wJ (mC kvs k) λv=>Q v J
def JR (f:Bool→Bool):nG:=λx y J Q=>Lb x λk=>Cm y λa=>GB (J a) λkvs _=>Q (.bl (f (mC kvs k).isSome)) J
def P2:Aj:=λxs J Q=>Ck xs λx=>Cm x λa=>GB (J a) λkvs _=>Q (.int kvs.length) J
def G5:Aj:=λxs J Q=>Ck xs λx=>Cm x λa=>GB (J a) λkvs _=>Q (.fl (kvs.map λkv=>.str kv.1)) J
def Lq:EM:=λx xs J Q=>Cm x λa=>Ck xs λy=>Lb y λk=>GB (J a) λkvs _=>wJ (mC kvs k) λv=>∀ep',Q v (put J a (.dct (EN kvs k) ep'))
def Lr:DD:=λo i y J R=>Cm o λa=>Lb i λk=>GB (J a) λkvs _=>kvs.length < sizeLine∧∀ep',R (put J a (.dct (tN kvs k y) ep'))
def Lw:dz:=λ_ J Q=>∀p,J p=none→∀ep,Q (.ref p) (put J p (.dct [] ep))
def TB (te:dz):ug:=λτ J R=>te τ J λx J1=>Cm x λa=>GB (J1 a) λkvs ep=>R ⟨kvs.map λkv=>.str kv.1,λJ'=>J' a=some (.dct kvs ep)⟩ J1
section
variable {X:Cx} {G:G2}
theorem dC:Rv X P1:=⟨_,L2.O2,λJ H x y v w Q2 Q rx ry r h kn=>by
 obtain ⟨a,ex,h⟩:=gE h;obtain ⟨k,ey,h⟩:=ph h;obtain ⟨kvs,ep,ja,h⟩:=mU h;obtain ⟨z,hz,q⟩:=eV h
 subst ex ey
 cases rx;cases ry
 obtain ⟨gs,h1,h2⟩:=r _ _ ja
 obtain ⟨u,hu,ru⟩:=((e9 h2).va k).1 z hz
 exact ⟨a,gs,ep,k,u,rfl,rfl,h1,hu,kn z J u H ru r .refl q⟩⟩
theorem Gf (f:Bool→Bool):LR X.K (L2.NF f) (JR f):=λJ H x y v w Q2 Q rx ry r h kn=>by
 obtain ⟨k,ex,h⟩:=ph h;obtain ⟨a,ey,h⟩:=gE h;obtain ⟨kvs,ep,ja,q⟩:=mU h
 subst ex ey
 cases rx;cases ry
 obtain ⟨gs,h1,h2⟩:=r _ _ ja
 exact ⟨a,gs,ep,k,rfl,rfl,h1,by rw [← ((e9 h2).va k).2];exact kn (.bl _) J _ H rfl r .refl q⟩
theorem Nl:nv X (compareOp .In) (JR id):=⟨_,L2.Ni,Gf id⟩
theorem Jz:nv X (compareOp .NotIn) (JR not):=⟨_,L2.El,Gf not⟩
theorem pD {K:PySem.W.Frag} {J:Hq} {H:Hp}:∀{ks:List Str},aU K J H (ks.map PV.str) (ks.map V.str)
 | []=>rfl
 | k :: ks=>⟨_,_,rfl,rfl,pD (ks:=ks)⟩
theorem yp (hc:X.calm=true):KJ X (.type "list") G5:=⟨_,L2.yn hc,λJ H xs vs Q2 Q rs r h k=>by
 obtain ⟨x,ex,h⟩:=jw h;obtain ⟨a,ea,h⟩:=gE h;obtain ⟨kvs,ep,ja,q⟩:=mU h;subst ea
 subst ex;obtain ⟨v,us,rfl,rv,e⟩:=rs;cases e;cases rv
 obtain ⟨gs,h1,h2⟩:=r _ _ ja
 refine ⟨a,gs,ep,rfl,h1,λp hp=>?_⟩
 have hk:aU X.K J H (kvs.map λkv=>PV.str kv.1) (gs.map λkv=>V.str kv.1):=by
  have:=(e9 h2).keys
  rw [show (kvs.map λkv=>PV.str kv.1)=(kvs.map (·.1)).map PV.str by rw [UC];rfl,show (gs.map λkv=>V.str kv.1)=(gs.map (·.1)).map V.str by rw [UC];rfl,this]
  exact pD
 obtain ⟨x1,x2,x3⟩:=sd r hk hp
 exact k _ J _ _ x1 x2 x3 q⟩
theorem Jg:Mi X "dict" "dict.pop" Lq:=⟨_,L2.Ji,λJ H x xs v vs Q2 Q rx rs r h kn=>by
 obtain ⟨a,ex,h⟩:=gE h;obtain ⟨y,exs,h⟩:=jw h;obtain ⟨k,ek,h⟩:=ph h;obtain ⟨kvs,ep,ja,h⟩:=mU h;obtain ⟨z,hz,q⟩:=eV h;subst ek
 subst ex exs;cases rx
 obtain ⟨u,us,rfl,ru,e⟩:=rs;cases e;cases ru
 obtain ⟨gs,h1,h2⟩:=r _ _ ja
 have pk:=e9 h2
 obtain ⟨y,hy,ry⟩:=(pk.va k).1 z hz
 refine ⟨a,gs,ep,k,y,rfl,rfl,h1,hy,λep'=>?_⟩
 have e2:=Ext.lF (K:=X.K) (kvs':=EN kvs k) (gs':=EN gs k) (ep':=ep') ja h1
 exact kn z _ y _ (e2.rep ry) (r.lF ja h1 (pk.dr k)) e2 (q ep')⟩
theorem q_:Rz X Lr:=⟨_,L2.NU,λJ H o i y ov iv u R2 R ro ri ry r h kk=>by
 obtain ⟨a,eo,h⟩:=gE h;obtain ⟨k,ei,h⟩:=ph h;obtain ⟨kvs,ep,ja,hl,q⟩:=mU h
 subst eo ei;cases ro;cases ri
 obtain ⟨gs,h1,h2⟩:=r _ _ ja
 have pk:=e9 h2
 refine ⟨a,gs,ep,k,rfl,rfl,h1,by rw [← pk.len];exact hl,λep'=>?_⟩
 exact kk _ _ (r.lF ja h1 (pk.pu ry)) (Ext.lF (K:=X.K) ja h1) (q ep')⟩
theorem w_ {pos:Pos}:RE X G (.Dict [] [] pos) Lw:=⟨l7 L2.JG λσ H Q ⟨τ,J,Q2,a2,q,k⟩ p hp ep=>k (.ref p) _ _ _ rfl (a2.hp.K0 hp) (.laid hp) (q p (a2.hp.free hp) ep)⟩
theorem xg {tg l:Expr} {tl:dz} (hl:RE X G l tl):RI X G tg l (TB tl):=⟨PU (L2.JH hl.run) λσ H R ⟨τ,J,R2,a2,h,k⟩=>⟨τ,J,_,a2,h,λx J1 v H1 rx r1 e1 h=>by
 obtain ⟨a,ex,h⟩:=gE h;obtain ⟨kvs,ep,ja,q⟩:=mU h
 subst ex;cases rx
 obtain ⟨gs,h1,h2⟩:=r1 _ _ ja
 have pk:=e9 h2
 have hl':=pk.len
 refine ⟨a,gs,ep,rfl,h1,k _ J1 _ H1 ?_ r1 e1 q⟩
 have hks:=pk.keys
 have key:∀J' H',Rep X.K J' H'→J' a=some (.dct kvs ep)→∃gs',H' a=some (.dE gs' ep)∧gs'.map (·.1)=gs.map (·.1):=λJ' H' r o=>by
  obtain ⟨gs',h1',h2'⟩:=r _ _ o
  exact ⟨gs',h1',by rw [← (e9 h2').keys,hks]⟩
 exact {
  go:=λJ' H' e r o i hi=>⟨key J' H' r o,by rw [Us] at hi ⊢;omega⟩
  yl:=λJ' H' e r o i hi v H2 y=>by
   obtain ⟨rfl,k,hk,rfl⟩:=y
   rw [← hks,Uz] at hk
   obtain ⟨kv,hkv,rfl⟩:=Option.map_eq_some_iff.mp hk
   exact ⟨.str kv.1,by rw [Uz,hkv];rfl,rfl,r,.refl⟩
  stop:=λJ' H' e r o=>⟨key J' H' r o,by rw [Us,Us];omega⟩ }⟩⟩
def Ri (wi:ug) (ks:List (Str × Nat)) (tc:mI) (tk te:dz):dz:=λτ J Q=>wi τ J λit J1=>∀D,J1 D=none→∀ep,∃W:Nat→Hq→Prop,W 0 (put J1 D (.dct [] ep))∧(∀i J2,W i J2→it.ok J2) ∧
 (∀i x J2,it.xs[i]?=some x→W i J2→tc (some x :: pN ks τ) J2 λb J3=>if b=true then tk (some x :: pN ks τ) J3 λy J4=>te (some x :: pN ks τ) J4 λz J5 =>
  ∃kvs ep k,y=.str k∧J5 D=some (.dct kvs ep)∧kvs.length < sizeLine∧∀ep',W (i + 1) (put J5 D (.dct (tN kvs k z) ep')) else W (i + 1) J3)∧∀J2,W it.xs.length J2→Q (.ref D) J2
theorem IC {wi:ug} {ks:List (Str × Nat)} {tc:mI} {tk te:dz}:∀σ H Q,LE X.K G (Ri wi ks tc tk te) σ H Q→T6 (LI X.K G wi) ks (LT X.K G tc) (LE X.K G tk) (LE X.K G te) σ H Q:=λσ H Q ⟨τ,J,Q2,a2,h,k⟩ =>
 ⟨τ,J,_,a2,h,λit J1 I H1 ir r1 e1 w D hD ep=>by
  obtain ⟨W,w0,wok,step,fin⟩:=w D (r1.free hD) ep
  refine ⟨λi m H2=>m=it.xs.length - i∧i≤it.xs.length∧∃J2,Rep X.K J2 H2∧Ext X.K J1 H1 J2 H2∧W i J2,⟨_,rfl,UZ _,_,r1.K0 hD,.laid hD,w0⟩,?_⟩
  rintro i m H2 ⟨rfl,hi,J2,r2,e2,w2⟩
  by_cases hlt:i < it.xs.length
  ·refine .inr ⟨ir.go J2 H2 e2 r2 (wok i J2 w2) i hlt,λv H3 y=>?_⟩
   obtain ⟨x,ex,rx,r3,e3⟩:=ir.yl J2 H2 e2 r2 (wok i J2 w2) i hlt v H3 y
   have a3:xX X.K G (some x :: pN ks τ) J2 (some v :: d8 ks σ) H3:=⟨CI (a2.sl.ext ((e1.trans e2).trans e3)) rx ks,r3,((a2.ext.trans e1).trans e2).trans e3⟩
   refine ⟨_,_,_,a3,step i x J2 ex w2,λb J4 H4 r4 e4 q=>?_⟩
   cases b with
   | false =>
    simp only [UK,if_false] at q ⊢
    exact ⟨_,by omega,rfl,hlt,J4,r4,(e2.trans e3).trans e4,q⟩
   | true =>
    simp only [if_true] at q ⊢
    refine ⟨_,_,_,a3.go r4 e4,q,λyk J5 u H5 rk r5 e5 q5=>?_⟩
    refine ⟨_,_,_,(a3.go r4 e4).go r5 e5,q5,λz J6 vz H6 rz r6 e6 ⟨kvs,ep2,kk,ek,jD,hl,q6⟩=>?_⟩
    subst ek
    cases rk
    obtain ⟨gs,h1,h2⟩:=r6 _ _ jD
    have pk:=e9 h2
    refine ⟨gs,ep2,kk,rfl,h1,by rw [← pk.len];exact hl,it.xs.length - (i + 1),by omega,λep'=>⟨rfl,hlt,_,r6.lF jD h1 (pk.pu rz),?_,q6 ep'⟩⟩
    exact ((((e2.trans e3).trans e4).trans e5).trans e6).trans (Ext.lF (K:=X.K) jD h1)
  ·have ei:i=it.xs.length:=by omega
   subst ei
   exact .inl ⟨ir.stop J2 H2 e2 r2 (wok _ J2 w2),k (.ref D) J2 _ H2 rfl r2 (e1.trans e2) (fin J2 w2)⟩⟩
theorem SA {X:Cx} {ifs:List Expr} {t t':TT} (h:Iw X ifs t) (k:∀σ H Q,t' σ H Q→t σ H Q):Iw X ifs t':=λpins s σ H Q I q=>h pins s σ H Q I (k _ _ _ q)
variable {kx vx iter cnd:Expr} {x y:Str} {px py:Pos} {sc:Scope} {pos spos:Pos} {wi:ug} {tk te:dz} {tc:mI} {i:Nat}
theorem LD (osc:Scope) (N:List Str) (ks:List (Str × Nat)) (hc:X.calm=true) (ho:X.env.scope=osc) (hN:X.N=N) (hi:RI X G (.Name x px) iter wi) (hk:∀cl C s₀ H₀ fp pins,RE (gu X sc cl C x ks s₀ H₀ fp pins) G kx tk) (he:∀cl C s₀ H₀ fp pins,RE (gu X sc cl C x ks s₀ H₀ fp pins) G vx te)
  (ok:cY sc osc N x ks:=by decide +kernel) (hs:∀x,foldedSetIterable iter X.env x=pure x:=by intro _;rfl):RE X G (.DictComp kx vx [⟨.Name x px,iter,[],0⟩] sc pos) (Ri wi ks zf tk te) :=
 ⟨l7 (PQ osc N ks hc ho hN hi.run (λcl C s₀ H₀ fp pins=>(hk cl C s₀ H₀ fp pins).run) (λcl C s₀ H₀ fp pins=>(he cl C s₀ H₀ fp pins).run) (λcl C s₀ H₀ fp pins=>SA wV λσ H Q ⟨τ,J,Q2,a2,q,k⟩=>k true J H a2.hp .refl q) ok hs) IC⟩
end
def By (tabs:List Addr):cA:=λxs J Q _=>∃ns:List Int,xs=[.fl (ns.map .int)]∧ns.length≤63∧(∀T∈tabs,J T=some .tab)∧(∀a,a ∉ tabs→J a=none)∧∀J',(∀T∈tabs,J' T=some .tab)→Q (.bl true) J'
def Hn (tabs:List Addr) (K:PySem.W.Frag):Sp:=λvs H Q _=>∃(a:Addr) (ns:List Int),vs=[.ref a]∧cZ K H a (ns.map V.int)∧ns.length≤63∧(∀T∈tabs,H T=some (.ext (eO T))) ∧
 (∀b,H b≠none→b=a∨b∈tabs)∧(∀u,H a=some u→∃o xs,u=.qJ o (.lst xs))∧∀H',bG H H'→Q (.bl true) H'
theorem DT {P:Program} {w:World} {K:PySem.W.Frag} {mg:Str→Option Value} {base:Heap} {k:Nat} {f:Addr} {fd:FuncData} {ps:List Str} {tabs:List Addr} (F:aQ P w K mg base (cP P w) k f fd ps (dn K (By tabs))) :
  aQ P w K mg base L2.rh k f fd ps (Hn tabs K) :=
 F.Q1.imp λvs H Q E ⟨a,ns,e,hS,hl,hT,hA,hK,q⟩=>by
  subst e
  classical
  have na:∀u,H a=some u→a ∉ tabs:=λu hu hm=>by
   obtain ⟨o,xs,rfl⟩:=hK u hu
   rw [hT a hm] at hu;cases hu
  refine ⟨[.fl (ns.map .int)],λb=>if b∈tabs then some .tab else none,λx J'=>x=.bl true∧∀T∈tabs,J' T=some .tab,λ_ _=>False,⟨.ref a,[],rfl,⟨a,ns.map V.int,rfl,?_,pB ns⟩,rfl⟩,?_,⟨ns,rfl,hl,λT hT=>if_pos hT,λb hb=>if_neg hb,λJ' h=>⟨rfl,h⟩⟩,?_,?_⟩
  ·rcases hS with h | h
   ·refine .inl ⟨?_,h⟩
    have:a ∉ tabs:=by
     rcases h with h | ⟨o,h⟩
     ·exact na _ h
     ·exact na _ h
    exact if_neg this
   ·exact .inr h
  ·intro b o z
   by_cases hb:b∈tabs
   ·have z':=(if_pos hb).symm.trans z
    cases z'
    exact hT b hb
   ·have z':=(if_neg hb).symm.trans z
    cases z'
  ·rintro z J' u H' rz rr ee ⟨rfl,ht⟩
   cases rz
   refine q H' λb o hb=>?_
   rcases hA b (by rw [hb];simp) with rfl | hm
   ·obtain ⟨ob,xs,rfl⟩:=hK o hb
    exact (ee.ll b _ (if_neg (na _ hb)) hb (.inr ⟨_,_,rfl⟩)).2
   ·have:=hT b hm
    rw [hb] at this;cases this
    exact rr b _ (ht b hm)
  ·intro _ _ _ _ _ z;exact z.elim
end Ov
namespace L2
open PySem PySem.Spec PyProof.Rows
def O0 (k:Str):Value→Bool
 | .str y _=>y.cps.toList == k.cps.toList
 | _=>false
theorem EK {ss:List Str} {us:List Value} (r:Vals (ss.map V.str) us):us.length=ss.length∧∀(j:Nat) (u:Value),us[j]?=some u→∃y t,ss[j]?=some y∧u=.str y t:=by
 induction ss generalizing us with
 | nil=>cases r;exact ⟨rfl,λj u e=>by simp at e⟩
 | cons y ss ih =>
  rw [UB] at r
  cases r with
  | cons ru rr =>
   obtain ⟨t,rfl⟩:=ru
   obtain ⟨h1,h2⟩:=ih rr
   refine ⟨by simp [h1],λj u e=>?_⟩
   cases j with
   | zero=>cases e;exact ⟨y,t,rfl,rfl⟩
   | succ j=>exact h2 j u (by simpa using e)
theorem uZ {α β:Type} (f:α→β):∀(l:List α) (j:Nat),(l.eraseIdx j).map f=(l.map f).eraseIdx j
 | [],_=>rfl
 | _ :: _,0=>rfl
 | x :: l,j + 1=>by simp only [Wg,UB,uZ f l j]
section
variable {X:Cx}
def G8:V→List V→Hp→VK→Prop:=λx vs H Q=>∃(l:Addr) (ss:List Str) (k:Str) (j:Nat),x=.ref l∧vs=[.str k]∧H l=some (.lst (ss.map V.str))∧ss[j]?=some k∧(∀m:Nat,m < j→ss[m]?≠some k)∧Q .non (upd H l (.lst ((ss.eraseIdx j).map V.str)))
theorem AR:qE X "list.remove" G8:=by
 intro pins s σ H x vs v us Q I rx rv h
 obtain ⟨l,ss,k,j,rfl,rfl,hH,hj,hno,q⟩:=h
 cases rx
 obtain ⟨u,rfl,ru⟩:=rv.one
 obtain ⟨t,rfl⟩:=ru
 obtain ⟨z,its,n,r,hl,e⟩:=I.Jb hH
 obtain ⟨h1,h2⟩:=EK r
 obtain ⟨hjl,hje⟩:=Uu.mp hj
 have hz:ss.length≤sizeLine:=by simpa using z
 have at_:∀(m:Nat) (hm:m < its.toArray.size),O0 k its.toArray[m]=decide (ss[m]?=some k):=λm hm=>by
  obtain ⟨y,t',hy,hu⟩:=h2 m its[m] (Ut (by simpa using hm))
  show O0 k its[m]=_
  rw [hu,hy]
  show (y.cps.toList == k.cps.toList)=_
  by_cases hk:y=k
  ·subst hk;simp
  ·have:(y.cps.toList == k.cps.toList)=false:=by
    rw [beq_eq_false_iff_ne]
    intro z
    exact hk (by cases y;cases k;simp at z;rw [z])
   rw [this];symm;exact decide_eq_false λz=>hk (Option.some.inj z)
 refine call_meets PySem.F.slot_list_remove ⟨_,e,rfl⟩ PySem.F.entry_list_remove (PySem.F.args_list_remove_2 _ _)
  (MeetsSeq.list_remove l its.toArray n (.str k t) (O0 k) (λy hy=>?_) j (by simpa using (show j < its.length by omega)) ?_ (λm hm hlt=>?_) (by rw [Uy];omega)) ⟨e,?_⟩
 ·obtain ⟨m,hm⟩:=UN.mp (show y∈its by simpa using hy)
  obtain ⟨y',t',_,rfl⟩:=h2 m y hm
  exact SeqRoads2.EqGives.str _ _ _ _
 ·rw [at_];exact decide_eq_true hj
 ·rw [at_];exact decide_eq_false (hno m hlt)
 ·refine ⟨.non,_,I.I_ (its':=its.eraseIdx j) hH e (by rw [VZ]) ?_ ?_,rfl,q⟩
  ·rw [uZ];exact r.eraseIdx j
  ·rw [Us];exact UM (List.length_eraseIdx_le _ _) hz
end
end L2
namespace Ov
open PySem PySem.Spec PyProof.Rows
open L2 (V HO Hp Inv Cx VK XK TE TT TA TS TG qF TI TO ki Ends xY Loc Gl Rd RelV Vals fz yf cj qD uf qE kg R2 upd aG aM cZ gS Sp tK It bG dq bV Passes qj aH Meth Mk Binds aQ cb aw dk gm fh)
section
variable {X:Cx} {G:G2}
def NB:EM:=λx xs J Q=>∃(a:Addr) (ss:List Str) (k:Str) (j:Nat),x=.ref a∧xs=[.str k]∧J a=some (.lst (ss.map .str))∧ss[j]?=some k∧(∀m:Nat,m < j→ss[m]?≠some k)∧Q (.int (j:Nat)) J
def CB:EM:=λx xs J Q=>∃(a:Addr) (ss:List Str) (k:Str) (j:Nat),x=.ref a∧xs=[.str k]∧J a=some (.lst (ss.map .str))∧ss[j]?=some k∧(∀m:Nat,m < j→ss[m]?≠some k)∧Q .non (put J a (.lst ((ss.eraseIdx j).map .str)))
theorem D6:Mi X "list" "list.remove" CB:=⟨_,L2.AR,λJ H x xs v vs Q2 Q rx rs r ⟨a,ss,k,j,ex,exs,ja,hj,hno,q⟩ kn=>by
 subst ex exs;cases rx
 obtain ⟨w,us,rfl,rw',e⟩:=rs;cases e;cases rw'
 obtain ⟨ws,h1,h2⟩:=r _ _ ja
 cases jH h2
 exact ⟨a,ss,k,j,rfl,rfl,h1,hj,hno,kn .non _ _ _ rfl (r.wrote (ys:=(ss.eraseIdx j).map .str) ja h1 pD) (.wrote ja h1) q⟩⟩
variable {a b c:Expr} {ta tb tc:dz} {pos:Pos}
def w8 (q q':nG) (ta tb tc:dz):dz:=λτ J Q=>ta τ J λx J1=>tb τ J1 λy J2=>q x y J2 λz J3=>K' z λk=>(if k=true then tc τ J3 λw J4=>q' y w J4 Q else Q (.bl false) J3)
theorem Ar {r r':R2} {q q':nG} (lr:LR X.K r q) (lr':LR X.K r' q'):∀σ H Q,LE X.K G (w8 q q' ta tb tc) σ H Q→L2.HC r r' (LE X.K G ta) (LE X.K G tb) (LE X.K G tc) σ H Q:=λσ H Q ⟨τ,J,Q2,a2,hh,k⟩=>⟨τ,J,_,a2,hh,λx J1 v H1 rx r1 e1 q1=>⟨τ,J1,_,a2.go r1 e1,q1,λy J2 w H2 ry r2 e2 q2 =>
  lr J2 H2 x y v w _ _ (e2.rep rx) ry r2 q2 λz J3 u H3 rz r3 e3 hz=>by
   obtain ⟨kk,ez,q3⟩:=pf hz
   subst ez;cases rz
   refine ⟨kk,rfl,?_⟩
   cases kk with
   | false=>simp only [UK,if_false] at q3 ⊢;exact k (.bl false) J3 _ H3 rfl r3 ((e1.trans e2).trans e3) q3
   | true =>
    simp only [if_true] at q3 ⊢
    exact ⟨τ,J3,_,((a2.go r1 e1).go r2 e2).go r3 e3,q3,λw2 J4 u4 H4 r4 rr4 e4 q4=>lr' J4 H4 y w2 w u4 Q2 Q ((e3.trans e4).rep ry) r4 rr4 q4 λz' J' u' H' rz' rr' ee' qq=>k z' J' u' H' rz' rr' ((((e1.trans e2).trans e3).trans e4).trans ee') qq⟩⟩⟩
theorem Hc {op op':CmpOp} {q q':nG} (ho:nv X (compareOp op) q) (ho':nv X (compareOp op') q') (ha:RE X G a ta) (hb:RE X G b tb) (hc:RE X G c tc) (hm:lastMarks [op,op'] [b,c]=false:=by with_unfolding_all rfl) :
  RE X G (.Compare a [op,op'] [b,c] pos) (w8 q q' ta tb tc):=by
 obtain ⟨r,h,lr⟩:=ho
 obtain ⟨r',h',lr'⟩:=ho'
 exact ⟨l7 (L2.GN h h' ha.run hb.run hc.run hm) (Ar lr lr')⟩
end
end Ov
namespace L2
open PySem PySem.Spec PyProof.Rows
def Tn (K:PySem.W.Frag) (a:Addr):It :=
 ⟨λi H=>∃xs x,cZ K H a xs∧xs[i]?=some x,
  λi H z H'=>∃T x,H T=none∧z=.ref T∧H'=upd H T (.tup [.int (i:Nat),x])∧(∀xs,cZ K H a xs→xs[i]?=some x),
  λi H=>∃xs,cZ K H a xs∧xs.length≤i⟩
theorem EH {P:Program} {w:World} {K:PySem.W.Frag} {elts:List Expr} {x1} {pos:Pos} {e it l:Addr} (ne:e≠it) :
  Turn P w K (.Tuple elts x1 pos) (Tn K l) [e,it] e (λi h=>(∃old,IsEnum h e it (i:Int) old)∧h.IsListIter it l i) where
 mem:=by simp
 obj:=λi h ⟨⟨old,he⟩,h1⟩ c hc=>by
  simp only [UI,UT,or_false] at hc
  rcases hc with rfl | rfl
  ·exact ⟨_,he,λv z=>by cases z⟩
  ·obtain ⟨o,e,c,d⟩:=h1;exact ⟨o,e,λv z=>by rw [d] at z;cases z⟩
 keep:=λi h h' ⟨⟨old,he⟩,h1⟩ k=>⟨⟨old,k e (by simp) _ he⟩,h1.at λo q=>k it (by simp) o q⟩
 item:=by
  intro X hP hw hK hc i pins s σ H E I hf st hg
  subst hP hw hK
  obtain ⟨⟨old,he⟩,h1⟩:=st
  obtain ⟨xs,x,hqx,hx⟩:=hg
  obtain ⟨its,rv,p,hzx⟩:=I.list hqx
  obtain ⟨u,hu,rx⟩:=rv.get hx
  refine wpAny_pyNext_enum_item he h1 p.isList (x:=u) (by simpa using hu) ne λh' a1 a3 a5 a6 hk=>?_
  refine ⟨_,rfl,wpAny_letOwnedTupleGo_enum a1 λh'' hz' hs'=>?_⟩
  have hT:H s.heap.objs.size=none:=I.hok.fresh (Ux _)
  have lt:∀{c o},s.heap.get? c=some o→c≠s.heap.objs.size:=λe=>UO (Heap.lt_size e)
  have I0:Inv X pins σ (upd H s.heap.objs.size (.tup [.int (i:Nat),x])) { s with heap:=s.heap.push { cls:=.type "tuple",data:=.seq #[.int i s.toks,u] },toks:=s.toks + 1 }:=I.laid (t':=s.toks + 1) (λb u e=>Heap.get?_push_of_some _ e) (Ux _) ⟨by simp [sizeLine],[.int i s.toks,u],.cons ⟨_,rfl⟩ (.cons rx .nil),⟨_,Heap.get?_push_size _ rfl,rfl,_,rfl⟩⟩
  have fpn:∀b∈[e,it],b≠s.heap.objs.size:=λb hb=>by
   simp only [UI,UT,or_false] at hb
   rcases hb with rfl | rfl
   ·exact lt he
   ·obtain ⟨o,e,_⟩:=h1;exact lt e
  have fpu:∀b∈[e,it],lZ X pins (upd H s.heap.objs.size (.tup [.int (i:Nat),x])) b:=λb hb=>⟨by rw [aM (fpn b hb)];exact (hf b hb).1,(hf b hb).2⟩
  have I1:Inv X pins σ (upd H s.heap.objs.size (.tup [.int (i:Nat),x])) { s with heap:=h'',toks:=s.toks + 1 }:=Inv.rg (s:={ s with heap:=s.heap.push { cls:=.type "tuple",data:=.seq #[.int i s.toks,u] },toks:=s.toks + 1 }) (t':=s.toks + 1) (ch:=[e,it]) I0 (λb o hb eb=>by
   simp only [UI,UT,or_false,not_or] at hb
   rcases Heap.get?_push_cases eb with ⟨rfl,rfl⟩ | e'
   ·exact hs'.extBut _ _ hb.1 a5
   ·exact hs'.extBut _ _ hb.1 (hk b o hb.1 hb.2 e')) fpu
  refine ⟨.ref s.heap.objs.size,_,I1,rfl,⟨_,x,hT,rfl,rfl,λzs hq=>by rw [I.kD hq hqx];exact hx⟩,⟨⟨_,by rw [Int.natCast_add];exact hz'⟩,a3.extBut hs'.extBut (Ne.symm ne)⟩,λb hb=>(fpu b hb).1⟩
 done:=by
  intro X hP hw hK hc i pins s σ H E I hf st hg
  subst hP hw hK
  obtain ⟨⟨old,he⟩,h1⟩:=st
  obtain ⟨xs,hqx,hl⟩:=hg
  obtain ⟨its,rv,p,hzx⟩:=I.list hqx
  have e1:=rv.length
  refine wpAny_pyNext_enum_end (I.ok.hd hc) he h1 p.isList (by rw [List.getElem?_toArray,Wb];omega) λh' hk=>⟨rfl,I.rg (t':=s.toks) (ch:=[e,it]) (λb o hb e=>?_) hf⟩
  simp only [UI,UT,or_false,not_or] at hb
  exact hk b o hb.2 e
 self:=λ_ _ _ _ _ st h=>let ⟨⟨_,he⟩,_⟩:=st;wpAny_pyIter_enum he h
def OY (K:PySem.W.Frag) (ta:TA):TI:=λσ H R=>ta σ H λvs H1=>∃a xs,vs=[.ref a]∧cZ K H1 a xs∧R (Tn K a) H1
section
variable {X:Cx}
theorem JI {l:Expr} {elts:List Expr} {x1} {tp:Pos} {ta:TA} {p pos:Pos} (hg:Gl X "enumerate") (hm:X.mg "enumerate"=none) (ha:PA X [l] ta) (hs:starEach [l] X.env=(false,eval l X.env) :: starEach [] X.env:=by rfl) (hp:(backTo pos (starEach [] X.env)).any (·.1)=false:=by rfl):PI X (.Tuple elts x1 tp) (.Call (.Name "enumerate" p) [l] [] pos) (OY X.K ta):=by
 intro pins s σ H R I h
 refine Call_ (mP I hg hm PyProof.Rows.Boot.«enumerate» (PyProof.Rows.callWith_type1 (cD (ha pos pins s σ H _ I h) λus s1 ⟨vs,H1,I1,r1,q1⟩=>?_) hs hp))
 obtain ⟨a,xs,e,hqa,q⟩:=q1
 subst e
 cases r1 with
 | cons r rr =>
  cases rr
  cases r
  obtain ⟨its,rv,pl,hz⟩:=I1.list hqa
  refine call_enumerate_list pl.isList ?_
  intro h' b1 b2 b6 hk
  refine wpAny_pyIter_enum b1 ?_
  have ne:s1.heap.objs.size + 1≠s1.heap.objs.size:=Nat.succ_ne_self _
  refine ⟨_,_,_,_,H1,rfl,I1.kept (t':=s1.toks) hk,EH ne,⟨⟨_,b1⟩,b2⟩,λc hc=>?_,q⟩
  have hc':s1.heap.objs.size≤c:=by
   simp only [UI,UT,or_false] at hc
   show @LE.le Nat _ _ _
   rcases hc with rfl | rfl
   ·exact VD _ _
   ·exact Ux _
  exact I1.FE hc' (I1.hok.fresh hc')
end
end L2
namespace Ov
open PySem PySem.Spec PyProof.Rows
open L2 (V HO Hp Inv Cx VK XK TE TT TA TS TG qF TI TO ki Ends xY Loc Gl Rd RelV Vals fz yf cj qD uf qE kg R2 upd aG aM cZ gS Sp tK It bG dq bV Passes qj aH Meth Mk Binds aQ cb aw dk gm fh)
def yt (xs:List PV):List PV:=(Vb xs.length).zipWith (λi x=>PV.tup [.int ((i:Nat):Int),x]) xs
theorem lL (xs:List PV):(yt xs).length=xs.length:=by unfold yt;simp
theorem uY (xs:List PV) (i:Nat) (x:PV) (h:xs[i]?=some x):(yt xs)[i]?=some (.tup [.int (i:Int),x]):=by
 unfold yt
 obtain ⟨hi,e⟩:=Uu.mp h
 rw [List.getElem?_zipWith,WA hi,h]
section
variable {X:Cx} {G:G2}
def TC (ta:pW):ug:=λτ J R=>ta τ J λvs J1=>Ck vs λx=>wJ (kF J1 x) λxs=>R ⟨yt xs,λJ'=>kF J' x=some xs⟩ J1
theorem JZ {l:Expr} {elts:List Expr} {x1} {tp:Pos} {ta:pW} {p pos:Pos} (hg:Gl X "enumerate") (hm:X.mg "enumerate"=none) (ha:RA X G [l] ta) (hs:starEach [l] X.env=(false,eval l X.env) :: starEach [] X.env:=by rfl) (hp:(backTo pos (starEach [] X.env)).any (·.1)=false:=by rfl) :
  RI X G (.Tuple elts x1 tp) (.Call (.Name "enumerate" p) [l] [] pos) (TC ta):=⟨PU (L2.JI hg hm ha.run hs hp) λσ H R ⟨τ,J,R2,a2,h,k⟩=>⟨τ,J,_,a2,h,λvs J1 us H1 rs r1 e1 hh=>by
 obtain ⟨x,ev,hh⟩:=jw hh;obtain ⟨xs,hx,q⟩:=eV hh
 subst ev
 obtain ⟨v,us',rfl,rv,e'⟩:=rs
 cases e'
 obtain ⟨a,ws,rfl,h1,h2⟩:=pd hx rv r1
 refine ⟨a,ws,rfl,h1,k _ J1 _ H1 ?_ r1 e1 q⟩
 have at_:∀J' H',Ext X.K J1 H1 J' H'→Rep X.K J' H'→kF J' x=some xs→∃vs,cZ X.K H' a vs∧aU X.K J' H' xs vs:=λJ' H' e r o=>by
  obtain ⟨c,vs,eb,g1,g2⟩:=pd o (e.rep rv) r
  cases eb
  exact ⟨vs,g1,g2⟩
 exact {
  go:=λJ' H' e r o i hi=>by
   obtain ⟨vs,s,rs⟩:=at_ J' H' e r o
   rw [lL] at hi
   exact ⟨vs,vs[i]'(by rw [← rs.length];exact hi),s,by simp⟩
  yl:=λJ' H' e r o i hi v H2 y=>by
   obtain ⟨vs,s,rs⟩:=at_ J' H' e r o
   obtain ⟨T,z,hT,rfl,rfl,y1⟩:=y
   obtain ⟨c,ec,rc⟩:=rs.get' (y1 vs s)
   have sm:=bG.new hT (.tup [.int (i:Nat),z])
   have e2:=Ext.same (K:=X.K) (J:=J') sm
   refine ⟨.tup [.int (i:Int),c],uY _ _ _ ec,⟨T,[.int (i:Nat),z],rfl,.inl (.inl aG),e2.jG ⟨.int (i:Nat),_,rfl,rfl,z,_,rfl,rc,rfl⟩⟩,r.same sm,e2⟩
  stop:=λJ' H' e r o=>by
   obtain ⟨vs,s,rs⟩:=at_ J' H' e r o
   exact ⟨vs,s,by rw [lL,← rs.length];exact Ux _⟩ }⟩⟩
end
section
variable {X:Cx} {pins:List (Addr × Obj)} {σ:L2.St} {H:Hp} {s:Shared}
open Classical in
def eT (K:PySem.W.Frag) (H:Hp) (zs:List Py) (y:Py) (u:Value):Bool:=decide (∃z∈zs,∃v,RelV v u∧At K H z v∧lM z y=true)
end
section
variable {X:Cx} {G:G2}
end
end Ov
namespace Ov
open PySem
structure aJ where
 m:Rat
 h:Str
 f:Str
 deriving DecidableEq
def slt (a b:Str):Prop:=a.cps.toList < b.cps.toList
instance (a b:Str):Decidable (slt a b):=inferInstanceAs (Decidable (a.cps.toList < b.cps.toList))
def aJ.lt (a b:aJ):Bool:=if a.m=b.m then (if a.h=b.h then decide (slt a.f b.f) else decide (slt a.h b.h)) else decide (a.m < b.m)
theorem oG (a:Str):¬ slt a a:=List.lt_irrefl _
theorem pP {a b c:Str} (h:slt a b) (k:slt b c):slt a c:=List.lt_trans h k
theorem Gm:∀(a b:List Nat),a≠b→a < b∨b < a
 | [],[],h=>absurd rfl h
 | [],_ :: _,_=>.inl (WM _ _)
 | _ :: _,[],_=>.inr (WM _ _)
 | x :: a,y :: b,h=>by
  rcases WG x y with z | z | z
  ·exact .inl (VG.mpr (.inl z))
  ·subst z
   rcases Gm a b (λe=>h (by rw [e])) with q | q
   ·exact .inl (VG.mpr (.inr ⟨rfl,q⟩))
   ·exact .inr (VG.mpr (.inr ⟨rfl,q⟩))
  ·exact .inr (VG.mpr (.inl z))
theorem xD {a b:Str} (h:a≠b):slt a b∨slt b a:=by
 have ne:a.cps.toList≠b.cps.toList:=λe=>h (by cases a;cases b;simp at e;rw [e])
 exact Gm _ _ ne
theorem NW {a b:Str} (h:slt a b):a≠b:=λe=>by subst e;exact oG _ h
theorem aJ.lt_iff (a b:aJ):a.lt b=true↔a.m < b.m∨(a.m=b.m∧(slt a.h b.h∨(a.h=b.h∧slt a.f b.f))):=by
 unfold aJ.lt
 by_cases e:a.m=b.m
 ·rw [if_pos e]
  have n:¬ a.m < b.m:=by rw [e];exact Rat.lt_irrefl
  by_cases k:a.h=b.h
  ·rw [if_pos k]
   have n2:¬ slt a.h b.h:=λz=>NW z k
   simp [e,k,n,n2]
   try (intro z;first | exact absurd z Rat.lt_irrefl | exact absurd z (oG _))
  ·rw [if_neg k]
   simp [e,k]
   try (intro z;exact absurd z Rat.lt_irrefl)
 ·rw [if_neg e]
  simp [e]
theorem aJ.M1 (a:aJ):a.lt a=false:=by
 cases h:a.lt a with
 | false=>rfl
 | true =>
  rcases (aJ.lt_iff a a).mp h with h | ⟨_,h | ⟨_,h⟩⟩
  ·exact absurd h Rat.lt_irrefl
  ·exact absurd h (oG _)
  ·exact absurd h (oG _)
theorem vo {a b c:Rat} (h:a < b) (k:b < c):a < c:=by grind
theorem aJ.lt_trans {a b c:aJ} (h:a.lt b=true) (k:b.lt c=true):a.lt c=true:=by
 rw [aJ.lt_iff] at *
 rcases h with h | ⟨e,h⟩ <;> rcases k with k | ⟨e',k⟩
 ·exact .inl (vo h k)
 ·exact .inl (e' ▸ h)
 ·exact .inl (e ▸ k)
 ·refine .inr ⟨e.trans e',?_⟩
  rcases h with h | ⟨z,h⟩ <;> rcases k with k | ⟨z',k⟩
  ·exact .inl (pP h k)
  ·exact .inl (z' ▸ h)
  ·exact .inl (z ▸ k)
  ·exact .inr ⟨z.trans z',pP h k⟩
theorem aJ.Gh {a b:aJ} (h:a≠b):a.lt b=true∨b.lt a=true:=by
 rw [aJ.lt_iff,aJ.lt_iff]
 by_cases e:a.m=b.m
 ·by_cases z:a.h=b.h
  ·have:a.f≠b.f:=λq=>h (by cases a;cases b;simp_all)
   rcases xD this with q | q
   ·exact .inl (.inr ⟨e,.inr ⟨z,q⟩⟩)
   ·exact .inr (.inr ⟨e.symm,.inr ⟨z.symm,q⟩⟩)
  ·rcases xD z with q | q
   ·exact .inl (.inr ⟨e,.inl q⟩)
   ·exact .inr (.inr ⟨e.symm,.inl q⟩)
 ·rcases (by grind:a.m < b.m∨b.m < a.m) with q | q
  ·exact .inl (.inl q)
  ·exact .inr (.inl q)
def je (l:List aJ):Prop:=l.Pairwise λa b=>a.lt b=true
def j7 (b:aJ) (l:List aJ):List aJ:=l.filter (λx=>x.lt b) ++ b :: l.filter (λx=>!x.lt b)
def vp (h f:Str) (x:aJ):Bool:=decide (x.h=h∧x.f=f)
def dg (h f:Str) (l:List aJ):List aJ:=l.filter λx=>!vp h f x
theorem uX {h f:Str} {l:List aJ} (s:je l):je (dg h f l):=s.filter _
theorem yy {b:aJ} {l:List aJ} (s:je l) (n:∀x∈l,x≠b):je (j7 b l):=by
 unfold j7 je
 rw [Wx]
 refine ⟨s.filter _,?_,?_⟩
 ·rw [VU]
  refine ⟨λy hy=>?_,s.filter _⟩
  rw [UE] at hy
  rcases aJ.Gh (n y hy.1) with q | q
  ·simp [q] at hy
  ·exact q
 ·intro x hx y hy
  rw [UE] at hx
  rcases UI.mp hy with rfl | hy
  ·exact hx.2
  ·rw [UE] at hy
   rcases aJ.Gh (n y hy.1) with q | q
   ·simp [q] at hy
   ·exact aJ.lt_trans hx.2 q
theorem IG {h f:Str} {l:List aJ} {m:Rat}:∀x∈dg h f l,x≠⟨m,h,f⟩:=λx hx e=>by
 subst e
 unfold dg at hx
 rw [UE] at hx
 simp [vp] at hx
theorem vj (p:aJ→Bool):∀{l:List aJ} {i:Nat},i≤l.length→(∀(j:Nat) x,j < i→l[j]?=some x→p x=true)→(∀(j:Nat) x,i≤j→l[j]?=some x→p x=false)→l.take i ++ l.drop i=l∧l.filter p=l.take i∧l.filter (λx=>!p x)=l.drop i
 | l,0,_,_,h=>by
  refine ⟨by simp,?_,?_⟩
  ·rw [List.take_zero]
   apply Wl.mpr
   intro x hx
   obtain ⟨j,hj⟩:=UN.mp hx
   rw [h j x (UZ _) hj];simp
  ·rw [V2]
   apply Ve.mpr
   intro x hx
   obtain ⟨j,hj⟩:=UN.mp hx
   rw [h j x (UZ _) hj];rfl
 | [],i + 1,hi,_,_=>by simp at hi
 | x :: l,i + 1,hi,h1,h2=>by
  obtain ⟨a,b,c⟩:=vj p (l:=l) (i:=i) (by simpa using hi) (λj y hj e=>h1 (j + 1) y (by omega) (by simpa using e)) (λj y hj e=>h2 (j + 1) y (by omega) (by simpa using e))
  have hx:p x=true:=h1 0 x (by omega) rfl
  refine ⟨by simp,?_,?_⟩
  ·rw [U2,hx];simp [b]
  ·rw [U2,hx];simp [c]
theorem B9 {b:aJ} {l:List aJ} {i:Nat} (hi:i≤l.length) (h1:∀(j:Nat) x,j < i→l[j]?=some x→x.lt b=true) (h2:∀(j:Nat) x,i≤j→l[j]?=some x→x.lt b=false):l.take i ++ b :: l.drop i=j7 b l:=by
 obtain ⟨_,e1,e2⟩:=vj (λx=>x.lt b) hi h1 h2
 unfold j7
 rw [e1,e2]
theorem C4 {l:List aJ} {b x y:aJ} {i j:Nat} (s:je l) (hx:l[i]?=some x) (hy:l[j]?=some y) (h:j≤i) (k:x.lt b=true):y.lt b=true:=by
 rcases VV h with h | h
 ·obtain ⟨hi,ei⟩:=Uu.mp hx
  obtain ⟨hj,ej⟩:=Uu.mp hy
  have:=Vd.mp s j i hj hi h
  rw [ei,ej] at this
  exact aJ.lt_trans this k
 ·subst h;rw [hx] at hy;cases hy;exact k
theorem zI {l:List aJ} {b x y:aJ} {i j:Nat} (s:je l) (hx:l[i]?=some x) (hy:l[j]?=some y) (h:i≤j) (k:x.lt b=false):y.lt b=false:=by
 cases q:y.lt b with
 | false=>rfl
 | true=>rw [C4 s hy hx h q] at k;cases k
theorem FO {b x:aJ} {l:List aJ} (h:x∈j7 b l):x=b∨x∈l:=by
 unfold j7 at h
 rcases UD.mp h with h | h
 ·exact .inr (UE.mp h).1
 ·rcases UI.mp h with h | h
  ·exact .inl h
  ·exact .inr (UE.mp h).1
theorem nM (p:aJ→Bool):∀l:List aJ,(l.filter p).length + (l.filter λx=>!p x).length=l.length
 | []=>rfl
 | x :: l=>by
  have:=nM p l
  cases h:p x <;> simp [h] <;> omega
theorem yx (b:aJ) (l:List aJ):(j7 b l).length=l.length + 1:=by
 unfold j7
 rw [UP,UQ]
 have:=nM (λx=>x.lt b) l
 omega
theorem oY (h f:Str) (l:List aJ):(dg h f l).length≤l.length:=Vj _ _
structure aW where
 m:Rat
 p:Rat
 v:Int
 deriving DecidableEq
def aW.at (l:aW) (t:Rat):Rat:=l.p + (t - l.m) * l.v
def turned (rows:List aW) (t:Rat) (v:Int):List aW :=
 match rows.getLast? with
 | none=>[]
 | some l =>
  let rest:=if l.m=t then rows.dropLast else rows
  if rest.getLast?.map aW.v=some v then rest else rest ++ [⟨t,l.at t,v⟩]
theorem ia (ls:List aW) (l:aW) (t:Rat) (v:Int):turned (ls ++ [l]) t v =
  if l.m=t then (if ls.getLast?.map aW.v=some v then ls else ls ++ [⟨t,l.at t,v⟩]) else (if l.v=v then ls ++ [l] else ls ++ [l] ++ [⟨t,l.at t,v⟩]):=by
 unfold turned
 simp only [U3,V6]
 split
 ·rfl
 ·simp only [U3,Wq,Option.some.injEq]
theorem vE {rows:List aW} {t:Rat} {v:Int} (h:rows≠[]):turned rows t v≠[]:=by
 obtain ⟨ls,l,rfl⟩:∃ls l,rows=ls ++ [l]:=⟨rows.dropLast,rows.getLast h,(Vf h).symm⟩
 rw [ia]
 split
 ·split
  ·rename_i e
   intro z;subst z;cases e
  ·simp
 ·split <;> simp
theorem BD {rows:List aW} {t:Rat} {v:Int} {x:aW} (h:x∈turned rows t v):x∈rows∨∃l∈rows,x=⟨t,l.at t,v⟩:=by
 by_cases e:rows=[]
 ·subst e;cases h
 obtain ⟨ls,l,rfl⟩:∃ls l,rows=ls ++ [l]:=⟨rows.dropLast,rows.getLast e,(Vf e).symm⟩
 rw [ia] at h
 have key:∀{y:List aW},(∀z∈y,z∈ls ++ [l])→x∈y ++ [⟨t,l.at t,v⟩]→x∈ls ++ [l]∨∃l'∈ls ++ [l],x=⟨t,l'.at t,v⟩:=λhy hx=>by
  rcases UD.mp hx with h | h
  ·exact .inl (hy _ h)
  ·exact .inr ⟨l,by simp,by simpa using h⟩
 split at h
 ·split at h
  ·exact .inl (UD.mpr (.inl h))
  ·exact key (λz hz=>UD.mpr (.inl hz)) h
 ·split at h
  ·exact .inl h
  ·exact key (λz hz=>hz) h
theorem nt (rows:List aW) (t:Rat) (v:Int):(turned rows t v).length≤rows.length + 1:=by
 by_cases e:rows=[]
 ·subst e;simp [turned]
 obtain ⟨ls,l,rfl⟩:∃ls l,rows=ls ++ [l]:=⟨rows.dropLast,rows.getLast e,(Vf e).symm⟩
 rw [ia]
 split <;> split <;> simp <;> omega
def yD (rows:List aW) (t:Rat):Option aW:=(rows.filter λl=>decide (l.m≤t)).getLast?
def lb (ms:List Rat) (t:Rat):Nat→Nat
 | 0=>0
 | k + 1=>if ms.getD k 0≤t then k + 1 else lb ms t k
theorem K1 (ms:List Rat) (t:Rat):∀k,lb ms t k≤k
 | 0=>Ux _
 | k + 1=>by unfold lb;split;exact Ux _;exact Nat.le_succ_of_le (K1 ms t k)
theorem F8 {ms:List Rat} {t:Rat} {j:Nat} (h:ms.getD j 0≤t):∀{k},j < k→0 < lb ms t k
 | 0,hk=>absurd hk (V7 _)
 | k + 1,hk=>by
  unfold lb
  split
  ·exact Nat.succ_pos _
  ·rename_i c
   exact F8 h (by rcases Nat.lt_succ_iff_lt_or_eq.mp hk with e | e;exact e;subst e;exact absurd h c)
theorem Cd (t:Rat) (rows:List aW):∀k,k≤rows.length→((rows.take k).filter λl=>decide (l.m≤t)).getLast?=if lb (rows.map aW.m) t k=0 then none else rows[lb (rows.map aW.m) t k - 1]?
 | 0,_=>rfl
 | k + 1,hk=>by
  have hk':k < rows.length:=by omega
  have e:rows.take (k + 1)=rows.take k ++ [rows[k]]:=by rw [U0,Ut hk'];rfl
  have em:(rows.map aW.m).getD k 0=rows[k].m:=by simp [Xb,hk']
  rw [e,VR]
  unfold lb
  rw [em]
  by_cases c:rows[k].m≤t
  ·rw [if_pos c,U2,if_pos (decide_eq_true c),Wr,U3,if_neg (Nat.succ_ne_zero _),Nat.add_sub_cancel,Ut hk']
  ·rw [if_neg c,U2,if_neg (by simp [c]),Wr,Vq]
   exact Cd t rows k (by omega)
theorem Ga (rows:List aW) (t:Rat):yD rows t=if lb (rows.map aW.m) t rows.length=0 then none else rows[lb (rows.map aW.m) t rows.length - 1]?:=by
 have:=Cd t rows rows.length (Ux _)
 rw [UY] at this
 exact this
def Q9 (g:Option Rat) (t:Rat):Bool:=match g with | none=>true | some q=>decide (t < q)
def there (rows:List aW) (g:Option Rat) (t:Rat):Bool :=
 match rows.head? with
 | none=>false
 | some l=>!decide (t < l.m) && Q9 g t
theorem HH {rows:List aW} {g:Option Rat} {t:Rat} (h:there rows g t=true):∃l,yD rows t=some l∧l∈rows∧l.m≤t∧0 < lb (rows.map aW.m) t rows.length∧rows[lb (rows.map aW.m) t rows.length - 1]?=some l:=by
 cases rows with
 | nil=>cases h
 | cons l0 ls =>
  have h0:l0.m≤t:=by
   unfold there at h
   simp only [Wu,UX,WE,decide_eq_false_iff_not] at h
   exact Rat.not_lt.mp h.1
  have hp:0 < lb ((l0 :: ls).map aW.m) t (l0 :: ls).length:=F8 (j:=0) (by simpa using h0) (by simp)
  have hle:=K1 ((l0 :: ls).map aW.m) t (l0 :: ls).length
  have hx:=Ga (l0 :: ls) t
  rw [if_neg (by omega)] at hx
  obtain ⟨l,hl⟩:∃l,(l0 :: ls)[lb ((l0 :: ls).map aW.m) t (l0 :: ls).length - 1]?=some l:=⟨_,Ut (by omega)⟩
  rw [hl] at hx
  have hm:=List.mem_of_getLast? hx
  rw [UE] at hm
  exact ⟨l,hx,hm.1,of_decide_eq_true hm.2,hp,hl⟩
def Sc (D A:Nat) (q:Rat):Prop:=∃a:Int,q * (D:Rat)=(a:Rat)∧a.natAbs≤A
theorem Sc.mono {D A B:Nat} {q:Rat} (h:Sc D A q) (k:A≤B):Sc D B q:=let ⟨a,e,l⟩:=h;⟨a,e,UM l k⟩
theorem Pq {D:Nat} (h:0 < D):(D:Rat)≠0:=by
 intro e
 have:D=0:=by exact_mod_cast e
 omega
theorem Sc.sz {D A n:Nat} {q:Rat} (h:Sc D A q) (hD:0 < D) (h1:D < 2 ^ n) (h2:A < 2 ^ n):Sz n q:=by
 obtain ⟨a,e,l⟩:=h
 have nz:=Pq hD
 have:q=Rat.divInt a (D:Int):=by
  rw [Rat.divInt_eq_div,← e]
  have:((D:Int):Rat)=(D:Rat):=rfl
  rw [this]
  generalize (D:Rat)=d at nz ⊢
  grind
 rw [this]
 exact Sz.div ⟨Vk l h2⟩ ⟨by simpa using h1⟩ (by omega)
theorem Sc.scale {D A E:Nat} {p:Rat} (h:Sc D A p):Sc (E * D) (E * A) p:=by
 obtain ⟨a,e,l⟩:=h
 refine ⟨E * a,?_,?_⟩
 ·rw [Rat.intCast_mul,← e]
  have h1:((E * D:Nat):Rat)=(E:Rat) * (D:Rat):=Rat.natCast_mul ..
  have h2:((E:Int):Rat)=(E:Rat):=rfl
  rw [h1,h2]
  grind
 ·rw [Int.natAbs_mul];exact Nat.mul_le_mul (by simp) l
theorem Sc.M6 {D A:Nat} {t:Int} {b:Nat} (hb:0 < b) (hd:b ∣ D) (hA:t.natAbs * (D / b)≤A):Sc D A (Rat.divInt t b):=by
 obtain ⟨c,rfl⟩:=hd
 rw [Wi _ hb] at hA
 refine ⟨t * c,?_,by rw [Int.natAbs_mul];simpa using hA⟩
 have nb:=Pq hb
 have e1:((b:Int):Rat)=(b:Rat):=rfl
 have e2:((c:Int):Rat)=(c:Rat):=rfl
 rw [Rat.divInt_eq_div,Rat.intCast_mul,e1,e2,Rat.natCast_mul]
 generalize (b:Rat)=b at nb ⊢
 grind
def ib:Nat:=9690712164777231700912800
theorem TK:∀b:Nat,1≤b→b≤60→b ∣ ib:=by
 intro b h1 h2
 have:∀b:Fin 61,1≤b.val→b.val ∣ ib:=by decide
 exact this ⟨b,by omega⟩ h1
theorem wg:0 < ib:=by decide
def MM:Nat:=2097152 * ib
structure T_ (D k:Nat) (l:aW):Prop where
 m:Sc ib MM l.m
 p:Sc (D * ib) (ib * 2 ^ 101 + k * (2000 * (D * MM))) l.p
 v:l.v.natAbs≤1000
theorem Pp:MM < 2 ^ 106:=by decide
theorem Cg {q:Rat} (h:Sc ib MM q):Sz 106 q:=h.sz wg (by decide) Pp
structure Gd (D k:Nat) (rows:List aW):Prop where
 ne:rows≠[]
 ok:∀l∈rows,T_ D k l
 len:rows.length≤k + 1
def Later (c q:Rat):Prop:=q=c∨∃u s:Nat,1≤u∧u≤60∧1≤s∧s≤500 * u∧q=Rat.divInt ((c.num * u).fdiv c.den + s) u
theorem Later.sc {c q:Rat} {A:Nat} (h:Later c q) (k:Sc ib A c):Sc ib (A + 501 * ib) q:=by
 rcases h with rfl | ⟨u,s,h1,h2,h3,h4,rfl⟩
 ·exact k.mono (VD _ _)
 obtain ⟨a,e,l⟩:=k
 obtain ⟨w,hw⟩:=TK u h1 h2
 refine Sc.M6 (by omega) ⟨w,hw⟩ ?_
 have ew:ib / u=w:=by rw [hw,Wi _ (by omega)]
 rw [ew]
 have hf:((c.num * u).fdiv c.den) * c.den≤c.num * u∧c.num * u < ((c.num * u).fdiv c.den + 1) * c.den:=by
  rw [Int.fdiv_eq_ediv_of_nonneg _ (by omega)]
  have:=fk c
  constructor
  ·exact Int.ediv_mul_le _ (by omega)
  ·have:=Int.lt_ediv_add_one_mul_self (c.num * u) this;exact this
 have ea:c.num * (ib:Int)=a * c.den:=by
  have h1:=cast_eq c
  have h2:=d4 c
  have h3:((ib:Nat):Rat)=(((ib:Nat):Int):Rat):=rfl
  have:((c.num * (ib:Int):Int):Rat)=((a * c.den:Int):Rat):=by
   rw [Rat.intCast_mul,Rat.intCast_mul,h1,← e,h3]
   grind
  exact_mod_cast this
 have hL:(ib:Int)=u * w:=by rw [hw];simp
 have hw0:0 < w:=by
  rcases Nat.eq_zero_or_pos w with z | z
  ·rw [z,Nat.mul_zero] at hw;exact absurd hw (by decide)
  ·exact z
 rw [hL] at ea
 have hd:=fk c
 generalize hF:(c.num * u).fdiv c.den=F at hf ⊢
 generalize hN:c.num=N at *
 generalize hDD:(c.den:Int)=d at *
 have g1:F * w≤a:=by
  have:F * w * d≤a * d:=by
   rw [← ea]
   have:=Int.mul_le_mul_of_nonneg_right hf.1 (show (0:Int)≤w by omega)
   calc F * w * d=F * d * w:=by rw [Int.mul_right_comm]
    _≤N * u * w:=this
    _=N * (u * w):=Int.mul_assoc ..
  exact Int.le_of_mul_le_mul_right this hd
 have g2:a≤(F + 1) * w:=by
  have:a * d≤(F + 1) * w * d:=by
   rw [← ea]
   have:=Int.mul_le_mul_of_nonneg_right (Int.le_of_lt hf.2) (show (0:Int)≤w by omega)
   calc N * (u * w)=N * u * w:=(Int.mul_assoc ..).symm
    _≤(F + 1) * d * w:=this
    _=(F + 1) * w * d:=by rw [Int.mul_right_comm]
  exact Int.le_of_mul_le_mul_right this hd
 have hsw:s * w≤500 * (u * w):=by
  calc s * w≤500 * u * w:=Nat.mul_le_mul_right _ h4
   _=500 * (u * w):=Nat.mul_assoc ..
 have huw:w≤u * w:=Nat.le_mul_of_pos_left _ (by omega)
 rw [hw]
 have:(F + s).natAbs * w=((F + s) * w).natAbs:=by rw [Int.natAbs_mul];simp
 rw [this,Int.add_mul]
 rw [Int.add_mul,Int.one_mul] at g2
 have hsw':(s:Int) * w≤500 * ((u * w:Nat):Int):=by exact_mod_cast hsw
 generalize F * (w:Int)=x at *
 have hs0:(0:Int)≤(s:Int) * w:=Int.mul_nonneg (by omega) (by omega)
 generalize (s:Int) * w=y at *
 generalize u * w=z at *
 omega
theorem Later.le {c q:Rat} (h:Later c q):c≤q:=by
 rcases h with rfl | ⟨u,s,h1,h2,h3,h4,rfl⟩
 ·exact Rat.le_refl
 have hf:c.num * u < ((c.num * u).fdiv c.den + 1) * c.den:=by
  rw [Int.fdiv_eq_ediv_of_nonneg _ (by omega)]
  exact Int.lt_ediv_add_one_mul_self (c.num * u) (fk c)
 generalize (c.num * u).fdiv c.den=F at hf ⊢
 have h5:c.num * u≤(F + s) * c.den:=by
  have:(F + 1) * c.den≤(F + s) * c.den:=Int.mul_le_mul_of_nonneg_right (by omega) (by omega)
  omega
 have hu:(0:Rat) < (u:Rat):=by exact_mod_cast (show 0 < u by omega)
 have hd:(0:Rat) < ((c.den:Int):Rat):=by exact_mod_cast fk c
 refine Rat.not_lt.mp λhlt=>?_
 rw [Rat.divInt_eq_div] at hlt
 have e1:((u:Int):Rat)=(u:Rat):=rfl
 rw [e1,Rat.div_lt_iff hu] at hlt
 have h6:=Rat.mul_lt_mul_of_pos_right hlt hd
 have e2:c * (u:Rat) * ((c.den:Int):Rat)=((c.num * u:Int):Rat):=by
  rw [Rat.intCast_mul,cast_eq c,e1];grind
 rw [e2,← Rat.intCast_mul] at h6
 have h7:(F + s) * c.den < c.num * u:=by exact_mod_cast h6
 omega
section
variable {α:Type} {lt:α→α→Bool}
def qr (lt:α→α→Bool) (b:α) (l:List α):List α:=l.filter (λx=>lt x b) ++ b :: l.filter (λx=>!lt x b)
def oW (lt:α→α→Bool) (l:List α):Prop:=l.Pairwise λa b=>lt a b=true
theorem GK (p:α→Bool):∀{l:List α} {i:Nat},i≤l.length→(∀(j:Nat) x,j < i→l[j]?=some x→p x=true)→(∀(j:Nat) x,i≤j→l[j]?=some x→p x=false)→l.filter p=l.take i∧l.filter (λx=>!p x)=l.drop i
 | l,0,_,_,h=>by
  refine ⟨?_,?_⟩
  ·rw [List.take_zero]
   apply Wl.mpr
   intro x hx
   obtain ⟨j,hj⟩:=UN.mp hx
   rw [h j x (UZ _) hj];simp
  ·rw [V2]
   apply Ve.mpr
   intro x hx
   obtain ⟨j,hj⟩:=UN.mp hx
   rw [h j x (UZ _) hj];rfl
 | [],i + 1,hi,_,_=>by simp at hi
 | x :: l,i + 1,hi,h1,h2=>by
  obtain ⟨b,c⟩:=GK p (l:=l) (i:=i) (by simpa using hi) (λj y hj e=>h1 (j + 1) y (by omega) (by simpa using e)) (λj y hj e=>h2 (j + 1) y (by omega) (by simpa using e))
  have hx:p x=true:=h1 0 x (by omega) rfl
  refine ⟨?_,?_⟩
  ·rw [U2,hx];simp [b]
  ·rw [U2,hx];simp [c]
theorem B_ {b:α} {l:List α} {i:Nat} (hi:i≤l.length) (h1:∀(j:Nat) x,j < i→l[j]?=some x→lt x b=true) (h2:∀(j:Nat) x,i≤j→l[j]?=some x→lt x b=false):l.take i ++ b :: l.drop i=qr lt b l:=by
 obtain ⟨e1,e2⟩:=GK (λx=>lt x b) hi h1 h2
 unfold qr
 rw [e1,e2]
theorem yz {b x:α} {l:List α}:x∈qr lt b l↔x=b∨x∈l:=by
 unfold qr
 rw [UD,UI,UE,UE]
 constructor
 ·rintro (h | h | h)
  ·exact .inr h.1
  ·exact .inl h
  ·exact .inr h.1
 ·rintro (h | h)
  ·exact .inr (.inl h)
  ·cases e:lt x b
   ·exact .inr (.inr ⟨h,by simp⟩)
   ·exact .inl ⟨h,rfl⟩
theorem FP (b:α) (l:List α):(qr lt b l).length=l.length + 1:=by
 unfold qr
 rw [UP,UQ]
 have:∀l:List α,(l.filter λx=>lt x b).length + (l.filter λx=>!lt x b).length=l.length:=by
  intro l
  induction l with
  | nil=>rfl
  | cons x l ih=>cases h:lt x b <;> simp [h] <;> omega
 have:=this l
 omega
theorem FQ (tr:∀{a b c},lt a b=true→lt b c=true→lt a c=true) {b:α} {l:List α} (s:oW lt l) (QK:∀x∈l,lt x b=true∨lt b x=true):oW lt (qr lt b l):=by
 unfold qr oW
 rw [Wx]
 refine ⟨s.filter _,?_,?_⟩
 ·rw [VU]
  refine ⟨λy hy=>?_,s.filter _⟩
  rw [UE] at hy
  rcases QK y hy.1 with q | q
  ·simp [q] at hy
  ·exact q
 ·intro x hx y hy
  rw [UE] at hx
  rcases UI.mp hy with rfl | hy
  ·exact hx.2
  ·rw [UE] at hy
   rcases QK y hy.1 with q | q
   ·simp [q] at hy
   ·exact tr hx.2 q
theorem zH (tr:∀{a b c},lt a b=true→lt b c=true→lt a c=true) {l:List α} {b x y:α} {i j:Nat} (s:oW lt l) (hx:l[i]?=some x) (hy:l[j]?=some y) (h:j≤i) (k:lt x b=true):lt y b=true:=by
 rcases VV h with h | h
 ·obtain ⟨hi,ei⟩:=Uu.mp hx
  obtain ⟨hj,ej⟩:=Uu.mp hy
  have:=Vd.mp s j i hj hi h
  rw [ei,ej] at this
  exact tr this k
 ·subst h;rw [hx] at hy;cases hy;exact k
theorem ED (tr:∀{a b c},lt a b=true→lt b c=true→lt a c=true) {l:List α} {b x y:α} {i j:Nat} (s:oW lt l) (hx:l[i]?=some x) (hy:l[j]?=some y) (h:i≤j) (k:lt x b=false):lt y b=false:=by
 cases q:lt y b with
 | false=>rfl
 | true=>have:=zH (lt:=lt) (b:=b) tr s hy hx h q;rw [this] at k;cases k
theorem oI (HV:∀a,lt a a=false) (tr:∀{a b c},lt a b=true→lt b c=true→lt a c=true):∀{l k:List α},oW lt l→oW lt k→(∀x,x∈l↔x∈k)→l=k
 | [],[],_,_,_=>rfl
 | [],y :: k,_,_,h=>by have:=(h y).mpr Va;cases this
 | x :: l,[],_,_,h=>by have:=(h x).mp Va;cases this
 | x :: l,y :: k,hl,hk,h=>by
  obtain ⟨a1,a2⟩:=VU.mp hl
  obtain ⟨b1,b2⟩:=VU.mp hk
  have exy:x=y:=by
   rcases UI.mp ((h x).mp Va) with e | e
   ·exact e
   ·rcases UI.mp ((h y).mpr Va) with e' | e'
    ·exact e'.symm
    ·have:=tr (a1 y e') (b1 x e)
     rw [HV] at this;cases this
  subst exy
  rw [oI HV tr a2 b2 λz=>?_]
  constructor
  ·intro hz
   rcases UI.mp ((h z).mp (UW _ hz)) with e | e
   ·have:=a1 z hz;rw [e,HV] at this;cases this
   ·exact e
  ·intro hz
   rcases UI.mp ((h z).mpr (UW _ hz)) with e | e
   ·have:=b1 z hz;rw [e,HV] at this;cases this
   ·exact e
end
structure Ky where
 p:Rat
 v:Int
 n:Str
 deriving DecidableEq
def Ky.lt (a b:Ky):Bool:=if a.p=b.p then (if a.v=b.v then decide (slt a.n b.n) else decide (a.v < b.v)) else decide (a.p < b.p)
theorem Ky.lt_iff (a b:Ky):a.lt b=true↔a.p < b.p∨(a.p=b.p∧(a.v < b.v∨(a.v=b.v∧slt a.n b.n))):=by
 unfold Ky.lt
 by_cases e:a.p=b.p
 ·rw [if_pos e]
  have n:¬ a.p < b.p:=by rw [e];exact Rat.lt_irrefl
  by_cases k:a.v=b.v
  ·rw [if_pos k,decide_eq_true_eq]
   have n2:¬ a.v < b.v:=by omega
   exact ⟨λh=>.inr ⟨e,.inr ⟨k,h⟩⟩,λh=>by
    rcases h with h | ⟨_,h | h⟩
    ·exact absurd h n
    ·exact absurd h n2
    ·exact h.2⟩
  ·rw [if_neg k,decide_eq_true_eq]
   exact ⟨λh=>.inr ⟨e,.inl h⟩,λh=>by
    rcases h with h | ⟨_,h | h⟩
    ·exact absurd h n
    ·exact h
    ·exact absurd h.1 k⟩
 ·rw [if_neg e,decide_eq_true_eq]
  exact ⟨.inl,λh=>by
   rcases h with h | h
   ·exact h
   ·exact absurd h.1 e⟩
theorem Ky.HV (a:Ky):a.lt a=false:=by
 cases h:a.lt a with
 | false=>rfl
 | true =>
  rcases (Ky.lt_iff a a).mp h with h | ⟨_,h | ⟨_,h⟩⟩
  ·exact absurd h Rat.lt_irrefl
  ·omega
  ·exact absurd h (oG _)
theorem Ky.tr {a b c:Ky} (h:a.lt b=true) (k:b.lt c=true):a.lt c=true:=by
 rw [Ky.lt_iff] at *
 rcases h with h | ⟨e,h⟩ <;> rcases k with k | ⟨e',k⟩
 ·exact .inl (vo h k)
 ·exact .inl (e' ▸ h)
 ·exact .inl (e ▸ k)
 ·refine .inr ⟨e.trans e',?_⟩
  rcases h with h | ⟨z,h⟩ <;> rcases k with k | ⟨z',k⟩
  ·exact .inl (by omega)
  ·exact .inl (by omega)
  ·exact .inl (by omega)
  ·exact .inr ⟨z.trans z',pP h k⟩
theorem Ky.QK {a b:Ky} (h:a.n≠b.n):a.lt b=true∨b.lt a=true:=by
 rw [Ky.lt_iff,Ky.lt_iff]
 by_cases e:a.p=b.p
 ·by_cases z:a.v=b.v
  ·rcases xD h with q | q
   ·exact .inl (.inr ⟨e,.inr ⟨z,q⟩⟩)
   ·exact .inr (.inr ⟨e.symm,.inr ⟨z.symm,q⟩⟩)
  ·rcases (by omega:a.v < b.v∨b.v < a.v) with q | q
   ·exact .inl (.inr ⟨e,.inl q⟩)
   ·exact .inr (.inr ⟨e.symm,.inl q⟩)
 ·rcases (by grind:a.p < b.p∨b.p < a.p) with q | q
  ·exact .inl (.inl q)
  ·exact .inr (.inl q)
theorem Ky.OF {a b:Ky} (h:a.lt b=true):b.lt a=false:=by
 cases k:b.lt a with
 | false=>rfl
 | true=>have:=Ky.tr h k;rw [Ky.HV] at this;cases this
def cG (ks:List Ky):List Ky:=ks.foldl (λacc x=>qr Ky.lt x acc) []
theorem i4 (ks:List Ky) (x:Ky):cG (ks ++ [x])=qr Ky.lt x (cG ks):=by unfold cG;rw [We];rfl
theorem snoc_ind {α:Type} {p:List α→Prop} (h0:p []) (h1:∀l x,p l→p (l ++ [x])) (l:List α):p l:=by
 have:∀l:List α,p l.reverse:=by
  intro l
  induction l with
  | nil=>exact h0
  | cons x l ih=>rw [List.reverse_cons];exact h1 _ _ ih
 have:=this l.reverse
 rwa [List.reverse_reverse] at this
theorem gC {α:Type} {l:List α} {x:α} (h:(l ++ [x]).Nodup):l.Nodup∧x ∉ l:=by
 rw [Vp] at h
 exact ⟨h.1,λhm=>h.2.2 x hm x (by simp) rfl⟩
theorem bD:∀(ks:List Ky) (x:Ky),x∈cG ks↔x∈ks:=by
 intro ks
 refine snoc_ind (p:=λks=>∀x:Ky,x∈cG ks↔x∈ks) (λx=>by simp [cG]) (λks y ih x=>?_) ks
 rw [i4,yz,ih,UD,UH]
 exact Or.comm
theorem cU {ks:List Ky} (h:(ks.map Ky.n).Nodup):oW Ky.lt (cG ks):=by
 revert h
 refine snoc_ind (p:=λks=>(ks.map Ky.n).Nodup→oW Ky.lt (cG ks)) (λ_=>List.Pairwise.nil) (λks y ih h=>?_) ks
 ·rw [UA,UB,Vo] at h
  obtain ⟨h1,h2⟩:=gC h
  rw [i4]
  refine FQ (lt:=Ky.lt) Ky.tr (ih h1) λx hx=>Ky.QK λe=>h2 ?_
  rw [← e]
  exact V8 ((bD ks x).mp hx)
theorem iZ (ks:List Ky):(cG ks).length=ks.length:=by
 refine snoc_ind (p:=λks=>(cG ks).length=ks.length) rfl (λks y ih=>?_) ks
 rw [i4,FP,ih,UP];rfl
theorem yX {ks js:List Ky} (h:(ks.map Ky.n).Nodup) (k:(js.map Ky.n).Nodup) (e:∀x,x∈ks↔x∈js):cG ks=cG js :=
 oI (lt:=Ky.lt) Ky.HV Ky.tr (cU h) (cU k) λx=>by rw [bD,bD];exact e x
def key (t:Rat) (x:Str × aW):Ky:=⟨x.2.at t,x.2.v,x.1⟩
def cX (t:Rat) (fs:List (Str × aW)):List Str:=(cG (fs.map (key t))).map Ky.n
theorem dj (t:Rat) (fs:List (Str × aW)):(fs.map (key t)).map Ky.n=fs.map (·.1):=by rw [UC];rfl
theorem y4 {t:Rat} {fs:List (Str × aW)} {n:Str}:n∈cX t fs↔n∈fs.map (·.1):=by
 rw [← dj t fs]
 unfold cX
 rw [Uv,Uv]
 exact ⟨λ⟨x,h,e⟩=>⟨x,(bD _ _).mp h,e⟩,λ⟨x,h,e⟩=>⟨x,(bD _ _).mpr h,e⟩⟩
theorem y3 (t:Rat) (fs:List (Str × aW)):(cX t fs).length=fs.length:=by unfold cX;rw [Us,iZ,Us]
theorem lX {l:List Ky} (s:oW Ky.lt l) (h:∀x∈l,∀y∈l,x.n=y.n→x=y):(l.map Ky.n).Nodup:=by
 refine List.pairwise_map.mpr (s.imp_of_mem λ{a b} ha hb hab e=>?_)
 have:=h a ha b hb e
 subst this
 rw [Ky.HV] at hab;cases hab
theorem iY {ks:List Ky} (h:(ks.map Ky.n).Nodup):∀x∈ks,∀y∈ks,x.n=y.n→x=y:=by
 intro x hx y hy e
 obtain ⟨i,hi,rfl⟩:=U4 hx
 obtain ⟨j,hj,rfl⟩:=U4 hy
 have:=(Vt (xs:=ks.map Ky.n) (i:=i) (j:=j) (h₀:=by simpa using hi) (h₁:=by simpa using hj) h).mp (by rw [Vm,Vm];exact e)
 subst this;rfl
theorem sk {t:Rat} {fs:List (Str × aW)} (h:(fs.map (·.1)).Nodup):(cX t fs).Nodup:=by
 rw [← dj t fs] at h
 exact lX (cU h) λx hx y hy e=>iY h x ((bD _ _).mp hx) y ((bD _ _).mp hy) e
theorem yZ {t:Rat} {fs gs:List (Str × aW)} (h:(fs.map (·.1)).Nodup) (k:(gs.map (·.1)).Nodup) (e:∀x,x∈fs.map (key t)↔x∈gs.map (key t)):cX t fs=cX t gs:=by
 unfold cX
 rw [yX (by rw [dj];exact h) (by rw [dj];exact k) e]
theorem jX {α β:Type} {fs:List (Str × α)} {f:α→β} (h:(fs.map (·.1)).Nodup) {n:Str} {l:α} (hm:(n,l)∈fs):L2.mC (fs.map λx=>(x.1,f x.2)) n=some (f l):=by
 induction fs with
 | nil=>cases hm
 | cons x fs ih =>
  rw [UB,Vz] at h
  rw [UB,L2.oP]
  rcases UI.mp hm with e | e
  ·subst e;rw [if_pos rfl]
  ·have ne:x.1≠n:=λz=>h.1 (by rw [z];exact V8 (f:=λx:Str × α=>x.1) e)
   rw [if_neg ne];exact ih h.2 e
theorem xW {α β:Type} {fs:List (Str × α)} {f:α→β} (h:(fs.map (·.1)).Nodup) {n:Str} (hm:n∈fs.map (·.1)):∃l,(n,l)∈fs∧L2.mC (fs.map λx=>(x.1,f x.2)) n=some (f l):=by
 obtain ⟨⟨m,l⟩,hx,rfl⟩:=Uv.mp hm
 exact ⟨l,hx,jX h hx⟩
theorem KG {α β:Type} {fs:List (Str × α)} {f:α→β} {n:Str} (hm:n ∉ fs.map (·.1)):L2.mC (fs.map λx=>(x.1,f x.2)) n=none:=by
 induction fs with
 | nil=>rfl
 | cons x fs ih =>
  rw [UB,L2.oP]
  rw [UB,UI,not_or] at hm
  rw [if_neg (λe=>hm.1 e.symm)];exact ih hm.2
theorem EJ {α β:Type} {fs:List (Str × α)} {f:α→β} {n:Str} (h:(fs.map (·.1)).Nodup):(L2.mC (fs.map λx=>(x.1,f x.2)) n).isSome=decide (n∈fs.map (·.1)):=by
 by_cases hm:n∈fs.map (·.1)
 ·obtain ⟨l,_,e⟩:=xW (f:=f) h hm
  rw [e,decide_eq_true hm];rfl
 ·rw [KG hm,decide_eq_false hm];rfl
theorem Be {α β:Type} {fs:List (Str × α)} {f:α→β} {n:Str} {l:α} (hm:n ∉ fs.map (·.1)):L2.tN (fs.map λx=>(x.1,f x.2)) n (f l)=(fs ++ [(n,l)]).map λx=>(x.1,f x.2):=by
 unfold L2.tN
 rw [if_neg,UA]
 ·rfl
 ·intro h
  rw [Wj] at h
  obtain ⟨y,hy,e⟩:=h
  obtain ⟨x,hx,rfl⟩:=Uv.mp hy
  exact hm (by rw [← of_decide_eq_true e];exact V8 (f:=λx:Str × α=>x.1) hx)
def PP:Nat:=1000000 * ib + 1000 * MM
structure tP (l:aW):Prop where
 m0:0≤l.m
 m:Sc ib MM l.m
 p:∃a:Int,l.p * (ib:Rat)=(a:Rat)
 b0:-(1000000 + 1000 * l.m)≤l.p
 b1:l.p≤1000000 + 1000 * l.m
 v:l.v.natAbs≤1000
theorem O7:(0:Rat) < (ib:Rat):=by
 have:((0:Nat):Rat) < ((ib:Nat):Rat):=Rat.natCast_lt_natCast.mpr wg
 simpa using this
theorem tP.sc {l:aW} (h:tP l):Sc ib PP l.p:=by
 obtain ⟨a,ha⟩:=h.p
 obtain ⟨k,hk,hk1⟩:=h.m
 have hL:=O7
 have b0:=h.b0
 have b1:=h.b1
 have e1:(a:Rat)≤(((1000000 * ib + 1000 * k:Int)):Rat):=by
  rw [← ha,Rat.intCast_add,Rat.intCast_mul,Rat.intCast_mul,← hk]
  have:l.p * (ib:Rat)≤(1000000 + 1000 * l.m) * (ib:Rat):=Rat.mul_le_mul_of_nonneg_right b1 (Rat.le_of_lt hL)
  have e:(((ib:Nat):Int):Rat)=(ib:Rat):=rfl
  rw [e]
  grind
 have e2:(((-(1000000 * ib + 1000 * k):Int)):Rat)≤(a:Rat):=by
  rw [← ha,Rat.intCast_neg,Rat.intCast_add,Rat.intCast_mul,Rat.intCast_mul,← hk]
  have:-(1000000 + 1000 * l.m) * (ib:Rat)≤l.p * (ib:Rat):=Rat.mul_le_mul_of_nonneg_right b0 (Rat.le_of_lt hL)
  have e:(((ib:Nat):Int):Rat)=(ib:Rat):=rfl
  rw [e]
  grind
 have e1:=Rat.intCast_le_intCast.mp e1
 have e2:=Rat.intCast_le_intCast.mp e2
 refine ⟨a,ha,?_⟩
 unfold PP
 have:(k:Int)≤MM:=by omega
 have:-(MM:Int)≤k:=by omega
 omega
theorem PX:PP < 2 ^ 120:=by decide
theorem tP.TU {l:aW} (h:tP l):Sz 120 l.p:=h.sc.sz wg (by decide) PX
theorem tP.TM {l:aW} (h:tP l):Sz 120 l.m:=(Cg h.m).mono (by decide)
theorem tP.at {l:aW} {t:Rat} {v:Int} (h:tP l) (h0:l.m≤t) (ht:Sc ib MM t) (hv:v.natAbs≤1000):tP ⟨t,l.at t,v⟩:=by
 have hm:=h.m0
 have t0:0≤t:=Rat.le_trans hm h0
 have d0:0≤t - l.m:=by grind
 have v1:(l.v:Rat)≤1000:=by
  have:((l.v:Int):Rat)≤((1000:Int):Rat):=Rat.intCast_le_intCast.mpr (by have:=h.v;omega)
  exact this
 have v2:-1000≤(l.v:Rat):=by
  have:((-1000:Int):Rat)≤((l.v:Int):Rat):=Rat.intCast_le_intCast.mpr (by have:=h.v;omega)
  exact this
 have m1:(t - l.m) * (l.v:Rat)≤(t - l.m) * 1000:=Rat.mul_le_mul_of_nonneg_left v1 d0
 have m2:(t - l.m) * (-1000)≤(t - l.m) * (l.v:Rat):=Rat.mul_le_mul_of_nonneg_left v2 d0
 have b0:=h.b0
 have b1:=h.b1
 refine ⟨t0,ht,?_,?_,?_,hv⟩
 ·obtain ⟨a,ha⟩:=h.p
  obtain ⟨k,hk,_⟩:=h.m
  obtain ⟨j,hj,_⟩:=ht
  refine ⟨a + (j - k) * l.v,?_⟩
  unfold aW.at
  dsimp only
  rw [Rat.intCast_add,Rat.intCast_mul,Rat.intCast_sub,← ha,← hk,← hj]
  grind
 ·show -(1000000 + 1000 * t)≤l.p + (t - l.m) * (l.v:Rat)
  grind
 ·show l.p + (t - l.m) * (l.v:Rat)≤1000000 + 1000 * t
  grind
theorem tP.new {t:Rat} {p v:Int} (t0:0≤t) (ht:Sc ib MM t) (hp:p.natAbs≤1000000) (hv:v.natAbs≤1000):tP ⟨t,(p:Rat),v⟩:=by
 have p1:(p:Rat)≤1000000:=by
  have:((p:Int):Rat)≤((1000000:Int):Rat):=Rat.intCast_le_intCast.mpr (by omega)
  exact this
 have p2:-1000000≤(p:Rat):=by
  have:((-1000000:Int):Rat)≤((p:Int):Rat):=Rat.intCast_le_intCast.mpr (by omega)
  exact this
 refine ⟨t0,ht,⟨p * ib,by rw [Rat.intCast_mul];rfl⟩,?_,?_,hv⟩
 ·show -(1000000 + 1000 * t)≤(p:Rat)
  grind
 ·show (p:Rat)≤1000000 + 1000 * t
  grind
def DE (b:aJ) (l:List aJ):List aJ:=if b∈l then l else j7 b l
theorem vc {b x:aJ} {l:List aJ}:x∈j7 b l↔x=b∨x∈l:=yz (lt:=aJ.lt)
theorem Fd {b x:aJ} {l:List aJ}:x∈DE b l↔x=b∨x∈l:=by
 unfold DE
 split
 ·rename_i h
  exact ⟨.inr,λz=>by rcases z with rfl | z;exact h;exact z⟩
 ·exact vc
theorem Fe {b:aJ} {l:List aJ} (s:je l):je (DE b l):=by
 unfold DE
 split
 ·exact s
 ·rename_i h
  exact yy s λx hx e=>h (e ▸ hx)
def uE (bs:List aJ):List aJ:=bs.foldl (λacc b=>DE b acc) []
theorem vi (bs:List aJ) (b:aJ):uE (bs ++ [b])=DE b (uE bs):=by unfold uE;rw [We];rfl
theorem yV (bs:List aJ) (x:aJ):x∈uE bs↔x∈bs:=by
 refine snoc_ind (p:=λbs=>∀x:aJ,x∈uE bs↔x∈bs) (λx=>by simp [uE]) (λbs y ih x=>?_) bs x
 rw [vi,Fd,ih,UD,UH]
 exact Or.comm
theorem yW (bs:List aJ):je (uE bs):=by
 refine snoc_ind (p:=λbs=>je (uE bs)) List.Pairwise.nil (λbs y ih=>?_) bs
 rw [vi];exact Fe ih
theorem zJ {l k:List aJ} (h:je l) (h':je k) (e:∀x,x∈l↔x∈k):l=k:=oI (lt:=aJ.lt) aJ.M1 aJ.lt_trans h h' e
def eS (t:Rat) (a b:Ky):Rat:=t + (b.p - a.p) / ((a.v - b.v:Int):Rat)
def gW (t:Rat) (a b:Ky):aJ:=⟨eS t a b,a.n,b.n⟩
def p8 (t:Rat) (ks:List Ky) (m:Rat):List aJ:=uE (((ks.flatMap λa=>ks.map λb=>(a,b)).filter λp=>decide (p.2.v < p.1.v∧p.1.p < p.2.p∧eS t p.1 p.2≤m)).map λp=>gW t p.1 p.2)
theorem Em {t m:Rat} {ks:List Ky} {x:aJ}:x∈p8 t ks m↔∃a∈ks,∃b∈ks,b.v < a.v∧a.p < b.p∧eS t a b≤m∧x=gW t a b:=by
 unfold p8
 rw [yV,Uv]
 constructor
 ·rintro ⟨⟨a,b⟩,h,rfl⟩
  rw [UE,WN] at h
  obtain ⟨⟨c,hc,h1⟩,h2⟩:=h
  obtain ⟨d,hd,e⟩:=Uv.mp h1
  cases e
  have h2:=of_decide_eq_true h2
  exact ⟨_,hc,_,hd,h2.1,h2.2.1,h2.2.2,rfl⟩
 ·rintro ⟨a,ha,b,hb,h1,h2,h3,rfl⟩
  exact ⟨(a,b),UE.mpr ⟨WN.mpr ⟨a,ha,Uv.mpr ⟨b,hb,rfl⟩⟩,decide_eq_true ⟨h1,h2,h3⟩⟩,rfl⟩
theorem Eo (t m:Rat) (ks:List Ky):je (p8 t ks m):=yW _
def fK (t:Rat) (ks:List Ky):List aJ:=uE ((((cG ks).zip (cG ks).tail).filter λp=>decide (p.2.v < p.1.v)).map λp=>gW t p.1 p.2)
theorem de {α:Type} {l:List α} {a b:α}:(a,b)∈l.zip l.tail↔∃i:Nat,l[i]?=some a∧l[i + 1]?=some b:=by
 constructor
 ·intro h
  obtain ⟨i,hi⟩:=UN.mp h
  obtain ⟨h1,h2⟩:=Vc.mp hi
  exact ⟨i,h1,by rw [VW] at h2;exact h2⟩
 ·rintro ⟨i,h1,h2⟩
  exact UN.mpr ⟨i,Vc.mpr ⟨h1,by rw [VW];exact h2⟩⟩
theorem Ao {t:Rat} {ks:List Ky} {x:aJ}:x∈fK t ks↔∃(i:Nat) (a b:Ky),(cG ks)[i]?=some a∧(cG ks)[i + 1]?=some b∧b.v < a.v∧x=gW t a b:=by
 unfold fK
 rw [yV,Uv]
 constructor
 ·rintro ⟨⟨a,b⟩,h,rfl⟩
  rw [UE] at h
  obtain ⟨i,h1,h2⟩:=de.mp h.1
  exact ⟨i,a,b,h1,h2,of_decide_eq_true h.2,rfl⟩
 ·rintro ⟨i,a,b,h1,h2,h3,rfl⟩
  exact ⟨(a,b),UE.mpr ⟨de.mpr ⟨i,h1,h2⟩,decide_eq_true h3⟩,rfl⟩
theorem Ap (t:Rat) (ks:List Ky):je (fK t ks):=yW _
theorem Am {t:Rat} {ks js:List Ky} (h:(ks.map Ky.n).Nodup) (k:(js.map Ky.n).Nodup) (e:∀x,x∈ks↔x∈js):fK t ks=fK t js:=by
 unfold fK;rw [yX h k e]
def n6 (l l':aW):Rat:=(l'.at 0 - l.at 0) / ((l.v - l'.v:Int):Rat)
theorem Hx {a b:Int} (h:a≠b):((a - b:Int):Rat)≠0:=by
 intro e
 have:(a - b:Int)=0:=by exact_mod_cast (show ((a - b:Int):Rat)=((0:Int):Rat) from e)
 omega
theorem qM {t:Rat} {n n':Str} {l l':aW} (h:l.v≠l'.v):n6 l l'=eS t (key t (n,l)) (key t (n',l')):=by
 have k:=Hx h
 unfold n6 eS key aW.at
 dsimp only
 rw [Rat.intCast_sub] at *
 grind
theorem Hb {a b:Rat} (ha:0 < a) (hb:0 < b):0 < a / b:=by
 have e:a / b * b=a:=by grind
 rcases Rat.le_total (a:=a / b) (b:=0) with h | h
 ·have:=Rat.mul_le_mul_of_nonneg_right h (Rat.le_of_lt hb)
  rw [e,Rat.zero_mul] at this
  exact absurd ha (Rat.not_lt.mpr this)
 ·rcases (by grind:a / b=0∨0 < a / b) with h | h
  ·rw [h,Rat.zero_mul] at e;rw [← e] at ha;exact absurd ha Rat.lt_irrefl
  ·exact h
def Jd (t:Rat) (l l':aW):Option Rat:=if l.v≠l'.v∧t < n6 l l' then some (n6 l l') else none
theorem Je {t:Rat} {n n':Str} {l l':aW} (h:(key t (n,l)).lt (key t (n',l'))=true):(l.v≠l'.v∧t < n6 l l')↔(l'.v < l.v∧l.at t < l'.at t):=by
 rw [Ky.lt_iff] at h
 unfold key at h
 dsimp only at h
 constructor
 ·rintro ⟨h1,h2⟩
  rw [qM (t:=t) (n:=n) (n':=n') h1] at h2
  unfold eS key at h2
  dsimp only at h2
  have k:=Hx h1
  have h3:0 < (l'.at t - l.at t) / ((l.v - l'.v:Int):Rat):=by grind
  have hp:l.at t≠l'.at t:=by
   intro e
   rw [e] at h3
   have:(l'.at t - l'.at t) / ((l.v - l'.v:Int):Rat)=0:=by grind
   rw [this] at h3
   exact absurd h3 Rat.lt_irrefl
  have hlt:l.at t < l'.at t:=by
   rcases h with h | ⟨h,_⟩
   ·exact h
   ·exact absurd h hp
  refine ⟨?_,hlt⟩
  rcases (by omega:l'.v < l.v∨l.v < l'.v) with q | q
  ·exact q
  ·exfalso
   have hn:((l.v - l'.v:Int):Rat) < 0:=by
    have:((l.v - l'.v:Int):Rat) < ((0:Int):Rat):=Rat.intCast_lt_intCast.mpr (by omega)
    exact this
   have hd:0 < l'.at t - l.at t:=by grind
   have e:(l'.at t - l.at t) / ((l.v - l'.v:Int):Rat) * ((l.v - l'.v:Int):Rat)=l'.at t - l.at t:=by grind
   generalize (l'.at t - l.at t) / ((l.v - l'.v:Int):Rat)=z at h3 e
   have:z * ((l.v - l'.v:Int):Rat) < 0:=by
    have:=Rat.mul_lt_mul_of_pos_left hn h3
    rwa [Rat.mul_zero] at this
   grind
 ·rintro ⟨h1,h2⟩
  have hne:l.v≠l'.v:=by omega
  refine ⟨hne,?_⟩
  rw [qM (t:=t) (n:=n) (n':=n') hne]
  unfold eS key
  dsimp only
  have hpos:0 < ((l.v - l'.v:Int):Rat):=by
   have:((0:Int):Rat) < ((l.v - l'.v:Int):Rat):=Rat.intCast_lt_intCast.mpr (by omega)
   exact this
  have hd:0 < l'.at t - l.at t:=by grind
  have:0 < (l'.at t - l.at t) / ((l.v - l'.v:Int):Rat):=Hb hd hpos
  grind
end Ov
namespace Ov
def iw (t:Rat) (c:Ky × Ky→Bool) (rows:List aJ) (p:Ky × Ky):List aJ:=if c p=true then j7 (gW t p.1 p.2) (dg p.1.n p.2.n rows) else rows
def bU (t:Rat) (c:Ky × Ky→Bool) (ps:List (Ky × Ky)):List aJ:=ps.foldl (iw t c) []
theorem eA (t:Rat) (c:Ky × Ky→Bool) (ps:List (Ky × Ky)) (p:Ky × Ky):bU t c (ps ++ [p])=iw t c (bU t c ps) p:=by unfold bU;rw [We];rfl
theorem iP (t:Rat) (c:Ky × Ky→Bool) (ps:List (Ky × Ky)):je (bU t c ps):=by
 refine snoc_ind (p:=λps=>je (bU t c ps)) List.Pairwise.nil (λl x ih=>?_) ps
 rw [eA]
 unfold iw
 split
 ·exact yy (uX ih) IG
 ·exact ih
theorem o5 (t:Rat) (c:Ky × Ky→Bool) (ps:List (Ky × Ky)):(bU t c ps).length≤ps.length:=by
 refine snoc_ind (p:=λps=>(bU t c ps).length≤ps.length) (Ux _) (λl x ih=>?_) ps
 rw [eA,UP]
 unfold iw
 split
 ·rw [yx]
  have:=oY x.1.n x.2.n (bU t c l)
  simp only [UQ,VS];omega
 ·omega
theorem iQ {t:Rat} {c:Ky × Ky→Bool} {x:aJ} (ps:List (Ky × Ky)):x∈bU t c ps→∃p∈ps,c p=true∧x=gW t p.1 p.2:=by
 refine snoc_ind (p:=λps=>x∈bU t c ps→∃p∈ps,c p=true∧x=gW t p.1 p.2) (λh=>by cases h) (λl y ih h=>?_) ps
 rw [eA] at h
 unfold iw at h
 split at h
 ·rename_i hc
  rcases FO h with e | h
  ·exact ⟨y,by simp,hc,e⟩
  ·obtain ⟨p,hp,k⟩:=ih (UE.mp h).1
   exact ⟨p,UD.mpr (.inl hp),k⟩
 ·obtain ⟨p,hp,k⟩:=ih h
  exact ⟨p,UD.mpr (.inl hp),k⟩
def yd (ps:List (Ky × Ky)):Prop:=∀p∈ps,∀q∈ps,p.1.n=q.1.n→p.2.n=q.2.n→p=q
theorem u_ {t:Rat} {c:Ky × Ky→Bool} {x:aJ} (ps:List (Ky × Ky)):yd ps→(x∈bU t c ps↔∃p∈ps,c p=true∧x=gW t p.1 p.2):=by
 refine snoc_ind (p:=λps=>yd ps→(x∈bU t c ps↔∃p∈ps,c p=true∧x=gW t p.1 p.2)) (λ_=>Iff.intro (λh=>nomatch h) (λh=>by obtain ⟨_,h,_⟩:=h;cases h)) (λl y ih inj=>?_) ps
 have ih:=ih λp hp q hq=>inj p (UD.mpr (.inl hp)) q (UD.mpr (.inl hq))
 refine ⟨iQ _,?_⟩
 rintro ⟨p,hp,hc,rfl⟩
 rw [eA]
 unfold iw
 have hold:p∈l→gW t p.1 p.2∈bU t c l:=λh=>ih.mpr ⟨p,h,hc,rfl⟩
 split
 ·rename_i hy
  rw [vc]
  by_cases e:p=y
  ·left;rw [e]
  ·right
   have hl:p∈l:=by
    rcases UD.mp hp with h | h
    ·exact h
    ·exact absurd (by simpa using h) e
   refine UE.mpr ⟨hold hl,?_⟩
   unfold vp
   have:¬ ((gW t p.1 p.2).h=y.1.n∧(gW t p.1 p.2).f=y.2.n):=λz=>e (inj p hp y (by simp) z.1 z.2)
   rw [decide_eq_false this];rfl
 ·rename_i hy
  rcases UD.mp hp with h | h
  ·exact hold h
  ·have:p=y:=by simpa using h
   subst this;exact absurd hc hy
theorem DL {t:Rat} {c:Ky × Ky→Bool} {ps:List (Ky × Ky)} {p:Ky × Ky} (inj:yd (ps ++ [p])) (h:p ∉ ps):dg p.1.n p.2.n (bU t c ps)=bU t c ps:=by
 unfold dg
 refine Ve.mpr λx hx=>?_
 obtain ⟨q,hq,_,rfl⟩:=iQ _ hx
 unfold vp
 have:¬ ((gW t q.1 q.2).h=p.1.n∧(gW t q.1 q.2).f=p.2.n):=λz=>by
  have:=inj q (UD.mpr (.inl hq)) p (by simp) z.1 z.2
  subst this;exact h hq
 rw [decide_eq_false this];rfl
theorem yd.of {ks:List Ky} (h:(ks.map Ky.n).Nodup) {ps:List (Ky × Ky)} (hp:∀p∈ps,p.1∈ks∧p.2∈ks):yd ps:=λp h1 q h2 e1 e2=>by
 have a:=iY h p.1 (hp p h1).1 q.1 (hp q h2).1 e1
 have b:=iY h p.2 (hp p h1).2 q.2 (hp q h2).2 e2
 cases p;cases q;simp only at a b;rw [a,b]
def zO (ks:List Ky):Nat→List (Ky × Ky)
 | 0=>[]
 | i + 1=>zO ks i ++ (match ks[i]? with | some a=>(ks.drop (i + 1)).map λb=>(a,b) | none=>[])
theorem oO {ks:List Ky} {p:Ky × Ky}:∀{i:Nat},p∈zO ks i↔∃i' j,i' < i∧i' < j∧ks[i']?=some p.1∧ks[j]?=some p.2
 | 0=>⟨λh=>(by cases h),λ⟨_,_,h,_⟩=>by omega⟩
 | i + 1=>by
  unfold zO
  rw [UD,oO (i:=i)]
  constructor
  ·rintro (⟨i',j,h1,h⟩ | h)
   ·exact ⟨i',j,by omega,h⟩
   ·cases e:ks[i]? with
    | none=>rw [e] at h;cases h
    | some a =>
     rw [e] at h
     obtain ⟨b,hb,rfl⟩:=Uv.mp h
     obtain ⟨j,hj⟩:=UN.mp hb
     rw [Wa] at hj
     exact ⟨i,_,by omega,by omega,e,hj⟩
  ·rintro ⟨i',j,h1,h2,h3,h4⟩
   by_cases e:i' < i
   ·exact .inl ⟨i',j,e,h2,h3,h4⟩
   ·have:i'=i:=by omega
    subst this
    right
    rw [h3]
    refine Uv.mpr ⟨p.2,UN.mpr ⟨j - (i' + 1),?_⟩,rfl⟩
    rw [Wa,show i' + 1 + (j - (i' + 1))=j by omega];exact h4
def gq (t m:Rat) (p:Ky × Ky):Bool:=decide (p.2.v < p.1.v∧p.1.p < p.2.p∧eS t p.1 p.2≤m)
def cO (p:Ky × Ky):Bool:=decide (p.2.v < p.1.v)
theorem KD {t m:Rat} {ks:List Ky} (h:(ks.map Ky.n).Nodup):bU t (gq t m) (zO (cG ks) (cG ks).length)=p8 t ks m:=by
 have hs:=cU h
 have hn:((cG ks).map Ky.n).Nodup:=lX hs (λx hx y hy e=>iY h x ((bD _ _).mp hx) y ((bD _ _).mp hy) e)
 refine zJ (iP _ _ _) (Eo _ _ _) λx=>?_
 rw [u_ _ (yd.of hn λp hp=>by
  obtain ⟨i,j,_,_,h3,h4⟩:=oO.mp hp
  exact ⟨Uw h3,Uw h4⟩),Em]
 constructor
 ·rintro ⟨p,hp,hc,rfl⟩
  obtain ⟨i,j,_,_,h3,h4⟩:=oO.mp hp
  have hc:=of_decide_eq_true hc
  exact ⟨p.1,(bD _ _).mp (Uw h3),p.2,(bD _ _).mp (Uw h4),hc.1,hc.2.1,hc.2.2,rfl⟩
 ·rintro ⟨a,ha,b,hb,h1,h2,h3,rfl⟩
  obtain ⟨i,hi⟩:=UN.mp ((bD _ _).mpr ha)
  obtain ⟨j,hj⟩:=UN.mp ((bD _ _).mpr hb)
  have hab:a.lt b=true:=(Ky.lt_iff a b).mpr (.inl h2)
  have hij:i < j:=by
   obtain ⟨hil,ei⟩:=Uu.mp hi
   obtain ⟨hjl,ej⟩:=Uu.mp hj
   rcases WG i j with z | z | z
   ·exact z
   ·subst z;rw [ei] at ej;subst ej;rw [Ky.HV] at hab;cases hab
   ·have:=Vd.mp hs j i hjl hil z
    rw [ei,ej] at this
    rw [Ky.OF this] at hab;cases hab
  exact ⟨(a,b),oO.mpr ⟨i,j,(Uu.mp hi).1,hij,hi,hj⟩,decide_eq_true ⟨h1,h2,h3⟩,rfl⟩
theorem tJ {t:Rat} {ks:List Ky} (h:(ks.map Ky.n).Nodup):bU t cO ((cG ks).zip (cG ks).tail)=fK t ks:=by
 have hs:=cU h
 have hn:((cG ks).map Ky.n).Nodup:=lX hs (λx hx y hy e=>iY h x ((bD _ _).mp hx) y ((bD _ _).mp hy) e)
 refine zJ (iP _ _ _) (Ap _ _) λx=>?_
 rw [u_ _ (yd.of hn λp hp=>by
  obtain ⟨i,h3,h4⟩:=de.mp (show (p.1,p.2)∈_ from hp)
  exact ⟨Uw h3,Uw h4⟩),Ao]
 constructor
 ·rintro ⟨p,hp,hc,rfl⟩
  obtain ⟨i,h3,h4⟩:=de.mp (show (p.1,p.2)∈_ from hp)
  exact ⟨i,p.1,p.2,h3,h4,of_decide_eq_true hc,rfl⟩
 ·rintro ⟨i,a,b,h1,h2,h3,rfl⟩
  exact ⟨(a,b),de.mpr ⟨i,h1,h2⟩,decide_eq_true h3,rfl⟩
end Ov
namespace L2
open PySem PySem.Spec PyProof.Rows
theorem Aq {X:Cx}:cj X (.type "dict") (λxs H Q=>∃a kvs ep,xs=[.ref a]∧H a=some (.dE kvs ep)∧∀p,H p=none→∀ep',Q (.ref p) (upd H p (.dE kvs ep'))):=by
 intro pins s σ H xs us Q I r h
 obtain ⟨a,kvs,ep,rfl,hp,q⟩:=h
 obtain ⟨u,rfl,rx⟩:=vals1 r
 cases rx
 obtain ⟨hz,hd,vs,rel,da⟩:=kq I hp
 refine kt_call_dict hd da.dictOf (by rw [← rel.len];exact hz) λh' hm hs=>?_
 obtain ⟨ep',da'⟩:=hm.dictAt
 exact ⟨.ref s.heap.objs.size,_,I.laid (a:=s.heap.objs.size) (o:=.dE kvs ep') (t':=s.toks) (λb o e=>hs.extBut b o (UO (Heap.lt_size e)) (Heap.get?_push_of_some _ e)) (Ux _)
  ⟨hz,beq_eq_false_iff_ne.mpr (Ne.symm (UO I.Mq)),vs,rel,da'⟩,rfl,q _ (I.hok.fresh (Ux _)) ep'⟩
end L2
namespace Ov
open PySem PySem.Spec PyProof.Rows
open L2 (V HO Hp Inv Cx VK XK TE TT TA TS TG qF TI TO ki Ends xY Loc Gl Rd RelV Vals fz yf cj qD uf qE kg R2 upd aG aM cZ gS Sp tK It bG dq bV Passes qj aH Meth Mk Binds aQ cb aw dk gm fh mC tN EN qo)
def G1:Aj:=λxs J Q=>Ck xs λx=>Cm x λa=>GB (J a) λkvs _=>∀p,J p=none→∀ep',Q (.ref p) (put J p (.dct kvs ep'))
theorem Fq {X:Cx}:KJ X (.type "dict") G1:=⟨_,L2.Aq,λJ H xs vs Q2 Q rs r h k=>by
 obtain ⟨x,ex,h⟩:=jw h;obtain ⟨a,ea,h⟩:=gE h;obtain ⟨kvs,ep,ja,q⟩:=mU h;subst ea
 subst ex;obtain ⟨v,us,rfl,rv,e⟩:=rs;cases e;cases rv
 obtain ⟨gs,h1,h2⟩:=r _ _ ja
 refine ⟨a,gs,ep,rfl,h1,λp hp ep'=>?_⟩
 have e:=Ext.laid (K:=X.K) (J:=J) (o:=.dE gs ep') (u:=.dct kvs ep') hp
 refine k (.ref p) _ (.ref p) _ rfl (r.BF e p (λa ne=>ak ne) (λa o ne _ z=>by rw [aM ne];exact z) λu z=>?_) e (q p (r.free hp) ep')
 rw [ar] at z;cases z
 exact ⟨gs,aG,e.xb h2⟩⟩
end Ov
set_option maxHeartbeats 4000000
namespace Ov
open PySem PySem.Spec PyProof.Rows L2
def top (i:Nat):Stmt:=PySem.Challenge.pw_overhaul_k30_lanes_apart.main.body.getD i (.Pass ⟨0,0,0,0⟩)
set_option compiler.extract_closed false
set_option hygiene false
local macro_rules | `(tactic| dsimp! [$ls,*])=>`(tactic| simp only [Kv,C8,zK,pZ,Ku,Dc,Kp,Dd,HF,Ro,BB,tC,rI,HW,rU,TY,T3,Ki,Kh,Kj,Int.reduceLT,Kt,fi,xR,Ko,tG,Kw,EE,Kr,C9,C6,Ks,HB,QH,tB,Rk,C7,Rj,CC,IM,B3,IJ,B7,B8,KS,Qe,Qg,Lv,Qh,Uo,dU,fW,l_,Fj,HO.lst.injEq,HO.tup.injEq,List.set_cons_zero,List.set_cons_succ,List.getElem?_cons_zero,List.getElem?_cons_succ,Option.some.injEq,exists_eq_left',exists_eq_left,exists_and_left,exists_eq,exists_eq',V.int.injEq,V.bl.injEq,V.ref.injEq,V.str.injEq,V.ty.injEq,decide_eq_true_eq,true_and,and_true,List.cons.injEq,List.append_nil,List.cons_append,List.nil_append,reduceCtorEq,Bool.not_eq_true',decide_eq_false_iff_not,and_assoc,ite_not,if_true,if_false,Bool.false_eq_true,decide_true,decide_false,L2.start,List.map_cons,List.map_nil,List.length_cons,List.length_nil,Nat.reduceAdd,Nat.reduceSub,List.replicate,vZ,Cx.M5,Cx.tH,false_and,and_false,exists_false,false_or,or_false,id,d8,Option.getD_some,Qf,Rn,C_,ra,Qp,N0,IL,LC,$ls,*])
local macro_rules | `(tactic| simp_arith [$t:term])=>`(tactic| refine So F $t (fun xs J Q E h=>?_) (fun cdv A outer s H E G xs J Q E2 hr h B=>?_))
local macro_rules | `(tactic| simp_arith [$t:term,$r:term])=>`(tactic| refine Ul F $t (fun xs J Q E h=>?_) (fun cdv A outer s H E G E2 hr B=>$r) (fun xs J Q E2 h X hX=>?_))
local macro_rules | `(tactic| simp_arith [$t:term,$r:term,$u:term])=>`(tactic| refine Sn F $t (fun xs J Q E h=>?_) (fun cdv A outer s H E G E2 hr B=>$r) (fun xs J Q E2 h X hX=>?_))
local macro_rules | `(tactic| simp_arith! [$ls,*])=>`(tactic| simp only [JT,Qr,RU,P6,P9,jF,rC,xZ,T5,rB,Qq,JS,SK,Qj,Ls,Qk,Ly,T1,uG,kZ,Qs,Qi,TZ,CF,Lz,T4,Qa,SG,P_,ze,Qb,JW,JV,sH,CD,Qn,LB,Bh,IK,Tx,Tw,Tz,uF,Ql,Lu,kY,zf,TF,Ue,TH,Ud,SH,SI,G3,qI,qU,P4,TX,G4,Lo,P8,P7,SF,PY,NC,P0,NA,G0,SE,w6,P5,Nz,CA,Ll,R8,R7,O5,Sh,Gg,O_,O9,K3,S4,QU,S3,S5,S6,S2,QY,QN,LP,QM,QQ,QL,QP,R5,R6,O1,RY,R0,R3,R4,RZ,R1,SW,SY,SX,Lm,Ms,Mu,OO,Mt,OP,Cw,wX,Bf,JP,wW,eq_int,eq_str,OS,BY,MK,ML,QV,MU,rW,MF,xQ,Od,Oe,Ob,Oc,Nat.reduceAdd,Nat.reduceSub,Nat.reduceLeDiff,Td,Te,N',Oa,List.append_nil,S8,S9,Tf,Tg,Option.some.injEq,exists_eq_left',exists_eq_left,exists_and_left,exists_eq,exists_eq',PV.int.injEq,PV.bl.injEq,PV.ref.injEq,PV.str.injEq,PV.ty.injEq,PV.tup.injEq,PV.fl.injEq,HQ.lst.injEq,HQ.ins.injEq,HQ.dct.injEq,decide_eq_true_eq,true_and,and_true,List.cons.injEq,reduceCtorEq,Bool.not_eq_true',decide_eq_false_iff_not,and_assoc,ite_not,if_true,if_false,Bool.false_eq_true,decide_true,decide_false,false_and,and_false,exists_false,false_or,or_false,id,dU,fW,l_,Fj,OG,OH,OI,OJ,OK,OL,Mn,Mo,Uq,Ta,S_,Tc,ar,Bool.and_true,Th,Bool.and_false,S7,K5,Pa,Pb,Pc,Pd,Pe,Pf,Pg,Ph,Pj,MV,MW,MX,QZ,N5,KA,N6,N7,KC,String.reduceEq,Q3,Q4,pN,Tb,List.not_mem_nil,exists_const,PF,Pt,Px,Pu,PH,PD,PJ,Pr,Pz,Pw,La,PB,Na,PC,PK,P1,JR,P2,G5,Lq,Lr,Lw,TB,NB,CB,w8,TC,$ls,*])
local macro_rules | `(tactic| simp_all! [$ls,*])=>`(tactic| repeat (first | (with_reducible refine hNq _ _ ?_;clear hNq Nq) | with_reducible refine NS fun Nq hNq=>?_ | simp_arith! [$ls,*]))
section
variable {P:Program} {w:World} {K:PySem.W.Frag} {mg:Str→Option Value} {base:Heap}
abbrev sT:Stmt:=(top 14)
abbrev i7:List Str:=["one","two"]
theorem pM:L2.aw ["one","two"] ["one","two"] (L2.aj sT):=dH
def tD:Sp:=λvs H Q _=>∃a b:Int,vs=[.int a,.int b]∧Q (.int (Int.gcd a b:Nat)) H
theorem Eb {f:Addr} {fd:FuncData} (F:cb K "shared" "shared" sT f fd) (Z:EL mg):aQ P w K mg base rh 1 f fd i7 tD:=by
 refine F.ok pM (λvs H Q E h=>?_) (λcdv A outer s H vs Q E hr h=>?_)
 ·obtain ⟨a,b,rfl,_⟩:=h
  rfl
 obtain ⟨a,b,rfl,q⟩:=h
 refine ⟨_,(QB.run (a_ (pz (i:=0) (j:=1) rfl pM.nd rfl rfl (by decide) rfl rfl (az (bL nJ rfl Z.abs boot_abs (az (pv 0) bj)) (az (bL nJ rfl Z.abs boot_abs (az (pv 1) bj)) bj)) rfl)
   (a_ (kX PassesOwn.never (dO Lf (pv 1) aS (ft _)) (bN (pz (i:=0) (j:=1) rfl pM.nd rfl rfl (by decide) rfl rfl (az (pv 1) (az (bF gG (pv 0) (pv 1)) bj)) rfl)))
   (bN (dY (pv 0)))))),?_⟩
 refine ⟨_,rfl,a,rfl,_,rfl,b,rfl,_,_,rfl,?_⟩
 refine zL (λσ H'=>∃x y:Int,σ=[some (.int x),some (.int y)]∧H=H'∧0≤x∧0≤y∧Int.gcd x y=Int.gcd a b) (λσ _=>match σ with | [_,some (.int y)]=>y.toNat | _=>0)
  ⟨_,_,rfl,rfl,by split <;> omega,by split <;> omega,IP a b⟩ ?_ (λσ H Q Q' m h=>?_)
 ·rintro σ H' ⟨x,y,rfl,rfl,hx,hy,hg⟩
  dsimp! [rJoin]
  split
  ·rename_i hy0
   subst hy0
   rw [← hg,B4 hx] at q
   exact q
  ·rename_i hy0
   have h1:=Int.emod_lt_of_pos x (show 0 < y by omega)
   have h2:=Int.emod_nonneg x hy0
   exact ⟨by omega,hy,h2,(yv hy0).trans hg,by omega⟩
 ·obtain ⟨v,e,hs,k,ek,hq⟩:=h
  exact ⟨v,e,hs,k,ek,m _ _ hq⟩
def Dig:List Int→List Int→Prop
 | [],[]=>True
 | d :: ds,s :: ss=>(0≤d∧d < s)∧Dig ds ss
 | _,_=>False
theorem Dig.snoc:∀{ds ss:List Int} {d s:Int},Dig ds ss→0≤d→d < s→Dig (ds ++ [d]) (ss ++ [s])
 | [],[],_,_,_,h0,h1=>⟨⟨h0,h1⟩,trivial⟩
 | _ :: _,_ :: _,_,_,h,h0,h1=>⟨h.1,Dig.snoc h.2 h0 h1⟩
 | [],_ :: _,_,_,h,_,_=>h.elim
 | _ :: _,[],_,_,h,_,_=>h.elim
theorem Dig.cons:∀{ds ss:List Int} {s:Int},Dig ds (s :: ss)→∃d r,ds=d :: r∧0≤d∧d < s∧Dig r ss
 | [],_,_,h=>h.elim
 | d :: r,_,_,h=>⟨d,r,rfl,h.1.1,h.1.2,h.2⟩
theorem Dig.nil:∀{ds:List Int},Dig ds []→ds=[]
 | [],_=>rfl
 | _ :: _,h=>h.elim
theorem Dig.len:∀{ds ss:List Int},Dig ds ss→ds.length=ss.length
 | [],[],_=>rfl
 | _ :: _,_ :: _,h=>congrArg Nat.succ (Dig.len h.2)
 | [],_ :: _,h=>h.elim
 | _ :: _,[],h=>h.elim
theorem take_snoc {xs:List Int} {i:Nat} {x:Int} (h:xs[i]?=some x):xs.take (i + 1)=xs.take i ++ [x]:=by
 rw [U0,h]
 rfl
theorem rT {ns:List Int} {i:Nat} {y:V} (h:(ns.map V.int)[i]?=some y):∃z,y=V.int z∧ns[i]?=some z:=by
 rw [Uz] at h
 cases e:ns[i]? with
 | none=>rw [e] at h;cases h
 | some z=>rw [e] at h;exact ⟨z,(Option.some.inj h).symm,rfl⟩
abbrev Bk:Stmt:=(top 46)
abbrev oi:List Str:=["_law_script","_law_k"]
theorem Kc:L2.aw ["_law_script","_law_k"] ["_law_script","_law_k"] (L2.aj Bk):=dH
abbrev sP:Stmt:=(top 47)
abbrev cq:List Str:=["_law_cell_here","_law_sizes"]
theorem dS:L2.aw ["_law_cell_here","_law_sizes","_law_out","_law_rest","_law_size","_law_one","_law_k","_law_two"] ["_law_cell_here","_law_sizes"] (L2.aj sP):=dH
def tm (K:PySem.W.Frag):Sp:=λvs H Q _=>∃(c:Int) (a:Addr) (ss:List Int),vs=[.int c,.ref a]∧cZ K H a (ss.map V.int)∧(∀s∈ss,0 < s∧Bd 9000 s)∧ss.length≤1000 ∧
 ∀(r:Addr) (H':Hp) (ds:List Int),H r=none→bG H H'→H' r=some (.lst (ds.map V.int))→Dig ds ss→Q (.ref r) H'
theorem Ea {f:Addr} {fd:FuncData} (F:cb K "_law_digits" "_law_digits" sP f fd) (Z:EL mg):aQ P w K mg base rh 1 f fd cq (tm K):=by
 refine F.ok dS (λvs H Q E h=>?_) (λcdv A outer s H vs Q E hr h=>?_)
 ·obtain ⟨c,a,ss,rfl,_⟩:=h
  rfl
 obtain ⟨c,a,ss,rfl,hS,hs,hl,q⟩:=h
 refine ⟨_,(QB.run (a_ (cV (i:=2) dS.nd rfl (Or.inl rfl) (jy bj))
   (a_ (ot (dO Lc (pv 0) (bF GG aS aS) (ft _)) (a_ (cV (i:=3) dS.nd rfl (Or.inl rfl) (bF A2 (pv 0) (bF GG aS aS)))
   (a_ (pw PassesOwn.never rfl (n9 (pv 1)) (lQ (i:=4) dS.nd rfl (Or.inl rfl)) (a_ (lS (sv PySem.F.plainAttrs_list PySem.F.slot_list_append PySem.F.type_list_append iX (pv 2) (az (bF gG (pv 3) (pv 4)) bj)))
   (bN (cV (i:=3) dS.nd rfl (Or.inl rfl) (bF gF (pv 3) (pv 4))))))
   (bN (dY (pv 2))))) f_)
   (a_ (cV (i:=5) dS.nd rfl (Or.inl rfl) (bF gG (pv 0) aS))
   (a_ (pw PassesOwn.never rfl (gh rfl Z.range (az (bL jh rfl Z.len boot_len (az (pv 1) bj)) bj)) (lQ (i:=6) dS.nd rfl (Or.inl rfl)) (a_ (cV (i:=5) dS.nd rfl (Or.inl rfl) (bF gG (bF jx (bF cQ (pv 5) aS) (bF cQ aS (bF jx (pv 6) aS))) aS))
   (a_ (cV (i:=7) dS.nd rfl (Or.inl rfl) (bF gG (bF jx (bF jx (bF cQ (pv 5) (pv 5)) (bF cQ aS (pv 5))) (pv 6)) aS))
   (bN (lS (sv PySem.F.plainAttrs_list PySem.F.slot_list_append PySem.F.type_list_append iX (pv 2) (az (bF gG (bF gF (pv 7) aS) (cn wc (pv 1) (pv 6) (λ_ _=>rfl))) bj)))))))
   (bN (dY (pv 2)))))))),?_⟩
 refine ⟨UZ _,λr hr'=>?_⟩
 have g0:=bG.new hr' (.lst [])
 refine ⟨_,rfl,_,_,rfl,rfl,⟨by decide,by decide,by decide⟩,_,_,rfl,rfl,_,rfl,?_⟩
 refine FX (λ_=>?_) (λ_=>?_)
 ·refine ⟨_,rfl,_,_,rfl,rfl,⟨by decide,by decide,by decide⟩,_,_,rfl,rfl,?_⟩
  refine ⟨_,rfl,a,rfl,⟨_,g0.seq hS⟩,FD (K:=K) (a:=a) (xs:=ss.map V.int) (λi σ H2=>∃(ds:List Int) (rest:Int) (u:Option V),σ=[some (.int c),some (.ref a),some (.ref r),some (.int rest),u,none,none,none] ∧
   bG H H2∧H2 r=some (.lst (ds.map V.int))∧Dig ds (ss.take i)) ⟨[],_,none,rfl,g0,aG,trivial⟩ (λi σ H2 _ ⟨_,_,_,_,s2,_⟩=>s2.seq hS) ?_ ?_⟩
  ·rintro i y σ H2 hi ⟨ds,rest,u,rfl,s2,hd,hD⟩
   obtain ⟨z,rfl,hz⟩:=rT hi
   obtain ⟨z0,zb⟩:=hs z (Uw hz)
   have hil:i < ss.length:=(Uu.mp hz).1
   have dl:=hD.len
   rw [UR] at dl
   refine ⟨_,rfl,.inl ⟨rfl,_,cZ.of hd⟩,_,rfl,_,rfl,_,_,rfl,rfl,z0,r,_,_,rfl,rfl,hd,?_,?_⟩
   ·rw [Us]
    exact bp (by omega)
   refine ⟨_,rfl,_,rfl,_,_,rfl,rfl,⟨by omega,zb⟩,?_⟩
   refine ⟨ds ++ [rest % z],_,_,rfl,s2.Ou hr' _,?_,?_⟩
   ·rw [aG,UA]
    rfl
   ·rw [take_snoc hz]
    exact hD.snoc (Int.emod_nonneg _ (by omega)) (Int.emod_lt_of_pos _ z0)
  ·rintro σ H2 ⟨ds,rest,u,rfl,s2,hd,hD⟩
   rw [Us,UY] at hD
   exact ⟨_,rfl,q r H2 ds hr' s2 hd hD⟩
 ·refine ⟨_,rfl,_,_,rfl,rfl,(show (0:Int) < 2147483647 by decide),?_⟩
  refine ⟨_,rfl,a,_,rfl,.inl (g0.seq hS),_,rfl,?_,?_,vb (lo:=0) (n:=(ss.map V.int).length) (λi σ H2=>∃(ds:List Int) (one:Int) (u v:Option V),σ=[some (.int c),some (.ref a),some (.ref r),none,none,some (.int one),u,v] ∧
   0≤one∧one < 2147483647∧bG H H2∧H2 r=some (.lst (ds.map V.int))∧Dig ds (ss.take i)) ⟨[],_,none,none,rfl,Int.emod_nonneg _ (by decide),Int.emod_lt_of_pos _ (by decide),g0,aG,trivial⟩ ?_ ?_⟩
  ·omega
  ·rw [Us];omega
  ·rintro i σ H2 hi ⟨ds,one,u,v,rfl,o0,o1,s2,hd,hD⟩
   rw [Us] at hi
   have hz:ss[i]?=some ss[i]:=Ut hi
   obtain ⟨z0,zb⟩:=hs ss[i] (U9 hi)
   have dl:=hD.len
   rw [UR] at dl
   have e1:dk (ss.map V.int) (0 + (i:Int))=some (.int ss[i]):=by
    rw [Int.zero_add]
    exact bq (by rw [Uz,hz];rfl)
   dsimp! [rJoin]
   have A0:0≤(one * 48271 + 10007 * (0 + (i:Int) + 1)) % 2147483629:=Int.emod_nonneg _ (by decide)
   have A1:(one * 48271 + 10007 * (0 + (i:Int) + 1)) % 2147483629 < 2147483629:=Int.emod_lt_of_pos _ (by decide)
   generalize (one * 48271 + 10007 * (0 + (i:Int) + 1)) % 2147483629=A at A0 A1 ⊢
   generalize ((A * A + 69621 * A + (0 + (i:Int))) % 2147483563).fdiv 11=B
   have small:∀x:Int,0≤x→x < 2147483648→Bd 64 x:=λx h1 h2=>Bd.small (by omega) (by omega)
   refine ⟨.of (small _ o0 (by omega)) (small _ (by decide) (by decide)),.of (small _ (by decide) (by decide)) (small _ (by omega) (by omega)),.of (small _ A0 (by omega)) (small _ A0 (by omega)),
    .of (small _ (by decide) (by decide)) (small _ A0 (by omega)),.inl ⟨rfl,_,cZ.of hd⟩,⟨by decide,(small _ (by decide) (by decide)).mono (by decide)⟩,_,s2.seq hS,_,e1,_,rfl,z0,_,hd,?_,A0,by omega,s2.Ou hr' _,ds ++ [B % ss[i]],?_,?_⟩
   ·rw [Us]
    exact bp (by omega)
   ·rw [aG,UA]
    rfl
   ·rw [take_snoc hz]
    exact hD.snoc (Int.emod_nonneg _ (by omega)) (Int.emod_lt_of_pos _ z0)
  ·rintro σ H2 ⟨ds,one,u,v,rfl,o0,o1,s2,hd,hD⟩
   rw [Us,UY] at hD
   exact ⟨_,rfl,q r H2 ds hr' s2 hd hD⟩
def OC (H:Hp) (q:Rat) (Q:VK):Prop:=∀(r:Addr) (H':Hp),bG H H'→H' r=some (.tup [.int q.num,.int q.den])→Q (.ref r) H'
abbrev m6:Stmt:=(top 15)
abbrev dF:List Str:=["top","bottom"]
theorem lz:L2.aw ["top","bottom","divisor"] ["top","bottom"] (L2.aj m6):=dH
def gP:Sp:=λvs H Q _=>∃t b:Int,vs=[.int t,.int b]∧b≠0∧Bd 9000 b∧OC H (Rat.divInt t b) Q
theorem FH {n:Nat} {t b:Int} (h:b≠0) (hb:Bd n b):Bd n ((Int.gcd t b:Nat):Int):=hb.le (by have:=MH (t:=t) h;omega)
theorem yP {f:Addr} {fd:FuncData} (F:cb K "fraction" "fraction" m6 f fd) (Z:EL mg) (iI:tL P w K mg base 1 "shared" i7 tD):aQ P w K mg base rh 2 f fd dF gP:=by
 refine F.ok lz (λvs H Q E h=>?_) (λcdv A outer s H vs Q E hr h=>?_)
 ·obtain ⟨t,b,rfl,_⟩:=h
  rfl
 obtain ⟨t,b,rfl,hb,bb,q⟩:=h
 have hg:=B5 (t:=t) hb
 have gb:=FH (t:=t) hb bb
 refine ⟨_,(QB.run (a_ (ot (dO GF (pv 1) aS (ft _)) pA f_)
   (a_ (cV (i:=2) lz.nd rfl (Or.inl rfl) (y8 iI hr (by decide) rfl (az (pv 0) (az (pv 1) bj))))
   (y_ (ot (dO Cn (pv 1) aS (ft _)) (bN (cV (i:=2) lz.nd rfl (Or.inl rfl) (Cq HK (pv 2)))) f_)
   (bN (dY (sy (az (bF gF (pv 0) (pv 2)) (az (bF gF (pv 1) (pv 2)) bj))))))))),?_⟩
 refine ⟨_,rfl,rfl,_,rfl,?_⟩
 refine FX (λc=>absurd (V.int.inj (of_decide_eq_true c)) hb) (λ_=>?_)
 refine ⟨_,rfl,_,rfl,t,b,rfl,?_⟩
 refine ⟨λσ' H'=>∃d:Int,σ'=[some (.int t),some (.int b),some (.int d)]∧H=H'∧d≠0∧Bd 9000 d∧t.fdiv d=(Rat.divInt t b).num∧b.fdiv d=(Rat.divInt t b).den,?_,?_⟩
 ·refine ⟨_,rfl,_,_,rfl,rfl,_,rfl,FX (λc=>?_) (λc=>?_)⟩
  ·have c':b < 0:=of_decide_eq_true c
   exact ⟨_,rfl,_,rfl,_,rfl,rfl,by omega,gb.neg,Cj c',IE c'⟩
  ·have c':0 < b:=by
    have:=of_decide_eq_false (V0.mpr c)
    omega
   exact ⟨_,rfl,rfl,by omega,gb,wt c',den_pos c'⟩
 rintro _ _ ⟨d,rfl,rfl,hd,bd,e1,e2⟩
 refine ⟨_,rfl,_,rfl,_,_,rfl,rfl,⟨hd,bd⟩,_,rfl,_,rfl,_,_,rfl,rfl,⟨hd,bd⟩,(by show 2≤sizeLine;decide),λp hp=>?_⟩
 exact q p _ (bG.new hp _) (by rw [aG];show some (HO.tup [V.int (t.fdiv d),V.int (b.fdiv d)])=_;rw [e1,e2])
abbrev Hf:Stmt:=(top 49)
abbrev eL:List Str:=["_law_top","_law_bottom"]
theorem xA:L2.aw ["_law_top","_law_bottom","_law_one","_law_two"] ["_law_top","_law_bottom"] (L2.aj Hf):=dH
def LH:Sp:=λvs H Q _=>∃t b:Int,vs=[.int t,.int b]∧0 < b∧Bd 9000 b∧OC H (Rat.divInt t b) Q
theorem M7 {f:Addr} {fd:FuncData} (F:cb K "_law_low" "_law_low" Hf f fd) (Z:EL mg):aQ P w K mg base rh 1 f fd eL LH:=by
 refine F.ok xA (λvs H Q E h=>?_) (λcdv A outer s H vs Q E hr h=>?_)
 ·obtain ⟨t,b,rfl,_⟩:=h
  rfl
 obtain ⟨t,b,rfl,hb,bb,q⟩:=h
 have hg:=B5 (t:=t) (show b≠0 by omega)
 have gb:=FH (t:=t) (show b≠0 by omega) bb
 refine ⟨_,(QB.run (a_ (cV (i:=2) xA.nd rfl (Or.inl rfl) (bL nJ rfl Z.abs boot_abs (az (pv 0) bj)))
   (a_ (cV (i:=3) xA.nd rfl (Or.inl rfl) (pv 1))
   (a_ (kX PassesOwn.never (dO Lf (pv 3) aS (ft _)) (bN (pz (i:=2) (j:=3) rfl xA.nd rfl rfl (by decide) rfl rfl (az (pv 3) (az (bF gG (pv 2) (pv 3)) bj)) rfl)))
   (bN (dY (sy (az (bF gF (pv 0) (pv 2)) (az (bF gF (pv 1) (pv 2)) bj))))))))),?_⟩
 refine ⟨_,rfl,t,rfl,_,rfl,?_⟩
 refine zL (λσ H'=>∃x y:Int,σ=[some (.int t),some (.int b),some (.int x),some (.int y)]∧H=H'∧0≤x∧0≤y∧Int.gcd x y=Int.gcd t b) (λσ _=>match σ with | [_,_,_,some (.int y)]=>y.toNat | _=>0)
  ⟨_,_,rfl,rfl,by split <;> omega,by omega,FG t b⟩ ?_ (λσ H Q Q' m h=>?_)
 ·rintro σ H' ⟨x,y,rfl,rfl,hx,hy,hg'⟩
  dsimp! [rJoin]
  split
  ·rename_i hy0
   subst hy0
   have ex:x=((Int.gcd t b:Nat):Int):=by rw [← hg',B4 hx]
   subst ex
   refine ⟨⟨by omega,gb⟩,⟨by omega,gb⟩,(by show 2≤sizeLine;decide),λp hp=>?_⟩
   exact q p _ (bG.new hp _) (by rw [aG,wt hb,den_pos hb])
  ·rename_i hy0
   have h1:=Int.emod_lt_of_pos x (show 0 < y by omega)
   have h2:=Int.emod_nonneg x hy0
   exact ⟨by omega,hy,h2,(yv hy0).trans hg',by omega⟩
 ·obtain ⟨v,e,hs,k,ek,hq⟩:=h
  exact ⟨v,e,hs,k,ek,m _ _ hq⟩
theorem Hz {m n:Nat} {t b:Int} (hb:b≠0) (h1:Bd m t) (h2:Bd n b) (k:Nat) (hm:m≤k) (hn:n≤k):Sz k (Rat.divInt t b) :=
 ⟨(h1.le (Ci t b)).mono hm,(h2.le (v3 hb)).mono hn⟩
theorem wq (p q:Rat):(p.den:Int) * (q.den:Int)≠0:=Int.mul_ne_zero (fm p) (fm q)
theorem Sz.add {m n k:Nat} {p q:Rat} (h:Sz m p) (g:Sz n q) (hk:m + n + 1≤k:=by decide):Sz k (p + q):=by
 rw [← add_eq]
 exact Hz (wq p q) (.add (.mul h.num g.den (Ux _)) (.mul g.num h.den (Ux _)) (Ux _)) (.mul h.den g.den (Ux _)) k (by omega) (by omega)
theorem Sz.sub {m n k:Nat} {p q:Rat} (h:Sz m p) (g:Sz n q) (hk:m + n + 1≤k:=by decide):Sz k (p - q):=by
 rw [← sub_eq]
 exact Hz (wq p q) (.sub (.mul h.num g.den (Ux _)) (.mul g.num h.den (Ux _)) (Ux _)) (.mul h.den g.den (Ux _)) k (by omega) (by omega)
theorem Sz.mul {m n k:Nat} {p:Rat} {i:Int} (h:Sz m p) (g:Bd n i) (hk:m + n≤k:=by decide):Sz k (p * i):=by
 rw [← mul_eq]
 exact Hz (fm p) (.mul h.num g (Ux _)) h.den k hk (by omega)
def Qx (K:PySem.W.Frag) (g:Rat→Rat→Rat):Sp:=λvs H Q _=>∃(a b:Addr) (p q:Rat),vs=[.ref a,.ref b]∧Of K H a p∧Of K H b q∧Sz 4000 p∧Sz 4000 q∧OC H (g p q) Q
abbrev Bq:Stmt:=(top 16)
abbrev qS:List Str:=["one","two"]
theorem Kg:L2.aw ["one","two"] ["one","two"] (L2.aj Bq):=dH
theorem Jp {f:Addr} {fd:FuncData} (F:cb K "plus" "plus" Bq f fd) (Z:EL mg) (b9:tL P w K mg base 2 "fraction" dF gP):aQ P w K mg base rh 3 f fd qS (Qx K λp q=>p + q):=by
 refine F.ok Kg (λvs H Q E h=>?_) (λcdv A outer s H vs Q E hr h=>?_)
 ·obtain ⟨a,b,p,q,rfl,_⟩:=h
  rfl
 obtain ⟨a,b,p,q,rfl,ha,hb,sp,sq,k⟩:=h
 refine ⟨_,(QB.run (bN (dY (y8 b9 hr (by decide) rfl (az (bF jx (bF cQ (cn c_ (pv 0) aS (λ_ _=>rfl)) (cn c_ (pv 1) aS (λ_ _=>rfl))) (bF cQ (cn c_ (pv 1) aS (λ_ _=>rfl)) (cn c_ (pv 0) aS (λ_ _=>rfl)))) (az (bF cQ (cn c_ (pv 0) aS (λ_ _=>rfl)) (cn c_ (pv 1) aS (λ_ _=>rfl))) bj)))))),?_⟩
 refine ⟨_,rfl,_,_,_,_,rfl,rfl,ha,rfl,_,rfl,_,_,_,_,rfl,rfl,hb,rfl,_,_,rfl,rfl,.of sp.num sq.den,_,rfl,_,_,_,_,rfl,rfl,hb,rfl,_,rfl,_,_,_,_,rfl,rfl,ha,rfl,_,_,rfl,rfl,.of sq.num sp.den,_,_,rfl,rfl,_,rfl,_,_,_,_,rfl,rfl,ha,rfl,_,rfl,_,_,_,_,rfl,rfl,hb,rfl,_,_,rfl,rfl,.of sp.den sq.den,_,_,rfl,wq p q,.mul sp.den sq.den,?_⟩
 rw [add_eq]
 exact k
abbrev xo:Stmt:=(top 17)
abbrev kU:List Str:=["one","two"]
theorem Hg:L2.aw ["one","two"] ["one","two"] (L2.aj xo):=dH
theorem Gp {f:Addr} {fd:FuncData} (F:cb K "minus" "minus" xo f fd) (Z:EL mg) (b9:tL P w K mg base 2 "fraction" dF gP):aQ P w K mg base rh 3 f fd kU (Qx K λp q=>p - q):=by
 refine F.ok Hg (λvs H Q E h=>?_) (λcdv A outer s H vs Q E hr h=>?_)
 ·obtain ⟨a,b,p,q,rfl,_⟩:=h
  rfl
 obtain ⟨a,b,p,q,rfl,ha,hb,sp,sq,k⟩:=h
 refine ⟨_,(QB.run (bN (dY (y8 b9 hr (by decide) rfl (az (bF A2 (bF cQ (cn c_ (pv 0) aS (λ_ _=>rfl)) (cn c_ (pv 1) aS (λ_ _=>rfl))) (bF cQ (cn c_ (pv 1) aS (λ_ _=>rfl)) (cn c_ (pv 0) aS (λ_ _=>rfl)))) (az (bF cQ (cn c_ (pv 0) aS (λ_ _=>rfl)) (cn c_ (pv 1) aS (λ_ _=>rfl))) bj)))))),?_⟩
 refine ⟨_,rfl,_,_,_,_,rfl,rfl,ha,rfl,_,rfl,_,_,_,_,rfl,rfl,hb,rfl,_,_,rfl,rfl,.of sp.num sq.den,_,rfl,_,_,_,_,rfl,rfl,hb,rfl,_,rfl,_,_,_,_,rfl,rfl,ha,rfl,_,_,rfl,rfl,.of sq.num sp.den,_,_,rfl,rfl,_,rfl,_,_,_,_,rfl,rfl,ha,rfl,_,rfl,_,_,_,_,rfl,rfl,hb,rfl,_,_,rfl,rfl,.of sp.den sq.den,_,_,rfl,wq p q,.mul sp.den sq.den,?_⟩
 rw [sub_eq]
 exact k
abbrev xq:Stmt:=(top 18)
abbrev ou:List Str:=["one","many"]
theorem Hi:L2.aw ["one","many"] ["one","many"] (L2.aj xq):=dH
def C2 (K:PySem.W.Frag):Sp:=λvs H Q _=>∃(a:Addr) (p:Rat) (m:Int),vs=[.ref a,.int m]∧Of K H a p∧Sz 9000 p∧Bd 9000 m∧OC H (p * m) Q
theorem Gr {f:Addr} {fd:FuncData} (F:cb K "times" "times" xq f fd) (Z:EL mg) (b9:tL P w K mg base 2 "fraction" dF gP):aQ P w K mg base rh 3 f fd ou (C2 K):=by
 refine F.ok Hi (λvs H Q E h=>?_) (λcdv A outer s H vs Q E hr h=>?_)
 ·obtain ⟨a,p,m,rfl,_⟩:=h
  rfl
 obtain ⟨a,p,m,rfl,ha,sp,bm,k⟩:=h
 refine ⟨_,(QB.run (bN (dY (y8 b9 hr (by decide) rfl (az (bF cQ (cn c_ (pv 0) aS (λ_ _=>rfl)) (pv 1)) (az (cn c_ (pv 0) aS (λ_ _=>rfl)) bj)))))),?_⟩
 refine ⟨_,rfl,_,_,_,_,rfl,rfl,ha,rfl,_,rfl,_,_,rfl,rfl,.of sp.num bm,_,rfl,_,_,_,_,rfl,rfl,ha,rfl,_,_,rfl,fm p,sp.den,?_⟩
 rw [mul_eq]
 exact k
abbrev Bn:Stmt:=(top 19)
abbrev f9:List Str:=["one","two"]
theorem Ke:L2.aw ["one","two"] ["one","two"] (L2.aj Bn):=dH
def Ho (K:PySem.W.Frag):Sp:=λvs H Q _=>∃(a b:Addr) (p q:Rat),vs=[.ref a,.ref b]∧Of K H a p∧Of K H b q∧Sz 9000 p∧Sz 9000 q∧Q (.bl (decide (p < q))) H
theorem IY (p q:Rat):decide (p.num * q.den < q.num * p.den)=decide (p < q):=decide_eq_decide.mpr (Rat.lt_iff p q).symm
theorem Jo {f:Addr} {fd:FuncData} (F:cb K "less" "less" Bn f fd) (Z:EL mg):aQ P w K mg base rh 1 f fd f9 (Ho K):=by
 refine F.ok Ke (λvs H Q E h=>?_) (λcdv A outer s H vs Q E hr h=>?_)
 ·obtain ⟨a,b,p,q,rfl,_⟩:=h
  rfl
 obtain ⟨a,b,p,q,rfl,ha,hb,sp,sq,k⟩:=h
 refine ⟨_,(QB.run (bN (dY (qQ Cn (bF cQ (cn c_ (pv 0) aS (λ_ _=>rfl)) (cn c_ (pv 1) aS (λ_ _=>rfl))) (bF cQ (cn c_ (pv 1) aS (λ_ _=>rfl)) (cn c_ (pv 0) aS (λ_ _=>rfl))) (ft _))))),?_⟩
 refine ⟨_,rfl,_,_,_,_,rfl,rfl,ha,rfl,_,rfl,_,_,_,_,rfl,rfl,hb,rfl,_,_,rfl,rfl,.of sp.num sq.den,_,rfl,_,_,_,_,rfl,rfl,hb,rfl,_,rfl,_,_,_,_,rfl,rfl,ha,rfl,_,_,rfl,rfl,.of sq.num sp.den,_,_,rfl,rfl,?_⟩
 show Q (.bl (decide (p.num * q.den < q.num * p.den))) H
 rw [IY]
 exact k
theorem B' {K:PySem.W.Frag} {J:Hq} {H:Hp}:∀{ns:List Int} {vs:List V},aU K J H (ns.map PV.int) vs→vs=ns.map V.int
 | [],_,h=>h
 | n :: ns,_,⟨v,us,e,h,k⟩=>by subst e;cases h;rw [B' k];rfl
theorem Ng {K:PySem.W.Frag} {J:Hq} {H:Hp} {x:PV} {vs:List V} (h:aU K J H [x] vs):∃v,vs=[v]∧cE K J H x v:=by
 obtain ⟨v,us,rfl,h1,h2⟩:=h;cases h2;exact ⟨v,rfl,h1⟩
theorem jW {K:PySem.W.Frag} {J:Hq} {H:Hp} {x y:PV} {vs:List V} (h:aU K J H [x,y] vs):∃v u,vs=[v,u]∧cE K J H x v∧cE K J H y u:=by
 obtain ⟨v,us,rfl,h1,u,us',rfl,h2,h3⟩:=h;cases h3;exact ⟨v,u,rfl,h1,h2⟩
theorem rQ {K:PySem.W.Frag} {J:Hq} {H:Hp} {q:Rat} {v:V} (h:cE K J H (fr q) v):∃a,v=.ref a∧Of K H a q:=by
 obtain ⟨a,vs,rfl,h1,h2⟩:=h
 obtain ⟨x,y,rfl,r1,r2⟩:=jW h2
 cases r1;cases r2
 exact ⟨a,rfl,h1⟩
theorem xf {K:PySem.W.Frag} {J:Hq} {H:Hp} {q:Rat} {Q2:PV→Hq→Prop} {Q:VK} (r:Rep K J H) (k:Kn K J H Q2 Q) (h:Q2 (fr q) J):OC H q Q:=λa H' s e =>
 k (fr q) J (.ref a) H' ⟨a,_,rfl,gS.of e,⟨_,_,rfl,rfl,_,_,rfl,rfl,rfl⟩⟩ (r.same s) (.same s) h
def xH:cA:=λxs J Q _=>∃(c:Int) (ss:List Int),xs=[.int c,.fl (ss.map .int)]∧(∀s∈ss,0 < s∧Bd 9000 s)∧ss.length≤1000∧∀ds,Dig ds ss→Q (.fl (ds.map .int)) J
theorem yE (C:tL P w K mg base 1 "_law_digits" cq (tm K)):bz P w K mg base 1 "_law_digits" cq xH:=C.lift λxs J vs H Q2 E2 Q E rs r ⟨c,ss,ex,h0,h1,q⟩ kn=>by
 subst ex
 obtain ⟨v,u,rfl,r1,⟨a,ws,rfl,h2,h3⟩⟩:=jW rs
 cases r1;cases B' h3
 refine ⟨c,a,ss,rfl,h2.sq,h0,h1,λp H' ds hp s e D=>kn (.fl (ds.map .int)) J (.ref p) H' ⟨p,_,rfl,.inl ⟨r.free hp,.inl e⟩,pB ds⟩ (r.same s) (.same s) (q ds D)⟩
def nk:cA:=λxs J Q _=>∃t b:Int,xs=[.int t,.int b]∧0 < b∧Bd 9000 b∧Q (fr (Rat.divInt t b)) J
theorem Gb (C:tL P w K mg base 1 "_law_low" eL LH):bz P w K mg base 1 "_law_low" eL nk:=C.lift λxs J vs H Q2 E2 Q E rs r ⟨t,b,ex,h0,h1,q⟩ kn=>by
 subst ex
 obtain ⟨v,u,rfl,r1,r2⟩:=jW rs
 cases r1;cases r2
 exact ⟨t,b,rfl,h0,h1,xf r kn q⟩
def dT:cA:=λxs J Q _=>∃p q:Rat,xs=[fr p,fr q]∧Sz 9000 p∧Sz 9000 q∧Q (.bl (decide (p < q))) J
theorem DW (C:tL P w K mg base 1 "less" f9 (Ho K)):bz P w K mg base 1 "less" f9 dT:=C.lift λxs J vs H Q2 E2 Q E rs r ⟨p,q,ex,h0,h1,z⟩ kn=>by
 subst ex
 obtain ⟨v,u,rfl,r1,r2⟩:=jW rs
 obtain ⟨a,rfl,f1⟩:=rQ r1
 obtain ⟨b,rfl,f2⟩:=rQ r2
 exact ⟨a,b,p,q,rfl,f1,f2,h0,h1,kn (.bl _) J _ H rfl r .refl z⟩
def Bv (g:Rat→Rat→Rat):cA:=λxs J Q _=>∃p q:Rat,xs=[fr p,fr q]∧Sz 4000 p∧Sz 4000 q∧Q (fr (g p q)) J
theorem K4 {x:Str} {ps:List Str} {k:Nat} {g:Rat→Rat→Rat} (C:tL P w K mg base k x ps (Qx K g)):bz P w K mg base k x ps (Bv g):=C.lift λxs J vs H Q2 E2 Q E rs r ⟨p,q,ex,h0,h1,z⟩ kn=>by
 subst ex
 obtain ⟨v,u,rfl,r1,r2⟩:=jW rs
 obtain ⟨a,rfl,f1⟩:=rQ r1
 obtain ⟨b,rfl,f2⟩:=rQ r2
 exact ⟨a,b,p,q,rfl,f1,f2,h0,h1,xf r kn z⟩
theorem DX (C:tL P w K mg base 3 "plus" qS (Qx K λp q=>p + q)):bz P w K mg base 3 "plus" qS (Bv λp q=>p + q):=K4 C
theorem AH (C:tL P w K mg base 3 "minus" kU (Qx K λp q=>p - q)):bz P w K mg base 3 "minus" kU (Bv λp q=>p - q):=K4 C
def tE:cA:=λxs J Q _=>∃(p:Rat) (m:Int),xs=[fr p,.int m]∧Sz 9000 p∧Bd 9000 m∧Q (fr (p * m)) J
theorem AJ (C:tL P w K mg base 3 "times" ou (C2 K)):bz P w K mg base 3 "times" ou tE:=C.lift λxs J vs H Q2 E2 Q E rs r ⟨p,m,ex,h0,h1,z⟩ kn=>by
 subst ex
 obtain ⟨v,u,rfl,r1,r2⟩:=jW rs
 obtain ⟨a,rfl,f1⟩:=rQ r1
 cases r2
 exact ⟨a,p,m,rfl,f1,h0,h1,xf r kn z⟩
def aW.V (l:aW):PV:=.tup [fr l.m,fr l.p,.int l.v]
theorem vC (m p:Rat) (v:Int):PV.tup [fr m,fr p,.int v]=(aW.mk m p v).V:=rfl
theorem ve (J:Hq) (l:aW):fL J l.V (.int 0)=some (fr l.m):=dU _ _
theorem F1 (J:Hq) (l:aW):fL J l.V (.int 1)=some (fr l.p):=fW _ _ _
theorem kC (J:Hq) (l:aW):fL J l.V (.int 2)=some (.int l.v):=l_ _ _ _ _
theorem QX (J:Hq) (l:aW):BE J l.V=some "tuple":=rfl
theorem K2 (J:Hq) (l:aW):wo J l.V=some 3:=rfl
theorem GX (l:aW):mx l.V=true:=by simp [aW.V,Cy,lT,sF,wW,Cw]
theorem OQ (l:aW):HS l.V=True:=eq_true ⟨GX l,by simp [aW.V,fr,fR,fG,dep,dI]⟩
theorem MC (a b:aW):eqQ a.V b.V=decide (a=b):=by
 unfold aW.V
 rw [v7,d5,d5,d5,qG,BY,BY,eq_int,VB,← VF,← VF]
 apply decide_eq_decide.mpr
 cases a;cases b
 simp [aW.mk.injEq]
theorem OE (a b:aW):(a.V=b.V)=(a=b):=by
 apply propext
 constructor
 ·intro e
  have:=MC a b
  rw [e,eq_self] at this
  exact of_decide_eq_true this.symm
 ·intro e;rw [e]
def qh:cA:=λxs J Q _=>∃(l:aW) (t:Rat),xs=[l.V,fr t]∧Sz 900 l.m∧Sz 900 l.p∧Sz 900 t∧Bd 64 l.v∧Q (fr (l.at t)) J
abbrev m9:Stmt:=(top 27)
abbrev g8:List Str:=["leg","moment"]
theorem hZ:L2.aw ["leg","moment","begun","place","pace"] ["leg","moment"] (L2.aj m9):=dH
theorem wH {f:Addr} {fd:FuncData} (F:cb K "place_on" "place_on" m9 f fd) (Z:bQ mg) (zV:bz P w K mg base 3 "plus" qS (Bv λp q=>p + q)) (nB:bz P w K mg base 3 "minus" kU (Bv λp q=>p - q)) (vL:bz P w K mg base 3 "times" ou tE) :
  aQ P w K mg base (cP P w) 4 f fd g8 (dn K qh):=by
 simp_arith [hZ,(ai (sL (rv 0) (pE (n:=3) rfl (cx (bC (i:=2) hZ.nd) (cx (bC (i:=3) hZ.nd) (cx (bC (i:=4) hZ.nd) lU)))))
   (aq (aA (aO zV B hr (af (rv 3) (af (aO vL B hr (af (aO nB B hr (af (rv 1) (af (rv 2) ah))) (af (rv 4) ah))) ah))))))]
 ·obtain ⟨l,t,rfl,_⟩:=h;rfl
 obtain ⟨l,t,rfl,sb,sp,sm,bv,q⟩:=h
 have s1:Sz 1801 (t - l.m):=sm.sub sb
 have s2:Sz 1900 ((t - l.m) * (l.v:Rat)):=s1.mul bv
 refine hX ?_
 simp_arith! [bZ,aW.V,Bv,tE]
 exact ⟨sm.mono (by decide),sb.mono (by decide),s1.mono (by decide),bv.mono (by decide),sp.mono (by decide),s2.mono (by decide),q⟩
theorem MG (n:Int):PV.tup [.int n,.int 1]=fr (n:Rat):=rfl
theorem lK (p q:Rat):p.num * (q.den:Int)=q.num * (p.den:Int)↔p=q:=by
 have a:=cast_eq p
 have b:=cast_eq q
 have c:=d4 p
 have d:=d4 q
 constructor
 ·intro h
  have h':((p.num * (q.den:Int):Int):Rat)=((q.num * (p.den:Int):Int):Rat):=by rw [h]
  rw [Rat.intCast_mul,Rat.intCast_mul,a,b] at h'
  grind
 ·intro h;rw [h]
def gv:Option Rat→PV
 | none=>.non
 | some q=>fr q
structure x6 (cL:Addr) (J:Hq) (p r:Addr) (rows:List aW) (g:Option Rat):Prop where
 o:J p=some (.ins cL [("rows",.ref r),("gone",gv g)])
 l:J r=some (.lst (rows.map aW.V))
theorem x6.ne {cL:Addr} {J:Hq} {p r:Addr} {rows:List aW} {g:Option Rat} (h:x6 cL J p r rows g):r≠p:=by
 intro e;subst e;have:=h.o;rw [h.l] at this;cases this
structure qk (n:Nat) (l:aW):Prop where
 m:Sz n l.m
 p:Sz n l.p
 v:Bd 64 l.v
theorem qk.mono {n k:Nat} {l:aW} (h:qk n l) (e:n≤k):qk k l:=⟨h.m.mono e,h.p.mono e,h.v⟩
theorem Ge (a b:PV):([("rows",a),("gone",b)]:List (Str × PV)).lookup ("rows":Str)=some a:=rfl
theorem TL (a b:PV):([("rows",a),("gone",b)]:List (Str × PV)).lookup ("gone":Str)=some b:=rfl
theorem DY {m:Str} (a b:PV) (h:(m == ("rows":Str))=false) (k:(m == ("gone":Str))=false):([("rows",a),("gone",b)]:List (Str × PV)).lookup m=none:=by rw [U1,h];simp only;rw [U1,k];rfl
theorem Pn (a b:PV):([("rows",a),("gone",b)]:List (Str × PV)).lookup ("turn":Str)=none:=DY a b (by decide +kernel) (by decide +kernel)
theorem Sa (a b:PV):([("rows",a),("gone",b)]:List (Str × PV)).lookup ("leave":Str)=none:=DY a b (by decide +kernel) (by decide +kernel)
theorem Sb (a b:PV):([("rows",a),("gone",b)]:List (Str × PV)).lookup ("legs":Str)=none:=DY a b (by decide +kernel) (by decide +kernel)
theorem Sd (a b:PV):([("rows",a),("gone",b)]:List (Str × PV)).lookup ("there":Str)=none:=DY a b (by decide +kernel) (by decide +kernel)
theorem Se (a b:PV):([("rows",a),("gone",b)]:List (Str × PV)).lookup ("leg_at":Str)=none:=DY a b (by decide +kernel) (by decide +kernel)
theorem Sf (a b:PV):([("rows",a),("gone",b)]:List (Str × PV)).lookup ("twin":Str)=none:=DY a b (by decide +kernel) (by decide +kernel)
theorem Gk:(("rows":Str)=("gone":Str))=False:=eq_false (by decide +kernel)
theorem iW {J:Hq} {l:Addr} {o:HQ} (h:J l=none):oS J (put J l o):=λa=>by
 by_cases e:a=l
 ·subst e;exact .inr h
 ·rw [ak e];exact .inl rfl
theorem JL (x z:PV):kY ("gone":Str) z (kY ("rows":Str) x [])=([("rows",x),("gone",z)]:List (Str × PV)):=by simp only [kY,Gk,if_false]
abbrev gK:Stmt:=(L2.inClass (top 31) 0)
abbrev fQ:List Str:=["self","moment","place","pace"]
theorem qB:L2.aw ["self","moment","place","pace"] ["self","moment","place","pace"] (L2.aj gK):=dH
def xJ (cL:Addr):cA:=λxs J Q _=>∃(p:Addr) (l:aW),xs=[.ref p,fr l.m,fr l.p,.int l.v]∧J p=some (.ins cL [])∧∀r,J r=none→Q .non (put (put J r (.lst [l.V])) p (.ins cL [("rows",.ref r),("gone",.non)]))
theorem yL {cL f:Addr} {fd:FuncData} (F:cb K "__init__" "Log.__init__" gK f fd) (bh:dW K mg "Log" cL) (aP:aH K cL "rows") (bJ:aH K cL "gone"):aQ P w K mg base (cP P w) 1 f fd fQ (dn K (xJ cL)):=by
 simp_arith [qB,(ai (eD bh.cl aP (rv 0) (mV (af (cu (af (rv 1) (af (rv 2) (af (rv 3) ah)))) ah)))
   (aq (eD bh.cl bJ (rv 0) mY)))]
 ·obtain ⟨p,l,rfl,_⟩:=h;rfl
 obtain ⟨p,l,rfl,hp,q⟩:=h
 refine hX ?_
 simp_arith! [bZ,vC]
 intro r hr'
 have ne:p≠r:=by intro e;subst e;rw [hp] at hr';cases hr'
 refine fN (by rw [ak ne];exact hp) ⟨by decide,fN ar ⟨by show (1:Nat) < 1000;decide,?_⟩⟩
 rw [d_,JL]
 exact q r hr'
abbrev m4:Stmt:=(L2.inClass (top 31) 1)
abbrev kP:List Str:=["self","moment","pace"]
theorem qd:L2.aw ["self","moment","pace","place"] ["self","moment","pace"] (L2.aj m4):=dH
def xK (cL:Addr):cA:=λxs J Q _=>∃p r rows g t v,xs=[.ref p,fr t,.int v]∧x6 cL J p r rows g∧rows≠[]∧rows.length≤900∧Sz 900 t∧(∀l∈rows,qk 900 l)∧Q .non (put J r (.lst ((turned rows t v).map aW.V)))
theorem yN {cL f:Addr} {fd:FuncData} (F:cb K "turn" "Log.turn" m4 f fd) (Z:bQ mg) (bh:dW K mg "Log" cL) (aP:aH K cL "rows") (eh:bz P w K mg base 4 "place_on" g8 qh):aQ P w K mg base (cP P w) 5 f fd kP (dn K (xK cL)):=by
 simp_arith [qd,(ai (aE (i:=3) qd.nd (aO eh B hr (af (au av (aT bh.cl aP (rv 0)) (vm pU ag)) (af (rv 1) ah))))
   (ed (aX (aL (cT hr.aV) (au av (au av (aT bh.cl aP (rv 0)) (vm pU ag)) ag) (rv 1)) (aq (bt (NI PySem.F.plainAttrs_list PySem.F.slot_list_pop PySem.F.type_list_pop M3 (aT bh.cl aP (rv 0))))) aK)
   (ai (aX (di (fT (NP (aT bh.cl aP (rv 0))) (fb (aL (cT hr.aV) (au av (au av (aT bh.cl aP (rv 0)) (vm pU ag)) ag) (rv 2))))) (aq Kb) aK)
   (aq (bt (my PySem.F.plainAttrs_list PySem.F.slot_list_append PySem.F.type_list_append lO (aT bh.cl aP (rv 0)) (af (cu (af (rv 1) (af (rv 3) (af (rv 2) ah)))) ah)))))))]
 ·obtain ⟨p,r,rows,g,t,v,rfl,_⟩:=h;rfl
 obtain ⟨p,r,rows,g,t,v,rfl,b,hne,hl,st,sl,q⟩:=h
 obtain ⟨ls,l,rfl⟩:∃ls l,rows=ls ++ [l]:=⟨rows.dropLast,rows.getLast hne,(Vf hne).symm⟩
 have bo:=b.o
 have bl:=b.l
 have npr:=b.ne
 have sl':=sl l (by simp)
 have hla:dk ((ls ++ [l]).map aW.V) (-1)=some l.V:=by rw [UA];exact BM _ _
 refine hX ?_
 simp_arith! [bZ,bo,bl,Ge]
 refine fP hla ⟨l,t,rfl,sl'.m,sl'.p,st,sl'.v,?_⟩
 obtain ⟨M,hM⟩:∃M:Sr→Hq→Prop,∀τ' J',M τ' J'↔τ'=[some (.ref p),some (fr t),some (.int v),some (fr (l.at t))]∧J'=put J r (.lst ((if l.m=t then ls else ls ++ [l]).map aW.V)):=⟨_,λ_ _=>Iff.rfl⟩
 refine ⟨M,?_,?_⟩
 ·simp_arith! [bZ,bo,bl,Ge,hla,ve]
  split
  ·rename_i e
   refine ⟨l.V,by simp,(hM _ _).mpr ⟨rfl,?_⟩⟩
   rw [if_pos e,UA,UB,Vo,V6]
  ·rename_i e
   exact (hM _ _).mpr ⟨rfl,by rw [if_neg e,Bg bl]⟩
 ·intro τ' J' hm
  obtain ⟨rfl,rfl⟩:=(hM _ _).mp hm
  clear hm hM M
  have et:turned (ls ++ [l]) t v=if (if l.m=t then ls else ls ++ [l]).getLast?.map aW.v=some v then (if l.m=t then ls else ls ++ [l]) else (if l.m=t then ls else ls ++ [l]) ++ [⟨t,l.at t,v⟩]:=by
   unfold turned
   simp only [U3,V6]
  have hrl:(if l.m=t then ls else ls ++ [l]).length≤900:=by
   split
   ·rw [UP] at hl;omega
   ·exact hl
  rw [et] at q
  generalize (if l.m=t then ls else ls ++ [l])=rest at q hrl ⊢
  simp_arith! [bZ,ak (Ne.symm npr),bo,Ge,d_,vC]
  rcases List.eq_nil_or_concat rest with rfl | ⟨ks,k,rfl⟩
  ·simp only [List.getLast?_nil,Option.map_none,reduceCtorEq,if_false,List.nil_append] at q
   simpa [K5,sizeLine] using q
  ·rw [List.concat_eq_append] at *
   rw [U3,Wq] at q
   have hk:dk ((ks ++ [k]).map aW.V) (-1)=some k.V:=by rw [UA];exact BM _ _
   rw [if_pos (by simp)]
   simp_arith! [bZ,ak (Ne.symm npr),bo,Ge,hk,kC,Us]
   by_cases e:k.v=v
   ·rw [if_pos e];rw [if_pos (congrArg some e)] at q;exact q
   ·rw [if_neg e];rw [if_neg (λz=>e (Option.some.inj z))] at q
    simp_arith! [bZ,ak (Ne.symm npr),bo,Ge,d_,vC,Us]
    refine ⟨bp (by omega),?_⟩
    rw [UA] at q
    exact q
abbrev mZ:Stmt:=(L2.inClass (top 31) 3)
abbrev p9:List Str:=["self"]
theorem zj:L2.aw ["self"] ["self"] (L2.aj mZ):=dH
def CP (cL:Addr):cA:=λxs J Q _=>∃p r rows g,xs=[.ref p]∧x6 cL J p r rows g∧(Q (.fl (rows.map aW.V)) J∨∀l,J l=none→Q (.ref l) (put J l (.lst (rows.map aW.V))))
theorem yM {cL f:Addr} {fd:FuncData} (F:cb K "legs" "Log.legs" mZ f fd) (Z:bQ mg) (bh:dW K mg "Log" cL) (aP:aH K cL "rows"):aQ P w K mg base (cP P w) 1 f fd p9 (dn K (CP cL)):=by
 simp_arith [zj,(aq (aA (dP iN rfl Z.list boot_list (af (aT bh.cl aP (rv 0)) ah)))),F]
 ·obtain ⟨p,r,rows,g,rfl,_⟩:=h;rfl
 obtain ⟨p,r,rows,g,rfl,b,q⟩:=h
 have bo:=b.o
 have bl:=b.l
 refine hX ?_
 simp_arith! [bZ,bo,bl,Ge]
 intro l hl
 rcases q with q | q
 ·exact Fg.qJ (iW hl) ar hl q
 ·exact Fg.same (q l hl)
theorem Tu {rows:List aW} {i:Nat} {b:aW} (h:rows[i]?=some b):dk (rows.map aW.V) (i:Int)=some b.V:=bq (by rw [Uz,h];rfl)
abbrev pF:Stmt:=(top 21)
abbrev sD:List Str:=["rows","moment"]
theorem nh:L2.aw ["rows","moment","at"] ["rows","moment"] (L2.aj pF):=dH
def zu:cA:=λxs J Q _=>∃(x:PV) (t:Rat) (ys:List PV) (ms:List Rat),xs=[x,fr t]∧kF J x=some ys∧ys.length=ms.length∧ms.length≤900∧(∀(i:Nat) y m,ys[i]?=some y→ms[i]?=some m→fL J y (.int 0)=some (fr m))∧Sz 9000 t∧(∀m∈ms,Sz 9000 m)∧Q (.int ((lb ms t ms.length:Int) - 1)) J
theorem yQ {f:Addr} {fd:FuncData} (F:cb K "last_by" "last_by" pF f fd) (Z:bQ mg) (eg:bz P w K mg base 1 "less" f9 dT):aQ P w K mg base (cP P w) 2 f fd sD (dn K zu):=by
 simp_arith [nh,(ai (aE (i:=2) nh.nd (aR eW (aI bO rfl Z.len boot_len (af (rv 0) ah)) ag))
   (ai (k9 b7 (di (fT (aL GH (rv 2) ag) (fb (bA (aO eg B hr (af (rv 1) (af (au av (au av (rv 0) (rv 2)) ag) ah))))))) (aq (Hd (i:=2) nh.nd ag FR)))
   (aq (aA (rv 2)))))]
 ·obtain ⟨x,t,ys,ms,rfl,_⟩:=h;rfl
 obtain ⟨x,t,ys,ms,rfl,hx,hlen,hl,h0,st,sm,q⟩:=h
 refine hX ?_
 simp_arith! [bZ,AL hx,hlen]
 refine ⟨λk τ J'=>∃j:Nat,τ=[some x,some (fr t),some (.int ((j:Int) - 1))]∧J'=J∧j≤ms.length∧k=j∧lb ms t ms.length=lb ms t j,⟨_,ms.length,rfl,rfl,Ux _,rfl,rfl⟩,?_⟩
 rintro k τ J' ⟨j,rfl,rfl,hj,rfl,hb⟩
 simp_arith! [bZ,Ce hx,dT]
 cases k with
 | zero =>
  rw [if_neg (by omega)]
  rw [hb] at q
  exact q
 | succ k =>
  rw [if_pos (by omega)]
  obtain ⟨y,hy⟩:∃y,ys[k]?=some y:=⟨_,Ut (by omega)⟩
  obtain ⟨m,hm⟩:∃m,ms[k]?=some m:=⟨_,Ut (by omega)⟩
  have ha:dk ys (((k + 1:Nat):Int) - 1)=some y:=by
   have:((k + 1:Nat):Int) - 1=(k:Int):=by omega
   rw [this];exact bq hy
  have em:ms.getD k 0=m:=by simp [Xb,hm]
  have hu:lb ms t (k + 1)=if m≤t then k + 1 else lb ms t k:=by
   show (if ms.getD k 0≤t then k + 1 else lb ms t k)=_
   rw [em]
  refine fP ha (fP (h0 k y m hy hm) ?_)
  simp_arith! [bZ]
  refine ⟨st,sm m (Uw hm),?_⟩
  by_cases c:t < m
  ·rw [if_pos c]
   have hn:¬ m≤t:=Rat.not_le.mpr c
   rw [if_neg hn] at hu
   refine ⟨λτ J''=>τ=[some x,some (fr t),some (.int ((k:Int) - 1))]∧J''=J',λτ' J'' ⟨e1,e2⟩=>⟨k,VL _,k,e1,e2,by omega,rfl,by rw [hb,hu]⟩,?_⟩
   simp_arith! [bZ]
   have:((k + 1:Nat):Int) - 1 - 1=(k:Int) - 1:=by omega
   exact this
  ·rw [if_neg c]
   rw [if_pos (Rat.not_lt.mp c)] at hu
   rw [hb,hu] at q
   exact q
abbrev lq:Stmt:=(L2.inClass (top 31) 5)
abbrev oh:List Str:=["self","moment"]
theorem oC:L2.aw ["self","moment","joined"] ["self","moment"] (L2.aj lq):=dH
def zt (cL:Addr):cA:=λxs J Q _=>∃p r rows g t,xs=[.ref p,fr t]∧x6 cL J p r rows g∧rows≠[]∧Sz 900 t∧(∀l∈rows,qk 900 l)∧(∀q,g=some q→Sz 900 q)∧Q (.bl (there rows g t)) J
theorem wC {cL f:Addr} {fd:FuncData} (F:cb K "there" "Log.there" lq f fd) (Z:bQ mg) (bh:dW K mg "Log" cL) (aP:aH K cL "rows") (bJ:aH K cL "gone") (eg:bz P w K mg base 1 "less" f9 dT):aQ P w K mg base (cP P w) 2 f fd oh (dn K (zt cL)):=by
 simp_arith [oC,(ai (aE (i:=2) oC.nd (au av (au av (aT bh.cl aP (rv 0)) ag) ag))
   (ai (aX (bA (aO eg B hr (af (rv 1) (af (rv 2) ah)))) (aq (aA dh)) aK)
   (aq (aA (Qu (eZ PM (aT bh.cl bJ (rv 0)) mY) (xa (aO eg B hr (af (rv 1) (af (aT bh.cl bJ (rv 0)) ah)))))))))]
 ·obtain ⟨p,r,rows,g,t,rfl,_⟩:=h;rfl
 obtain ⟨p,r,rows,g,t,rfl,b,hne,st,sl,sg,q⟩:=h
 have bo:=b.o
 have bl:=b.l
 obtain ⟨l,ls,rfl⟩:∃l ls,rows=l :: ls:=VH hne
 have sl':=(sl l (by simp)).m
 refine hX ?_
 simp_arith! [bZ,bo,bl,Ge,TL,ve,dT]
 refine ⟨st.mono (by decide),sl'.mono (by decide),?_⟩
 unfold there at q
 simp only [Wu] at q
 by_cases c:t < l.m
 ·rw [if_pos c]
  rw [decide_eq_true c] at q
  exact q
 ·rw [if_neg c]
  rw [decide_eq_false c] at q
  cases g with
  | none=>simpa [gv,O1,LP,Q9] using q
  | some u =>
   simp only [gv,rW,UK,if_false]
   simp only [Q9] at q
   refine ⟨u,rfl,st.mono (by decide),(sg u rfl).mono (by decide),?_⟩
   simpa using q
abbrev jS:Stmt:=(L2.inClass (top 31) 6)
abbrev ml:List Str:=["self","moment"]
theorem uL:L2.aw ["self","moment"] ["self","moment"] (L2.aj jS):=dH
def zr (cL eN:Addr):cA:=λxs J Q E=>∃p r rows g t,xs=[.ref p,fr t]∧x6 cL J p r rows g∧rows≠[]∧rows.length≤900∧Sz 900 t∧(∀l∈rows,qk 900 l)∧(∀q,g=some q→Sz 900 q)∧(there rows g t=true→∀l,yD rows t=some l→Q l.V J)∧(there rows g t=false→E eN J)
theorem uC {cL eN f:Addr} {fd:FuncData} (F:cb K "leg_at" "Log.leg_at" jS f fd) (Z:bQ mg) (bh:dW K mg "Log" cL) (aP:aH K cL "rows") (mF:Own K mg "NotThere" eN) (kK:cI P w K mg base cL 2 "there" oh (zt cL))
  (Dj:bz P w K mg base 2 "last_by" sD zu):aQ P w K mg base (cP P w) 3 f fd ml (dn K (zr cL eN)):=by
 simp_arith [uL,(ai (aX (bS (bA (bK (pl:=_) kK B hr (rv 0) (af (rv 1) ah)))) (aq (d6 mF rfl cK B.kn rfl (af bR ah))) aK)
   (aq (aA (au av (aT bh.cl aP (rv 0)) (aO Dj B hr (af (aT bh.cl aP (rv 0)) (af (rv 1) ah)))))))]
 ·obtain ⟨p,r,rows,g,t,rfl,_⟩:=h;rfl
 obtain ⟨p,r,rows,g,t,rfl,b,hne,hl,st,sl,sg,q,qe⟩:=h
 have bo:=b.o
 have bl:=b.l
 refine hX ?_
 simp_arith! [bZ,bo,bl,Ge]
 refine ⟨Sd _ _,p,r,rows,g,t,rfl,b,hne,st,sl,sg,?_⟩
 simp_arith! [bZ,fS,bo,bl,Ge]
 cases hc:there rows g t with
 | false=>rw [if_pos rfl];exact qe hc
 | true =>
  rw [if_neg (by decide)]
  obtain ⟨l,h1,h2,h3,h4,h5⟩:=HH hc
  refine ⟨_,t,rows.map aW.V,rows.map aW.m,rfl,by simp_arith! [bZ,bl],by simp,by simpa using hl,?_,st.mono (by decide),?_,?_⟩
  ·intro i y m hy hm
   rw [Uz] at hy hm
   cases e:rows[i]? with
   | none=>rw [e] at hy;cases hy
   | some z=>rw [e] at hy hm;cases hy;cases hm;exact ve _ _
  ·intro m hm
   obtain ⟨z,hz,rfl⟩:=Uv.mp hm
   exact (sl z hz).m.mono (by decide)
  ·rw [Us]
   simp_arith! [bZ,bl]
   refine fP (x:=l.V) ?_ (q hc l h1)
   have:((lb (rows.map aW.m) t rows.length:Nat):Int) - 1=((lb (rows.map aW.m) t rows.length - 1:Nat):Int):=by omega
   rw [this]
   exact Tu h5
abbrev lp:Stmt:=(L2.inClass (top 31) 2)
abbrev og:List Str:=["self","moment"]
theorem xx:L2.aw ["self","moment"] ["self","moment"] (L2.aj lp):=dH
def zq (cL:Addr):cA:=λxs J Q _=>∃p r rows g t,xs=[.ref p,fr t]∧x6 cL J p r rows g∧Q .non (put J p (.ins cL [("rows",.ref r),("gone",fr t)]))
theorem JK (a b z:PV):kY ("gone":Str) z ([("rows",a),("gone",b)]:List (Str × PV))=([("rows",a),("gone",z)]:List (Str × PV)):=by simp only [kY,Gk,if_false,if_true]
theorem Ct (a b z:PV):kY ("rows":Str) z ([("rows",a),("gone",b)]:List (Str × PV))=([("rows",z),("gone",b)]:List (Str × PV)):=by simp only [kY,if_true]
theorem wB {cL f:Addr} {fd:FuncData} (F:cb K "leave" "Log.leave" lp f fd) (Z:bQ mg) (bh:dW K mg "Log" cL) (bJ:aH K cL "gone"):aQ P w K mg base (cP P w) 1 f fd og (dn K (zq cL)):=by
 simp_arith [xx,(aq (eD bh.cl bJ (rv 0) (rv 1)))]
 ·obtain ⟨p,r,rows,g,t,rfl,_⟩:=h;rfl
 obtain ⟨p,r,rows,g,t,rfl,b,q⟩:=h
 have bo:=b.o
 refine hX ?_
 simp_arith! [bZ,bo,Gk]
 exact ⟨by decide,q⟩
theorem km {l:aW} {t:Rat} (h:qk 900 l) (sm:Sz 900 t):Sz 3000 (l.at t):=by
 have s1:Sz 1801 (t - l.m):=sm.sub h.m
 have s2:Sz 1900 ((t - l.m) * (l.v:Rat)):=s1.mul h.v
 exact h.p.add s2
abbrev iE:Stmt:=(top 29)
abbrev kT:List Str:=["name","leg","other_name","other_leg","moment"]
theorem gM:L2.aw ["name","leg","other_name","other_leg","moment","place","other_place"] ["name","leg","other_name","other_leg","moment"] (L2.aj iE):=dH
def Hr:cA:=λxs J Q _=>∃(n n':Str) (l l':aW) (t:Rat),xs=[.str n,l.V,.str n',l'.V,fr t]∧qk 900 l∧qk 900 l'∧Sz 900 t∧Q (.bl ((key t (n,l)).lt (key t (n',l')))) J
theorem qy {f:Addr} {fd:FuncData} (F:cb K "lies_behind" "lies_behind" iE f fd) (Z:bQ mg) (eh:bz P w K mg base 4 "place_on" g8 qh) (eg:bz P w K mg base 1 "less" f9 dT):aQ P w K mg base (cP P w) 5 f fd kT (dn K Hr):=by
 simp_arith [gM,(ai (aE (i:=5) gM.nd (aO eh B hr (af (rv 1) (af (rv 4) ah))))
   (ai (aE (i:=6) gM.nd (aO eh B hr (af (rv 3) (af (rv 4) ah))))
   (ai (aX (aL (g6 hr.aV) (rv 5) (rv 6)) (aq (aA (aO eg B hr (af (rv 5) (af (rv 6) ah))))) aK)
   (ai (aX (aL (g6 hr.aV) (au av (rv 1) ag) (au av (rv 3) ag)) (aq (aA (eZ gZ (au av (rv 1) ag) (au av (rv 3) ag)))) aK)
   (aq (aA (eZ A3 (rv 0) (rv 2))))))))]
 ·obtain ⟨n,n',l,l',t,rfl,_⟩:=h;rfl
 obtain ⟨n,n',l,l',t,rfl,sl,sl',st,q⟩:=h
 refine hX ?_
 simp_all! []
 refine ⟨l,t,rfl,sl.m,sl.p,st,sl.v,?_⟩
 simp_all! []
 refine ⟨l',t,rfl,sl'.m,sl'.p,st,sl'.v,?_⟩
 have a1:=km sl st
 have a2:=km sl' st
 simp_all! []
 unfold Ky.lt key at q
 dsimp only at q
 by_cases e:l.at t=l'.at t
 ·rw [if_pos e] at q
  rw [if_pos e]
  simp_all! [kC]
  by_cases e2:l.v=l'.v
  ·rw [if_pos e2] at q
   rw [if_pos e2]
   simp_all! []
   exact q
  ·rw [if_neg e2] at q
   rw [if_neg e2]
   simp_all! [kC]
   exact q
 ·rw [if_neg e] at q
  rw [if_neg e]
  simp_all! [dT]
  exact ⟨a1.mono (by decide),a2.mono (by decide),q⟩
abbrev m7:Stmt:=(top 43)
abbrev qa:List Str:=["legs","moment"]
theorem fI:L2.aw ["legs","moment","names","name","at"] ["legs","moment"] (L2.aj m7):=dH
def bY (fs:List (Str × aW)):List (Str × PV):=fs.map λx=>(x.1,x.2.V)
def vq:cA:=λxs J Q _=>∃(D:Addr) (fs:List (Str × aW)) (ep:Nat) (t:Rat),xs=[.ref D,fr t]∧J D=some (.dct (bY fs) ep)∧(fs.map (·.1)).Nodup∧fs.length≤100∧Sz 900 t∧(∀x∈fs,qk 900 x.2)∧∀p,J p=none→Q (.ref p) (put J p (.lst ((cX t fs).map .str)))
theorem wF {f:Addr} {fd:FuncData} (F:cb K "in_order" "in_order" m7 f fd) (Z:bQ mg) (tR:bz P w K mg base 5 "lies_behind" kT Hr):aQ P w K mg base (cP P w) 6 f fd qa (dn K vq):=by
 simp_arith [fI,(ai (aE (i:=2) fI.nd (mV ah))
   (ai (eE b7 rfl (xg (rv 0)) (bC (i:=3) fI.nd) (ai (aE (i:=4) fI.nd (aI bO rfl Z.len boot_len (af (rv 2) ah)))
   (ai (k9 b7 (di (fT (aL n8 (rv 4) ag) (fb (bA (aO tR B hr (af (rv 3) (af (au dC (rv 0) (rv 3)) (af (au av (rv 2) (aR eW (rv 4) ag)) (af (au dC (rv 0) (au av (rv 2) (aR eW (rv 4) ag))) (af (rv 1) ah)))))))))) (aq (Hd (i:=4) fI.nd ag FR)))
   (aq (bt (my PySem.F.plainAttrs_list PySem.F.slot_list_insert PySem.F.type_list_insert lP (rv 2) (af (rv 4) (af (rv 3) ah))))))))
   (aq (aA (rv 2)))))]
 ·obtain ⟨D,fs,ep,t,rfl,_⟩:=h;rfl
 obtain ⟨D,fs,ep,t,rfl,hD,hnd,hlen,st,sl,q⟩:=h
 refine hX ?_
 simp_all! []
 intro r hr'
 have nDr:D≠r:=by intro e;subst e;rw [hD] at hr';cases hr'
 simp_all! [ak nDr,hD]
 have hkv:(bY fs).map (λkv=>PV.str kv.1)=fs.map λx=>PV.str x.1:=by unfold bY;rw [UC];rfl
 rw [hkv]
 obtain ⟨Inv,hInv⟩:∃Inv:Nat→Sr→Hq→Prop,∀i τ J',Inv i τ J'↔∃(u3 u4:Option PV),τ=[some (.ref D),some (fr t),some (.ref r),u3,u4]∧J'=put J r (.lst ((cX t (fs.take i)).map .str)):=⟨_,λ_ _ _=>Iff.rfl⟩
 refine gw Inv ((hInv _ _ _).mpr ⟨_,_,rfl,rfl⟩) (λi τ J' h=>?_) ?_ ?_
 ·obtain ⟨_,_,_,rfl⟩:=(hInv _ _ _).mp h
  rw [ak nDr];exact hD
 ·intro i x τ J' hx hv
  obtain ⟨u3,u4,rfl,rfl⟩:=(hInv _ _ _).mp hv
  clear hv
  have hi:i < fs.length:=by have:=(Uu.mp hx).1;simpa using this
  rw [Uz,Ut hi] at hx
  cases hx
  rcases hfi:fs[i] with ⟨n,l⟩
  have hmem:(n,l)∈fs:=by rw [← hfi];exact U9 hi
  have et:fs.take (i + 1)=fs.take i ++ [(n,l)]:=by rw [U0,Ut hi,hfi];rfl
  have hndt:((fs.take (i + 1)).map (·.1)).Nodup:=by rw [Vw];exact hnd.sublist (VA _ _)
  rw [et,UA,UB,Vo] at hndt
  obtain ⟨hnd1,hnew⟩:=gC hndt
  obtain ⟨ys,hys⟩:∃ys,cG ((fs.take i).map (key t))=ys:=⟨_,rfl⟩
  have srt:oW Ky.lt ys:=by rw [← hys];exact cU (by rw [dj];exact hnd1)
  have hyl:ys.length=i:=by rw [← hys,iZ,Us,UR];omega
  have hym:∀y∈ys,∃l',(y.n,l')∈fs∧y=key t (y.n,l')∧y.n≠n:=λy hy=>by
   rw [← hys,bD,Uv] at hy
   obtain ⟨x',hx',rfl⟩:=hy
   exact ⟨x'.2,Vh hx',rfl,λe=>hnew (Uv.mpr ⟨x',hx',e⟩)⟩
  have eo:(cX t (fs.take i)).map PV.str=ys.map λy=>PV.str y.n:=by unfold cX;rw [hys,UC];rfl
  have en:(cX t (fs.take (i + 1))).map PV.str=(qr Ky.lt (key t (n,l)) ys).map λy=>PV.str y.n:=by
   unfold cX;rw [et,UA,UB,Vo,i4,hys,UC];rfl
  rw [eo]
  have hvn:mC (bY fs) n=some l.V:=jX (f:=aW.V) hnd hmem
  have sll:=sl _ hmem
  simp_all! [ar,Us]
  refine ⟨λm τ' J'=>m≤ys.length∧τ'=[some (.ref D),some (fr t),some (.ref r),some (.str n),some (.int (m:Nat))]∧J'=put J r (.lst (ys.map λy=>PV.str y.n))∧∀(j:Nat) y,m≤j→ys[j]?=some y→(key t (n,l)).lt y=true,⟨ys.length,Ux _,rfl,rfl,λj y hj e=>by rw [U6 hj] at e;cases e⟩,?_⟩
  rintro m τ' J' ⟨hm,rfl,rfl,hall⟩
  have fin:(∀(j:Nat) y,j < m→ys[j]?=some y→y.lt (key t (n,l))=true)→Inv (i + 1) [some (.ref D),some (fr t),some (.ref r),some (.str n),some (.int (m:Nat))] (put J r (.lst ((ys.map λy=>PV.str y.n).take m ++ .str n :: (ys.map λy=>PV.str y.n).drop m))):=λhlow=>by
   refine (hInv _ _ _).mpr ⟨_,_,rfl,?_⟩
   rw [en,← B_ hm hlow λj y hj e=>Ky.OF (hall j y hj e),UA,UB,Vw,VX]
   rfl
  simp_all! [ar,ak nDr,hD,hvn]
  by_cases c0:0 < m
  ·rw [if_pos (by omega)]
   obtain ⟨m',rfl⟩:∃m',m=m' + 1:=⟨m - 1,by omega⟩
   obtain ⟨y,hy⟩:∃y,ys[m']?=some y:=⟨_,Ut (by omega)⟩
   obtain ⟨l',hl',ey,ny⟩:=hym y (Uw hy)
   have ha:dk (ys.map λy=>PV.str y.n) (((m' + 1:Nat):Int) - 1)=some (.str y.n):=by
    rw [show ((m' + 1:Nat):Int) - 1=((m':Nat):Int) by omega]
    exact bq (by rw [Uz,hy];rfl)
   have hvy:mC (bY fs) y.n=some l'.V:=jX (f:=aW.V) hnd hl'
   simp_all! [ha,ar,ak nDr,hD,hvn,hvy]
   refine ⟨n,y.n,l,l',t,rfl,sll,sl _ hl',st,?_⟩
   rw [← ey]
   cases hc:(key t (n,l)).lt y with
   | true =>
    simp_all! []
    refine ⟨_,λτ'' J'' h=>⟨m',VL _,h⟩,⟨by omega,?_,rfl,λj z hj e=>?_⟩⟩
    ·rw [show ((m' + 1:Nat):Int) - 1=((m':Nat):Int) by omega]
    ·rcases VV hj with h | h
     ·exact hall j z (by omega) e
     ·subst h;rw [hy] at e;cases e;exact hc
   | false =>
    simp_all! [ar]
    refine ⟨_,m' + 1,rfl,rfl,by rw [Us];omega,bp (by rw [Us];omega),by omega,?_⟩
    rw [d_]
    refine fin λj z hj e=>?_
    have hyx:y.lt (key t (n,l))=true:=by
     rcases Ky.QK (a:=y) (b:=key t (n,l)) ny with h | h
     ·exact h
     ·rw [hc] at h;cases h
    exact zH (lt:=Ky.lt) Ky.tr srt hy e (by omega) hyx
  ·rw [if_neg (by omega)]
   simp_all! [ar]
   refine ⟨_,m,rfl,rfl,by rw [Us];omega,bp (by rw [Us];omega),by omega,?_⟩
   rw [d_]
   exact fin λj z hj e=>by omega
 ·intro τ J' hv
  obtain ⟨u3,u4,rfl,rfl⟩:=(hInv _ _ _).mp hv
  rw [Us,UY]
  simp_all! []
  exact q r hr'
def rG (K:PySem.W.Frag) (mg:Str→Option Value):Prop:=∃a:Addr,mg "NOUGHT"=some (.ref a)∧∀H:Hp,gS K H a [.int 0,.int 1]
theorem D_ {K:PySem.W.Frag} {h:Heap} {mg:Str→Option Value} (X:K.In h) (G:h.Ns mainGlobals mg) {a:Addr} {od:Option Addr} {n:Nat} {sl:Array (Option Value)} {t u:Tok}
  (e:PySem.W.nsIn K mainGlobals "NOUGHT"=some (some (.ref a))) (l:K.lookup a=some ⟨.type "tuple",od,.seq #[.int 0 t,.int 1 u] n,sl⟩):rG K mg :=
 ⟨a,PySem.W.mg_of X G e,λ_=>.inr ⟨_,_,_,l,rfl,rfl,(by show 2≤sizeLine;decide),.cons ⟨t,rfl⟩ (.cons ⟨u,rfl⟩ .nil)⟩⟩
structure Cf where
 n:Str
 a:Addr
 r:Addr
 w:List aW
 g:Option Rat
structure Ln where
 t:Rat
 d:Addr
 e:Nat
 o:Addr
 cs:List Cf
 row:List Str
def Cf.cur (c:Cf):aW:=c.w.getLast?.getD ⟨0,0,0⟩
def Ln.Eu (L:Ln):List Cf:=L.cs.filter λc=>c.g.isNone
def Ln.fs (L:Ln):List (Str × aW):=L.Eu.map λc=>(c.n,c.cur)
structure aY (cN cL:Addr) (J:Hq) (p:Addr) (L:Ln):Prop where
 ob:J p=some (.ins cN [("now",fr L.t),("logs",.ref L.d),("row",.ref L.o)])
 dc:J L.d=some (.dct (L.cs.map λc=>(c.n,PV.ref c.a)) L.e)
 rw:J L.o=some (.lst (L.row.map .str))
 lg:∀c∈L.cs,x6 cL J c.a c.r c.w c.g
 ap:(L.cs.map Cf.r).Nodup
 ao:∀c∈L.cs,c.r≠L.o
structure bc (L:Ln):Prop where
 nd:(L.cs.map Cf.n).Nodup
 ne:∀c∈L.cs,c.w≠[]
 le:∀c∈L.cs,∀l∈c.w,l.m≤L.t
 ck:∀c∈L.cs,∀l∈c.w,tP l
 len:∀c∈L.cs,c.w.length≤200
 gz:∀c∈L.cs,∀q,c.g=some q→Sc ib MM q∧q≤L.t
 t0:0≤L.t
 ts:Sc ib MM L.t
 many:L.cs.length≤100
 rm:∀n,n∈L.row↔n∈L.fs.map (·.1)
 rn:L.row.Nodup
 rl:L.row.length≤12
structure b_ (L:Ln):Prop extends bc L where
 row:L.row=cX L.t L.fs
def Ln.own (L:Ln) (p a:Addr):Prop:=a=p∨a=L.d∨a=L.o∨∃c∈L.cs,a=c.a∨a=c.r
structure Mv (J J':Hq) (S S':Addr→Prop):Prop where
 keep:∀a o,J a=some o→¬ S a→J' a=some o
 own:∀a,S' a→S a∨J a=none
 mono:∀a,J' a=none→J a=none
theorem Mv.refl (J:Hq) (S:Addr→Prop):Mv J J S S:=⟨λ_ _ h _=>h,λ_ h=>.inl h,λ_ h=>h⟩
theorem Mv.trans {J J' J'':Hq} {S S' S'':Addr→Prop} (h:Mv J J' S S') (k:Mv J' J'' S' S''):Mv J J'' S S'':=by
 refine ⟨λa o e n=>k.keep a o (h.keep a o e n) λz=>?_,λa z=>?_,λa z=>h.mono a (k.mono a z)⟩
 ·rcases h.own a z with q | q
  ·exact n q
  ·rw [q] at e;cases e
 ·rcases k.own a z with q | q
  ·exact h.own a q
  ·exact .inr (h.mono a q)
theorem Mv.new {J:Hq} {S:Addr→Prop} {x:Addr} {o:HQ} (h:J x=none):Mv J (put J x o) S S:=by
 refine ⟨λa u e _=>?_,λ_ z=>.inl z,λa z=>?_⟩
 ·rw [ak (λq=>by subst q;rw [h] at e;cases e)];exact e
 ·by_cases q:a=x
  ·subst q;rw [ar] at z;cases z
  ·rw [ak q] at z;exact z
theorem Mv.uo {J:Hq} {S:Addr→Prop} {x:Addr} {o:HQ} (h:J x=none):Mv J (put J x o) S (λa=>S a∨a=x) :=
 ⟨(Mv.new (S:=S) h).keep,λa z=>z.elim .inl λe=>.inr (by rw [e];exact h),(Mv.new (S:=S) h).mono⟩
theorem aY.keep {cN cL:Addr} {J J':Hq} {p:Addr} {L:Ln} (h:aY cN cL J p L) (k:∀a o,L.own p a→J a=some o→J' a=some o):aY cN cL J' p L :=
 ⟨k _ _ (.inl rfl) h.ob,k _ _ (.inr (.inl rfl)) h.dc,k _ _ (.inr (.inr (.inl rfl))) h.rw,λc hc=>⟨k _ _ (.inr (.inr (.inr ⟨c,hc,.inl rfl⟩))) (h.lg c hc).o,k _ _ (.inr (.inr (.inr ⟨c,hc,.inr rfl⟩))) (h.lg c hc).l⟩,h.ap,h.ao⟩
theorem aY.some {cN cL:Addr} {J:Hq} {p:Addr} {L:Ln} (h:aY cN cL J p L) {a:Addr} (o:L.own p a):J a≠none:=by
 rcases o with rfl | rfl | rfl | ⟨c,hc,rfl | rfl⟩
 ·rw [h.ob];exact λz=>nomatch z
 ·rw [h.dc];exact λz=>nomatch z
 ·rw [h.rw];exact λz=>nomatch z
 ·rw [(h.lg c hc).o];exact λz=>nomatch z
 ·rw [(h.lg c hc).l];exact λz=>nomatch z
theorem aY.fresh {cN cL:Addr} {J:Hq} {p x:Addr} {L:Ln} {o:HQ} (h:aY cN cL J p L) (hx:J x=none):aY cN cL (put J x o) p L :=
 h.keep λa u ow e=>by rw [ak (λq=>by subst q;rw [hx] at e;cases e)];exact e
theorem AD {J:Hq} {a b C C':Addr} {fs gs:List (Str × PV)} (h:J a=Vi (.ins C fs)) (k:J b=Vi (.ins C' gs)) (n:fs.map (·.1)≠gs.map (·.1)):a≠b:=by
 intro e;subst e;rw [h] at k
 have:=HQ.ins.inj (Option.some.inj k)
 exact n (by rw [this.2])
theorem aY.Jj {cN cL:Addr} {J:Hq} {p:Addr} {L:Ln} (h:aY cN cL J p L):L.d≠p:=by intro e;have:=h.ob;rw [← e,h.dc] at this;cases this
theorem aY.Jl {cN cL:Addr} {J:Hq} {p:Addr} {L:Ln} (h:aY cN cL J p L):L.o≠p:=by intro e;have:=h.ob;rw [← e,h.rw] at this;cases this
theorem aY.Sk {cN cL:Addr} {J:Hq} {p:Addr} {L:Ln} (h:aY cN cL J p L):L.d≠L.o:=by intro e;have:=h.rw;rw [← e,h.dc] at this;cases this
theorem r_:([("rows":Str),("gone":Str)]:List Str)≠[("now":Str),("logs":Str),("row":Str)]:=by decide +kernel
theorem aY.Rc {cN cL:Addr} {J:Hq} {p:Addr} {L:Ln} (h:aY cN cL J p L) {c:Cf} (hc:c∈L.cs):c.a≠p:=AD (h.lg c hc).o h.ob r_
theorem aY.Oo {cN cL:Addr} {J:Hq} {p:Addr} {L:Ln} (h:aY cN cL J p L) {c:Cf} (hc:c∈L.cs):c.r≠p:=by intro e;have:=h.ob;rw [← e,(h.lg c hc).l] at this;cases this
theorem aY.TN {cN cL:Addr} {J:Hq} {p:Addr} {L:Ln} (h:aY cN cL J p L) {c:Cf} (hc:c∈L.cs):c.a≠L.d:=by intro e;have:=h.dc;rw [← e,(h.lg c hc).o] at this;cases this
theorem aY.TQ {cN cL:Addr} {J:Hq} {p:Addr} {L:Ln} (h:aY cN cL J p L) {c:Cf} (hc:c∈L.cs):c.r≠L.d:=by intro e;have:=h.dc;rw [← e,(h.lg c hc).l] at this;cases this
theorem aY.Sj {cN cL:Addr} {J:Hq} {p:Addr} {L:Ln} (h:aY cN cL J p L) {c:Cf} (hc:c∈L.cs):c.a≠L.o:=by intro e;have:=h.rw;rw [← e,(h.lg c hc).o] at this;cases this
theorem aY.Ui {cN cL:Addr} {J:Hq} {p:Addr} {L:Ln} (h:aY cN cL J p L) {c c':Cf} (hc:c∈L.cs) (hc':c'∈L.cs):c.a≠c'.r:=by intro e;have:=(h.lg c' hc').l;rw [← e,(h.lg c hc).o] at this;cases this
theorem aY.NT {cN cL:Addr} {J:Hq} {p o':Addr} {L:Ln} {row:List Str} (h:aY cN cL J p L) (ho:J o'=Vi (.lst (row.map .str))) (nc:∀c∈L.cs,c.r≠o'):aY cN cL (put J p (.ins cN [("now",fr L.t),("logs",.ref L.d),("row",.ref o')])) p { L with o:=o',row:=row } :=
 ⟨ar,by show put J p _ L.d=_;rw [ak h.Jj];exact h.dc,by show put J p _ o'=_;rw [ak (λe=>by rw [e,h.ob] at ho;cases ho)];exact ho,
  λc hc=>⟨by rw [ak (h.Rc hc)];exact (h.lg c hc).o,by rw [ak (h.Oo hc)];exact (h.lg c hc).l⟩,h.ap,nc⟩
theorem gB {J:Hq} {S S':Addr→Prop} {x:Addr} {o:HQ} (hx:S x) (hS:∀a,S' a→S a∨J a=none):Mv J (put J x o) S S':=by
 refine ⟨λa u e n=>?_,hS,λa z=>?_⟩
 ·rw [ak (λq=>by subst q;exact n hx)];exact e
 ·by_cases q:a=x
  ·subst q;rw [ar] at z;cases z
  ·rw [ak q] at z;exact z
theorem bc.N4 {L:Ln} (h:bc L):Sz 900 L.t:=(Cg h.ts).mono (by decide)
theorem tP.Po {l:aW} (h:tP l):qk 900 l:=⟨h.TM.mono (by decide),h.TU.mono (by decide),.small (by have:=h.v;omega) (by have:=h.v;omega)⟩
theorem Cf.ji {c:Cf} (h:c.w≠[]):c.w.getLast?=Vi c.cur∧c.cur∈c.w:=by
 unfold Cf.cur
 rw [List.getLast?_eq_some_getLast h]
 exact ⟨rfl,List.getLast_mem h⟩
theorem bc.Uh {L:Ln} (h:bc L) {c:Cf} (hc:c∈L.cs):yD c.w L.t=Vi c.cur:=by
 unfold yD
 rw [Ve.mpr λl hl=>decide_eq_true (h.le c hc l hl)]
 exact (Cf.ji (h.ne c hc)).1
theorem bc.there {L:Ln} (h:bc L) {c:Cf} (hc:c∈L.cs) (hg:c.g=none):there c.w c.g L.t=true:=by
 obtain ⟨l,ls,e⟩:=VH (h.ne c hc)
 have:=h.le c hc l (by rw [e];simp)
 rw [hg,e]
 unfold Ov.there
 simp only [Wu,Q9,VB]
 rw [decide_eq_false (Rat.not_lt.mpr this)];rfl
theorem Ln.d9 {L:Ln} {c:Cf}:c∈L.Eu↔c∈L.cs∧c.g=none:=by
 unfold Ln.Eu
 rw [UE]
 cases c.g <;> simp
theorem fC (L:Ln):L.fs.map (·.1)=L.Eu.map Cf.n:=by unfold Ln.fs;rw [UC];rfl
theorem bc.ME {L:Ln} (h:bc L):(L.fs.map (·.1)).Nodup:=by
 rw [fC]
 unfold Ln.Eu
 exact h.nd.sublist (List.Sublist.map _ V9)
theorem bc.found {L:Ln} (h:bc L) {n:Str} (hn:n∈L.row):∃c∈L.cs,c.n=n∧c.g=none:=by
 have:=(h.rm n).mp hn
 rw [fC,Uv] at this
 obtain ⟨c,hc,e⟩:=this
 exact ⟨c,(Ln.d9.mp hc).1,e,(Ln.d9.mp hc).2⟩
theorem bc.va {L:Ln} (h:bc L) {c:Cf} (hc:c∈L.cs):mC (L.cs.map λc=>(c.n,PV.ref c.a)) c.n=Vi (.ref c.a):=by
 have e:(L.cs.map λc=>(c.n,PV.ref c.a))=((L.cs.map λc=>(c.n,c.a)).map λx=>(x.1,PV.ref x.2)):=by rw [UC];rfl
 rw [e]
 exact jX (f:=PV.ref) (by rw [UC];exact h.nd) (Uv.mpr ⟨c,hc,rfl⟩)
theorem bc.T7 {L:Ln} (h:bc L) {n:Str}:(mC (L.cs.map λc=>(c.n,PV.ref c.a)) n).isSome=decide (n∈L.cs.map Cf.n):=by
 have e:(L.cs.map λc=>(c.n,PV.ref c.a))=((L.cs.map λc=>(c.n,c.a)).map λx=>(x.1,PV.ref x.2)):=by rw [UC];rfl
 rw [e,EJ (f:=PV.ref) (by rw [UC];exact h.nd)]
 rw [UC];rfl
theorem bc.uniq {L:Ln} (h:bc L) {c c':Cf} (hc:c∈L.cs) (hc':c'∈L.cs) (e:c.n=c'.n):c=c':=by
 obtain ⟨i,hi,rfl⟩:=U4 hc
 obtain ⟨j,hj,rfl⟩:=U4 hc'
 have:=(Vt (xs:=L.cs.map Cf.n) (i:=i) (j:=j) (h₀:=by simpa using hi) (h₁:=by simpa using hj) h.nd).mp (by rw [Vm,Vm];exact e)
 subst this;rfl
theorem rZ (a b c:PV):([("now",a),("logs",b),("row",c)]:List (Str × PV)).lookup ("now":Str)=Vi a:=rfl
theorem um (a b c:PV):([("now",a),("logs",b),("row",c)]:List (Str × PV)).lookup ("logs":Str)=Vi b:=rfl
theorem r8 (a b c:PV):([("now",a),("logs",b),("row",c)]:List (Str × PV)).lookup ("row":Str)=Vi c:=rfl
theorem fo (m:Str) (a b c:PV) (h:(m == ("now":Str))=false:=by decide +kernel) (k:(m == ("logs":Str))=false:=by decide +kernel) (l:(m == ("row":Str))=false:=by decide +kernel):([("now",a),("logs",b),("row",c)]:List (Str × PV)).lookup m=none:=by
 rw [U1,h];simp only;rw [U1,k];simp only;rw [U1,l];rfl
theorem K9:(("now":Str)=("logs":Str))=False:=eq_false (by decide +kernel)
theorem K_:(("now":Str)=("row":Str))=False:=eq_false (by decide +kernel)
theorem K8:(("logs":Str)=("row":Str))=False:=eq_false (by decide +kernel)
theorem Cs (a b c z:PV):kY ("row":Str) z ([("now",a),("logs",b),("row",c)]:List (Str × PV))=([("now",a),("logs",b),("row",z)]:List (Str × PV)):=by simp only [kY,K_,K8,if_false,if_true]
theorem NX {J:Hq} {a:Addr} {xs:List PV} (h:J a=Vi (.lst xs)):Ox J (.ref a)=Vi xs:=by unfold Ox;simp only [h]
abbrev fU:Stmt:=(L2.inClass (top 44) 0)
abbrev fv:List Str:=["self"]
theorem pK:L2.aw ["self"] ["self"] (L2.aj fU):=dH
def xN (cN cL:Addr):cA:=λxs J Q _=>∃p,xs=[.ref p]∧J p=some (.ins cN [])∧∀J' d e o,aY cN cL J' p ⟨0,d,e,o,[],[]⟩→Mv J J' (λa=>a=p) (Ln.own ⟨0,d,e,o,[],[]⟩ p)→Q .non J'
theorem wx {cN cL f:Addr} {fd:FuncData} (F:cb K "__init__" "Lane.__init__" fU f fd) (N:rG K mg) (ay:dW K mg "Lane" cN) (aB:aH K cN "now") (aF:aH K cN "logs") (aD:aH K cN "row"):aQ P w K mg base (cP P w) 1 f fd fv (dn K (xN cN cL)):=by
 simp_arith [pK]
 ·obtain ⟨p,rfl,_⟩:=h;rfl
 obtain ⟨p,rfl,hp,q⟩:=h
 obtain ⟨aN,gN,sN⟩:=N
 have rN:∀(J:Hq) (H:Hp),cE K J H (fr 0) (.ref aN):=λJ H=>⟨aN,_,rfl,sN H,⟨_,_,rfl,rfl,_,_,rfl,rfl,rfl⟩⟩
 refine ⟨_,(ai (eD ay.cl aB (rv 0) (f' (v:=.ref aN) (fr 0) rfl gN rfl rN))
   (ai (eD ay.cl aF (rv 0) w_)
   (aq (eD ay.cl aD (rv 0) (mV ah))))),?_⟩
 simp_all! [hp]
 refine ⟨by decide,?_⟩
 simp_all! []
 intro d hd ep
 have Jj:d≠p:=by intro e;subst e;rw [ar] at hd;cases hd
 simp_all! [ak (Ne.symm Jj),ar]
 simp only [K9,if_false]
 refine ⟨by decide,?_⟩
 simp_all! []
 intro o ho
 have jd:J d=none:=by rw [ak Jj] at hd;exact hd
 have Jl:o≠p:=by intro e;subst e;rw [ar] at ho;cases ho
 have nod:o≠d:=by intro e;subst e;rw [ak Jl,ar] at ho;cases ho
 have jo:J o=none:=by rw [ak Jl,ak nod,ak Jl] at ho;exact ho
 refine fN (by rw [ak (Ne.symm Jl)];exact ar) ⟨by show (2:Nat) < 1000;decide,?_⟩
 have pr:kY ("row":Str) (PV.ref o) ([("now",fr 0),("logs",.ref d)]:List (Str × PV))=([("now",fr 0),("logs",.ref d),("row",.ref o)]:List (Str × PV)):=by simp only [kY,K_,K8,if_false]
 rw [pr]
 refine q _ d ep o ⟨ar,by rw [ak Jj,ak (Ne.symm nod),ak Jj];exact ar,by rw [ak Jl];exact ar,(by simp),(by simp),(by simp)⟩ ⟨λa u e na=>?_,λa ow=>?_,λa z=>?_⟩
 ·have na1:a≠d:=λz=>by subst z;rw [jd] at e;cases e
  have na2:a≠o:=λz=>by subst z;rw [jo] at e;cases e
  rw [ak na,ak na2,ak na,ak na1,ak na];exact e
 ·rcases ow with rfl | rfl | rfl | ⟨c,hc,_⟩
  ·exact .inl rfl
  ·exact .inr jd
  ·exact .inr jo
  ·cases hc
 ·by_cases z1:a=p
  ·subst z1;rw [ar] at z;cases z
  by_cases z2:a=o
  ·subst z2;exact jo
  by_cases z3:a=d
  ·subst z3;exact jd
  rw [ak z1,ak z2,ak z1,ak z3,ak z1] at z;exact z
abbrev dG:Stmt:=(L2.inClass (top 44) 22)
abbrev cy:List Str:=["self","name"]
theorem j9:L2.aw ["self","name"] ["self","name"] (L2.aj dG):=dH
def q9 (cN cL eC:Addr):cA:=λxs J Q E=>∃p L n,xs=[.ref p,.str n]∧aY cN cL J p L∧(n∈L.row→Q .non J)∧(n ∉ L.row→E eC J)
theorem j8 {cN cL eC f:Addr} {fd:FuncData} (F:cb K "must_be_there" "Lane.must_be_there" dG f fd) (Z:bQ mg) (ay:dW K mg "Lane" cN) (aD:aH K cN "row") (gf:Own K mg "NoCraft" eC):aQ P w K mg base (cP P w) 1 f fd cy (dn K (q9 cN cL eC)):=by
 simp_arith [j9,(aq (aX (aL Co (rv 1) (aT ay.cl aD (rv 0))) (aq (d6 gf rfl cK B.kn rfl (af bR ah))) aK))]
 ·obtain ⟨p,L,n,rfl,_⟩:=h;rfl
 obtain ⟨p,L,n,rfl,b,q,qe⟩:=h
 have bo:=b.ob
 refine hX ?_
 simp_all! [bo,r8,PZ,NX b.rw]
 refine ⟨L.row,rfl,?_⟩
 by_cases c:n∈L.row
 ·rw [if_pos (by simp [c])]
  exact q c
 ·rw [if_neg (by simp [c])]
  simp_all! [fS]
  exact qe c
abbrev iy:Stmt:=(L2.inClass (top 44) 23)
abbrev eY:List Str:=["self","name"]
theorem sV:L2.aw ["self","name"] ["self","name"] (L2.aj iy):=dH
def oH (cN cL eC:Addr):cA:=λxs J Q E=>∃p L n,xs=[.ref p,.str n]∧aY cN cL J p L∧bc L∧(∀c∈L.cs,c.n=n→c.g=none→Q c.cur.V J)∧(n ∉ L.row→E eC J)
theorem sf {cN cL eC eN f:Addr} {fd:FuncData} (F:cb K "leg_of" "Lane.leg_of" iy f fd) (Z:bQ mg) (ay:dW K mg "Lane" cN) (aF:aH K cN "logs") (aB:aH K cN "now") (ba:cI P w K mg base cN 1 "must_be_there" cy (q9 cN cL eC)) (jv:cI P w K mg base cL 3 "leg_at" ml (zr cL eN)) :
  aQ P w K mg base (cP P w) 4 f fd eY (dn K (oH cN cL eC)):=by
 simp_arith [sV,(ai (bt (bK (pl:=_) ba B hr (rv 0) (af (rv 1) ah)))
   (aq (aA (bK (pl:=_) jv B hr (au dC (aT ay.cl aF (rv 0)) (rv 1)) (af (aT ay.cl aB (rv 0)) ah)))))]
 ·obtain ⟨p,L,n,rfl,_⟩:=h;rfl
 obtain ⟨p,L,n,rfl,b,ok,q,qe⟩:=h
 have bo:=b.ob
 have bd:=b.dc
 refine hX ?_
 simp_all! [bo]
 refine ⟨fo _ _ _ _,p,L,n,rfl,b,λhn=>?_,qe⟩
 obtain ⟨c,hc,rfl,hg⟩:=ok.found hn
 have lo:=(b.lg c hc).o
 simp_all! [bo,um,bd,ok.va hc,lo]
 refine ⟨Se _ _,?_⟩
 simp_all! [bo,rZ]
 refine ⟨c.a,c.r,c.w,c.g,L.t,rfl,b.lg c hc,ok.ne c hc,UM (ok.len c hc) (by decide),ok.N4,λl hl=>(ok.ck c hc l hl).Po,λq' hq=>(Cg (ok.gz c hc q' hq).1).mono (by decide),λ_ l hl=>?_,λz=>?_⟩
 ·rw [ok.Uh hc] at hl;cases hl
  exact q c hc rfl hg
 ·rw [ok.there hc hg] at z;cases z
abbrev fB:Stmt:=(L2.inClass (top 44) 24)
abbrev dD:List Str:=["self"]
theorem sX:L2.aw ["self"] ["self"] (L2.aj fB):=dH
theorem GI {L:Ln} (ok:bc L) {f:Str→aW} (hf:∀c∈L.cs,c.g=none→f c.n=c.cur):cX L.t (L.row.map λn=>(n,f n))=cX L.t L.fs:=by
 refine yZ (by rw [UC];show (L.row.map λn=>n).Nodup;rw [Wv];exact ok.rn) ok.ME λx=>?_
 rw [Uv,Uv]
 constructor
 ·rintro ⟨y,hy,rfl⟩
  obtain ⟨n,hn,rfl⟩:=Uv.mp hy
  obtain ⟨c,hc,rfl,hg⟩:=ok.found hn
  exact ⟨(c.n,c.cur),Uv.mpr ⟨c,Ln.d9.mpr ⟨hc,hg⟩,rfl⟩,by rw [hf c hc hg]⟩
 ·rintro ⟨y,hy,rfl⟩
  obtain ⟨c,hc,rfl⟩:=Uv.mp hy
  obtain ⟨hc,hg⟩:=Ln.d9.mp hc
  refine ⟨(c.n,f c.n),Uv.mpr ⟨c.n,(ok.rm c.n).mpr ?_,rfl⟩,by rw [hf c hc hg]⟩
  rw [fC];exact Uv.mpr ⟨c,Ln.d9.mpr ⟨hc,hg⟩,rfl⟩
def Ln.wm (L:Ln) (n:Str):aW:=((L.cs.find? λc=>decide (c.n=n)).map Cf.cur).getD ⟨0,0,0⟩
theorem bc.wm {L:Ln} (ok:bc L) {c:Cf} (hc:c∈L.cs):L.wm c.n=c.cur:=by
 unfold Ln.wm
 cases h:L.cs.find? λd=>decide (d.n=c.n) with
 | none=>have:=WD.mp h c hc;simp at this
 | some d =>
  have h1:=Wc h
  have h2:d.n=c.n:=by simpa using WT h
  rw [ok.uniq h1 hc h2];rfl
def i_ (cN cL:Addr):cA:=λxs J Q E=>∃p L,xs=[.ref p]∧aY cN cL J p L∧bc L∧∀J' o',aY cN cL J' p { L with o:=o',row:=cX L.t L.fs }→Mv J J' (L.own p) (Ln.own { L with o:=o',row:=cX L.t L.fs } p)→Q .non J'
theorem si {cN cL eC f:Addr} {fd:FuncData} (F:cb K "settle" "Lane.settle" fB f fd) (Z:bQ mg) (ay:dW K mg "Lane" cN) (aD:aH K cN "row") (aB:aH K cN "now") (bP:cI P w K mg base cN 4 "leg_of" eY (oH cN cL eC)) (zS:bz P w K mg base 6 "in_order" qa vq) :
  aQ P w K mg base (cP P w) 7 f fd dD (dn K (i_ cN cL)):=by
 simp_arith [sX,(aq (eD ay.cl aD (rv 0) (aO zS B hr (af (LD (L2.aj fB) ["self"] [("self",0)] rfl rfl rfl (dQ (aT ay.cl aD (rv 0))) (λ_ _ _ _ _ _=>(rv 0)) (λ_ _ _ _ _ _=>(bK (pl:=_) bP Fx hr (rv 1) (af (rv 0) ah)))) (af (aT ay.cl aB (rv 0)) ah)))))]
 ·obtain ⟨p,L,rfl,_⟩:=h;rfl
 obtain ⟨p,L,rfl,b,ok,q⟩:=h
 have bo:=b.ob
 have br:=b.rw
 refine hX ?_
 simp_all! [Ri,bo,r8,br]
 intro D hD ep
 have bf:∀e2 kvs,aY cN cL (put J D (.dct kvs e2)) p L:=λe2 kvs=>b.fresh hD
 have hrl:=ok.rl
 refine ⟨λi J2=>∃e2,J2=put J D (.dct (bY ((L.row.take i).map λn=>(n,L.wm n))) e2),⟨ep,rfl⟩,?_,?_,?_⟩
 ·rintro i J2 ⟨e2,rfl⟩;exact (bf e2 _).rw
 ·rintro i x J2 hx ⟨e2,rfl⟩
  have hi:i < L.row.length:=by have:=(Uu.mp hx).1;simpa using this
  rw [Uz,Ut hi] at hx
  cases hx
  have hn:L.row[i]∈L.row:=U9 hi
  refine fN (bf e2 _).ob ⟨fo _ _ _ _,p,L,L.row[i],rfl,bf e2 _,ok,λc hc e hg=>?_,λz=>absurd hn z⟩
  refine ⟨_,e2,L.row[i],rfl,ar,bp (by simp only [bY,Us,UR];omega),λep'=>⟨ep',?_⟩⟩
  rw [d_]
  congr 2
  have et:L.row.take (i + 1)=L.row.take i ++ [L.row[i]]:=by rw [U0,Ut hi];rfl
  rw [et,UA,UB,Vo,← e,ok.wm hc]
  refine Be (f:=aW.V) (l:=c.cur) λz=>?_
  rw [UC] at z
  obtain ⟨m,hm,e3⟩:=Uv.mp z
  have hnd:(L.row.take (i + 1)).Nodup:=ok.rn.sublist (VA _ _)
  rw [et] at hnd
  exact (gC hnd).2 (by rw [← e,← e3];exact hm)
 ·rintro J2 ⟨e2,rfl⟩
  rw [Us,UY]
  refine fN (bf e2 _).ob (fP (rZ _ _ _) ⟨D,_,e2,L.t,rfl,ar,?_,by rw [Us];omega,ok.N4,?_,λo' ho'=>?_⟩)
  ·rw [UC];show (L.row.map λn=>n).Nodup;rw [Wv];exact ok.rn
  ·intro x hx
   obtain ⟨n,hn,rfl⟩:=Uv.mp hx
   obtain ⟨c,hc,rfl,hg⟩:=ok.found hn
   show qk 900 (L.wm c.n)
   rw [ok.wm hc]
   exact (ok.ck c hc _ (Cf.ji (ok.ne c hc)).2).Po
  ·rw [GI ok λc hc _=>ok.wm hc]
   have b2:aY cN cL (put (put J D (.dct (bY (L.row.map λn=>(n,L.wm n))) e2)) o' (.lst ((cX L.t L.fs).map .str))) p L:=(bf e2 _).fresh ho'
   have jo:J o'=none:=by
    by_cases z:o'=D
    ·subst z;exact hD
    ·rw [ak z] at ho';exact ho'
   refine fN b2.ob ⟨by show (3:Nat) < 1000;decide,?_⟩
   rw [Cs]
   refine q _ o' (b2.NT ar λc hc e=>?_) ?_
   ·have:=(b.lg c hc).l;rw [e,jo] at this;cases this
   ·refine ((Mv.new hD).trans (Mv.uo ho')).trans (gB (.inl (.inl rfl)) λa ow=>.inl ?_)
    rcases ow with h | h | h | h
    ·exact .inl (.inl h)
    ·exact .inl (.inr (.inl h))
    ·exact .inr h
    ·exact .inl (.inr (.inr (.inr h)))
abbrev g_:Stmt:=(top 35)
abbrev f7:List Str:=["text"]
theorem xy:L2.aw ["text"] ["text"] (L2.aj g_):=dH
def cJ:Str:="abcdefghijklmnopqrstuvwxyz0123456789"
def good (y:Str):Bool:=decide (1≤y.cps.size) && decide (y.cps.size≤8) && y.cps.toList.all (eG cJ)
def Hm (T:Addr):Sp:=λvs H Q _=>∃y:Str,vs=[.str y]∧y.length≤sizeLine∧H T=some (.ext (eO T))∧Q (.bl (good y)) H
theorem wD {T f c:Addr} {fd:FuncData} (F:Il K mg "good_name" g_ T f fd c) (Z:EL mg) (Bm:BMain mg base) {lY rb:Tok} (iS:mg "LONGEST"=some (.int 8 lY)) (nN:mg "SIGNS"=some (.str "abcdefghijklmnopqrstuvwxyz0123456789" rb)) :
  aQ P w K mg base rh 1 f fd f7 (Hm T):=by
 refine Uk F xy (λvs H Q E h=>?_) (λA outer s H vs Q E hr h=>?_)
 ·obtain ⟨y,rfl,_⟩:=h
  rfl
 obtain ⟨y,rfl,hz,hT,q⟩:=h
 refine ⟨_,(a_ (ot (Lk (Cz (dO Cn (bL nK rfl Z.len boot_len (az (pv 0) bj)) aS (ft _)) (wZ (dO Ld (bL nK rfl Z.len boot_len (az (pv 0) bj)) (du (v:=.int 8) rfl iS ⟨_,rfl⟩) (ft _))))) (bN (dY y6)) f_)
   (bN (dY (GL rfl Bm rfl F.tab hr rfl Z.all nN (pv 0))))),?_⟩
 have el:y.cps.size=y.length:=rfl
 refine ⟨_,rfl,y,rfl,hz,_,_,rfl,rfl,_,rfl,FX (λe=>?_) (λe=>⟨_,rfl,y,rfl,hz,_,_,rfl,rfl,_,rfl,FX (λe2=>?_) (λe2=>?_)⟩)⟩
 ·have e:(y.length:Int) < 1:=of_decide_eq_true e
  have z:good y=false:=by
   unfold good
   rw [decide_eq_false (show ¬ 1≤y.cps.size by omega)]
   rfl
  show Q (.bl false) H
  rw [← z]
  exact q
 ·have e2:(8:Int) < (y.length:Int):=of_decide_eq_true e2
  have z:good y=false:=by
   unfold good
   rw [decide_eq_false (show ¬ y.cps.size≤8 by omega),V3]
   rfl
  show Q (.bl false) H
  rw [← z]
  exact q
 ·have e:¬ (y.length:Int) < 1:=of_decide_eq_false (V0.mpr e)
  have e2:¬ (8:Int) < (y.length:Int):=of_decide_eq_false (V0.mpr e2)
  have z:good y=y.cps.toList.all (eG cJ):=by
   unfold good
   rw [decide_eq_true (show 1≤y.cps.size by omega),decide_eq_true (show y.cps.size≤8 by omega)]
   rfl
  refine ⟨_,rfl,y,rfl,hT,?_⟩
  show Q (.bl (y.cps.toList.all (eG cJ))) H
  rw [← z]
  exact q
def CO (T:Addr):cA:=λxs J Q _=>∃y:Str,xs=[.str y]∧y.length≤sizeLine∧J T=some .tab∧Q (.bl (good y)) J
theorem rY {T:Addr} (C:tL P w K mg base 1 "good_name" f7 (Hm T)):bz P w K mg base 1 "good_name" f7 (CO T):=C.lift λxs J vs H Q2 E2 Q E rs r ⟨y,ex,hl,hT,q⟩ kn=>by
 subst ex
 obtain ⟨v,rfl,r1⟩:=Ng rs
 cases r1
 exact ⟨y,rfl,hl,r _ _ hT,kn (.bl _) J _ H rfl r .refl q⟩
theorem B2 (L:Ln) {L':Ln} {c:Cf} (h:L'.cs=L.cs ++ [c]) (hg:c.g=none):L'.fs=L.fs ++ [(c.n,c.cur)]:=by
 unfold Ln.fs Ln.Eu
 rw [h,VR,UA]
 simp [hg]
def Ln.joined (L:Ln) (n:Str) (x v:Int) (L':Ln):Prop:=∃a r,L'.cs=L.cs ++ [⟨n,a,r,[⟨L.t,(x:Rat),v⟩],none⟩]∧L'.t=L.t
def MI (x v:Int):Prop:=x.natAbs≤1000000∧v.natAbs≤1000
def xO (cN cL T eB eF eT eU:Addr):cA:=λxs J Q E=>∃p L n x v,xs=[.ref p,.str n,.int x,.int v]∧aY cN cL J p L∧b_ L∧J T=some .tab∧n.length≤sizeLine∧L.cs.length < 100∧(good n=false→E eB J)∧(good n=true→¬ MI x v→E eF J) ∧
 (good n=true→MI x v→n∈L.cs.map Cf.n→E eT J)∧(good n=true→MI x v→n ∉ L.cs.map Cf.n→12≤L.row.length→E eU J) ∧
 (good n=true→MI x v→n ∉ L.cs.map Cf.n→L.row.length < 12→∀J' L',aY cN cL J' p L'→b_ L'→L.joined n x v L'→Mv J J' (L.own p) (L'.own p)→Q .non J')
abbrev lh:Stmt:=(L2.inClass (top 44) 1)
abbrev jA:List Str:=["self","name","place","pace"]
theorem xu:L2.aw ["self","name","place","pace"] ["self","name","place","pace"] (L2.aj lh):=dH
theorem aY.add {cN cL:Addr} {J:Hq} {p:Addr} {L:Ln} {c:Cf} {ep:Nat} (h:aY cN cL J p L) (hc:x6 cL J c.a c.r c.w c.g) (h1:c.r ∉ L.cs.map Cf.r) (h2:c.r≠L.o) :
  aY cN cL (put (put J L.d (.dct ((L.cs ++ [c]).map λc=>(c.n,PV.ref c.a)) ep)) L.o (.lst ((L.row ++ [c.n]).map .str))) p ⟨L.t,L.d,ep,L.o,L.cs ++ [c],L.row ++ [c.n]⟩:=by
 have n1:c.a≠L.d:=by intro e;have:=h.dc;rw [← e,hc.o] at this;cases this
 have n2:c.a≠L.o:=by intro e;have:=h.rw;rw [← e,hc.o] at this;cases this
 have n3:c.r≠L.d:=by intro e;have:=h.dc;rw [← e,hc.l] at this;cases this
 refine ⟨?_,?_,ar,λx hx=>?_,?_,λx hx=>?_⟩
 ·rw [ak (Ne.symm h.Jl),ak (Ne.symm h.Jj)];exact h.ob
 ·show put (put J L.d _) L.o _ L.d=_
  rw [ak h.Sk];exact ar
 ·rcases UD.mp hx with hx | hx
  ·exact ⟨by rw [ak (h.Sj hx),ak (h.TN hx)];exact (h.lg x hx).o,by rw [ak (h.ao x hx),ak (h.TQ hx)];exact (h.lg x hx).l⟩
  ·rw [UH] at hx;subst hx
   exact ⟨by rw [ak n2,ak n1];exact hc.o,by rw [ak h2,ak n3];exact hc.l⟩
 ·show ((L.cs ++ [c]).map Cf.r).Nodup
  rw [UA,UB,Vo,Vp]
  exact ⟨h.ap,by simp,λx hx y hy e=>by rw [UH] at hy;subst hy;subst e;exact h1 hx⟩
 ·show x.r≠L.o
  rcases UD.mp hx with hx | hx
  ·exact h.ao x hx
  ·rw [UH] at hx;subst hx;exact h2
theorem bc.add {L:Ln} (h:bc L) {c:Cf} {l:aW} {ep:Nat} (hw:c.w=[l]) (hg:c.g=none) (hl:tP l) (hm:l.m=L.t) (hn:c.n ∉ L.cs.map Cf.n) (hr:L.row.length < 12) (hs:L.cs.length < 100):bc ⟨L.t,L.d,ep,L.o,L.cs ++ [c],L.row ++ [c.n]⟩:=by
 have hf:Ln.fs ⟨L.t,L.d,ep,L.o,L.cs ++ [c],L.row ++ [c.n]⟩=L.fs ++ [(c.n,c.cur)]:=B2 L rfl hg
 have all:∀{P:Cf→Prop},(∀x∈L.cs,P x)→P c→∀x∈L.cs ++ [c],P x:=λh1 h2 x hx=>by
  rcases UD.mp hx with hx | hx
  ·exact h1 x hx
  ·rw [UH] at hx;subst hx;exact h2
 refine ⟨?_,all h.ne (by rw [hw];simp),all h.le (by rw [hw];simp [hm]),all h.ck (by rw [hw];simpa using hl),all h.len (by rw [hw];show (1:Nat)≤200;decide),all h.gz (by rw [hg];intro q e;cases e),h.t0,h.ts,by show (L.cs ++ [c]).length≤100;rw [UP];simp;omega,λn=>?_,?_,by show (L.row ++ [c.n]).length≤12;rw [UP];simp;omega⟩
 ·show ((L.cs ++ [c]).map Cf.n).Nodup
  rw [UA,UB,Vo,Vp]
  exact ⟨h.nd,by simp,λx hx y hy e=>by rw [UH] at hy;subst hy;subst e;exact hn hx⟩
 ·rw [hf,UA,UD,UD,h.rm n];simp
 ·show (L.row ++ [c.n]).Nodup
  rw [Vp]
  refine ⟨h.rn,by simp,λx hx y hy e=>?_⟩
  rw [UH] at hy
  rw [e,hy] at hx
  have:=(h.rm _).mp hx
  rw [fC,Uv] at this
  obtain ⟨d,hd,e⟩:=this
  exact hn (Uv.mpr ⟨d,(Ln.d9.mp hd).1,e⟩)
theorem b_.settled {L:Ln} (h:bc L) (o':Addr):b_ { L with o:=o',row:=cX L.t L.fs }:=by
 have hl:(cX L.t L.fs).length≤12:=by
  have h1:(cX L.t L.fs).Perm L.row:=(List.perm_ext_iff_of_nodup (sk h.ME) h.rn).mpr λn=>by rw [y4];exact (h.rm n).symm
  rw [h1.length_eq];exact h.rl
 exact ⟨⟨h.nd,h.ne,h.le,h.ck,h.len,h.gz,h.t0,h.ts,h.many,λn=>y4,sk h.ME,hl⟩,rfl⟩
theorem wy {cN cL T eB eF eT eU f:Addr} {fd:FuncData} (F:cb K "join" "Lane.join" lh f fd) (Z:bQ mg) (ay:dW K mg "Lane" cN) (aD:aH K cN "row") (aB:aH K cN "now") (aF:aH K cN "logs") {jV gj xT:Tok} (gx:mg "FARTHEST"=some (.int 1000000 jV)) (eI:mg "FASTEST"=some (.int 1000 gj)) (rR:mg "MOST"=some (.int 12 xT))
  (oV:Own K mg "BadName" eB) (iJ:Own K mg "TooFar" eF) (vU:Own K mg "Taken" eT) (Ag:Own K mg "Full" eU) (j_:bz P w K mg base 1 "good_name" f7 (CO T)) (uQ:vT P w K mg base cL 1 "Log" fQ (xJ cL)) (bE:cI P w K mg base cN 7 "settle" dD (i_ cN cL)) :
  aQ P w K mg base (cP P w) 8 f fd jA (dn K (xO cN cL T eB eF eT eU)):=by
 simp_arith [xu,(ai (aX (bS (bA (aO j_ B hr (af (rv 1) ah)))) (aq (d6 oV rfl cK B.kn rfl (af bR ah))) aK)
   (ai (aX (di (fY (aL n8 (aI Au rfl Z.abs boot_abs (af (rv 2) ah)) (f' (v:=.int 1000000) (.int 1000000) rfl gx ⟨_,rfl⟩ (λ_ _=>rfl))) (fe (aL n8 (aI Au rfl Z.abs boot_abs (af (rv 3) ah)) (f' (v:=.int 1000) (.int 1000) rfl eI ⟨_,rfl⟩ (λ_ _=>rfl)))))) (aq (d6 iJ rfl cK B.kn rfl (af bR ah))) aK)
   (ai (aX (aL Nl (rv 1) (aT ay.cl aF (rv 0))) (aq (d6 vU rfl cK B.kn rfl (af bR ah))) aK)
   (ai (aX (aL GH (aI bO rfl Z.len boot_len (af (aT ay.cl aD (rv 0)) ah)) (f' (v:=.int 12) (.int 12) rfl rR ⟨_,rfl⟩ (λ_ _=>rfl))) (aq (d6 Ag rfl cK B.kn rfl (af bR ah))) aK)
   (ai (xh q_ (aT ay.cl aF (rv 0)) (rv 1) (CG uQ B hr (af (aT ay.cl aB (rv 0)) (af (cu (af (rv 2) (af ag ah))) (af (rv 3) ah)))))
   (ai (bt (my PySem.F.plainAttrs_list PySem.F.slot_list_append PySem.F.type_list_append lO (aT ay.cl aD (rv 0)) (af (rv 1) ah)))
   (aq (bt (cW (pl:=_) bE B hr (rv 0))))))))))]
 ·obtain ⟨p,L,n,x,v,rfl,_⟩:=h;rfl
 obtain ⟨p,L,n,x,v,rfl,b,ok,hT,hnl,hcs,qb,qf,qt,qu,q⟩:=h
 have bo:=b.ob
 have bd:=b.dc
 have br:=b.rw
 refine hX ?_
 simp_all! []
 refine ⟨n,rfl,hnl,hT,?_⟩
 cases hg:good n with
 | false =>
  simp_all! [fS]
  exact qb hg
 | true =>
 simp_all! []
 by_cases hB:MI x v
 ·obtain ⟨hx,hv⟩:=id hB
  rw [if_neg (by split <;> omega),if_neg (by split <;> omega)]
  simp_all! [bo,um,bd,ok.T7]
  by_cases hm:n∈L.cs.map Cf.n
  ·rw [if_pos hm]
   simp_all! [fS]
   exact qt hg hB hm
  rw [if_neg hm]
  simp_all! [bo,r8,br,Us]
  by_cases hr12:12≤L.row.length
  ·rw [if_pos (by omega)]
   simp_all! [fS]
   exact qu hg hB hm hr12
  rw [if_neg (by omega)]
  simp_all! [bo,rZ]
  intro a ha
  refine ⟨a,⟨L.t,(x:Rat),v⟩,rfl,ar,λr hr'=>?_⟩
  have nra:r≠a:=by intro e;subst e;rw [ar] at hr';cases hr'
  have jr:J r=none:=by rw [ak nra] at hr';exact hr'
  have b1:aY cN cL (put (put (put J a (.ins cL [])) r (.lst [(aW.mk L.t (x:Rat) v).V])) a (.ins cL [("rows",.ref r),("gone",.non)])) p L:=b.keep λc u ow e=>by
   have n1:c≠a:=λz=>by subst z;rw [ha] at e;cases e
   have n2:c≠r:=λz=>by subst z;rw [jr] at e;cases e
   rw [ak n1,ak n2,ak n1];exact e
  have l1:x6 cL (put (put (put J a (.ins cL [])) r (.lst [(aW.mk L.t (x:Rat) v).V])) a (.ins cL [("rows",.ref r),("gone",.non)])) a r [⟨L.t,(x:Rat),v⟩] none:=⟨ar,by rw [ak nra];exact ar⟩
  have mv1:Mv J (put (put (put J a (.ins cL [])) r (.lst [(aW.mk L.t (x:Rat) v).V])) a (.ins cL [("rows",.ref r),("gone",.non)])) (L.own p) (λc=>(L.own p c∨c=a)∨c=r) :=
   ((Mv.uo ha).trans (Mv.uo hr')).trans (gB (.inl (.inr rfl)) λc h=>.inl h)
  generalize (put (put (put J a (.ins cL [])) r (.lst [(aW.mk L.t (x:Rat) v).V])) a (.ins cL [("rows",.ref r),("gone",.non)]))=J1 at b1 l1 mv1 ⊢
  have bo1:=b1.ob
  have bd1:=b1.dc
  simp_all! [bo1,um,bd1]
  refine ⟨bp (by rw [Us];omega),λep'=>?_⟩
  have epu:tN (L.cs.map λc=>(c.n,PV.ref c.a)) n (PV.ref a)=(L.cs ++ [Cf.mk n a r [⟨L.t,(x:Rat),v⟩] none]).map λc=>(c.n,PV.ref c.a):=by
   have e:(L.cs.map λc=>(c.n,PV.ref c.a))=((L.cs.map λc=>(c.n,c.a)).map λx=>(x.1,PV.ref x.2)):=by rw [UC];rfl
   rw [e,Be (f:=PV.ref) (l:=a) (by rw [UC];exact hm),UA,UA,UC];rfl
  rw [epu]
  have hrs:r ∉ L.cs.map Cf.r:=λh=>by
   obtain ⟨c,hc,e⟩:=Uv.mp h
   have:=(b.lg c hc).l;rw [e,jr] at this;cases this
  have hro:r≠L.o:=λe=>by have:=b.rw;rw [← e,jr] at this;cases this
  have b2:=b1.add (c:=Cf.mk n a r [⟨L.t,(x:Rat),v⟩] none) (ep:=ep') l1 hrs hro
  have ok2:bc ⟨L.t,L.d,ep',L.o,L.cs ++ [Cf.mk n a r [⟨L.t,(x:Rat),v⟩] none],L.row ++ [n]⟩:=ok.tobc.add (c:=Cf.mk n a r [⟨L.t,(x:Rat),v⟩] none) rfl rfl (tP.new ok.t0 ok.ts hx hv) rfl hm (by omega) hcs
  have bo2:(put J1 L.d (HQ.dct ((L.cs ++ [Cf.mk n a r [⟨L.t,(x:Rat),v⟩] none]).map λc=>(c.n,PV.ref c.a)) ep')) p=some (.ins cN [("now",fr L.t),("logs",.ref L.d),("row",.ref L.o)]):=by rw [ak (Ne.symm b1.Jj)];exact b1.ob
  have br2:(put J1 L.d (HQ.dct ((L.cs ++ [Cf.mk n a r [⟨L.t,(x:Rat),v⟩] none]).map λc=>(c.n,PV.ref c.a)) ep')) L.o=some (.lst (L.row.map .str)):=by rw [ak (Ne.symm b1.Sk)];exact b1.rw
  have mv2:Mv J1 (put (put J1 L.d (HQ.dct ((L.cs ++ [Cf.mk n a r [⟨L.t,(x:Rat),v⟩] none]).map λc=>(c.n,PV.ref c.a)) ep')) L.o (.lst ((L.row ++ [n]).map .str))) (λc=>(L.own p c∨c=a)∨c=r) (Ln.own ⟨L.t,L.d,ep',L.o,L.cs ++ [Cf.mk n a r [⟨L.t,(x:Rat),v⟩] none],L.row ++ [n]⟩ p):=by
   refine (gB (S':=λc=>(L.own p c∨c=a)∨c=r) (.inl (.inl (.inr (.inl rfl)))) λc h=>.inl h).trans (gB (.inl (.inl (.inr (.inr (.inl rfl))))) λc h=>.inl ?_)
   rcases h with h | h | h | ⟨d,hd,h⟩
   ·exact .inl (.inl (.inl h))
   ·exact .inl (.inl (.inr (.inl h)))
   ·exact .inl (.inl (.inr (.inr (.inl h))))
   ·rcases UD.mp hd with hd | hd
    ·exact .inl (.inl (.inr (.inr (.inr ⟨d,hd,h⟩))))
    ·rw [UH] at hd;subst hd
     rcases h with h | h
     ·exact .inl (.inr h)
     ·exact .inr h
  have mv3:=mv1.trans mv2
  simp_all! [bo2,r8,br2]
  refine ⟨bp (by rw [Us];omega),?_⟩
  rw [show L.row.map PV.str ++ [PV.str n]=(L.row ++ [n]).map .str by rw [UA];rfl]
  have bo3:=b2.ob
  generalize (put (put J1 L.d (HQ.dct ((L.cs ++ [Cf.mk n a r [⟨L.t,(x:Rat),v⟩] none]).map λc=>(c.n,PV.ref c.a)) ep')) L.o (.lst ((L.row ++ [n]).map .str)))=J2 at b2 mv3 bo3 ⊢
  simp_all! [bo3]
  refine ⟨fo _ _ _ _,p,_,rfl,b2,ok2,λJ' o' b' mv'=>?_⟩
  exact q hg hB hm (by omega) J' _ b' (b_.settled ok2 o') ⟨a,r,rfl,rfl⟩ (mv3.trans mv')
 ·have hf:=qf hg hB
  by_cases h1:x.natAbs≤1000000
  ·have h2:¬ v.natAbs≤1000:=λh=>hB ⟨h1,h⟩
   rw [if_neg (by split <;> omega),if_pos (by split <;> omega)]
   simp_all! [fS]
   exact hf
  ·rw [if_pos (by split <;> omega)]
   simp_all! [fS]
   exact hf
abbrev jM:Stmt:=(L2.inClass (top 44) 7)
abbrev mf:List Str:=["self"]
theorem uI:L2.aw ["self"] ["self"] (L2.aj jM):=dH
def zA (cN cL:Addr):cA:=λxs J Q _=>∃p L,xs=[.ref p]∧aY cN cL J p L∧Q (fr L.t) J
theorem ux {cN cL f:Addr} {fd:FuncData} (F:cb K "clock" "Lane.clock" jM f fd) (Z:bQ mg) (ay:dW K mg "Lane" cN) (aB:aH K cN "now"):aQ P w K mg base (cP P w) 1 f fd mf (dn K (zA cN cL)):=by
 simp_arith [uI,(aq (aA (aT ay.cl aB (rv 0))))]
 ·obtain ⟨p,L,rfl,_⟩:=h;rfl
 obtain ⟨p,L,rfl,b,q⟩:=h
 have bo:=b.ob
 refine hX ?_
 simp_all! [bo,rZ]
 exact q
abbrev jR:Stmt:=(L2.inClass (top 44) 8)
abbrev mj:List Str:=["self"]
theorem uK:L2.aw ["self"] ["self"] (L2.aj jR):=dH
def zD (cN cL:Addr):cA:=λxs J Q _=>∃p L,xs=[.ref p]∧aY cN cL J p L∧(Q (.fl (L.row.map .str)) J∨∀l,J l=none→Q (.ref l) (put J l (.lst (L.row.map .str))))
theorem uB {cN cL f:Addr} {fd:FuncData} (F:cb K "order" "Lane.order" jR f fd) (Z:bQ mg) (ay:dW K mg "Lane" cN) (aD:aH K cN "row"):aQ P w K mg base (cP P w) 1 f fd mj (dn K (zD cN cL)):=by
 simp_arith [uK,(aq (aA (dP iN rfl Z.list boot_list (af (aT ay.cl aD (rv 0)) ah)))),F]
 ·obtain ⟨p,L,rfl,_⟩:=h;rfl
 obtain ⟨p,L,rfl,b,q⟩:=h
 have bo:=b.ob
 have br:=b.rw
 refine hX ?_
 simp_all! [bo,br,r8]
 intro l hl
 rcases q with q | q
 ·exact Fg.qJ (iW hl) ar hl q
 ·exact Fg.same (q l hl)
def aJ.v (b:aJ):PV:=.tup [fr b.m,.str b.h,.str b.f]
theorem FY (J:Hq) (b:aJ):fL J b.v (.int 0)=some (fr b.m):=dU _ _
theorem FZ (J:Hq) (b:aJ):fL J b.v (.int 1)=some (.str b.h):=fW _ _ _
theorem F0 (J:Hq) (b:aJ):fL J b.v (.int 2)=some (.str b.f):=l_ _ _ _ _
theorem S1 (J:Hq) (b:aJ):BE J b.v=some "tuple":=rfl
theorem O8 (J:Hq) (b:aJ):wo J b.v=some 3:=rfl
theorem Lj (b:aJ):mx b.v=true:=by simp [aJ.v,Cy,lT,sF,wW,wX]
theorem RM (b:aJ):HS b.v=True:=eq_true ⟨Lj b,by simp [aJ.v,fr,fR,fG,dep,dI]⟩
theorem RP (a b:aJ):eqQ a.v b.v=decide (a=b):=by
 unfold aJ.v
 rw [v7,d5,d5,d5,qG,BY,eq_str,eq_str,VB,← VF,← VF]
 apply decide_eq_decide.mpr
 cases a;cases b
 simp [aJ.mk.injEq]
theorem LQ (a:Rat) (h f:Str):PV.tup [fr a,.str h,.str f]=(aJ.mk a h f).v:=rfl
theorem Fs (J:Hq) (b:aJ):∃xs,b.v=.tup xs∧¬ (HT.dZ xs.length 0 (some 1)=0∧HT.dZ xs.length xs.length none=xs.length)∧ko xs (some 1) none=[b.h,b.f].map .str:=⟨_,rfl,λh=>absurd h.1 (show HT.dZ 3 0 (some 1)≠0 by decide),rfl⟩
abbrev iF:Stmt:=(top 23)
abbrev kW:List Str:=["one","other"]
theorem sY:L2.aw ["one","other"] ["one","other"] (L2.aj iF):=dH
def xE:cA:=λxs J Q _=>∃a b:aJ,xs=[a.v,b.v]∧Sz 9000 a.m∧Sz 9000 b.m∧Q (.bl (a.lt b)) J
theorem R_ (a b c d:Str):mQ [a,b] [c,d]=if a=c then decide (slt b d) else decide (slt a c):=by
 rw [o_]
 by_cases h:a=c
 ·rw [if_pos h,if_pos h,o_]
  by_cases k:b=d
  ·rw [if_pos k,nX];subst k;exact (decide_eq_false (by unfold slt;exact List.lt_irrefl _)).symm
  ·rw [if_neg k];rfl
 ·rw [if_neg h,if_neg h];rfl
theorem qz {f:Addr} {fd:FuncData} (F:cb K "rings_ahead" "rings_ahead" iF f fd) (Z:bQ mg) (eg:bz P w K mg base 1 "less" f9 dT):aQ P w K mg base (cP P w) 2 f fd kW (dn K xE):=by
 simp_arith [sY,(ai (aX (aL (g6 hr.aV) (au av (rv 0) ag) (au av (rv 1) ag)) (aq (aA (aO eg B hr (af (au av (rv 0) ag) (af (au av (rv 1) ag) ah))))) aK)
   (aq (aA (eZ (Jy hr.N8) (e8 Bz (rv 0) (e_ ag) jI) (e8 Bz (rv 1) (e_ ag) jI)))))]
 ·obtain ⟨a,b,rfl,_⟩:=h;rfl
 obtain ⟨a,b,rfl,sa,sb,q⟩:=h
 refine hX ?_
 simp_arith! [bZ,FY,FZ,F0,dT,Lp]
 unfold aJ.lt at q
 by_cases e:a.m=b.m
 ·rw [if_pos e] at q ⊢
  obtain ⟨xs,h1,h2,h3⟩:=Fs J a
  obtain ⟨ys,h4,h5,h6⟩:=Fs J b
  refine AZ h1 ⟨h2,?_⟩
  refine AZ h4 ⟨h5,?_⟩
  exact ⟨[a.h,a.f],[b.h,b.f],congrArg PV.tup h3,congrArg PV.tup h6,by rw [R_];exact q⟩
 ·rw [if_neg e] at q ⊢
  exact ⟨sa,sb,q⟩
theorem Pk (v:PV):([("rows",v)]:List (Str × PV)).lookup ("rows":Str)=some v:=rfl
theorem MY {m:Str} (v:PV) (h:(m == ("rows":Str))=false):([("rows",v)]:List (Str × PV)).lookup m=none:=by rw [U1,h];rfl
theorem R' (v:PV):([("rows",v)]:List (Str × PV)).lookup ("drop":Str)=none:=MY v (by decide +kernel)
theorem Pl (v:PV):([("rows",v)]:List (Str × PV)).lookup ("put":Str)=none:=MY v (by decide +kernel)
theorem Pm (v:PV):([("rows",v)]:List (Str × PV)).lookup ("told":Str)=none:=MY v (by decide +kernel)
theorem JQ {J:Hq} {r p:Addr} {a b c:HQ} (h:r≠p):put (put (put J r a) p b) r c=put (put J r c) p b:=by
 rw [GZ (Ne.symm h),d_]
structure HX (cB:Addr) (J:Hq) (p r:Addr) (rows:List aJ):Prop where
 o:J p=some (.ins cB [("rows",.ref r)])
 l:J r=some (.lst (rows.map aJ.v))
abbrev fw:Stmt:=(L2.inClass (top 24) 0)
abbrev eX:List Str:=["self"]
theorem oA:L2.aw ["self"] ["self"] (L2.aj fw):=dH
def xF (cB:Addr):cA:=λxs J Q _=>∃p,xs=[.ref p]∧J p=some (.ins cB [])∧∀r,J r=none→Q .non (put (put J r (.lst [])) p (.ins cB [("rows",.ref r)]))
theorem ur {cB f:Addr} {fd:FuncData} (F:cb K "__init__" "Bells.__init__" fw f fd) (bM:dW K mg "Bells" cB) (aZ:aH K cB "rows"):aQ P w K mg base (cP P w) 1 f fd eX (dn K (xF cB)):=by
 simp_arith [oA,(aq (eD bM.cl aZ (rv 0) (mV ah)))]
 ·obtain ⟨p,rfl,_⟩:=h;rfl
 obtain ⟨p,rfl,hp,q⟩:=h
 refine hX ?_
 simp_arith! [bZ]
 intro r hr'
 have ne:p≠r:=by intro e;subst e;rw [hp] at hr';cases hr'
 exact fN (x:=[]) (by rw [ak ne];exact hp) ⟨by decide,q r hr'⟩
abbrev gd:Stmt:=(L2.inClass (top 24) 2)
abbrev ma:List Str:=["self","hind","fore"]
theorem iG:L2.aw ["self","hind","fore","kept","found"] ["self","hind","fore"] (L2.aj gd):=dH
def CJ (cB:Addr):cA:=λxs J Q _=>∃p r rows h f,xs=[.ref p,.str h,.str f]∧HX cB J p r rows∧rows.length≤900∧∀r',J r'=none→Q (.bl (decide ((dg h f rows).length < rows.length))) (put (put J r' (.lst ((dg h f rows).map aJ.v))) p (.ins cB [("rows",.ref r')]))
def tail3:PV→PV
 | .tup xs=>.tup (ko xs (some 1) none)
 | _=>.non
def Cc (h f:Str) (x:PV):Bool:=!eqQ (tail3 x) (.tup [.str h,.str f])
theorem MN (h f:Str) (b:aJ):Cc h f b.v=!vp h f b:=by
 show (!eqQ (.tup [.str b.h,.str b.f]) (.tup [.str h,.str f]))=_
 rw [v7,d5,d5,qG,eq_str,eq_str,VB,← VF]
 rfl
theorem FA (h f:Str):∀rows:List aJ,((rows.map aJ.v).filter (Cc h f)).map (λx=>x)=(dg h f rows).map aJ.v
 | []=>rfl
 | b :: rows=>by
  have ih:=FA h f rows
  unfold dg at ih ⊢
  rw [UB,U2,U2,MN]
  cases vp h f b <;> simp at ih ⊢ <;> exact ih
theorem uq {cB f:Addr} {fd:FuncData} (F:cb K "drop" "Bells.drop" gd f fd) (Z:bQ mg) (bM:dW K mg "Bells" cB) (aZ:aH K cB "rows"):aQ P w K mg base (cP P w) 1 f fd ma (dn K (CJ cB)):=by
 simp_arith [iG,(ai (Ka (i:=3) (L2.aj gd) ["self","hind","fore","kept","found"] [("hind",1),("fore",2)] rfl rfl rfl iG.nd rfl (Or.inl rfl) (dQ (aT bM.cl aZ (rv 0))) (λ_ _ _ _ _ _=>(rv 0)) (λ_ _ _ _ _ _=>(aL (g6 hr.aV) (e8 Bz (rv 0) (e_ ag) jI) (cu (af (rv 1) (af (rv 2) ah))))))
   (ai (aE (i:=4) iG.nd (eZ gZ (aI bO rfl Z.len boot_len (af (rv 3) ah)) (aI bO rfl Z.len boot_len (af (aT bM.cl aZ (rv 0)) ah))))
   (ai (eD bM.cl aZ (rv 0) (rv 3))
   (aq (aA (rv 4))))))]
 ·obtain ⟨p,r,rows,h,f,rfl,_⟩:=h;rfl
 obtain ⟨p,r,rows,h,f,rfl,b,hl,q⟩:=h
 have bo:=b.o
 have bl:=b.l
 refine hX ?_
 simp_arith! [bZ,NG,bo,bl,Pk]
 refine ⟨Cc h f,λx=>x,⟨by rw [Us];exact bp (by omega),λJ' sub=>⟨sub _ _ bl,λx hx=>?_⟩⟩,λr' hr'=>?_⟩
 ·obtain ⟨b,_,rfl⟩:=Uv.mp hx
  obtain ⟨xs,h1,h2,h3⟩:=Fs J' b
  have hk:Cc h f b.v=!eqQ (.tup (ko xs (some 1) none)) (.tup [.str h,.str f]):=by rw [h1];rfl
  simp_arith! [bZ]
  refine ⟨AZ h1 ⟨h2,?_⟩,λ_=>trivial⟩
  simp_arith! [bZ]
  rw [hk,h3]
  refine ⟨⟨by simp [mx,i8],by simp [fR,fG,dep,dI]⟩,by simp [mx,i8],rfl⟩
 ·have ne:p≠r':=by intro e;subst e;rw [bo] at hr';cases hr'
  have nr:r≠r':=by intro e;subst e;rw [bl] at hr';cases hr'
  simp_arith! [bZ,ak ne,ak nr,bo,bl,Pk,FA,Us,Int.ofNat_lt]
  exact ⟨by decide,q r' hr'⟩
abbrev k_:Stmt:=(L2.inClass (top 24) 1)
abbrev jz:List Str:=["self","moment","hind","fore"]
theorem dR:L2.aw ["self","moment","hind","fore","bell","low","high","middle"] ["self","moment","hind","fore"] (L2.aj k_):=dH
def Bw (cB:Addr):cA:=λxs J Q _=>∃p r rows m h f,xs=[.ref p,fr m,.str h,.str f]∧HX cB J p r rows∧je rows∧rows.length≤800∧Sz 9000 m∧(∀x∈rows,Sz 9000 x.m) ∧
 ∀r',J r'=none→Q .non (put (put J r' (.lst ((j7 ⟨m,h,f⟩ (dg h f rows)).map aJ.v))) p (.ins cB [("rows",.ref r')]))
theorem KP (a b:Nat):((a:Int) + (b:Int)).fdiv 2=(((a + b) / 2:Nat):Int):=by rw [Int.fdiv_eq_ediv_of_nonneg _ (by decide)];omega
theorem Tv (a:Int):CQ a 2=True:=eq_true ⟨by decide,Bd.mono (Bd.small (by decide) (by decide)) (by decide)⟩
theorem Fl {rows:List aJ} {i:Nat} {b:aJ} (h:rows[i]?=some b):dk (rows.map aJ.v) (i:Int)=some b.v:=bq (by rw [Uz,h];rfl)
theorem wu {cB f:Addr} {fd:FuncData} (F:cb K "put" "Bells.put" k_ f fd) (Z:bQ mg) (bM:dW K mg "Bells" cB) (aZ:aH K cB "rows") (jj:cI P w K mg base cB 1 "drop" ma (CJ cB))
  (tS:bz P w K mg base 2 "rings_ahead" kW xE):aQ P w K mg base (cP P w) 3 f fd jz (dn K (Bw cB)):=by
 simp_arith [dR,(ai (bt (bK (pl:=_) jj B hr (rv 0) (af (rv 2) (af (rv 3) ah))))
   (ai (aE (i:=4) dR.nd (cu (af (rv 1) (af (rv 2) (af (rv 3) ah)))))
   (ai (NN (i:=5) (j:=6) rfl dR.nd rfl rfl (by decide) rfl rfl (af ag (af (aI bO rfl Z.len boot_len (af (aT bM.cl aZ (rv 0)) ah)) ah)) rfl)
   (ai (k9 b7 (aL gZ (rv 5) (rv 6)) (ai (aE (i:=7) dR.nd (aR qO (aR cS (rv 5) (rv 6)) ag))
   (aq (aX (bA (aO tS B hr (af (au av (aT bM.cl aZ (rv 0)) (rv 7)) (af (rv 4) ah)))) (aq (aE (i:=5) dR.nd (aR cS (rv 7) ag))) (aq (aE (i:=6) dR.nd (rv 7)))))))
   (aq (bt (my PySem.F.plainAttrs_list PySem.F.slot_list_insert PySem.F.type_list_insert lP (aT bM.cl aZ (rv 0)) (af (rv 5) (af (rv 4) ah)))))))))]
 ·obtain ⟨p,r,rows,m,h,f,rfl,_⟩:=h;rfl
 obtain ⟨p,r,rows,m,h,f,rfl,b,srt,hl,sm,sr,q⟩:=h
 have bo:=b.o
 refine hX ?_
 simp_arith! [bZ,bo,R']
 refine ⟨p,r,rows,h,f,rfl,b,by omega,λr' hr'=>?_⟩
 have Oo:r'≠p:=by intro e;subst e;rw [bo] at hr';cases hr'
 have b1:HX cB (put (put J r' (.lst ((dg h f rows).map aJ.v))) p (.ins cB [("rows",.ref r')])) p r' (dg h f rows):=⟨ar,by rw [ak Oo];exact ar⟩
 have kl:(dg h f rows).length≤800:=UM (oY _ _ _) hl
 have ks:je (dg h f rows):=uX srt
 have kz:∀x∈dg h f rows,Sz 9000 x.m:=λx hx=>sr x (UE.mp hx).1
 have q:=q r' hr'
 generalize hJ:put (put J r' (.lst ((dg h f rows).map aJ.v))) p (.ins cB [("rows",.ref r')])=J1 at b1 ⊢
 have hq:put J1 r' (.lst ((j7 ⟨m,h,f⟩ (dg h f rows)).map aJ.v))=put (put J r' (.lst ((j7 ⟨m,h,f⟩ (dg h f rows)).map aJ.v))) p (.ins cB [("rows",.ref r')]):=by rw [← hJ,JQ Oo]
 rw [← hq] at q
 clear hq hJ hr'
 have bo:=b1.o
 have bl:=b1.l
 generalize dg h f rows=ks' at *
 simp_arith! [bZ,bo,bl,Pk,LQ,Us]
 refine ⟨λk τ J'=>∃(lo hi:Nat) (u:Option PV),τ=[some (.ref p),some (fr m),some (.str h),some (.str f),some (aJ.mk m h f).v,some (.int lo),some (.int hi),u]∧J'=J1∧k=hi - lo∧lo≤hi∧hi≤ks'.length ∧
  (∀(j:Nat) x,j < lo→ks'[j]?=some x→x.lt ⟨m,h,f⟩=true)∧(∀(j:Nat) x,hi≤j→ks'[j]?=some x→x.lt ⟨m,h,f⟩=false),⟨_,0,ks'.length,none,rfl,rfl,rfl,UZ _,Ux _,λj x hj=>absurd hj (V7 _),λj x hj e=>by rw [U6 hj] at e;cases e⟩,?_⟩
 rintro k τ J' ⟨lo,hi,u,rfl,rfl,rfl,h1,h2,hlo,hhi⟩
 simp_arith! [bZ,bo,bl,Pk,Tv,KP,Int.ofNat_lt,xE]
 by_cases hlt:lo < hi
 ·rw [if_pos hlt]
  have hm:(lo + hi) / 2 < ks'.length:=by omega
  obtain ⟨x,hx⟩:∃x,ks'[(lo + hi) / 2]?=some x:=⟨_,Ut hm⟩
  obtain ⟨N,hN⟩:∃N:Sr→Hq→Prop,∀τ' J'',N τ' J''↔∃(lo' hi':Nat) (u:Option PV),τ'=[some (.ref p),some (fr m),some (.str h),some (.str f),some (aJ.mk m h f).v,some (.int lo'),some (.int hi'),u]∧J''=J'∧lo'≤hi'∧hi'≤ks'.length∧hi' - lo' < hi - lo ∧
   (∀(j:Nat) x,j < lo'→ks'[j]?=some x→x.lt ⟨m,h,f⟩=true)∧(∀(j:Nat) x,hi'≤j→ks'[j]?=some x→x.lt ⟨m,h,f⟩=false):=⟨_,λ_ _=>Iff.rfl⟩
  refine ⟨N,λτ' J'' hn=>by obtain ⟨lo',hi',u,e1,e2,e3,e4,e5,e6,e7⟩:=(hN _ _).mp hn;exact ⟨_,e5,lo',hi',u,e1,e2,rfl,e3,e4,e6,e7⟩,fP (Fl hx) ⟨x,⟨m,h,f⟩,rfl,kz x (Uw hx),sm,?_⟩⟩
  simp_arith! [bZ,Tv,KP,Int.ofNat_lt]
  cases hc:x.lt ⟨m,h,f⟩ with
  | true =>
   rw [if_pos rfl]
   exact (hN _ _).mpr ⟨(lo + hi) / 2 + 1,hi,_,rfl,rfl,by omega,h2,by omega,λj y hj e=>C4 ks hx e (by omega) hc,hhi⟩
  | false =>
   rw [if_neg UJ]
   exact (hN _ _).mpr ⟨lo,(lo + hi) / 2,_,rfl,rfl,by omega,by omega,by omega,hlo,λj y hj e=>zI ks hx e hj hc⟩
 ·rw [if_neg hlt]
  have e:lo=hi:=by omega
  subst e
  refine ⟨_,lo,rfl,rfl,by rw [Us];exact h2,by rw [Us];exact bp (by omega),Vk h2 (Vk kl (by decide)),?_⟩
  rw [← B9 h2 hlo hhi,UA,UB,Vw,VX] at q
  exact q
abbrev jJ:Stmt:=(L2.inClass (top 24) 5)
abbrev ik:List Str:=["self"]
theorem uH:L2.aw ["self"] ["self"] (L2.aj jJ):=dH
def xG (cB:Addr):cA:=λxs J Q _=>∃p r rows,xs=[.ref p]∧HX cB J p r rows∧(Q (.fl (rows.map aJ.v)) J∨∀l,J l=none→Q (.ref l) (put J l (.lst (rows.map aJ.v))))
theorem uu {cB f:Addr} {fd:FuncData} (F:cb K "told" "Bells.told" jJ f fd) (Z:bQ mg) (bM:dW K mg "Bells" cB) (aZ:aH K cB "rows"):aQ P w K mg base (cP P w) 1 f fd ik (dn K (xG cB)):=by
 simp_arith [uH,(aq (aA (dP iN rfl Z.list boot_list (af (aT bM.cl aZ (rv 0)) ah)))),F]
 ·obtain ⟨p,r,rows,rfl,_⟩:=h;rfl
 obtain ⟨p,r,rows,rfl,b,q⟩:=h
 have bo:=b.o
 have bl:=b.l
 refine hX ?_
 simp_arith! [bZ,bo,bl,Pk]
 intro l hl
 rcases q with q | q
 ·exact Fg.qJ (iW hl) ar hl q
 ·exact Fg.same (q l hl)
def CL:cA:=λxs J Q _=>∃t b:Int,xs=[.int t,.int b]∧b≠0∧Bd 9000 b∧Q (fr (Rat.divInt t b)) J
theorem uk (C:tL P w K mg base 2 "fraction" dF gP):bz P w K mg base 2 "fraction" dF CL:=C.lift λxs J vs H Q2 E2 Q E rs r ⟨t,b,ex,h0,h1,q⟩ kn=>by
 subst ex
 obtain ⟨v,u,rfl,r1,r2⟩:=jW rs
 cases r1;cases r2
 exact ⟨t,b,rfl,h0,h1,xf r kn q⟩
theorem yH (l l':aW) (h:l.v≠l'.v):Rat.divInt ((l'.at 0 - l.at 0).num) (((l'.at 0 - l.at 0).den:Int) * (l.v - l'.v))=n6 l l':=by
 rw [ND _ _ (by omega)];rfl
abbrev pH:Stmt:=(top 28)
abbrev sE:List Str:=["one","other"]
theorem nj:L2.aw ["one","other","gain","gap"] ["one","other"] (L2.aj pH):=dH
def CU:cA:=λxs J Q _=>∃l l':aW,xs=[l.V,l'.V]∧qk 900 l∧qk 900 l'∧(l.v=l'.v→Q .non J)∧(l.v≠l'.v→Q (fr (n6 l l')) J)
theorem yS {f:Addr} {fd:FuncData} (F:cb K "meeting" "meeting" pH f fd) (Z:bQ mg) (N:rG K mg) (eh:bz P w K mg base 4 "place_on" g8 qh) (nB:bz P w K mg base 3 "minus" kU (Bv λp q=>p - q)) (b9:bz P w K mg base 2 "fraction" dF CL) :
  aQ P w K mg base (cP P w) 5 f fd sE (dn K CU):=by
 obtain ⟨aN,gN,sN⟩:=N
 have rN:∀(J:Hq) (H:Hp),cE K J H (fr 0) (.ref aN):=λJ H=>⟨aN,_,rfl,sN H,⟨_,_,rfl,rfl,_,_,rfl,rfl,rfl⟩⟩
 simp_arith [nj,(ai (aE (i:=2) nj.nd (aR eW (au av (rv 0) ag) (au av (rv 1) ag)))
   (ai (aX (aL (cT hr.aV) (rv 2) ag) (aq (aA mY)) aK)
   (ai (aE (i:=3) nj.nd (aO nB B hr (af (aO eh B hr (af (rv 1) (af (f' (v:=.ref aN) (fr 0) rfl gN rfl rN) ah))) (af (aO eh B hr (af (rv 0) (af (f' (v:=.ref aN) (fr 0) rfl gN rfl rN) ah))) ah))))
   (aq (aA (aO b9 B hr (af (au av (rv 3) ag) (af (aR cF (au av (rv 3) ag) (rv 2)) ah))))))))]
 ·obtain ⟨l,l',rfl,_⟩:=h;rfl
 obtain ⟨l,l',rfl,sl,sl',q0,q1⟩:=h
 refine hX ?_
 have z1:Sz 900 (0:Rat):=⟨⟨by decide⟩,⟨by decide⟩⟩
 have s3:=km sl z1
 have s3':=km sl' z1
 have s4:Sz 6001 (l'.at 0 - l.at 0):=s3'.sub s3
 have bg:Bd 65 (l.v - l'.v):=sl.v.sub sl'.v
 simp_all! [kC]
 split
 ·rename_i e;simp_all! [];exact q0 (by omega)
 rename_i e
 have hv:l.v≠l'.v:=by omega
 simp_all! []
 refine ⟨l',0,rfl,sl'.m,sl'.p,z1,sl'.v,l,0,rfl,sl.m,sl.p,z1,sl.v,l'.at 0,l.at 0,rfl,s3'.mono (by decide),s3.mono (by decide),?_⟩
 simp_all! []
 refine ⟨.of s4.den bg,_,_,rfl,Int.mul_ne_zero (fm _) e,(Bd.mul s4.den bg (k:=6100)).mono (by decide),?_⟩
 rw [yH l l' hv]
 exact q1 hv
theorem yI {l l':aW} (sl:qk 900 l) (sl':qk 900 l') (h:l.v≠l'.v):Sz 8000 (n6 l l'):=by
 rw [← yH l l' h]
 have z1:Sz 900 (0:Rat):=⟨⟨by decide⟩,⟨by decide⟩⟩
 have s4:Sz 6001 (l'.at 0 - l.at 0):=(km sl' z1).sub (km sl z1)
 have bg:Bd 65 (l.v - l'.v):=sl.v.sub sl'.v
 exact Sz.div (s4.num.mono (by decide)) ((Bd.mul s4.den bg (k:=6100)).mono (by decide)) (Int.mul_ne_zero (fm _) (by omega))
theorem bc.Ra {L:Ln} (h:bc L) {c:Cf} (hc:c∈L.cs):qk 900 c.cur:=(h.ck c hc _ (Cf.ji (h.ne c hc)).2).Po
abbrev jQ:Stmt:=(L2.inClass (top 44) 13)
abbrev il:List Str:=["self","name","other"]
theorem mB:L2.aw ["self","name","other","met"] ["self","name","other"] (L2.aj jQ):=dH
def tq (cN cL eC:Addr):cA:=λxs J Q E=>∃p L n n',xs=[.ref p,.str n,.str n']∧aY cN cL J p L∧bc L∧(∀c∈L.cs,∀c'∈L.cs,c.n=n→c'.n=n'→c.g=none→c'.g=none→Q (gv (Jd L.t c.cur c'.cur)) J)∧(n ∉ L.row∨n' ∉ L.row→E eC J)
theorem uA {cN cL eC f:Addr} {fd:FuncData} (F:cb K "meets" "Lane.meets" jQ f fd) (Z:bQ mg) (ay:dW K mg "Lane" cN) (aB:aH K cN "now") (bP:cI P w K mg base cN 4 "leg_of" eY (oH cN cL eC)) (Dl:bz P w K mg base 5 "meeting" sE CU) (eg:bz P w K mg base 1 "less" f9 dT):aQ P w K mg base (cP P w) 6 f fd il (dn K (tq cN cL eC)):=by
 simp_arith [mB,(ai (aE (i:=3) mB.nd (aO Dl B hr (af (bK (pl:=_) bP B hr (rv 0) (af (rv 1) ah)) (af (bK (pl:=_) bP B hr (rv 0) (af (rv 2) ah)) ah))))
   (aq (aA (Qt (di (fT (aL sj (rv 3) mY) (fb (bA (aO eg B hr (af (aT ay.cl aB (rv 0)) (af (rv 3) ah))))))) (rv 3) mY))))]
 ·obtain ⟨p,L,n,n',rfl,_⟩:=h;rfl
 obtain ⟨p,L,n,n',rfl,b,ok,q,qe⟩:=h
 have bo:=b.ob
 refine hX ?_
 simp_all! [bo]
 refine ⟨fo _ _ _ _,p,L,n,rfl,b,ok,λc hc e hg=>?_,λz=>qe (.inl z)⟩
 simp_all! [bo]
 refine ⟨fo _ _ _ _,p,L,n',rfl,b,ok,λc' hc' e' hg'=>?_,λz=>qe (.inr z)⟩
 have q:=q c hc c' hc' e e' hg hg'
 have sl:=ok.Ra hc
 have sl':=ok.Ra hc'
 unfold Jd at q
 refine ⟨c.cur,c'.cur,rfl,sl,sl',λhv=>?_,λhv=>?_⟩
 ·rw [if_neg (λz=>z.1 hv)] at q
  simp_all! []
  exact q
 ·simp_all! [rW,bo,rZ,dT]
  refine ⟨ok.N4.mono (by decide),(yI sl sl' hv).mono (by decide),?_⟩
  split
  ·rename_i c1
   rw [if_pos ⟨hv,c1⟩] at q
   simp_all! []
   exact q
  ·rename_i c1
   rw [if_neg (λz=>c1 z.2)] at q
   exact q
theorem Up (A:Nat):Sc ib A 0:=⟨0,by rw [Rat.zero_mul];rfl,UZ _⟩
theorem aY.Gn {cN cL:Addr} {J:Hq} {p T:Addr} {L:Ln} (h:aY cN cL J p L) (hT:J T=Vi .tab):¬ L.own p T:=by
 rintro (rfl | rfl | rfl | ⟨c,hc,rfl | rfl⟩)
 ·rw [h.ob] at hT;cases hT
 ·rw [h.dc] at hT;cases hT
 ·rw [h.rw] at hT;cases hT
 ·rw [(h.lg c hc).o] at hT;cases hT
 ·rw [(h.lg c hc).l] at hT;cases hT
theorem OV {L:Ln} {n:Str} {l:aW} (h:(n,l)∈L.fs):∃c∈L.cs,c.n=n∧c.g=none∧c.cur=l:=by
 obtain ⟨c,hc,e⟩:=Uv.mp h
 have:=Ln.d9.mp hc
 cases e
 exact ⟨c,this.1,rfl,this.2,rfl⟩
def pR:cA:=λxs J Q _=>∃a b:Int,xs=[.int a,.int b]∧Q (.int (Int.gcd a b:Nat)) J
theorem yF (C:tL P w K mg base 1 "shared" i7 tD):bz P w K mg base 1 "shared" i7 pR:=C.lift λxs J vs H Q2 E2 Q E rs r ⟨a,b,ex,q⟩ kn=>by
 subst ex
 obtain ⟨v,u,rfl,r1,r2⟩:=jW rs
 cases r1;cases r2
 exact ⟨a,b,rfl,kn (.int _) J _ H rfl r .refl q⟩
abbrev ff:Stmt:=(top 20)
abbrev gI:List Str:=["pair"]
theorem m_:L2.aw ["pair"] ["pair"] (L2.aj ff):=dH
def zw:cA:=λxs J Q _=>∃a b:Int,xs=[.tup [.int a,.int b]]∧Q (.bl (decide (1≤b∧Int.gcd a b=1))) J
theorem l6 {f:Addr} {fd:FuncData} (F:cb K "in_lowest_terms" "in_lowest_terms" ff f fd) (Z:bQ mg) (iI:bz P w K mg base 1 "shared" i7 pR):aQ P w K mg base (cP P w) 2 f fd gI (dn K zw):=by
 simp_arith [m_,(aq (aA (Bi (eZ GH (au av (rv 0) ag) ag) (xa (eZ (cT hr.aV) (aO iI B hr (af (au av (rv 0) ag) (af (au av (rv 0) ag) ah))) ag)))))]
 ·obtain ⟨a,b,rfl,_⟩:=h;rfl
 obtain ⟨a,b,rfl,q⟩:=h
 refine hX ?_
 simp_all! []
 by_cases c:1≤b
 ·simp only [c,decide_true,true_and,if_true] at q ⊢
  simp_all! [pR]
  have:decide (((Int.gcd a b:Nat):Int)=1)=decide (Int.gcd a b=1):=decide_eq_decide.mpr (by omega)
  rw [this];exact q
 ·simp only [c,decide_false,false_and] at q ⊢
  rw [if_neg (λz=>z)]
  exact q
abbrev iB:Stmt:=(top 42)
abbrev kS:List Str:=["moment"]
theorem gL:L2.aw ["moment","top","bottom"] ["moment"] (L2.aj iB):=dH
def iT (a b:Int):Bool:=decide (b≤60∧1≤b∧Int.gcd a b=1∧0≤a∧a≤1000000 * b)
def CN:cA:=λxs J Q _=>∃a b:Int,xs=[.tup [.int a,.int b]]∧Q (.bl (iT a b)) J
theorem qx {f:Addr} {fd:FuncData} (F:cb K "good_moment" "good_moment" iB f fd) (Z:bQ mg) {oJ oK:Tok} (kA:mg "FINEST"=some (.int 60 oJ)) (kB:mg "LATEST"=some (.int 1000000 oK)) (nA:bz P w K mg base 2 "in_lowest_terms" gI zw):aQ P w K mg base (cP P w) 3 f fd kS (dn K CN):=by
 simp_arith [gL,(ai (sL (rv 0) (pE (n:=2) rfl (cx (bC (i:=1) gL.nd) (cx (bC (i:=2) gL.nd) lU))))
   (ai (aX (di (fY (aL n8 (rv 2) (f' (v:=.int 60) (.int 60) rfl kA ⟨_,rfl⟩ (λ_ _=>rfl))) (fe (bS (bA (aO nA B hr (af (rv 0) ah))))))) (aq (aA dh)) aK)
   (aq (aA (Hc Lg Lg ag (rv 1) (aR cF (f' (v:=.int 1000000) (.int 1000000) rfl kB ⟨_,rfl⟩ (λ_ _=>rfl)) (rv 2)))))))]
 ·obtain ⟨a,b,rfl,_⟩:=h;rfl
 obtain ⟨a,b,rfl,q⟩:=h
 refine hX ?_
 unfold iT at q
 simp_all! []
 simp_all! []
 by_cases c1:60 < b
 ·rw [if_pos c1]
  rw [decide_eq_false (λz=>by omega)] at q
  exact q
 rw [if_neg c1]
 simp_all! []
 refine ⟨a,b,rfl,?_⟩
 by_cases c2:1≤b∧Int.gcd a b=1
 ·rw [decide_eq_true c2]
  simp_all! [w8]
  by_cases c3:0≤a
  ·simp only [c3,decide_true,if_true]
   refine ⟨.of (.small (x:=1000000) (by decide) (by decide)) (.small (x:=b) (by omega) (by omega)),?_⟩
   have:decide (a≤1000000 * b)=decide (b≤60∧1≤b∧Int.gcd a b=1∧0≤a∧a≤1000000 * b):=decide_eq_decide.mpr ⟨λz=>⟨by omega,c2.1,c2.2,c3,z⟩,λz=>z.2.2.2.2⟩
   rw [this];exact q
  ·rw [decide_eq_false (λz=>c3 z.2.2.2.1)] at q
   simp only [c3,decide_false]
   rw [if_neg (λz=>z)]
   exact q
 ·rw [decide_eq_false c2]
  rw [decide_eq_false (λz=>c2 ⟨z.2.1,z.2.2.1⟩)] at q
  simp_all! []
  exact q
theorem aY.less {cN cL:Addr} {J J':Hq} {p:Addr} {L:Ln} (h:aY cN cL J p L) (l:oS J J'):aY cN cL J' p L:=h.keep λa o _ e=>by
 rcases l a with z | z
 ·rw [← z];exact e
 ·rw [z] at e;cases e
theorem o9 {J J':Hq} {p r:Addr} {x y:HQ} (l:oS J J') (hp:J p=none) (hr:J' r=none):oS J (put (put J' r x) p y):=λa=>by
 by_cases e:a=p
 ·exact .inr (by rw [e];exact hp)
 by_cases e2:a=r
 ·rcases l a with z | z
  ·right;rw [z,e2];exact hr
  ·exact .inr z
 ·rw [ak e,ak e2];exact l a
theorem vg {J:Hq} {p r:Addr} {x y z:HQ} (hp:J p=none) (hr:put J p x r=none):oS J (put (put (put J p x) r y) p z):=o9 (iW hp) hp hr
theorem yr (xs:List PV) (k:Nat) (h:k≤xs.length):ko xs (some (k:Int)) none=xs.drop k:=by
 unfold ko HT.dZ
 simp only [Int.toNat_natCast]
 rw [if_neg (by omega),WU h]
 rw [Vr (by rw [Vu];exact Ux _)]
theorem b_.keys {L:Ln} (ok:b_ L):L.row.map PV.str=(cG (L.fs.map (key L.t))).map λk=>PV.str k.n:=by rw [ok.row];unfold cX;rw [UC];rfl
theorem we {L:Ln} (ok:bc L) {a:Ky} (ha:a∈cG (L.fs.map (key L.t))) {c:Cf} (hc:c∈L.cs) (hg:c.g=none) (e:c.n=a.n):a=key L.t (c.n,c.cur):=by
 obtain ⟨x,hx,rfl⟩:=Uv.mp ((bD _ _).mp ha)
 obtain ⟨c0,hc0,h1,h2,h3⟩:=OV (n:=x.1) (l:=x.2) hx
 have:c0=c:=ok.uniq hc0 hc (h1.trans e.symm)
 subst this
 show key L.t (x.1,x.2)=_
 rw [← h3,← h1]
theorem lV {L:Ln} (ok:b_ L) {a:Ky} (ha:a∈cG (L.fs.map (key L.t))):a.n∈L.row:=by
 rw [ok.row];unfold cX;exact Uv.mpr ⟨a,ha,rfl⟩
theorem nZ {L:Ln} (ok:b_ L) {a b:Ky} (ha:a∈cG (L.fs.map (key L.t))) (hb:b∈cG (L.fs.map (key L.t))) (h:b.v < a.v):Sz 9000 (eS L.t a b):=by
 obtain ⟨c,hc,hcn,hcg⟩:=ok.found (lV ok ha)
 obtain ⟨c',hc',hcn',hcg'⟩:=ok.found (lV ok hb)
 have ea:=we ok.tobc ha hc hcg hcn
 have eb:=we ok.tobc hb hc' hcg' hcn'
 have hv:c.cur.v≠c'.cur.v:=by rw [ea,eb] at h;exact λz=>by have:c'.cur.v < c.cur.v:=h;omega
 rw [ea,eb,← qM hv]
 exact (yI (ok.Ra hc) (ok.Ra hc') hv).mono (by decide)
theorem b_.knd {L:Ln} (ok:b_ L):((L.fs.map (key L.t)).map Ky.n).Nodup:=by rw [dj];exact ok.ME
theorem b_.O6 {L:Ln} (ok:b_ L):(cG (L.fs.map (key L.t))).length≤12:=by
 have h1:=ok.rl
 have h2:=congrArg Vl ok.keys
 rw [Us,Us] at h2
 omega
theorem yJ {L:Ln} (ok:b_ L) {i j:Nat} {a b:Ky} (ha:(cG (L.fs.map (key L.t)))[i]?=some a) (hb:(cG (L.fs.map (key L.t)))[j]?=some b) (hij:i < j) {c c':Cf} (hc:c∈L.cs) (hc':c'∈L.cs) (hg:c.g=none) (hg':c'.g=none) (e:c.n=a.n) (e':c'.n=b.n) :
  Jd L.t c.cur c'.cur=if b.v < a.v∧a.p < b.p then some (eS L.t a b) else none:=by
 have ea:=we ok.tobc (Uw ha) hc hg e
 have eb:=we ok.tobc (Uw hb) hc' hg' e'
 have hlt:a.lt b=true:=by
  obtain ⟨hil,ei⟩:=Uu.mp ha
  obtain ⟨hjl,ej⟩:=Uu.mp hb
  have:=Vd.mp (cU ok.knd) i j hil hjl hij
  rw [ei,ej] at this;exact this
 rw [ea,eb] at hlt ⊢
 have key:=Je hlt
 unfold Jd
 by_cases z:c.cur.v≠c'.cur.v∧L.t < n6 c.cur c'.cur
 ·rw [if_pos z,if_pos (show (Ov.key L.t (c'.n,c'.cur)).v < (Ov.key L.t (c.n,c.cur)).v∧(Ov.key L.t (c.n,c.cur)).p < (Ov.key L.t (c'.n,c'.cur)).p from key.mp z),qM z.1]
 ·rw [if_neg z,if_neg (show ¬ ((Ov.key L.t (c'.n,c'.cur)).v < (Ov.key L.t (c.n,c.cur)).v∧(Ov.key L.t (c.n,c.cur)).p < (Ov.key L.t (c'.n,c'.cur)).p) from λy=>z (key.mpr y))]
theorem J_ {L:Ln} (ok:b_ L) {i j:Nat} {a b:Ky} (ha:(cG (L.fs.map (key L.t)))[i]?=some a) (hb:(cG (L.fs.map (key L.t)))[j]?=some b) (hij:i < j) (h:b.v < a.v):a.p < b.p:=by
 obtain ⟨hil,ei⟩:=Uu.mp ha
 obtain ⟨hjl,ej⟩:=Uu.mp hb
 have:=Vd.mp (cU ok.knd) i j hil hjl hij
 rw [ei,ej,Ky.lt_iff] at this
 rcases this with z | ⟨_,z | ⟨z,_⟩⟩
 ·exact z
 ·omega
 ·omega
abbrev fV:Stmt:=(L2.inClass (top 44) 6)
abbrev i5:List Str:=["self","moment"]
theorem cm:L2.aw ["self","moment","passings","at","hind","fore","met"] ["self","moment"] (L2.aj fV):=dH
theorem DV {J J':Hq} {l:Addr} {o:HQ} (h:oS J J'):oS (put J l o) (put J' l o):=λa=>by
 by_cases e:a=l
 ·subst e;rw [ar,ar];exact .inl rfl
 ·rw [ak e,ak e];exact h a
def CV (cN cL eM eP:Addr):cA:=λxs J Q E=>∃p L a b,xs=[.ref p,.tup [.int a,.int b]]∧aY cN cL J p L∧b_ L∧(iT a b=false→E eM J)∧(∀m:Rat,m.num=a→(m.den:Int)=b→iT a b=true→(m < L.t→E eP J)∧(L.t≤m→Q (.fl ((p8 L.t (L.fs.map (key L.t)) m).map aJ.v)) J∨∀l,J l=none→Q (.ref l) (put J l (.lst ((p8 L.t (L.fs.map (key L.t)) m).map aJ.v)))))
theorem pe {cN cL cB eM eP eC f:Addr} {fd:FuncData} (F:cb K "foretold" "Lane.foretold" fV f fd) (Z:bQ mg) (ay:dW K mg "Lane" cN) (aB:aH K cN "now") (aD:aH K cN "row") (kb:Own K mg "BadMoment" eM) (Ah:Own K mg "Past" eP) (tQ:bz P w K mg base 3 "good_moment" kS CN) (eg:bz P w K mg base 1 "less" f9 dT) (lG:vT P w K mg base cB 1 "Bells" eX (xF cB)) (dN:cI P w K mg base cN 6 "meets" il (tq cN cL eC)) (eJ:cI P w K mg base cB 3 "put" jz (Bw cB)) (dM:cI P w K mg base cB 1 "told" ik (xG cB)):aQ P w K mg base (cP P w) 7 f fd i5 (dn K (CV cN cL eM eP)):=by
 simp_arith [cm,(ai (aX (bS (bA (aO tQ B hr (af (rv 1) ah)))) (aq (d6 kb rfl cK B.kn rfl (af bR ah))) aK)
   (ai (aX (bA (aO eg B hr (af (rv 1) (af (aT ay.cl aB (rv 0)) ah)))) (aq (d6 Ah rfl cK B.kn rfl (af bR ah))) aK)
   (ai (aE (i:=2) cm.nd (k6 lG B hr))
   (ai (eE b7 rfl (JZ rfl Z.enumerate (af (aT ay.cl aD (rv 0)) ah)) (pE (n:=2) rfl (cx (bC (i:=3) cm.nd) (cx (bC (i:=4) cm.nd) lU))) (aq (eE b7 rfl (dQ (e8 vA (aT ay.cl aD (rv 0)) (e_ (aR cS (rv 3) ag)) jI)) (bC (i:=5) cm.nd) (ai (aE (i:=6) cm.nd (bK (pl:=_) dN B hr (rv 0) (af (rv 4) (af (rv 5) ah))))
   (aq (aX (di (fT (aL sj (rv 6) mY) (fb (bS (bA (aO eg B hr (af (rv 1) (af (rv 6) ah)))))))) (aq (bt (bK (pl:=_) eJ B hr (rv 2) (af (rv 6) (af (rv 4) (af (rv 5) ah)))))) aK))))))
   (aq (aA (cW (pl:=_) dM B hr (rv 2)))))))),F]
 ·obtain ⟨p,L,a,b,rfl,_⟩:=h;rfl
 obtain ⟨p,L,a,bb,rfl,b,ok,qe,q⟩:=h
 have bo:=b.ob
 refine hX ?_
 simp_all! []
 refine ⟨a,bb,rfl,?_⟩
 cases hg:iT a bb with
 | false =>
  simp_all! [fS]
  exact qe hg
 | true =>
  have hgm:=of_decide_eq_true hg
  obtain ⟨m,hm1,hm2⟩:∃m:Rat,m.num=a∧(m.den:Int)=bb:=⟨⟨a,bb.toNat,by omega,by
   have:=hgm.2.2.1
   unfold Int.gcd at this
   show Nat.gcd a.natAbs bb.toNat=1
   rw [show bb.toNat=bb.natAbs by omega];exact this⟩,rfl,by show ((bb.toNat:Nat):Int)=bb;omega⟩
  obtain ⟨q1,q2⟩:=q m hm1 hm2 hg
  have ef:PV.tup [.int a,.int bb]=fr m:=by rw [← hm1,← hm2];rfl
  have sm:Sz 900 m:=⟨(Bd.small (x:=m.num) (by omega) (by omega)).mono (by decide),(Bd.small (x:=(m.den:Int)) (by omega) (by omega)).mono (by decide)⟩
  simp_all! [bo,rZ,ef]
  refine ⟨_,_,rfl,sm.mono (by decide),ok.N4.mono (by decide),?_⟩
  by_cases c1:m < L.t
  ·rw [decide_eq_true c1]
   simp_all! [fS]
   exact q1 c1
  rw [decide_eq_false c1]
  have q:=q2 (by grind)
  simp_all! []
  intro pb hpb
  refine ⟨pb,rfl,ar,λr0 hr0=>⟨rfl,?_⟩⟩
  have l0:=vg (y:=.lst []) (z:=.ins cB [("rows",.ref r0)]) hpb hr0
  have nr0:r0≠pb:=by intro e;subst e;rw [ar] at hr0;cases hr0
  have b0:HX cB (put (put (put J pb (.ins cB [])) r0 (.lst [])) pb (.ins cB [("rows",.ref r0)])) pb r0 []:=⟨ar,by rw [ak nr0];exact ar⟩
  generalize put (put (put J pb (.ins cB [])) r0 (.lst [])) pb (.ins cB [("rows",.ref r0)])=J0 at l0 b0 ⊢
  simp_all! [(b.less l0).ob,(b.less l0).rw,r8]
  obtain ⟨ks,hks⟩:∃ks,cG (L.fs.map (key L.t))=ks:=⟨_,rfl⟩
  have hrow:L.row.map PV.str=ks.map λk=>PV.str k.n:=by rw [← hks];exact ok.keys
  have hkl:ks.length≤12:=by rw [← hks];exact ok.O6
  have hup:∀{ps:List (Ky × Ky)},(∀p∈ps,p.1∈ks∧p.2∈ks)→∀x∈bU L.t (gq L.t m) ps,Sz 9000 x.m:=λhp x hx=>by
   obtain ⟨p,hp',hc,rfl⟩:=iQ _ hx
   have:=of_decide_eq_true hc
   exact nZ ok (by rw [hks];exact (hp p hp').1) (by rw [hks];exact (hp p hp').2) this.1
  rw [hrow]
  obtain ⟨Inv,hInv⟩:∃Inv:Nat→Sr→Hq→Prop,∀i τ J',Inv i τ J'↔∃(r:Addr) (u3 u4 u5 u6:Option PV),τ=[some (.ref p),some (fr m),some (.ref pb),u3,u4,u5,u6]∧oS J J'∧HX cB J' pb r (bU L.t (gq L.t m) (zO ks i))∧(bU L.t (gq L.t m) (zO ks i)).length≤12 * i:=⟨_,λ_ _ _=>Iff.rfl⟩
  refine gw Inv ((hInv _ _ _).mpr ⟨r0,_,_,_,_,rfl,l0,b0,Ux _⟩) (λi τ J' h=>?_) ?_ ?_
  ·obtain ⟨r,_,_,_,_,_,l',_⟩:=(hInv _ _ _).mp h
   rw [(b.less l').rw,hrow]
  ·intro i x τ J' hx hv
   obtain ⟨r,u3,u4,u5,u6,rfl,l',bb,hle⟩:=(hInv _ _ _).mp hv
   clear hv
   have hi:i < ks.length:=by have:=(Uu.mp hx).1;rw [lL,Us] at this;exact this
   have ha:ks[i]?=some ks[i]:=Ut hi
   rw [uY _ i (.str (ks[i]).n) (by rw [Uz,ha];rfl)] at hx
   cases hx
   generalize ks[i]=a at ha ⊢
   simp_all! [(b.less l').ob,(b.less l').rw,r8]
   rw [hrow,show (i:Int) + 1=((i + 1:Nat):Int) by omega,yr _ _ (by rw [Us];omega),← VX]
   have eup:zO ks (i + 1)=zO ks i ++ (ks.drop (i + 1)).map λb=>(a,b):=by show zO ks i ++ _=_;rw [ha]
   have mup:∀j,∀p∈zO ks i ++ ((ks.drop (i + 1)).take j).map (λb=>(a,b)),p.1∈ks∧p.2∈ks:=λj p hp=>by
    rcases UD.mp hp with hp | hp
    ·obtain ⟨_,_,_,_,h3,h4⟩:=oO.mp hp
     exact ⟨Uw h3,Uw h4⟩
    ·obtain ⟨y,hy,rfl⟩:=Uv.mp hp
     exact ⟨Uw ha,List.mem_of_mem_drop (Vh hy)⟩
   obtain ⟨In2,hIn2⟩:∃In2:Nat→Sr→Hq→Prop,∀j τ J',In2 j τ J'↔∃(r:Addr) (u5 u6:Option PV),τ=[some (.ref p),some (fr m),some (.ref pb),some (.int (i:Int)),some (.str a.n),u5,u6]∧oS J J'∧HX cB J' pb r (bU L.t (gq L.t m) (zO ks i ++ ((ks.drop (i + 1)).take j).map λb=>(a,b)))∧(bU L.t (gq L.t m) (zO ks i ++ ((ks.drop (i + 1)).take j).map λb=>(a,b))).length≤12 * i + j:=⟨_,λ_ _ _=>Iff.rfl⟩
   refine gw In2 ((hIn2 _ _ _).mpr ⟨r,_,_,rfl,l',by simpa using bb,by simpa using hle⟩) (λ_ _ _ _=>trivial) ?_ ?_
   ·intro j x τ J2 hx hv
    obtain ⟨r2,u5,u6,rfl,l2,bb2,hle2⟩:=(hIn2 _ _ _).mp hv
    clear hv
    have hj:j < (ks.drop (i + 1)).length:=by have:=(Uu.mp hx).1;rw [Us] at this;exact this
    have hb:(ks.drop (i + 1))[j]?=some (ks.drop (i + 1))[j]:=Ut hj
    rw [Uz,hb] at hx
    cases hx
    generalize (ks.drop (i + 1))[j]=y at hb ⊢
    have hb':ks[i + 1 + j]?=some y:=by rw [Wa] at hb;exact hb
    have hjl:j < 12:=by rw [Vu] at hj;omega
    have ej:(ks.drop (i + 1)).take (j + 1)=(ks.drop (i + 1)).take j ++ [y]:=by rw [U0,hb];rfl
    have ef2:bU L.t (gq L.t m) (zO ks i ++ ((ks.drop (i + 1)).take (j + 1)).map λb=>(a,b))=iw L.t (gq L.t m) (bU L.t (gq L.t m) (zO ks i ++ ((ks.drop (i + 1)).take j).map λb=>(a,b))) (a,y):=by
     rw [ej,UA,← WH];exact eA _ _ _ _
    have srt:=iP L.t (gq L.t m) (zO ks i ++ ((ks.drop (i + 1)).take j).map λb=>(a,b))
    have szs:=hup (mup j)
    generalize bU L.t (gq L.t m) (zO ks i ++ ((ks.drop (i + 1)).take j).map λb=>(a,b))=rows at bb2 hle2 ef2 srt szs
    have pS:gq L.t m (a,y)=false→∀{v5 v6},In2 (j + 1) [some (.ref p),some (fr m),some (.ref pb),some (.int (i:Int)),some (.str a.n),v5,v6] J2:=λhc v5 v6=>by
     have e:iw L.t (gq L.t m) rows (a,y)=rows:=by unfold iw;rw [if_neg (by rw [hc];decide)]
     exact (hIn2 _ _ _).mpr ⟨r2,_,_,rfl,l2,by rw [ef2,e];exact bb2,by rw [ef2,e];omega⟩
    have b2:=b.less l2
    simp_all! [b2.ob]
    refine ⟨fo _ _ _ _,p,L,a.n,y.n,rfl,b2,ok.tobc,λc hc c' hc' e e' hg hg'=>?_,λz=>?_⟩
    ·have hmet:=yJ ok (by rw [hks];exact ha) (by rw [hks];exact hb') (by omega) hc hc' hg hg' e e'
     rw [hmet]
     by_cases c2:y.v < a.v∧a.p < y.p
     ·rw [if_pos c2]
      have smk:=nZ ok (by rw [hks];exact Uw ha) (by rw [hks];exact Uw hb') c2.1
      simp_all! [gv,rW,dT]
      refine ⟨sm.mono (by decide),smk,?_⟩
      by_cases c3:m < eS L.t a y
      ·rw [if_pos c3]
       exact pS (decide_eq_false (λz=>by have:=z.2.2;grind))
      ·rw [if_neg c3]
       have hcp:gq L.t m (a,y)=true:=decide_eq_true ⟨c2.1,c2.2,by grind⟩
       have e:iw L.t (gq L.t m) rows (a,y)=j7 ⟨eS L.t a y,a.n,y.n⟩ (dg a.n y.n rows):=by unfold iw;rw [if_pos hcp];rfl
       simp_all! [bb2.o]
       refine ⟨Pl _,pb,r2,rows,eS L.t a y,a.n,y.n,rfl,bb2,srt,by omega,smk,szs,λr' hr'=>?_⟩
       have nr:r'≠pb:=by intro z;subst z;rw [bb2.o] at hr';cases hr'
       refine (hIn2 _ _ _).mpr ⟨r',_,_,rfl,o9 l2 hpb hr',⟨ar,by rw [ak nr,ar,ef2,e]⟩,?_⟩
       rw [ef2,e,yx]
       have:=oY a.n y.n rows
       omega
     ·rw [if_neg c2]
      simp_all! [gv]
      exact pS (decide_eq_false (λz=>c2 ⟨z.1,z.2.1⟩))
    ·rcases z with z | z
     ·exact absurd (lV ok (by rw [hks];exact Uw ha)) z
     ·exact absurd (lV ok (by rw [hks];exact Uw hb')) z
   ·intro τ J2 hv
    obtain ⟨r2,u5,u6,rfl,l2,bb2,hle2⟩:=(hIn2 _ _ _).mp hv
    rw [Us,UY,← eup] at bb2 hle2
    rw [Vu] at hle2
    exact (hInv _ _ _).mpr ⟨r2,_,_,_,_,rfl,l2,bb2,by omega⟩
  ·intro τ J' hv
   obtain ⟨r,u3,u4,u5,u6,rfl,l',bb,hle⟩:=(hInv _ _ _).mp hv
   rw [lL,Us,← hks,KD ok.knd] at bb
   simp_all! [bb.o]
   exact ⟨Pm _,pb,r,_,rfl,bb,q.imp (λq=>Fg.less l' q) λq l hl=>Fg.less (DV l') (q l ((l' l).elim (λe=>e.trans hl) id))⟩
theorem yw {m:Rat} (h:iT m.num m.den=true):Sc ib MM m∧0≤m:=by
 have h:=of_decide_eq_true h
 have hd:m.den≤60:=by omega
 constructor
 ·have h1:Sc m.den m.num.natAbs m:=⟨m.num,by have:=cast_eq m;rw [this];rfl,Ux _⟩
  obtain ⟨k,hk⟩:=TK m.den m.den_pos hd
  have h2:=h1.scale (E:=k)
  rw [show k * m.den=ib by rw [hk,Nat.mul_comm]] at h2
  refine h2.mono ?_
  have h3:m.num.natAbs≤1000000 * m.den:=by omega
  have h4:k * m.num.natAbs≤k * (1000000 * m.den):=Nat.mul_le_mul_left _ h3
  have h5:k * (1000000 * m.den)=1000000 * ib:=by rw [hk];rw [Nat.mul_left_comm,Nat.mul_comm k]
  unfold MM
  omega
 ·exact Rat.num_nonneg.mp h.2.2.2.1
theorem bc.OW {L:Ln} (h:bc L) {m:Rat} (hm:L.t≤m) (hg:iT m.num m.den=true):bc { L with t:=m } :=
 ⟨h.nd,h.ne,λc hc l hl=>Rat.le_trans (h.le c hc l hl) hm,h.ck,h.len,λc hc q e=>⟨(h.gz c hc q e).1,Rat.le_trans (h.gz c hc q e).2 hm⟩,(yw hg).2,(yw hg).1,h.many,h.rm,h.rn,h.rl⟩
abbrev jN:Stmt:=(L2.inClass (top 44) 5)
abbrev mh:List Str:=["self","moment"]
theorem mz:L2.aw ["self","moment","passings"] ["self","moment"] (L2.aj jN):=dH
def LJ (cN cL eM eP:Addr):cA:=λxs J Q E=>∃p L a b,xs=[.ref p,.tup [.int a,.int b]]∧aY cN cL J p L∧b_ L∧(iT a b=false→E eM J)∧(∀m:Rat,m.num=a→(m.den:Int)=b→iT a b=true→(m < L.t→E eP J)∧(L.t≤m→∀J' o',aY cN cL J' p { L with t:=m,o:=o',row:=cX m L.fs }→b_ { L with t:=m,o:=o',row:=cX m L.fs }→Mv J J' (L.own p) (Ln.own { L with t:=m,o:=o',row:=cX m L.fs } p)→Q (.fl ((p8 L.t (L.fs.map (key L.t)) m).map aJ.v)) J'))
theorem uy {cN cL eM eP f:Addr} {fd:FuncData} (F:cb K "go_to" "Lane.go_to" jN f fd) (Z:bQ mg) (ay:dW K mg "Lane" cN) (aB:aH K cN "now") (fM:cI P w K mg base cN 7 "foretold" i5 (CV cN cL eM eP)) (bE:cI P w K mg base cN 7 "settle" dD (i_ cN cL)):aQ P w K mg base (cP P w) 8 f fd mh (dn K (LJ cN cL eM eP)):=by
 simp_arith [mz,(ai (aE (i:=2) mz.nd (bK (pl:=_) fM B hr (rv 0) (af (rv 1) ah)))
   (ai (eD ay.cl aB (rv 0) (rv 1))
   (ai (bt (cW (pl:=_) bE B hr (rv 0)))
   (aq (aA (rv 2))))))]
 ·obtain ⟨p,L,a,b,rfl,_⟩:=h;rfl
 obtain ⟨p,L,a,bb,rfl,b,ok,qe,q⟩:=h
 have bo:=b.ob
 refine hX ?_
 simp_all! [bo]
 refine ⟨fo _ _ _ _,p,L,a,bb,rfl,b,ok,qe,λm h1 h2 hg=>⟨(q m h1 h2 hg).1,λhm=>.inl ?_⟩⟩
 have q:=(q m h1 h2 hg).2 hm
 have ef:PV.tup [.int a,.int bb]=fr m:=by rw [← h1,← h2];rfl
 have hgm:iT m.num m.den=true:=by rw [h1,h2];exact hg
 have ok1:=ok.tobc.OW hm hgm
 simp_all! [bo,ef]
 refine ⟨by show (3:Nat) < 1000;decide,?_⟩
 have b1:aY cN cL (put J p (.ins cN [("now",fr m),("logs",.ref L.d),("row",.ref L.o)])) p { L with t:=m } :=
  ⟨ar,by show put J p _ L.d=_;rw [ak b.Jj];exact b.dc,by show put J p _ L.o=_;rw [ak b.Jl];exact b.rw,λc hc=>⟨by rw [ak (b.Rc hc)];exact (b.lg c hc).o,by rw [ak (b.Oo hc)];exact (b.lg c hc).l⟩,b.ap,b.ao⟩
 have mv1:Mv J (put J p (.ins cN [("now",fr m),("logs",.ref L.d),("row",.ref L.o)])) (L.own p) (L.own p):=gB (.inl rfl) λa h=>.inl h
 generalize put J p (.ins cN [("now",fr m),("logs",.ref L.d),("row",.ref L.o)])=J1 at b1 mv1 ⊢
 simp_all! [b1.ob]
 refine ⟨fo _ _ _ _,p,{ L with t:=m },rfl,b1,ok1,λJ2 o' b2 mv2=>?_⟩
 simp_all! []
 exact q J2 o' b2 (b_.settled ok1 o') (mv1.trans mv2)
abbrev jL:Stmt:=(L2.inClass (top 44) 9)
abbrev me:List Str:=["self"]
theorem d7:L2.aw ["self","ringing","hind","fore","met"] ["self"] (L2.aj jL):=dH
def zy (cN cL:Addr):cA:=λxs J Q E=>∃p L,xs=[.ref p]∧aY cN cL J p L∧b_ L∧Q (.fl ((fK L.t (L.fs.map (key L.t))).map aJ.v)) J
theorem uw {cN cL cB eC f:Addr} {fd:FuncData} (F:cb K "bells" "Lane.bells" jL f fd) (Z:bQ mg) (ay:dW K mg "Lane" cN) (aD:aH K cN "row") (lG:vT P w K mg base cB 1 "Bells" eX (xF cB)) (dN:cI P w K mg base cN 6 "meets" il (tq cN cL eC)) (eJ:cI P w K mg base cB 3 "put" jz (Bw cB)) (dM:cI P w K mg base cB 1 "told" ik (xG cB)):aQ P w K mg base (cP P w) 7 f fd me (dn K (zy cN cL)):=by
 simp_arith [d7,(ai (aE (i:=1) d7.nd (k6 lG B hr))
   (ai (eE b7 rfl (NL rfl Z.zip (af (aT ay.cl aD (rv 0)) (af (e8 vA (aT ay.cl aD (rv 0)) (e_ ag) jI) ah))) (pE (n:=2) rfl (cx (bC (i:=2) d7.nd) (cx (bC (i:=3) d7.nd) lU))) (ai (aE (i:=4) d7.nd (bK (pl:=_) dN B hr (rv 0) (af (rv 2) (af (rv 3) ah))))
   (aq (aX (aL sj (rv 4) mY) (aq (bt (bK (pl:=_) eJ B hr (rv 1) (af (rv 4) (af (rv 2) (af (rv 3) ah)))))) aK))))
   (aq (aA (cW (pl:=_) dM B hr (rv 1)))))),F]
 ·obtain ⟨p,L,rfl,_⟩:=h;rfl
 obtain ⟨p,L,rfl,b,ok,q⟩:=h
 refine hX ?_
 simp_all! []
 intro pb hpb
 refine ⟨pb,rfl,ar,λr0 hr0=>⟨rfl,?_⟩⟩
 have l0:=vg (y:=.lst []) (z:=.ins cB [("rows",.ref r0)]) hpb hr0
 have nr0:r0≠pb:=by intro e;subst e;rw [ar] at hr0;cases hr0
 have b0:HX cB (put (put (put J pb (.ins cB [])) r0 (.lst [])) pb (.ins cB [("rows",.ref r0)])) pb r0 []:=⟨ar,by rw [ak nr0];exact ar⟩
 generalize put (put (put J pb (.ins cB [])) r0 (.lst [])) pb (.ins cB [("rows",.ref r0)])=J0 at l0 b0 ⊢
 obtain ⟨ks,hks⟩:∃ks,cG (L.fs.map (key L.t))=ks:=⟨_,rfl⟩
 have hrow:L.row.map PV.str=ks.map λk=>PV.str k.n:=by rw [← hks];exact ok.keys
 have hkl:ks.length≤12:=by rw [← hks];exact ok.O6
 have hct:ko (ks.map λk=>PV.str k.n) (some 1) none=ks.tail.map λk=>PV.str k.n:=by
  cases ks with
  | nil=>rfl
  | cons x ks=>exact yr (((x :: ks).map λk=>PV.str k.n)) 1 (by simp)
 have hup:∀{ps:List (Ky × Ky)},(∀p∈ps,p.1∈ks∧p.2∈ks)→∀x∈bU L.t cO ps,Sz 9000 x.m:=λhp x hx=>by
  obtain ⟨p,hp',hc,rfl⟩:=iQ _ hx
  exact nZ ok (by rw [hks];exact (hp p hp').1) (by rw [hks];exact (hp p hp').2) (of_decide_eq_true hc)
 simp_all! [TJ,(b.less l0).ob,(b.less l0).rw,r8,hrow,hct]
 have ez:((ks.map λk=>PV.str k.n).zip (ks.tail.map λk=>PV.str k.n)).map (λp=>PV.tup [p.1,p.2])=(ks.zip ks.tail).map λp=>PV.tup [.str p.1.n,.str p.2.n]:=by rw [List.zip_map,UC];rfl
 rw [ez]
 generalize hps:ks.zip ks.tail=ps
 have hpl:ps.length≤12:=by rw [← hps,VT];omega
 have hpm:∀x∈ps,x.1∈ks∧x.2∈ks:=λx hx=>by
  rw [← hps] at hx
  obtain ⟨i,h3,h4⟩:=de.mp (show (x.1,x.2)∈_ from hx)
  exact ⟨Uw h3,Uw h4⟩
 obtain ⟨Inv,hInv⟩:∃Inv:Nat→Sr→Hq→Prop,∀i τ J',Inv i τ J'↔∃(r:Addr) (u2 u3 u4:Option PV),τ=[some (.ref p),some (.ref pb),u2,u3,u4]∧oS J J'∧HX cB J' pb r (bU L.t cO (ps.take i)):=⟨_,λ_ _ _=>Iff.rfl⟩
 refine gw Inv ((hInv _ _ _).mpr ⟨r0,_,_,_,rfl,l0,b0⟩) (λi τ J' h=>?_) ?_ ?_
 ·obtain ⟨r,_,_,_,_,l',_⟩:=(hInv _ _ _).mp h
  rw [(b.less l').rw,hrow]
 ·intro i x τ J' hx hv
  obtain ⟨r,u2,u3,u4,rfl,l',bb⟩:=(hInv _ _ _).mp hv
  clear hv
  have hi:i < ps.length:=by have:=(Uu.mp hx).1;rw [Us] at this;exact this
  have hpi:ps[i]?=some ps[i]:=Ut hi
  rw [Uz,hpi] at hx
  cases hx
  have et:ps.take (i + 1)=ps.take i ++ [ps[i]]:=by rw [U0,hpi];rfl
  have szs:=hup (ps:=ps.take i) (λp hp=>hpm p (Vh hp))
  have srt:=iP L.t cO (ps.take i)
  have hle:=o5 L.t cO (ps.take i)
  rw [UR] at hle
  rcases hab:ps[i] with ⟨a,y⟩
  rw [hab] at hpi et
  have ef2:bU L.t cO (ps.take (i + 1))=iw L.t cO (bU L.t cO (ps.take i)) (a,y):=by rw [et];exact eA _ _ _ _
  generalize bU L.t cO (ps.take i)=rows at bb szs srt hle ef2
  rw [← hps] at hpi
  obtain ⟨ha,hb⟩:=Vc.mp hpi
  rw [VW] at hb
  simp only at ha hb
  have b2:=b.less l'
  simp_all! [b2.ob]
  refine ⟨fo _ _ _ _,p,L,a.n,y.n,rfl,b2,ok.tobc,λc hc c' hc' e e' hg hg'=>?_,λz=>?_⟩
  ·have hmet:=yJ ok (by rw [hks];exact ha) (by rw [hks];exact hb) (by omega) hc hc' hg hg' e e'
   rw [hmet]
   by_cases c2:y.v < a.v
   ·have c3:=J_ ok (by rw [hks];exact ha) (by rw [hks];exact hb) (by omega) c2
    rw [if_pos ⟨c2,c3⟩]
    have smk:=nZ ok (by rw [hks];exact Uw ha) (by rw [hks];exact Uw hb) c2
    have hcp:cO (a,y)=true:=decide_eq_true c2
    have e:iw L.t cO rows (a,y)=j7 ⟨eS L.t a y,a.n,y.n⟩ (dg a.n y.n rows):=by unfold iw;rw [if_pos hcp];rfl
    simp_all! [gv,rW,bb.o]
    refine ⟨Pl _,pb,r,rows,eS L.t a y,a.n,y.n,rfl,bb,srt,by omega,smk,szs,λr' hr'=>?_⟩
    have nr:r'≠pb:=by intro z;subst z;rw [bb.o] at hr';cases hr'
    exact (hInv _ _ _).mpr ⟨r',_,_,_,rfl,o9 l' hpb hr',⟨ar,by rw [ak nr,ar,ef2,e]⟩⟩
   ·rw [if_neg (λz=>c2 z.1)]
    have e:iw L.t cO rows (a,y)=rows:=by
     have hcf:cO (a,y)=false:=decide_eq_false c2
     unfold iw;rw [if_neg (by rw [hcf];decide)]
    simp_all! [gv]
    exact (hInv _ _ _).mpr ⟨r,_,_,_,rfl,l',by rw [ef2,e];exact bb⟩
  ·rcases z with z | z
   ·exact absurd (lV ok (by rw [hks];exact Uw ha)) z
   ·exact absurd (lV ok (by rw [hks];exact Uw hb)) z
 ·intro τ J' hv
  obtain ⟨r,u2,u3,u4,rfl,l',bb⟩:=(hInv _ _ _).mp hv
  rw [Us,UY,← hps,← hks,tJ ok.knd] at bb
  simp_all! [bb.o]
  exact ⟨Pm _,pb,r,_,rfl,bb,.inl (Fg.less l' q)⟩
def Cf.turn (c:Cf) (t:Rat) (v:Int):Cf:={ c with w:=turned c.w t v }
def dw (n:Str) (t:Rat) (v:Int) (c:Cf):Cf:=if c.n=n then c.turn t v else c
theorem oM (n:Str) (t:Rat) (v:Int) (c:Cf):(dw n t v c).n=c.n∧(dw n t v c).a=c.a∧(dw n t v c).r=c.r∧(dw n t v c).g=c.g:=by unfold dw;split <;> exact ⟨rfl,rfl,rfl,rfl⟩
theorem eR {α β:Type} {f:α→β} {g:α→α} (h:∀x,f (g x)=f x) (l:List α):(l.map g).map f=l.map f:=by rw [UC];exact US λx _=>h x
theorem bc.map {L:Ln} (h:bc L) {f:Cf→Cf} (hn:∀c,(f c).n=c.n∧(f c).a=c.a∧(f c).r=c.r∧(f c).g=c.g) (hw:∀c∈L.cs,(f c).w≠[]∧(∀l∈(f c).w,l.m≤L.t∧tP l)∧(f c).w.length≤200):bc { L with cs:=L.cs.map f }:=by
 have mem:∀c∈L.cs.map f,∃c0∈L.cs,f c0=c:=λc hc=>by obtain ⟨c0,h0,e⟩:=Uv.mp hc;exact ⟨c0,h0,e⟩
 have hfs:(Ln.fs { L with cs:=L.cs.map f }).map (·.1)=L.fs.map (·.1):=by
  rw [fC,fC]
  unfold Ln.Eu
  show ((L.cs.map f).filter _).map Cf.n=_
  rw [Vg,UC]
  have e1:(λc:Cf=>c.g.isNone) ∘ f=λc=>c.g.isNone:=by funext c;show (f c).g.isNone=_;rw [(hn c).2.2.2]
  rw [e1]
  exact US λc _=>(hn c).1
 refine ⟨?_,?_,?_,?_,?_,?_,h.t0,h.ts,by show (L.cs.map f).length≤100;rw [Us];exact h.many,λn=>by rw [hfs];exact h.rm n,h.rn,h.rl⟩
 ·show ((L.cs.map f).map Cf.n).Nodup
  rw [eR (λc=>(hn c).1)];exact h.nd
 ·intro c hc;obtain ⟨c0,h0,rfl⟩:=mem c hc;exact (hw c0 h0).1
 ·intro c hc l hl;obtain ⟨c0,h0,rfl⟩:=mem c hc;exact ((hw c0 h0).2.1 l hl).1
 ·intro c hc l hl;obtain ⟨c0,h0,rfl⟩:=mem c hc;exact ((hw c0 h0).2.1 l hl).2
 ·intro c hc;obtain ⟨c0,h0,rfl⟩:=mem c hc;exact (hw c0 h0).2.2
 ·intro c hc q e;obtain ⟨c0,h0,rfl⟩:=mem c hc;exact h.gz c0 h0 q (by rw [← (hn c0).2.2.2];exact e)
theorem bc.KY {L:Ln} (h:bc L) {c:Cf} (hc:c∈L.cs):c.w≠[]∧(∀l∈c.w,l.m≤L.t∧tP l)∧c.w.length≤200:=⟨h.ne c hc,λl hl=>⟨h.le c hc l hl,h.ck c hc l hl⟩,h.len c hc⟩
theorem bc.LU {L:Ln} (h:bc L) {c:Cf} (hc:c∈L.cs) (hl:c.w.length < 200) {v:Int} (hv:v.natAbs≤1000):(c.turn L.t v).w≠[]∧(∀l∈(c.turn L.t v).w,l.m≤L.t∧tP l)∧(c.turn L.t v).w.length≤200:=by
 refine ⟨vE (h.ne c hc),λl hl'=>?_,?_⟩
 ·rcases BD hl' with k | ⟨l0,k,rfl⟩
  ·exact ⟨h.le c hc l k,h.ck c hc l k⟩
  ·exact ⟨Rat.le_refl,(h.ck c hc l0 k).at (h.le c hc l0 k) h.ts hv⟩
 ·have:=nt c.w L.t v
  show (turned c.w L.t v).length≤200
  omega
theorem aY.turn {cN cL:Addr} {J:Hq} {p:Addr} {L:Ln} (h:aY cN cL J p L) (ok:bc L) {c:Cf} (hc:c∈L.cs) {t:Rat} {v:Int}:aY cN cL (put J c.r (.lst ((turned c.w t v).map aW.V))) p { L with cs:=L.cs.map (dw c.n t v) }:=by
 have hcs:=oM c.n t v
 refine ⟨by rw [ak (Ne.symm (h.Oo hc))];exact h.ob,?_,?_,λx hx=>?_,?_,λx hx=>?_⟩
 ·show put J c.r _ L.d=_
  rw [ak (Ne.symm (h.TQ hc)),h.dc]
  show _=Vi (HQ.dct ((L.cs.map (dw c.n t v)).map λc=>(c.n,PV.ref c.a)) L.e)
  rw [eR (f:=λc:Cf=>(c.n,PV.ref c.a)) (λx=>by rw [(hcs x).1,(hcs x).2.1])]
 ·show put J c.r _ L.o=_
  rw [ak (Ne.symm (h.ao c hc))];exact h.rw
 ·obtain ⟨x0,h0,rfl⟩:=Uv.mp hx
  have hl:=h.lg x0 h0
  refine ⟨?_,?_⟩
  ·rw [(hcs x0).2.1,(hcs x0).2.2.1,(hcs x0).2.2.2,ak (h.Ui h0 hc)];exact hl.o
  ·rw [(hcs x0).2.2.1]
   by_cases e:x0.n=c.n
   ·have:x0=c:=ok.uniq h0 hc e
    subst this
    rw [ar]
    unfold dw;rw [if_pos rfl];rfl
   ·have hr:x0.r≠c.r:=λz=>e (by
     obtain ⟨i,hi,rfl⟩:=U4 h0
     obtain ⟨j,hj,rfl⟩:=U4 hc
     have:=(Vt (xs:=L.cs.map Cf.r) (i:=i) (j:=j) (h₀:=by simpa using hi) (h₁:=by simpa using hj) h.ap).mp (by rw [Vm,Vm];exact z)
     subst this;rfl)
    rw [ak hr]
    unfold dw;rw [if_neg e];exact hl.l
 ·show ((L.cs.map (dw c.n t v)).map Cf.r).Nodup
  rw [eR (λx=>(hcs x).2.2.1)];exact h.ap
 ·obtain ⟨x0,h0,rfl⟩:=Uv.mp hx
  rw [(hcs x0).2.2.1];exact h.ao x0 h0
theorem wL {L:Ln} {p:Addr} {f:Cf→Cf} (hn:∀c,(f c).n=c.n∧(f c).a=c.a∧(f c).r=c.r∧(f c).g=c.g) (a:Addr):Ln.own { L with cs:=L.cs.map f } p a↔L.own p a:=by
 unfold Ln.own
 constructor
 ·rintro (h | h | h | ⟨c,hc,h⟩)
  ·exact .inl h
  ·exact .inr (.inl h)
  ·exact .inr (.inr (.inl h))
  ·obtain ⟨c0,h0,rfl⟩:=Uv.mp hc
   rw [(hn c0).2.1,(hn c0).2.2.1] at h
   exact .inr (.inr (.inr ⟨c0,h0,h⟩))
 ·rintro (h | h | h | ⟨c,hc,h⟩)
  ·exact .inl h
  ·exact .inr (.inl h)
  ·exact .inr (.inr (.inl h))
  ·exact .inr (.inr (.inr ⟨f c,Uv.mpr ⟨c,hc,rfl⟩,by rw [(hn c).2.1,(hn c).2.2.1];exact h⟩))
abbrev lj:Stmt:=(L2.inClass (top 44) 3)
abbrev n_:List Str:=["self","name","pace"]
theorem xw:L2.aw ["self","name","pace"] ["self","name","pace"] (L2.aj lj):=dH
def CY (cN cL eC eF:Addr):cA:=λxs J Q E=>∃p L n v,xs=[.ref p,.str n,.int v]∧aY cN cL J p L∧b_ L∧(∀c∈L.cs,c.w.length < 200)∧(n ∉ L.row→E eC J)∧(n∈L.row→¬ v.natAbs≤1000→E eF J)∧(n∈L.row→v.natAbs≤1000→∀J' L',aY cN cL J' p L'→b_ L'→L'.cs=L.cs.map (dw n L.t v)→L'.t=L.t→Mv J J' (L.own p) (L'.own p)→Q .non J')
theorem wz {cN cL eC eF f:Addr} {fd:FuncData} (F:cb K "turn" "Lane.turn" lj f fd) (Z:bQ mg) (ay:dW K mg "Lane" cN) (aF:aH K cN "logs") (aB:aH K cN "now") {gj:Tok} (eI:mg "FASTEST"=some (.int 1000 gj)) (iJ:Own K mg "TooFar" eF) (ba:cI P w K mg base cN 1 "must_be_there" cy (q9 cN cL eC)) (fq:cI P w K mg base cL 5 "turn" kP (xK cL)) (bE:cI P w K mg base cN 7 "settle" dD (i_ cN cL)):aQ P w K mg base (cP P w) 8 f fd n_ (dn K (CY cN cL eC eF)):=by
 simp_arith [xw,(ai (bt (bK (pl:=_) ba B hr (rv 0) (af (rv 1) ah)))
   (ai (aX (aL n8 (aI Au rfl Z.abs boot_abs (af (rv 2) ah)) (f' (v:=.int 1000) (.int 1000) rfl eI ⟨_,rfl⟩ (λ_ _=>rfl))) (aq (d6 iJ rfl cK B.kn rfl (af bR ah))) aK)
   (ai (bt (bK (pl:=_) fq B hr (au dC (aT ay.cl aF (rv 0)) (rv 1)) (af (aT ay.cl aB (rv 0)) (af (rv 2) ah))))
   (aq (bt (cW (pl:=_) bE B hr (rv 0)))))))]
 ·obtain ⟨p,L,n,v,rfl,_⟩:=h;rfl
 obtain ⟨p,L,n,v,rfl,b,ok,hlen,qc,qf,q⟩:=h
 have bo:=b.ob
 have bd:=b.dc
 refine hX ?_
 simp_all! [bo]
 refine ⟨fo _ _ _ _,p,L,n,rfl,b,λhn=>?_,qc⟩
 simp_all! []
 have habs:(1000 < if v < 0 then -v else v)↔¬ v.natAbs≤1000:=by split <;> omega
 by_cases hv:v.natAbs≤1000
 ·rw [if_neg (λz=>habs.mp z hv)]
  obtain ⟨c,hc,rfl,hg⟩:=ok.found hn
  have lo:=(b.lg c hc).o
  have ok1:bc { L with cs:=L.cs.map (dw c.n L.t v) }:=ok.tobc.map (oM c.n L.t v) λx hx=>by
   unfold dw
   split
   ·exact ok.tobc.LU hx (hlen x hx) hv
   ·exact ok.tobc.KY hx
  have b1:=b.turn ok.tobc hc (t:=L.t) (v:=v)
  have mv1:Mv J (put J c.r (.lst ((turned c.w L.t v).map aW.V))) (L.own p) (Ln.own { L with cs:=L.cs.map (dw c.n L.t v) } p):=gB (.inr (.inr (.inr ⟨c,hc,.inr rfl⟩))) λa h=>.inl ((wL (oM c.n L.t v) a).mp h)
  simp_all! [bo,rZ,um,bd,ok.va hc,lo]
  refine ⟨Pn _ _,c.a,c.r,c.w,c.g,L.t,v,rfl,b.lg c hc,ok.ne c hc,UM (ok.len c hc) (by decide),ok.N4,λl hl=>(ok.ck c hc l hl).Po,?_⟩
  generalize put J c.r (.lst ((turned c.w L.t v).map aW.V))=J1 at b1 mv1 ⊢
  simp_all! [b1.ob]
  refine ⟨fo _ _ _ _,p,_,rfl,b1,ok1,λJ2 o' b2 mv2=>?_⟩
  exact q hn hv J2 _ b2 (b_.settled ok1 o') rfl rfl (mv1.trans mv2)
 ·rw [if_pos (habs.mpr hv)]
  simp_all! [fS]
  exact qf hn hv
def er (t:Rat) (c:Cf):Cf:=if c.g.isNone=true then c.turn t (-c.cur.v) else c
def cg (t:Rat) (row:List Str) (c:Cf):Cf:=if c.n∈row then c.turn t (-c.cur.v) else c
theorem nH (t:Rat) (row:List Str) (c:Cf):(cg t row c).n=c.n∧(cg t row c).a=c.a∧(cg t row c).r=c.r∧(cg t row c).g=c.g:=by unfold cg;split <;> exact ⟨rfl,rfl,rfl,rfl⟩
theorem lH {L:Ln} (ok:bc L):L.cs.map (cg L.t L.row)=L.cs.map (er L.t):=by
 refine US λc hc=>?_
 have h:c.n∈L.row↔c.g.isNone=true:=by
  rw [ok.rm,fC,Uv]
  constructor
  ·rintro ⟨c',hc',e⟩
   have h':=Ln.d9.mp hc'
   rw [ok.uniq h'.1 hc e] at h'
   rw [h'.2];rfl
  ·intro e
   exact ⟨c,Ln.d9.mpr ⟨hc,by cases hg:c.g with | none=>rfl | some q=>rw [hg] at e;cases e⟩,rfl⟩
 unfold cg er
 by_cases e:c.n∈L.row
 ·rw [if_pos e,if_pos (h.mp e)]
 ·rw [if_neg e,if_neg (λz=>e (h.mpr z))]
theorem bc.cg {L:Ln} (ok:bc L) (hlen:∀c∈L.cs,c.w.length < 200) (row:List Str):bc { L with cs:=L.cs.map (cg L.t row) }:=ok.map (nH L.t row) λx hx=>by
 unfold Ov.cg
 split
 ·exact ok.LU hx (hlen x hx) (by have:=(ok.ck x hx _ (Cf.ji (ok.ne x hx)).2).v;omega)
 ·exact ok.KY hx
abbrev jK:Stmt:=(L2.inClass (top 44) 4)
abbrev md:List Str:=["self"]
theorem iH:L2.aw ["self","name","pace"] ["self"] (L2.aj jK):=dH
def zx (cN cL:Addr):cA:=λxs J Q E=>∃p L,xs=[.ref p]∧aY cN cL J p L∧b_ L∧(∀c∈L.cs,c.w.length < 200)∧(∀J' L',aY cN cL J' p L'→b_ L'→L'.cs=L.cs.map (er L.t)→L'.t=L.t→Mv J J' (L.own p) (L'.own p)→Q .non J')
theorem uv {cN cL eC f:Addr} {fd:FuncData} (F:cb K "about" "Lane.about" jK f fd) (Z:bQ mg) (ay:dW K mg "Lane" cN) (aD:aH K cN "row") (aF:aH K cN "logs") (aB:aH K cN "now") (bP:cI P w K mg base cN 4 "leg_of" eY (oH cN cL eC)) (fq:cI P w K mg base cL 5 "turn" kP (xK cL)) (bE:cI P w K mg base cN 7 "settle" dD (i_ cN cL)):aQ P w K mg base (cP P w) 8 f fd md (dn K (zx cN cL)):=by
 simp_arith [iH,(ai (eE b7 rfl (dQ (aT ay.cl aD (rv 0))) (bC (i:=1) iH.nd) (ai (aE (i:=2) iH.nd (au av (bK (pl:=_) bP B hr (rv 0) (af (rv 1) ah)) ag))
   (aq (bt (bK (pl:=_) fq B hr (au dC (aT ay.cl aF (rv 0)) (rv 1)) (af (aT ay.cl aB (rv 0)) (af (vm pU (rv 2)) ah)))))))
   (aq (bt (cW (pl:=_) bE B hr (rv 0)))))]
 ·obtain ⟨p,L,rfl,_⟩:=h;rfl
 obtain ⟨p,L,rfl,b,ok,hlen,q⟩:=h
 refine hX ?_
 simp_all! [b.ob,b.rw,r8]
 have hid:L.cs.map (cg L.t (L.row.take 0))=L.cs:=by
  have:∀c∈L.cs,cg L.t (L.row.take 0) c=c:=λc _=>by unfold cg;rw [if_neg (by simp)]
  rw [US this,Wv]
 obtain ⟨Inv,hInv⟩:∃Inv:Nat→Sr→Hq→Prop,∀i τ J',Inv i τ J'↔∃(u1 u2:Option PV),τ=[some (.ref p),u1,u2]∧aY cN cL J' p { L with cs:=L.cs.map (cg L.t (L.row.take i)) }∧Mv J J' (L.own p) (L.own p):=⟨_,λ_ _ _=>Iff.rfl⟩
 refine gw Inv ((hInv _ _ _).mpr ⟨_,_,rfl,by rw [hid];exact b,Mv.refl _ _⟩) (λi τ J' h=>?_) ?_ ?_
 ·obtain ⟨_,_,_,b',_⟩:=(hInv _ _ _).mp h
  have:=b'.rw
  simp only at this
  rw [this]
 ·intro i x τ J' hx hv
  obtain ⟨u1,u2,rfl,b',mv'⟩:=(hInv _ _ _).mp hv
  clear hv
  have hi:i < L.row.length:=by have:=(Uu.mp hx).1;simpa using this
  have hget:L.row[i]?=some L.row[i]:=Ut hi
  rw [Uz,hget] at hx
  cases hx
  have hn:L.row[i]∈L.row:=U9 hi
  have et:L.row.take (i + 1)=L.row.take i ++ [L.row[i]]:=by rw [U0,hget];rfl
  have hnd:(L.row.take (i + 1)).Nodup:=ok.rn.sublist (VA _ _)
  rw [et] at hnd
  have hnew:=(gC hnd).2
  generalize L.row[i]=n at hn et hnew ⊢
  obtain ⟨c,hc,rfl,hg⟩:=ok.found hn
  have oki:=ok.tobc.cg hlen (L.row.take i)
  have ecc:cg L.t (L.row.take i) c=c:=by unfold cg;rw [if_neg hnew]
  have hci:c∈L.cs.map (cg L.t (L.row.take i)):=Uv.mpr ⟨c,hc,ecc⟩
  simp_all! [b'.ob]
  refine ⟨fo _ _ _ _,p,_,c.n,rfl,b',oki,λc' hc' e' hg'=>?_,λz=>absurd hn z⟩
  have ec':c'=c:=oki.uniq hc' hci e'
  subst ec'
  have hcv:=(ok.ck c' hc _ (Cf.ji (ok.ne c' hc)).2).v
  have lo:=(b'.lg c' hci).o
  have bo':=b'.ob
  have bd':=b'.dc
  simp only at bo' bd'
  simp_all! [kC,bo',rZ,um,bd',lo]
  have hva:=oki.va hci
  simp only at hva
  simp_all! [hva,lo,bo',rZ]
  refine ⟨Pn _ _,c'.a,c'.r,c'.w,c'.g,L.t,-c'.cur.v,rfl,b'.lg c' hci,ok.ne c' hc,UM (ok.len c' hc) (by decide),ok.N4,λl hl=>(ok.ck c' hc l hl).Po,?_⟩
  have b1:=b'.turn oki hci (t:=L.t) (v:=-c'.cur.v)
  have em:(L.cs.map (cg L.t (L.row.take i))).map (dw c'.n L.t (-c'.cur.v))=L.cs.map (cg L.t (L.row.take (i + 1))):=by
   rw [UC]
   refine US λx hx=>?_
   show dw c'.n L.t (-c'.cur.v) (cg L.t (L.row.take i) x)=_
   by_cases e:x.n=c'.n
   ·have:x=c':=ok.uniq hx hc e
    subst this
    rw [ecc]
    unfold dw Ov.cg
    rw [if_pos rfl,if_pos (by rw [et];simp)]
   ·unfold dw
    rw [if_neg (by rw [(nH L.t (L.row.take i) x).1];exact e)]
    unfold Ov.cg
    rw [et]
    by_cases e2:x.n∈L.row.take i
    ·rw [if_pos e2,if_pos (UD.mpr (.inl e2))]
    ·rw [if_neg e2,if_neg (λz=>by
      rcases UD.mp z with z | z
      ·exact e2 z
      ·exact e (by simpa using z))]
  simp only [em] at b1
  refine (hInv _ _ _).mpr ⟨_,_,rfl,b1,mv'.trans (gB (.inr (.inr (.inr ⟨c',hc,.inr rfl⟩))) λa h=>.inl h)⟩
 ·intro τ J' hv
  obtain ⟨u1,u2,rfl,b',mv'⟩:=(hInv _ _ _).mp hv
  rw [Us,UY,lH ok.tobc] at b'
  have oki:bc { L with cs:=L.cs.map (er L.t) }:=by rw [← lH ok.tobc];exact ok.tobc.cg hlen L.row
  simp_all! [b'.ob]
  refine ⟨fo _ _ _ _,p,_,rfl,b',oki,λJ2 o' b2 mv2=>?_⟩
  refine q J2 _ b2 (b_.settled oki o') rfl rfl (mv'.trans ⟨λa o e n=>mv2.keep a o e λz=>n ?_,λa h=>?_,mv2.mono⟩)
  ·rw [← lH ok.tobc] at z;exact (wL (nH L.t L.row) a).mp z
  ·rcases mv2.own a h with h' | h'
   ·rw [← lH ok.tobc] at h';exact .inl ((wL (nH L.t L.row) a).mp h')
   ·exact .inr h'
def bT (n:Str) (t:Rat) (c:Cf):Cf:=if c.n=n then { c with g:=some t } else c
theorem fF (n:Str) (t:Rat) (c:Cf):(bT n t c).n=c.n∧(bT n t c).a=c.a∧(bT n t c).r=c.r∧(bT n t c).w=c.w:=by unfold bT;split <;> exact ⟨rfl,rfl,rfl,rfl⟩
theorem yC {L L':Ln} {n:Str} {t:Rat} (e:L'.cs=L.cs.map (bT n t)):L'.fs=L.fs.filter λx=>decide (x.1≠n):=by
 unfold Ln.fs Ln.Eu
 rw [e,Vg,UC,Vg,List.filter_filter]
 have e1:(λc:Cf=>c.g.isNone) ∘ bT n t=λc=>((λx:Str × aW=>decide (x.1≠n)) ∘ λc:Cf=>(c.n,c.cur)) c && c.g.isNone:=by
  funext c
  show (bT n t c).g.isNone=(decide (c.n≠n) && c.g.isNone)
  unfold bT
  by_cases z:c.n=n
  ·rw [if_pos z];simp [z]
  ·rw [if_neg z];simp [z]
 rw [e1]
 refine US λc hc=>?_
 show ((bT n t c).n,(bT n t c).cur)=_
 unfold Cf.cur
 rw [(fF n t c).1,(fF n t c).2.2.2]
theorem yY {ks:List Ky} (h:(ks.map Ky.n).Nodup) (f:Ky→Bool):cG (ks.filter f)=(cG ks).filter f:=by
 have hs:((ks.filter f).map Ky.n).Nodup:=h.sublist (List.Sublist.map _ V9)
 refine oI (lt:=Ky.lt) Ky.HV Ky.tr (cU hs) ((cU h).filter _) λx=>?_
 rw [bD,UE,UE,bD]
theorem y0 {t:Rat} {fs:List (Str × aW)} (h:(fs.map (·.1)).Nodup) (n:Str):cX t (fs.filter λx=>decide (x.1≠n))=(cX t fs).filter λx=>decide (x≠n):=by
 unfold cX
 have e:(fs.filter λx=>decide (x.1≠n)).map (key t)=(fs.map (key t)).filter λk=>decide (k.n≠n):=by rw [Vg];rfl
 rw [e,yY (by rw [dj];exact h),Vg]
 rfl
theorem erase_filter {l:List Str} (h:l.Nodup) {j:Nat} {n:Str} (hj:l[j]?=some n):l.eraseIdx j=l.filter λx=>decide (x≠n):=by
 obtain ⟨hl,e⟩:=Uu.mp hj
 rw [List.eraseIdx_eq_take_drop_succ]
 have hd:l=l.take j ++ n :: l.drop (j + 1):=by rw [← e,← VJ hl,V5]
 have hn:=h
 rw [hd,Vp] at hn
 have k1:∀x∈l.take j,x≠n:=λx hx=>hn.2.2 x hx n (by simp)
 have k2:∀x∈l.drop (j + 1),x≠n:=λx hx z=>(Vz.mp hn.2.1).1 (by rw [← z];exact hx)
 conv=>rhs;rw [hd]
 rw [VR,U2,if_neg (by simp),Ve.mpr λx hx=>decide_eq_true (k1 x hx),Ve.mpr λx hx=>decide_eq_true (k2 x hx)]
theorem b_.leave {L:Ln} (ok:b_ L) (n:Str):b_ { L with cs:=L.cs.map (bT n L.t),row:=L.row.filter λx=>decide (x≠n) }:=by
 have hfs:Ln.fs { L with cs:=L.cs.map (bT n L.t),row:=L.row.filter λx=>decide (x≠n) }=L.fs.filter λx=>decide (x.1≠n):=yC (L:=L) (t:=L.t) rfl
 have mem:∀c∈L.cs.map (bT n L.t),∃c0∈L.cs,bT n L.t c0=c:=λc hc=>by obtain ⟨c0,h0,e⟩:=Uv.mp hc;exact ⟨c0,h0,e⟩
 have hw:∀c,(bT n L.t c).w=c.w:=λc=>(fF n L.t c).2.2.2
 refine ⟨⟨?_,?_,?_,?_,?_,?_,ok.t0,ok.ts,?_,?_,?_,?_⟩,?_⟩
 ·show ((L.cs.map (bT n L.t)).map Cf.n).Nodup
  rw [eR (λc=>(fF n L.t c).1)];exact ok.nd
 ·intro c hc;obtain ⟨c0,h0,rfl⟩:=mem c hc;rw [hw];exact ok.ne c0 h0
 ·intro c hc l hl;obtain ⟨c0,h0,rfl⟩:=mem c hc;rw [hw] at hl;exact ok.le c0 h0 l hl
 ·intro c hc l hl;obtain ⟨c0,h0,rfl⟩:=mem c hc;rw [hw] at hl;exact ok.ck c0 h0 l hl
 ·intro c hc;obtain ⟨c0,h0,rfl⟩:=mem c hc;rw [hw];exact ok.len c0 h0
 ·intro c hc q e
  obtain ⟨c0,h0,rfl⟩:=mem c hc
  unfold bT at e
  split at e
  ·cases e;exact ⟨ok.ts,Rat.le_refl⟩
  ·exact ok.gz c0 h0 q e
 ·show (L.cs.map (bT n L.t)).length≤100
  rw [Us];exact ok.many
 ·intro m
  rw [hfs]
  show m∈L.row.filter _↔_
  rw [UE,ok.rm,Uv,Uv]
  constructor
  ·rintro ⟨⟨x,hx,rfl⟩,k⟩;exact ⟨x,UE.mpr ⟨hx,k⟩,rfl⟩
  ·rintro ⟨x,hx,rfl⟩;exact ⟨⟨x,(UE.mp hx).1,rfl⟩,(UE.mp hx).2⟩
 ·exact ok.rn.sublist V9
 ·exact UM (Vj _ _) ok.rl
 ·rw [hfs]
  show L.row.filter _=_
  rw [y0 ok.ME,← ok.row]
theorem BZ {α:Type} [DecidableEq α]:∀{l:List α} {x:α},x∈l→∃j:Nat,l[j]?=some x∧∀m:Nat,m < j→l[m]?≠some x
 | y :: l,x,h=>by
  by_cases e:y=x
  ·exact ⟨0,by rw [e];rfl,λm hm=>by omega⟩
  ·rcases UI.mp h with h | h
   ·exact absurd h.symm e
   ·obtain ⟨j,h1,h2⟩:=BZ h
    refine ⟨j + 1,h1,λm hm=>?_⟩
    cases m with
    | zero=>intro z;exact e (Option.some.inj z)
    | succ m=>exact h2 m (by omega)
abbrev jP:Stmt:=(L2.inClass (top 44) 2)
abbrev mi:List Str:=["self","name"]
theorem uJ:L2.aw ["self","name"] ["self","name"] (L2.aj jP):=dH
def zB (cN cL eC:Addr):cA:=λxs J Q E=>∃p L n,xs=[.ref p,.str n]∧aY cN cL J p L∧b_ L∧(n ∉ L.row→E eC J)∧(n∈L.row→∀J' L',aY cN cL J' p L'→b_ L'→L'.cs=L.cs.map (bT n L.t)→L'.t=L.t→Mv J J' (L.own p) (L'.own p)→Q .non J')
theorem uz {cN cL eC f:Addr} {fd:FuncData} (F:cb K "leave" "Lane.leave" jP f fd) (Z:bQ mg) (ay:dW K mg "Lane" cN) (aF:aH K cN "logs") (aB:aH K cN "now") (aD:aH K cN "row") (ba:cI P w K mg base cN 1 "must_be_there" cy (q9 cN cL eC)) (kJ:cI P w K mg base cL 1 "leave" og (zq cL)):aQ P w K mg base (cP P w) 2 f fd mi (dn K (zB cN cL eC)):=by
 simp_arith [uJ,(ai (bt (bK (pl:=_) ba B hr (rv 0) (af (rv 1) ah)))
   (ai (bt (bK (pl:=_) kJ B hr (au dC (aT ay.cl aF (rv 0)) (rv 1)) (af (aT ay.cl aB (rv 0)) ah)))
   (aq (bt (my PySem.F.plainAttrs_list PySem.F.slot_list_remove PySem.F.type_list_remove D6 (aT ay.cl aD (rv 0)) (af (rv 1) ah))))))]
 ·obtain ⟨p,L,n,rfl,_⟩:=h;rfl
 obtain ⟨p,L,n,rfl,b,ok,qc,q⟩:=h
 have bo:=b.ob
 have bd:=b.dc
 refine hX ?_
 simp_all! [bo]
 refine ⟨fo _ _ _ _,p,L,n,rfl,b,λhn=>?_,qc⟩
 obtain ⟨c,hc,rfl,hg⟩:=ok.found hn
 have lo:=(b.lg c hc).o
 simp_all! [bo,rZ,um,bd,ok.va hc,lo]
 refine ⟨Sa _ _,c.a,c.r,c.w,c.g,L.t,rfl,b.lg c hc,?_⟩
 simp_all! [ak (Ne.symm (b.Rc hc)),bo,r8,ak (Ne.symm (b.Sj hc)),b.rw]
 obtain ⟨j,h1,h2⟩:=BZ hn
 refine ⟨L.row,rfl,j,h1,h2,?_⟩
 rw [erase_filter ok.rn h1]
 have hn':=fF c.n L.t
 have ok1:=ok.leave c.n
 refine q hn _ { L with cs:=L.cs.map (bT c.n L.t),row:=L.row.filter λx=>decide (x≠c.n) } ⟨?_,?_,ar,λx hx=>?_,?_,λx hx=>?_⟩ ok1 rfl rfl ?_
 ·rw [ak (Ne.symm b.Jl),ak (Ne.symm (b.Rc hc))];exact bo
 ·show put (put J c.a _) L.o _ L.d=_
  rw [ak b.Sk,ak (Ne.symm (b.TN hc)),bd]
  show _=some (HQ.dct ((L.cs.map (bT c.n L.t)).map λc=>(c.n,PV.ref c.a)) L.e)
  rw [eR (f:=λc:Cf=>(c.n,PV.ref c.a)) (λx=>by rw [(hn' x).1,(hn' x).2.1])]
 ·obtain ⟨x0,h0,rfl⟩:=Uv.mp hx
  have hl:=b.lg x0 h0
  refine ⟨?_,?_⟩
  ·rw [(hn' x0).2.1,(hn' x0).2.2.1,ak (b.Sj h0)]
   by_cases e:x0.n=c.n
   ·have:x0=c:=ok.uniq h0 hc e
    subst this
    rw [ar]
    unfold bT;rw [if_pos rfl];rfl
   ·have ha:x0.a≠c.a:=λz=>by
     have hh:=hl.o
     have hh2:=(b.lg c hc).o
     rw [z,hh2] at hh
     have hrr:c.r=x0.r:=by
      have h3:=(HQ.ins.inj (Option.some.inj hh)).2
      have h4:=(List.cons.inj h3).1
      have h5:=(Prod.mk.inj h4).2
      exact PV.ref.inj h5
     obtain ⟨i,hi,rfl⟩:=U4 h0
     obtain ⟨j',hj',rfl⟩:=U4 hc
     have:=(Vt (xs:=L.cs.map Cf.r) (i:=i) (j:=j') (h₀:=by simpa using hi) (h₁:=by simpa using hj') b.ap).mp (by rw [Vm,Vm];exact hrr.symm)
     subst this;exact e rfl
    rw [ak ha]
    unfold bT;rw [if_neg e];exact hl.o
  ·rw [(hn' x0).2.2.1,(hn' x0).2.2.2,ak (b.ao x0 h0),ak (λz=>by have h3:=hl.l;rw [z,lo] at h3;cases h3)];exact hl.l
 ·show ((L.cs.map (bT c.n L.t)).map Cf.r).Nodup
  rw [eR (λx=>(hn' x).2.2.1)];exact b.ap
 ·obtain ⟨x0,h0,rfl⟩:=Uv.mp hx
  rw [(hn' x0).2.2.1];exact b.ao x0 h0
 ·have own':∀a,Ln.own { L with cs:=L.cs.map (bT c.n L.t),row:=L.row.filter λx=>decide (x≠c.n) } p a→L.own p a:=λa h=>by
   rcases h with h | h | h | ⟨x,hx,h⟩
   ·exact .inl h
   ·exact .inr (.inl h)
   ·exact .inr (.inr (.inl h))
   ·obtain ⟨c0,h0,rfl⟩:=Uv.mp hx
    rw [(hn' c0).2.1,(hn' c0).2.2.1] at h
    exact .inr (.inr (.inr ⟨c0,h0,h⟩))
  refine (gB (S':=L.own p) (.inr (.inr (.inr ⟨c,hc,.inl rfl⟩))) λa h=>.inl h).trans (gB (.inr (.inr (.inl rfl))) λa h=>.inl (own' a h))
theorem Sub.trans {J J' J'':Hq} (h:Sub J J') (k:Sub J' J''):Sub J J'':=λa o e=>k a o (h a o e)
abbrev m5:Stmt:=(L2.inClass (top 31) 8)
abbrev p_:List Str:=["self"]
theorem fH:L2.aw ["self","moment","place","pace","other"] ["self"] (L2.aj m5):=dH
def CS (cL:Addr):cA:=λxs J Q _=>∃p r rows g,xs=[.ref p]∧x6 cL J p r rows g∧rows≠[]∧∀J' a' r',Sub J J'→J a'=none→J r'=none→x6 cL J' a' r' rows g→Q (.ref a') J'
theorem yO {cL f:Addr} {fd:FuncData} (F:cb K "twin" "Log.twin" m5 f fd) (Z:bQ mg) (bh:dW K mg "Log" cL) (aP:aH K cL "rows") (bJ:aH K cL "gone") (uQ:vT P w K mg base cL 1 "Log" fQ (xJ cL)):aQ P w K mg base (cP P w) 3 f fd p_ (dn K (CS cL)):=by
 simp_arith [fH,(ai (sL (au av (aT bh.cl aP (rv 0)) ag) (pE (n:=3) rfl (cx (bC (i:=1) fH.nd) (cx (bC (i:=2) fH.nd) (cx (bC (i:=3) fH.nd) lU)))))
   (ai (aE (i:=4) fH.nd (CG uQ B hr (af (rv 1) (af (rv 2) (af (rv 3) ah)))))
   (ai (eD bh.cl aP (rv 4) (dP iN rfl Z.list boot_list (af (aT bh.cl aP (rv 0)) ah)))
   (ai (eD bh.cl bJ (rv 4) (aT bh.cl bJ (rv 0)))
   (aq (aA (rv 4)))))))]
 ·obtain ⟨p,r,rows,g,rfl,_⟩:=h;rfl
 obtain ⟨p,r,rows,g,rfl,b,hne,q⟩:=h
 have bo:=b.o
 have bl:=b.l
 obtain ⟨l,ls,rfl⟩:∃l ls,rows=l :: ls:=VH hne
 refine hX ?_
 simp_arith! [bZ,bo,bl,Ge,aW.V]
 intro a ha
 refine ⟨a,l,rfl,ar,λr0 hr0=>⟨rfl,?_⟩⟩
 have ne1:∀{b u},J b=some u→b≠a:=λe z=>by subst z;rw [ha] at e;cases e
 have ne2:∀{b u},J b=some u→b≠r0:=λe z=>by subst z;rw [ak (ne1 e)] at hr0;rw [hr0] at e;cases e
 have nra:r0≠a:=by intro e;subst e;rw [ar] at hr0;cases hr0
 have sub:Sub J (put (put (put J a (.ins cL [])) r0 (.lst [l.V])) a (.ins cL [("rows",.ref r0),("gone",.non)])):=λb o e=>by rw [ak (ne1 e),ak (ne2 e),ak (ne1 e)];exact e
 have ho:(put (put (put J a (.ins cL [])) r0 (.lst [l.V])) a (.ins cL [("rows",.ref r0),("gone",.non)])) a=some (.ins cL [("rows",.ref r0),("gone",.non)]):=ar
 generalize (put (put (put J a (.ins cL [])) r0 (.lst [l.V])) a (.ins cL [("rows",.ref r0),("gone",.non)]))=J1 at sub ho ⊢
 refine fN (sub _ _ bo) (fP (Ge _ _) (fP (show kF J1 (.ref r)=some ((l :: ls).map aW.V) by rw [Gg,sub _ _ bl]) λr1 hr1=>?_))
 have n1:a≠r1:=by intro e;subst e;rw [ho] at hr1;cases hr1
 have n2:∀{b u},J b=some u→b≠r1:=λe z=>by subst z;rw [sub _ _ e] at hr1;cases hr1
 have hr:J r1=none:=by
  cases e:J r1 with
  | none=>rfl
  | some u=>exact absurd rfl (n2 e)
 refine fN (by rw [ak n1];exact ho) ⟨by show (2:Nat) < 1000;decide,?_⟩
 refine fN (by rw [ak (ne1 bo),ak (n2 bo)];exact sub _ _ bo) (fP (TL _ _) (fN ar ⟨by rw [Ct];show (2:Nat) < 1000;decide,?_⟩))
 rw [d_,Ct,JK]
 refine q _ a r1 (λb o e=>by rw [ak (ne1 e),ak (n2 e)];exact sub _ _ e) ha hr ⟨ar,by rw [ak (Ne.symm n1)];exact ar⟩
abbrev g9:Stmt:=(L2.inClass (top 44) 20)
abbrev oa:List Str:=["self"]
theorem oB:L2.aw ["self","other"] ["self"] (L2.aj g9):=dH
def Cf.face (c:Cf):Str × List aW × Option Rat:=(c.n,c.w,c.g)
structure Ln.alike (L L':Ln):Prop where
 t:L'.t=L.t
 row:L'.row=L.row
 cs:L'.cs.map Cf.face=L.cs.map Cf.face
theorem B1 (L:Ln):L.fs=((L.cs.map Cf.face).filter λf=>f.2.2.isNone).map λf=>(f.1,f.2.1.getLast?.getD ⟨0,0,0⟩):=by
 unfold Ln.fs Ln.Eu
 rw [Vg,UC];rfl
theorem Ln.alike.fs {L L':Ln} (h:L.alike L'):L'.fs=L.fs:=by rw [B1,B1,h.cs]
theorem Ln.alike.ex {L L':Ln} (h:L.alike L') {c':Cf} (hc:c'∈L'.cs):∃c∈L.cs,c.n=c'.n∧c.w=c'.w∧c.g=c'.g:=by
 have:c'.face∈L.cs.map Cf.face:=by rw [← h.cs];exact Uv.mpr ⟨c',hc,rfl⟩
 obtain ⟨c,hc,e⟩:=Uv.mp this
 unfold Cf.face at e
 exact ⟨c,hc,congrArg (·.1) e,congrArg (·.2.1) e,congrArg (·.2.2) e⟩
theorem Ln.alike.nm {L L':Ln} (h:L.alike L'):L'.cs.map Cf.n=L.cs.map Cf.n:=by
 have:=congrArg (VQ (·.1)) h.cs
 rw [UC,UC] at this;exact this
theorem Ln.alike.ok {L L':Ln} (h:L.alike L') (o:b_ L):b_ L':=by
 refine ⟨⟨by rw [h.nm];exact o.nd,λc hc=>?_,λc hc=>?_,λc hc=>?_,λc hc=>?_,λc hc=>?_,by rw [h.t];exact o.t0,by rw [h.t];exact o.ts,?_,by rw [h.row,h.fs];exact o.rm,by rw [h.row];exact o.rn,by rw [h.row];exact o.rl⟩,by rw [h.row,h.t,h.fs];exact o.row⟩
 ·obtain ⟨c0,h0,_,e,_⟩:=h.ex hc;rw [← e];exact o.ne c0 h0
 ·obtain ⟨c0,h0,_,e,_⟩:=h.ex hc;rw [← e,h.t];exact o.le c0 h0
 ·obtain ⟨c0,h0,_,e,_⟩:=h.ex hc;rw [← e];exact o.ck c0 h0
 ·obtain ⟨c0,h0,_,e,_⟩:=h.ex hc;rw [← e];exact o.len c0 h0
 ·obtain ⟨c0,h0,_,_,e⟩:=h.ex hc;rw [← e,h.t];exact o.gz c0 h0
 ·have:=congrArg Vl h.nm;rw [Us,Us] at this;rw [this];exact o.many
theorem x6.Qy {cL:Addr} {J J':Hq} {p r:Addr} {rows:List aW} {g:Option Rat} (h:x6 cL J p r rows g) (s:Sub J J'):x6 cL J' p r rows g:=⟨s _ _ h.o,s _ _ h.l⟩
def CZ (cN cL:Addr):cA:=λxs J Q _=>∃p L,xs=[.ref p]∧aY cN cL J p L∧b_ L∧∀J' p' L',Sub J J'→aY cN cL J' p' L'→b_ L'→L.alike L'→(∀a,L'.own p' a→J a=none)→Q (.ref p') J'
theorem wA {cN cL f:Addr} {fd:FuncData} (F:cb K "twin" "Lane.twin" g9 f fd) (Z:bQ mg) (ay:dW K mg "Lane" cN) (aB:aH K cN "now") (aF:aH K cN "logs") (aD:aH K cN "row") (mE:vT P w K mg base cN 1 "Lane" fv (xN cN cL)) (mT:cI P w K mg base cL 3 "twin" p_ (CS cL)):aQ P w K mg base (cP P w) 4 f fd oa (dn K (CZ cN cL)):=by
 simp_arith [oB,(ai (aE (i:=1) oB.nd (k6 mE B hr))
   (ai (eD ay.cl aB (rv 1) (aT ay.cl aB (rv 0)))
   (ai (eD ay.cl aF (rv 1) (LD (L2.aj g9) ["self","other"] [("self",0)] rfl rfl rfl (xg (aT ay.cl aF (rv 0))) (λ_ _ _ _ _ _=>(rv 0)) (λ_ _ _ _ _ _=>(cW (pl:=_) mT Fx hr (au dC (aT ay.cl aF (rv 1)) (rv 0))))))
   (ai (eD ay.cl aD (rv 1) (dP iN rfl Z.list boot_list (af (aT ay.cl aD (rv 0)) ah)))
   (aq (aA (rv 1)))))))]
 ·obtain ⟨p,L,rfl,_⟩:=h;rfl
 obtain ⟨p,L,rfl,b,ok,q⟩:=h
 refine hX ?_
 simp_all! []
 intro p' hp'
 refine ⟨p',rfl,ar,λJ1 d e o b1 mv1=>?_⟩
 have jp:∀{a u},J a=some u→a≠p':=λe z=>by subst z;rw [hp'] at e;cases e
 have sub:Sub J J1:=λa u e=>mv1.keep a u (by rw [ak (jp e)];exact e) (jp e)
 have uo:∀a,Ln.own ⟨0,d,e,o,[],[]⟩ p' a→J a=none:=λa z=>by
  rcases mv1.own a z with z | z
  ·rw [z];exact hp'
  ·by_cases y:a=p'
   ·rw [y];exact hp'
   ·rw [ak y] at z;exact z
 have ob1:J1 p'=some (.ins cN [("now",fr 0),("logs",.ref d),("row",.ref o)]):=b1.ob
 clear b1 mv1
 have hbo:=sub _ _ b.ob
 refine ⟨rfl,hNq _ _ ?_⟩
 clear hNq Nq
 simp_all! [hbo,ob1,rZ]
 refine ⟨by show (3:Nat) < 1000;decide,?_⟩
 have sub2:Sub J (put J1 p' (.ins cN [("now",fr L.t),("logs",.ref d),("row",.ref o)])):=λa u e=>by rw [ak (jp e)];exact sub _ _ e
 have ob2:put J1 p' (.ins cN [("now",fr L.t),("logs",.ref d),("row",.ref o)]) p'=some (.ins cN [("now",fr L.t),("logs",.ref d),("row",.ref o)]):=ar
 refine hNq _ _ ?_
 clear hNq Nq hbo sub ob1
 generalize put J1 p' (.ins cN [("now",fr L.t),("logs",.ref d),("row",.ref o)])=J2 at sub2 ob2 ⊢
 clear J1 uo
 have hbo:=sub2 _ _ b.ob
 have hbd:=sub2 _ _ b.dc
 simp_all! [Ri,hbo,um,hbd]
 intro D hD ep
 have n2:∀{a u},J2 a=some u→a≠D:=λe z=>by subst z;rw [hD] at e;cases e
 have jD:J D=none:=by
  cases e:J D with
  | none=>rfl
  | some u=>exact absurd rfl (n2 (sub2 _ _ e))
 obtain ⟨W,hW⟩:∃W:Nat→Hq→Prop,∀i J3,W i J3↔∃(cs:List Cf) (ep2:Nat),Sub J J3∧J3 D=some (.dct (cs.map λc=>(c.n,PV.ref c.a)) ep2)∧J3 p'=some (.ins cN [("now",fr L.t),("logs",.ref d),("row",.ref o)])∧cs.map Cf.face=(L.cs.take i).map Cf.face ∧
   (∀c∈cs,x6 cL J3 c.a c.r c.w c.g∧J c.a=none∧J c.r=none)∧(cs.map Cf.r).Nodup:=⟨_,λ_ _=>Iff.rfl⟩
 refine ⟨W,(hW _ _).mpr ⟨[],ep,λa u e=>by rw [ak (n2 (sub2 _ _ e))];exact sub2 _ _ e,ar,by rw [ak (n2 ob2)];exact ob2,rfl,(by simp),Wz⟩,?_,?_,?_⟩
 ·intro i J3 hw
  obtain ⟨cs,ep2,s3,hd3,ob3,fc,la,nd⟩:=(hW _ _).mp hw
  exact s3 _ _ b.dc
 ·intro i x J3 hx hw
  obtain ⟨cs,ep2,s3,hd3,ob3,fc,la,nd⟩:=(hW _ _).mp hw
  have hi:i < L.cs.length:=by have:=(Uu.mp hx).1;simpa using this
  have hc:L.cs[i]∈L.cs:=U9 hi
  have et:L.cs.take (i + 1)=L.cs.take i ++ [L.cs[i]]:=by rw [U0,Ut hi];rfl
  rw [Uz,Uz,Ut hi] at hx
  cases hx
  have hcd:=ok.tobc.nd
  have hnot:L.cs[i].n ∉ cs.map Cf.n:=by
   have e1:cs.map Cf.n=(L.cs.take i).map Cf.n:=by
    have:=congrArg (VQ (·.1)) fc
    rw [UC,UC] at this;exact this
   have e2:((L.cs.take (i + 1)).map Cf.n).Nodup:=hcd.sublist ((VA _ _).map _)
   rw [et,UA] at e2
   rw [e1]
   exact (gC e2).2
  generalize L.cs[i]=c at hc et hnot
  have b3o:=s3 _ _ b.ob
  have b3d:=s3 _ _ b.dc
  have hva:=ok.tobc.va hc
  have lg:=(b.lg c hc).Qy s3
  have lo:=lg.o
  simp_all! [b3o,um,b3d,hva,lo]
  refine ⟨Sf _ _,c.a,c.r,c.w,c.g,rfl,lg,ok.ne c hc,λJ4 a' r' s4 na nr l4=>?_⟩
  have hlen:cs.length≤100:=by
   have e1:=congrArg Vl fc
   rw [Us,Us,UR] at e1
   have:=ok.many;omega
  have s34:Sub J J4:=s3.trans s4
  have n4:∀{a u},J3 a=some u→a≠a'∧a≠r':=λ{a u} e=>⟨λz=>by subst z;exact absurd (na.symm.trans e) (λy=>nomatch y),λz=>by subst z;exact absurd (nr.symm.trans e) (λy=>nomatch y)⟩
  have jn:∀{a},J3 a=none→J a=none:=λ{a} e=>by
   cases z:J a with
   | none=>rfl
   | some u=>have:=s3 _ _ z;rw [e] at this;cases this
  have nD':=n4 hd3
  have epu:tN (cs.map λc=>(c.n,PV.ref c.a)) c.n (PV.ref a')=(cs ++ [Cf.mk c.n a' r' c.w c.g]).map λc=>(c.n,PV.ref c.a):=by
   unfold L2.tN
   rw [if_neg,UA]
   ·rfl
   ·intro z
    obtain ⟨kv,hkv,e⟩:=Wj.mp z
    obtain ⟨c0,h0,rfl⟩:=Uv.mp hkv
    exact hnot (Uv.mpr ⟨c0,h0,of_decide_eq_true e⟩)
  refine ⟨_,ep2,s4 _ _ hd3,bp (by rw [Us];omega),λep'=>(hW _ _).mpr ⟨cs ++ [⟨c.n,a',r',c.w,c.g⟩],ep',λa u e=>?_,?_,?_,?_,?_,?_⟩⟩
  ·rw [ak (λz=>by subst z;rw [jD] at e;cases e)];exact s34 _ _ e
  ·rw [epu];exact ar
  ·rw [ak (n2 ob2)];exact s4 _ _ ob3
  ·rw [et,UA,UA,fc];rfl
  ·intro c0 h0
   rcases UD.mp h0 with h0 | h0
   ·obtain ⟨l1,l2,l3⟩:=la c0 h0
    have l1':=l1.Qy s4
    exact ⟨⟨by rw [ak (λz=>by have:=l1.o;rw [z,hd3] at this;cases this)];exact l1'.o,by rw [ak (λz=>by have:=l1.l;rw [z,hd3] at this;cases this)];exact l1'.l⟩,l2,l3⟩
   ·rw [UH] at h0;subst h0
    exact ⟨⟨by rw [ak (Ne.symm nD'.1)];exact l4.o,by rw [ak (Ne.symm nD'.2)];exact l4.l⟩,jn na,jn nr⟩
  ·rw [UA,UB,Vo,Vp]
   refine ⟨nd,by simp,λx hx y hy e=>?_⟩
   rw [UH] at hy;subst hy;subst e
   obtain ⟨c0,h0,rfl⟩:=Uv.mp hx
   exact (n4 (la c0 h0).1.l).2 rfl
 ·intro J3 hw
  obtain ⟨cs,ep2,s3,hd3,ob3,fc,la,nd⟩:=(hW _ _).mp hw
  rw [Us,Us,UY] at fc
  have np:p'≠D:=n2 ob2
  simp_all! [ob3,K9,if_false]
  refine ⟨by show (3:Nat) < 1000;decide,?_⟩
  have sub4:Sub J (put J3 p' (.ins cN [("now",fr L.t),("logs",.ref D),("row",.ref o)])):=λa u e=>by rw [ak (jp e)];exact s3 _ _ e
  have ob4:put J3 p' (.ins cN [("now",fr L.t),("logs",.ref D),("row",.ref o)]) p'=some (.ins cN [("now",fr L.t),("logs",.ref D),("row",.ref o)]):=ar
  have hd4:put J3 p' (.ins cN [("now",fr L.t),("logs",.ref D),("row",.ref o)]) D=some (.dct (cs.map λc=>(c.n,PV.ref c.a)) ep2):=by rw [ak (Ne.symm np)];exact hd3
  have la4:∀c∈cs,x6 cL (put J3 p' (.ins cN [("now",fr L.t),("logs",.ref D),("row",.ref o)])) c.a c.r c.w c.g∧J c.a=none∧J c.r=none:=λc hc=>by
   obtain ⟨l1,l2,l3⟩:=la c hc
   refine ⟨⟨?_,?_⟩,l2,l3⟩
   ·rw [ak (AD l1.o ob3 r_)];exact l1.o
   ·rw [ak (λz=>by have:=l1.l;rw [z,ob3] at this;cases this)];exact l1.l
  refine hNq _ _ ?_
  clear hNq Nq hw
  generalize put J3 p' (.ins cN [("now",fr L.t),("logs",.ref D),("row",.ref o)])=J4 at sub4 ob4 hd4 la4 ⊢
  clear la hd3 ob3 s3 J3 hW W
  have b4o:=sub4 _ _ b.ob
  have b4r:=sub4 _ _ b.rw
  simp_all! [b4o,r8,b4r]
  intro O hO
  have n4:∀{a u},J4 a=some u→a≠O:=λe z=>by subst z;rw [hO] at e;cases e
  refine fN (by rw [ak (n4 ob4)];exact ob4) ⟨by show (3:Nat) < 1000;decide,?_⟩
  rw [Cs]
  refine hNq _ _ ?_
  clear hNq Nq
  simp_all! []
  have jO:J O=none:=by
   cases z:J O with
   | none=>rfl
   | some u=>exact absurd rfl (n4 (sub4 _ _ z))
  have al:L.alike ⟨L.t,D,ep2,O,cs,L.row⟩:=⟨rfl,rfl,fc⟩
  refine q _ p' ⟨L.t,D,ep2,O,cs,L.row⟩ (λa u e=>by rw [ak (jp e),ak (n4 (sub4 _ _ e))];exact sub4 _ _ e) ⟨ar,?_,?_,λc hc=>?_,nd,λc hc=>?_⟩ (al.ok ok) al ?_
  ·show put (put J4 O _) p' _ D=_
   rw [ak (Ne.symm np),ak (n4 hd4)];exact hd4
  ·show put (put J4 O _) p' _ O=_
   rw [ak (Ne.symm (n4 ob4))];exact ar
  ·obtain ⟨l1,l2,l3⟩:=la4 c hc
   exact ⟨by rw [ak (AD l1.o ob4 r_),ak (n4 l1.o)];exact l1.o,by rw [ak (λz=>by have:=l1.l;rw [z,ob4] at this;cases this),ak (n4 l1.l)];exact l1.l⟩
  ·exact n4 (la4 c hc).1.l
  ·rintro a (rfl | rfl | rfl | ⟨c,hc,rfl | rfl⟩)
   ·exact hp'
   ·exact jD
   ·exact jO
   ·exact (la4 c hc).2.1
   ·exact (la4 c hc).2.2
abbrev oz:Stmt:=(top 55)
abbrev fA:List Str:=["_law_cell_here","_law_many"]
theorem fg:L2.aw ["_law_cell_here","_law_many","_law_signs","_law_row","_law_some","_law_body","_law_at_here","_law_out","_law_k"] ["_law_cell_here","_law_many"] (L2.aj oz):=dH
def C0:Sp:=λvs H Q _=>∃c m:Int,vs=[.int c,.int m]∧0≤m∧m≤36∧∀(r:Addr) (H':Hp) (xs:List Str),H r=none→bG H H'→H' r=some (.lst (xs.map V.str))→(xs.length:Int)=m→xs.Nodup→(∀x∈xs,good x=true)→Q (.ref r) H'
def menu:List Str:=["m","ab","a","zebra9","b0","0","abc","9zz","q7q7q7q7","aa","z","a1b2c3d4"]
def df:Str:="abcdefghijklmnopqrstuvwxyz0123456789"
theorem Jc:menu.Nodup:=by decide +kernel
theorem Fh:df.cps.toList.Nodup:=by decide +kernel
theorem lI:df.cps.toList.length=36:=by decide +kernel
theorem Mp {α:Type} {xs:List α} {j:Int} (h0:0≤j) (h1:j < xs.length):dk xs j=some (xs[j.toNat]'(by omega)):=by
 have h:=bq (xs:=xs) (j:=j.toNat) (Ut (by omega))
 rw [show ((j.toNat:Nat):Int)=j by omega] at h
 exact h
def KO {α:Type} (xs:List α) (z:α) (d:Int) (k:Nat):α:=xs.getD ((d + 5 * (k:Int)) % (xs.length:Int)).toNat z
section
variable {α:Type} {xs:List α} {z:α} (d:Int)
theorem rL (h:0 < xs.length) (k:Nat):0≤(d + 5 * (k:Int)) % (xs.length:Int)∧(d + 5 * (k:Int)) % (xs.length:Int) < (xs.length:Int):=⟨Int.emod_nonneg _ (by omega),Int.emod_lt_of_pos _ (by omega)⟩
theorem nL (h:0 < xs.length) (k:Nat):xs[((d + 5 * (k:Int)) % (xs.length:Int)).toNat]?=some (KO xs z d k):=by
 have:=rL d h k
 unfold KO
 rw [List.getD_eq_getElem?_getD,Ut (by omega)]
 rfl
theorem My (h:0 < xs.length) (k:Nat):dk xs ((d + 5 * (k:Int)) % (xs.length:Int))=some (KO xs z d k):=by
 have:=bq (nL (z:=z) d h k)
 rwa [Int.toNat_of_nonneg (rL d h k).1] at this
theorem BU (h:0 < xs.length) (k:Nat):KO xs z d k∈xs:=Uw (nL d h k)
theorem RQ {M a b d u v:Int} (g:5 * u=1 + M * v) (a0:0≤a) (a1:a < M) (b0:0≤b) (b1:b < M) (e:(d + 5 * a) % M=(d + 5 * b) % M):a=b:=by
 have h:M ∣ 5 * (a - b):=by
  have:=Int.dvd_of_emod_eq_zero (Int.emod_eq_emod_iff_emod_sub_eq_zero.mp e)
  rwa [show d + 5 * a - (d + 5 * b)=5 * (a - b) by omega] at this
 obtain ⟨c,hc⟩:M ∣ a - b:=by
  obtain ⟨c,hc⟩:=h
  refine ⟨u * c - v * (a - b),?_⟩
  have h1:5 * u * (a - b)=u * (M * c):=by rw [← hc];grind
  rw [g] at h1
  grind
 rcases Int.lt_trichotomy c 0 with k | k | k
 ·have:M * c≤M * (-1):=Int.mul_le_mul_of_nonneg_left (by omega) (by omega)
  omega
 ·subst k;omega
 ·have:M * 1≤M * c:=Int.mul_le_mul_of_nonneg_left (by omega) (by omega)
  omega
theorem BS (u v:Int) (hn:xs.Nodup) (g:5 * u=1 + (xs.length:Int) * v) {i j:Nat} (hi:i < xs.length) (hj:j < xs.length) (e:KO xs z d i=KO xs z d j):i=j:=by
 have h:0 < xs.length:=by omega
 have a:=nL (z:=z) d h i
 have b:=nL (z:=z) d h j
 rw [e] at a
 obtain ⟨a1,a2⟩:=Uu.mp a
 obtain ⟨b1,b2⟩:=Uu.mp b
 have e1:=(Vt hn).mp (a2.trans b2.symm)
 have:=rL d h i
 have:=rL d h j
 exact Int.ofNat.inj (RQ g (Int.natCast_nonneg i) (Int.ofNat_lt.mpr hi) (Int.natCast_nonneg j) (Int.ofNat_lt.mpr hj) (show (d + 5 * (i:Int)) % _=(d + 5 * (j:Int)) % _ by omega))
end
theorem Gj:menu.length=12:=by decide +kernel
abbrev pick:Int→Nat→Str:=KO menu ""
theorem JJ (d:Int) (k:Nat):dk (menu.map V.str) ((d + 5 * (k:Int)) % 12)=some (.str (pick d k)):=by
 have h:=rL (xs:=menu) d (by decide +kernel) k
 have g:=bq (xs:=menu.map V.str) (j:=((d + 5 * (k:Int)) % (menu.length:Int)).toNat) (by rw [Uz,nL (xs:=menu) (z:="") d (by decide +kernel) k];rfl)
 rw [Int.toNat_of_nonneg h.1,Gj] at g
 exact g
theorem GS (d:Int) {m:Nat} (hm:m≤12):((Vb m).map (pick d)).Nodup:=by
 refine List.Pairwise.map (R:=λi j=>i < 12∧j < 12∧i≠j) _ (λi j ⟨a,b,c⟩ e=>c (BS d 5 2 Jc (by decide +kernel) a b e)) ?_
 refine List.Pairwise.imp_of_mem (R:=λi j=>i≠j) (λ{i j} hi hj ne=>?_) (List.nodup_range)
 rw [VE] at hi hj
 exact ⟨by omega,by omega,ne⟩
theorem D4:∀x∈menu,good x=true:=by decide +kernel
theorem rH:∀c∈df.cps.toList,eG cJ c=true:=by decide +kernel
theorem Es (d:Int) (k:Nat):good (pick d k)=true:=D4 _ (BU d (by decide +kernel) k)
theorem IQ {cs:List Nat} (h0:0 < cs.length) (h1:cs.length≤8) (h:∀c∈cs,eG cJ c=true):good ⟨cs.toArray⟩=true:=by
 unfold good
 rw [UX,UX]
 refine ⟨⟨decide_eq_true ?_,decide_eq_true ?_⟩,VC.mpr λc hc=>h c (by simpa using hc)⟩
 ·show 1≤cs.toArray.size;rw [Uy];omega
 ·show cs.toArray.size≤8;rw [Uy];omega
abbrev sign:Int→Nat→Nat:=KO df.cps.toList 0
theorem Kl (d:Int) (k:Nat):dk df.cps.toList ((d + 5 * (k:Int)) % 36)=some (sign d k):=by
 have h:=My (xs:=df.cps.toList) (z:=0) d (by decide +kernel) k
 rw [lI] at h
 exact h
theorem EC (d:Int) (k:Nat):eG cJ (sign d k)=true:=rH _ (BU d (by decide +kernel) k)
theorem Hl (d:Int) {i j:Nat} (hi:i < 36) (hj:j < 36) (e:sign d i=sign d j):i=j:=BS d (-7) (-1) Fh (by decide +kernel) (by rw [lI];exact hi) (by rw [lI];exact hj) e
theorem HG {d:Int} {n:Nat} {xs:List Str} (hl:xs.length≤36) (h:∀k x,xs[k]?=some x→x.cps.toList[n]?=some (sign d k)):xs.Nodup:=by
 refine Vd.mpr λi j hi hj hij e=>?_
 have a:=h i _ (Ut hi)
 have b:=h j _ (Ut hj)
 rw [e] at a
 rw [a] at b
 have:=Hl d (by omega) (by omega) (Option.some.inj b)
 omega
theorem Fu {xs:List V} {k:Int} (h:0≤k):oX xs none (some k)=xs.take k.toNat:=by
 obtain ⟨j,rfl⟩:∃j:Nat,k=(j:Int):=⟨k.toNat,by omega⟩
 unfold oX
 rw [HT.zi,HT.xi,V2,Int.toNat_natCast]
 rcases Nat.le_total j xs.length with e | e
 ·rw [WU e]
  rfl
 ·rw [Nat.min_eq_right e,Nat.sub_zero,Vr (Ux _),Vr e]
theorem GD (cs:List Nat):((cs.map one).map (·.length)).sum=cs.length:=by
 induction cs with
 | nil=>rfl
 | cons c cs ih =>
  rw [UB,UB,List.sum_cons,ih,UQ]
  show 1 + cs.length=cs.length + 1
  omega
theorem Qw {ds:List Int} (hD:Dig ds [3,36,8,36,36,36,36,36,36,36,36,840]):∃(d0 d1 d2 d11:Int) (es:List Int),dk (ds.map V.int) 0=some (.int d0)∧dk (ds.map V.int) 1=some (.int d1)∧dk (ds.map V.int) 2=some (.int d2)∧dk (ds.map V.int) 11=some (.int d11) ∧
  oX (ds.map V.int) (some 3) (some 11)=es.map V.int∧es.length=8∧(∀e∈es,0≤e∧e < 36)∧0≤d2∧d2 < 8:=by
 obtain ⟨d0,ds,rfl,_,_,hD⟩:=hD.cons
 obtain ⟨d1,ds,rfl,_,_,hD⟩:=hD.cons
 obtain ⟨d2,ds,rfl,d20,d21,hD⟩:=hD.cons
 have key:∀(n:Nat) {ds:List Int},Dig ds (Vn n 36 ++ [840])→∃es d,ds=es ++ [d]∧es.length=n∧∀e∈es,0≤e∧e < 36:=by
  intro n
  induction n with
  | zero=>intro ds h;obtain ⟨d,ds,rfl,_,_,h⟩:=h.cons;cases h.nil;exact ⟨[],d,rfl,rfl,λe he=>by cases he⟩
  | succ n ih =>
   intro ds h
   obtain ⟨d,ds,rfl,h0,h1,h⟩:=h.cons
   obtain ⟨es,x,rfl,hl,he⟩:=ih h
   exact ⟨d :: es,x,rfl,congrArg Nat.succ hl,List.forall_mem_cons.mpr ⟨⟨h0,h1⟩,he⟩⟩
 obtain ⟨es,d11,rfl,hl,he⟩:=key 8 hD
 refine ⟨d0,d1,d2,d11,es,bq (j:=0) rfl,bq (j:=1) rfl,bq (j:=2) rfl,bq (j:=11) ?_,?_,hl,he,d20,d21⟩
 ·rw [Uz,U_,U_,U_,Vs (by omega),hl];rfl
 ·have h11:((d0 :: d1 :: d2 :: (es ++ [d11])).map V.int).length=12:=by simp [hl]
  unfold oX
  rw [show (some (3:Int))=some ((3:Nat):Int) from rfl,show (some (11:Int))=some ((11:Nat):Int) from rfl,HT.xi,HT.xi,h11]
  show List.take 8 ((es ++ [d11]).map V.int)=_
  rw [UA,List.take_append_of_le_length (by simp [hl]),Vr (by simp [hl])]
theorem IV {p q a b:Prop} [Decidable p] [Decidable q]:(if p then if q then a else b else b)=if p∧q then a else b:=by by_cases hp:p <;> by_cases hq:q <;> simp [hp,hq]
theorem Gq {f:Addr} {fd:FuncData} (F:cb K "_law_names" "_law_names" oz f fd) (Z:EL mg) (dA:tL P w K mg base 1 "_law_digits" cq (tm K)):aQ P w K mg base rh 2 f fd fA C0:=by
 refine F.ok fg (λvs H Q E h=>?_) (λcdv A outer s H vs Q E hr h=>?_)
 ·obtain ⟨c,m,rfl,_⟩:=h
  rfl
 obtain ⟨c,m,rfl,m0,m1,q⟩:=h
 refine ⟨_,(QB.run (a_ (cV (i:=2) fg.nd rfl (Or.inr rfl) pq)
   (a_ (cV (i:=3) fg.nd rfl (Or.inr rfl) (y8 dA hr (by decide) rfl (az (pv 0) (az (jy (GJ [.int 3,.int 36,.int 8,.int 36,.int 36,.int 36,.int 36,.int 36,.int 36,.int 36,.int 36,.int 840] rfl)) bj))))
   (a_ (ot (Lk (wY (dO GF (cn gy (pv 3) aS (λ_ _=>rfl)) aS (ft _)) (qT (dO Le (pv 1) aS (ft _))))) (a_ (cV (i:=4) fg.nd rfl (Or.inr rfl) (jy (GJ [.str "m",.str "ab",.str "a",.str "zebra9",.str "b0",.str "0",.str "abc",.str "9zz",.str "q7q7q7q7",.str "aa",.str "z",.str "a1b2c3d4"] rfl)))
   (bN (dY (JD (aj oz) ["_law_cell_here","_law_many","_law_signs","_law_row","_law_some","_law_body","_law_at_here","_law_out","_law_k"] [("_law_row",3),("_law_some",4)] rfl rfl rfl (gh rfl Z.range (az (pv 1) bj)) (λ_ _ _ _ _ _=>(cn gy (pv 2) (bF gG (bF jx (cn gy (pv 1) aS (λ_ _=>rfl)) (bF cQ aS (pv 0))) aS) (λ_ _=>rfl))))))) f_)
   (a_ (JM (i:=5) (aj oz) ["_law_cell_here","_law_many","_law_signs","_law_row","_law_some","_law_body","_law_at_here","_law_out","_law_k"] [("_law_signs",2)] rfl rfl rfl fg.nd rfl (Or.inl rfl) (n9 (kM xB (pv 3) (lR aS) (lR aS))) (λ_ _ _ _ _ _=>(cn F2 (pv 1) (pv 0) (λ_ _=>rfl))))
   (y_ (ot (dO GF (cn gy (pv 3) aS (λ_ _=>rfl)) aS (ft _)) (bN (cV (i:=5) fg.nd rfl (Or.inl rfl) (kM xB (pv 5) qR (lR (bF jx (cn gy (pv 3) aS (λ_ _=>rfl)) aS))))) f_)
   (a_ (cV (i:=6) fg.nd rfl (Or.inl rfl) (bF gG (cn gy (pv 3) aS (λ_ _=>rfl)) (bL jh rfl Z.len boot_len (az (pv 5) bj))))
   (a_ (cV (i:=7) fg.nd rfl (Or.inl rfl) (jy bj))
   (a_ (pw PassesOwn.never rfl (gh rfl Z.range (az (pv 1) bj)) (lQ (i:=8) fg.nd rfl (Or.inl rfl)) (a_ (wR (cn F2 (pv 2) (bF gG (bF jx (cn gy (pv 3) aS (λ_ _=>rfl)) (bF cQ aS (pv 8))) aS) (λ_ _=>rfl)) (wM (pv 5) (pv 6) set_list))
   (bN (lS (sv PySem.F.plainAttrs_list PySem.F.slot_list_append PySem.F.type_list_append iX (pv 7) (az (sv PySem.F.plainAttrs_str PySem.F.slot_str_join PySem.F.type_str_join Jh pq (az (pv 5) bj)) bj))))))
   (bN (dY (pv 7)))))))))))),?_⟩
 refine ⟨_,rfl,(by show 12≤sizeLine;decide),λp hp=>?_⟩
 have ss:=lA (ss:=[3,36,8,36,36,36,36,36,36,36,36,840]) (by decide)
 refine ⟨c,p,[3,36,8,36,36,36,36,36,36,36,36,840],rfl,cZ.of aG,ss,by decide,λr H1 ds _ g1 hr1 hD=>?_⟩
 obtain ⟨d0,d1,d2,d11,es,at0,at1,at2,at11,hcut,el,be,d20,d21⟩:=Qw hD
 clear hD
 generalize ds.map V.int=row at hr1 at0 at1 at2 at11 hcut
 have g1:=(bG.new hp _).trans g1
 dsimp! [rJoin,hr1,at0,at1]
 rw [IV]
 split
 ·refine ⟨(by show 12≤sizeLine;decide),λp2 hp2=>?_⟩
  have g2:=bG.new hp2 (.lst (menu.map V.str))
  have h2:(upd H1 p2 (.lst (menu.map V.str))) p2=some (.lst (menu.map V.str)):=aG
  have hr2:=g2 _ _ hr1
  refine ⟨_,rfl,m,rfl,by omega,by omega,λD hD=>?_⟩
  refine F' (lo:=0) (n:=m.toNat) (λi H'=>bG (upd H1 p2 (.lst (menu.map V.str))) H'∧H' D=some (.lst (((Vb i).map (pick d1)).map V.str))) ⟨bG.new hD _,aG⟩ ?_ ?_
  ·rintro i H' R hi ⟨g,hd⟩ k
   have hr3:=g _ _ hr2
   have h3:=g _ _ h2
   dsimp! [rJoin,hr3,h3,at1,Int.zero_add]
   refine ⟨.of (Bd.small (by decide) (by decide)) (Bd.small (x:=(i:Int)) (by omega) (by omega)),_,JJ d1 i,?_⟩
   refine k _ _ _ hd (by rw [Us,Us,V1];exact bp (by omega)) ⟨g.Ou hD _,?_⟩
   rw [aG]
   simp [List.range_succ]
  ·rintro H' ⟨g,hd⟩
   exact q D H' _ (g1.free (g2.free hD)) (g1.trans (g2.trans g)) hd (by rw [Us,V1];omega) (GS d1 (by omega)) (λx hx=>by obtain ⟨k,_,rfl⟩:=Uv.mp hx;exact Es d1 k)
 refine ⟨_,rfl,3,rfl,11,rfl,r,_,rfl,cZ.of hr1,λp2 hp2=>⟨p2,rfl,⟨_,cZ.of aG⟩,λD hD=>?_⟩⟩
 rw [hcut] at hD ⊢
 have g2:=bG.new hp2 (.lst (es.map V.int))
 have hr2:=g2 _ _ hr1
 have h2:(upd H1 p2 (.lst (es.map V.int))) p2=some (.lst (es.map V.int)):=aG
 have al:=lI
 have al2:df.length≤sizeLine:=by decide +kernel
 refine IX (K:=K) (a:=p2) (xs:=es.map V.int) (λi H'=>bG (upd H1 p2 (.lst (es.map V.int))) H'∧∃cs:List Nat,cs.length=i∧(∀c∈cs,eG cJ c=true)∧H' D=some (.lst ((cs.map one).map V.str)))
  ⟨bG.new hD _,[],rfl,(λc hc=>by cases hc),aG⟩ (λi H' _ ⟨g,_⟩=>cZ.of (g _ _ h2)) ?_ ?_
 ·rintro i y H' R hi ⟨g,cs,hcs,hca,hd⟩ k
  have hil:=(Uu.mp hi).1
  obtain ⟨z,rfl,hz⟩:=rT hi
  obtain ⟨z0,z1⟩:=be z (Uw hz)
  have at1:=Mp (xs:=df.cps.toList) z0 (by rw [al];exact z1)
  dsimp! [rJoin]
  refine ⟨al2,_,at1,?_⟩
  refine k _ _ _ hd (by rw [Us,Us,hcs];rw [Us] at hil;exact bp (by omega)) ⟨g.Ou hD _,cs ++ [df.cps.toList[z.toNat]'(by rw [al];omega)],by rw [UP,hcs];rfl,?_,?_⟩
  ·intro c hc
   rcases UD.mp hc with hc | hc
   ·exact hca c hc
   ·rw [UH] at hc;subst hc;exact rH _ (U9 _)
  rw [aG,UA,UA]
  rfl
 rintro H2 ⟨g,cs,hcs,hca,hd⟩
 have hr3:=g _ _ hr2
 have g:=g1.trans (g2.trans g)
 have hcs:cs.length=8:=hcs.trans ((Us _).trans el)
 obtain ⟨M,hM⟩:∃M:L2.St→Hp→Prop,∀σ' H',M σ' H'↔∃(D:Addr) (cs:List Nat),σ'=[some (.int c),some (.int m),some (.str df),some (.ref r),none,some (.ref D),none,none,none]∧bG H H'∧H D=none∧H' r=some (.lst row)∧D≠r∧0 < cs.length∧cs.length≤8∧(∀c∈cs,eG cJ c=true)∧H' D=some (.lst ((cs.map one).map V.str)):=⟨_,λ_ _=>Iff.rfl⟩
 have fD:H D=none:=g1.free (g2.free hD)
 have nDr:D≠r:=(bI hr2 hD).symm
 refine ⟨M,?_,?_⟩
 ·dsimp! [rJoin,hr3,at0,at2]
  split
  ·refine ⟨_,cZ.of hd,λp4 hp4=>(hM _ _).mpr ⟨p4,cs.take (d2 + 1).toNat,rfl,g.trans (bG.new hp4 _),g.free hp4,?_,?_,?_,?_,(λc hc=>hca c (Vh hc)),?_⟩⟩
   ·exact (bG.new hp4 _) _ _ hr3
   ·exact (bI hr3 hp4).symm
   ·rw [UR];omega
   ·rw [UR];omega
   ·rw [aG,Fu (by omega),Vw,Vw]
  ·exact (hM _ _).mpr ⟨D,cs,rfl,g,fD,hr3,nDr,by omega,by omega,hca,hd⟩
 clear hca hd hr3 g fD nDr hcs
 intro σ5 H5 hm
 obtain ⟨D,cs,rfl,g,fD,hr3,nDr,l0,l1,hca,hd⟩:=(hM _ _).mp hm
 clear hm hM M
 have e0s:(Str.ofString "").length=0:=by decide +kernel
 have hl:((cs.map one).map V.str).length=cs.length:=by rw [Us,Us]
 have hlp:(0:Int) < (((cs.map one).map V.str).length:Nat):=by rw [hl];omega
 have a0:=Int.emod_nonneg d11 (show (((cs.map one).map V.str).length:Int)≠0 by omega)
 have a1:=Int.emod_lt_of_pos d11 hlp
 refine ⟨_,rfl,r,_,11,_,rfl,rfl,hr3,at11,_,rfl,D,rfl,_,.inl (cZ.of hd),_,_,rfl,rfl,hlp,?_⟩
 generalize hat:d11 % (((cs.map one).map V.str).length:Int)=at' at a0 a1
 rw [hl] at a1
 refine ⟨UZ _,λO hO=>?_⟩
 have gO:=bG.new hO (.lst [])
 have nOD:O≠D:=(bI hd hO).symm
 have nOr:O≠r:=(bI hr3 hO).symm
 have fO:H O=none:=g.free hO
 refine ⟨_,rfl,m,rfl,by omega,by omega,vb (lo:=0) (n:=m.toNat) (λi σ H'=>∃(v:Option V) (cs':List Nat) (xs:List Str),σ=[some (.int c),some (.int m),some (.str df),some (.ref r),none,some (.ref D),some (.int at'),some (.ref O),v] ∧
  bG H H'∧H' r=some (.lst row)∧cs'.length=cs.length∧(∀c∈cs',eG cJ c=true)∧H' D=some (.lst ((cs'.map one).map V.str))∧H' O=some (.lst (xs.map V.str))∧xs.length=i∧(∀x∈xs,good x=true)∧∀k x,xs[k]?=some x→x.cps.toList[at'.toNat]?=some (sign d1 k)) ?_ ?_ ?_⟩
 ·exact ⟨none,cs,[],by rw [← hat];rfl,g.trans gO,gO _ _ hr3,rfl,hca,gO _ _ hd,aG,rfl,(λx hx=>by cases hx),λk x e=>by cases e⟩
 ·rintro i σ H' hi ⟨v,cs',xs,rfl,g',hr',hl',hca',hd',ho',hx,hxl,hs⟩
  have al2:df.length≤sizeLine:=by decide +kernel
  have sg:=Kl d1 i
  refine ⟨_,rfl,_,rfl,r,_,1,_,rfl,rfl,hr',at1,_,rfl,_,_,rfl,rfl,.of (Bd.small (by decide) (by decide)) (Bd.small (x:=0 + (i:Int)) (by omega) (by omega)),_,_,rfl,rfl,_,_,rfl,rfl,(show (0:Int) < 36 by decide),_,_,_,rfl,rfl,al2,(by rw [Int.zero_add];exact sg),?_⟩
  have ix:EO ((cs'.map one).map V.str).length at'=some at'.toNat:=by
   unfold EO
   rw [if_pos a0,if_pos (by rw [Us,Us,hl'];exact a1)]
  refine ⟨_,rfl,_,rfl,D,_,at',_,rfl,rfl,hd',ix,?_⟩
  have es:((cs'.map one).map V.str).set at'.toNat (.str ⟨#[sign d1 i]⟩)=((cs'.set at'.toNat (sign d1 i)).map one).map V.str:=by
   rw [List.map_set,List.map_set]
   rfl
  have gD:=bG.Ou fD g' (.lst (((cs'.map one).map V.str).set at'.toNat (.str ⟨#[sign d1 i]⟩)))
  have hD2:(upd H' D (.lst (((cs'.map one).map V.str).set at'.toNat (.str ⟨#[sign d1 i]⟩)))) D=some (.lst (((cs'.set at'.toNat (sign d1 i)).map one).map V.str)):=by rw [aG,es]
  have hr2:(upd H' D (.lst (((cs'.map one).map V.str).set at'.toNat (.str ⟨#[sign d1 i]⟩)))) r=_:=(aM nDr.symm).trans hr'
  have ho2:(upd H' D (.lst (((cs'.map one).map V.str).set at'.toNat (.str ⟨#[sign d1 i]⟩)))) O=_:=(aM nOD).trans ho'
  have lc:(cs'.set at'.toNat (sign d1 i)).length=cs.length:=by rw [VN,hl']
  have hcn:∀c∈cs'.set at'.toNat (sign d1 i),eG cJ c=true:=λc hc=>by
   rcases List.mem_or_eq_of_mem_set hc with h | h
   ·exact hca' c h
   ·rw [h];exact EC d1 i
  refine ⟨_,rfl,.inl ⟨rfl,_,cZ.of ho2⟩,rfl,_,rfl,_,D,(cs'.set at'.toNat (sign d1 i)).map one,rfl,rfl,cZ.of hD2,?_,O,_,_,rfl,rfl,ho2,?_,?_⟩
  ·rw [GD,Us,lc,e0s]
   omega
  ·rw [Us,hx]
   exact bp (by omega)
  ·rw [join_ones]
   refine ⟨_,cs'.set at'.toNat (sign d1 i),xs ++ [⟨(cs'.set at'.toNat (sign d1 i)).toArray⟩],rfl,gD.Ou fO _,(aM nOr.symm).trans hr2,lc,hcn,(aM nOD.symm).trans hD2,?_,by rw [UP,hx];rfl,?_,?_⟩
   ·rw [aG,UA]
    rfl
   ·intro x hx2
    rcases UD.mp hx2 with h | h
    ·exact hxl x h
    ·simp only [UI,UT,or_false] at h
     subst h
     exact IQ (by rw [lc];exact l0) (by rw [lc];exact l1) hcn
   ·intro k x e
    rcases Wt k xs.length with hk | hk
    ·rw [Vx hk] at e
     exact hs k x e
    ·rw [Vs hk] at e
     have ek:k=i:=by
      cases hz:k - xs.length with
      | zero=>omega
      | succ z=>rw [hz] at e;cases e
     rw [show k - xs.length=0 by omega] at e
     have ex:=Option.some.inj e
     subst ex
     rw [ek]
     show (cs'.set at'.toNat (sign d1 i))[at'.toNat]?=some (sign d1 i)
     rw [UU (by omega)]
 ·rintro σ H' ⟨v,cs',xs,rfl,g',hr',hl',hca',hd',ho',hx,hxl,hs⟩
  exact ⟨_,rfl,q O H' xs fO g' ho' (by omega) (HG (by omega) hs) hxl⟩
def zE:cA:=λxs J Q _=>∃c m:Int,xs=[.int c,.int m]∧0≤m∧m≤36∧∀ns:List Str,(ns.length:Int)=m→ns.Nodup→(∀x∈ns,good x=true)→Q (.fl (ns.map .str)) J
theorem vn {K:PySem.W.Frag} {J:Hq} {H:Hp}:∀ns:List Str,aU K J H (ns.map PV.str) (ns.map V.str)
 | []=>rfl
 | n :: ns=>⟨_,_,rfl,rfl,vn ns⟩
theorem AI (C:tL P w K mg base 2 "_law_names" fA C0):bz P w K mg base 2 "_law_names" fA zE:=C.lift λxs J vs H Q2 E2 Q E rs r ⟨c,m,ex,h0,h1,q⟩ kn=>by
 subst ex
 obtain ⟨v,u,rfl,r1,r2⟩:=jW rs
 cases r1;cases r2
 exact ⟨c,m,rfl,h0,h1,λp H' ns hp s e hl nd lx=>kn (.fl (ns.map .str)) J (.ref p) H' ⟨p,_,rfl,.inl ⟨r.free hp,.inl e⟩,vn ns⟩ (r.same s) (.same s) (q ns hl nd lx)⟩
abbrev xr:Stmt:=(top 48)
abbrev iu:List Str:=["_law_found"]
theorem Hj:L2.aw ["_law_found"] ["_law_found"] (L2.aj xr):=dH
def jb:cA:=λxs J Q _=>∃i:Int,xs=[.int i]∧Q (.bl true) J
theorem Eh {f:Addr} {fd:FuncData} (F:cb K "_law_whole" "_law_whole" xr f fd) (Z:bQ mg):aQ P w K mg base (cP P w) 1 f fd iu (dn K jb):=by
 simp_arith [Hj,(aq (aA (Bi (aI gr rfl Z.isinstance boot_isinstance (af (rv 0) (af (k7 rfl Z.int boot_int) ah))) (xa (NJ (aI gr rfl Z.isinstance boot_isinstance (af (rv 0) (af (k7 rfl Z.bool boot_bool) ah))))))))]
 ·obtain ⟨i,rfl,_⟩:=h;rfl
 obtain ⟨i,rfl,q⟩:=h
 refine hX ?_
 simp_arith! [bZ]
 exact q
abbrev Bp:Stmt:=(top 50)
abbrev f6:List Str:=["_law_found","_law_due"]
theorem Kf:L2.aw ["_law_found","_law_due"] ["_law_found","_law_due"] (L2.aj Bp):=dH
def jT:cA:=λxs J Q _=>∃a:Rat,xs=[fr a,fr a]∧Q (.bl true) J
theorem Gx {f:Addr} {fd:FuncData} (F:cb K "_law_part" "_law_part" Bp f fd) (Z:bQ mg) (qC:bz P w K mg base 1 "_law_whole" iu jb):aQ P w K mg base (cP P w) 2 f fd f6 (dn K jT):=by
 simp_arith [Kf,(ai (aX (di (fY (bS (bA (aI gr rfl Z.isinstance boot_isinstance (af (rv 0) (af (k7 rfl Z.tuple boot_tuple) ah))))) (fe (aL (g6 hr.aV) (aI bO rfl Z.len boot_len (af (rv 0) ah)) ag)))) (aq (aA dh)) aK)
   (ai (aX (di (fY (bS (bA (aO qC B hr (af (au av (rv 0) ag) ah)))) (fe (bS (bA (aO qC B hr (af (au av (rv 0) ag) ah))))))) (aq (aA dh)) aK)
   (aq (aA (eZ (cT hr.aV) (rv 0) (rv 1))))))]
 ·obtain ⟨a,rfl,_⟩:=h;rfl
 obtain ⟨a,rfl,q⟩:=h
 refine hX ?_
 simp_arith! [bZ,jb]
 exact q
abbrev sS:Stmt:=(top 56)
abbrev kQ:List Str:=["_law_number","_law_mode"]
theorem Ez:L2.aw ["_law_number","_law_mode"] ["_law_number","_law_mode"] (L2.aj sS):=dH
def vw:cA:=λxs J Q _=>∃n m:Int,xs=[.int n,.int m]∧0≤n∧∀v:Int,v.natAbs≤1000000→Q (.int v) J
theorem AV {f:Addr} {fd:FuncData} (F:cb K "_law_placed" "_law_placed" sS f fd) (Z:bQ mg):aQ P w K mg base (cP P w) 1 f fd kQ (dn K vw):=by
 simp_arith [Ez,(ai (aX (aL gZ (rv 1) ag) (aq (aA (aR eW (aR fu (rv 0) ag) ag))) aK)
   (ai (aX (aL (cT hr.aV) (rv 1) ag) (aq (aA (aR eW (aR fu (rv 0) ag) ag))) aK)
   (aq (aA (aR eW (aR fu (rv 0) ag) ag)))))]
 ·obtain ⟨n,m,rfl,_⟩:=h;rfl
 obtain ⟨n,m,rfl,n0,q⟩:=h
 refine hX ?_
 simp_all! []
 split
 ·simp_all! [];exact ⟨by decide,q _ (by omega)⟩
 simp_all! []
 split
 ·simp_all! [];exact ⟨by decide,q _ (by omega)⟩
 ·simp_all! [];exact ⟨by decide,q _ (by omega)⟩
abbrev xp:Stmt:=(top 57)
abbrev mr:List Str:=["_law_number","_law_mode"]
theorem Hh:L2.aw ["_law_number","_law_mode"] ["_law_number","_law_mode"] (L2.aj xp):=dH
def zF:cA:=λxs J Q _=>∃n m:Int,xs=[.int n,.int m]∧0≤n∧n < 2001∧∀v:Int,v.natAbs≤1000→Q (.int v) J
theorem Eg {f:Addr} {fd:FuncData} (F:cb K "_law_paced" "_law_paced" xp f fd) (Z:bQ mg):aQ P w K mg base (cP P w) 1 f fd mr (dn K zF):=by
 simp_arith [Hh,(ai (aX (aL gZ (rv 1) ag) (aq (aA (aR eW (aR fu (rv 0) ag) ag))) aK)
   (ai (aX (aL (cT hr.aV) (rv 1) ag) (aq (aA (aR eW (aR fu (rv 0) ag) ag))) aK)
   (aq (aA (aR eW (aR fu (rv 0) ag) ag)))))]
 ·obtain ⟨n,m,rfl,_⟩:=h;rfl
 obtain ⟨n,m,rfl,n0,n1,q⟩:=h
 refine hX ?_
 simp_all! []
 split
 ·simp_all! [];exact ⟨by decide,q _ (by omega)⟩
 simp_all! []
 split
 ·simp_all! [];exact ⟨by decide,q _ (by omega)⟩
 ·simp_all! [];exact ⟨by decide,q _ (by omega)⟩
abbrev NR:Stmt:=(top 60)
abbrev jB:List Str:=["_law_leg","_law_moment"]
theorem zl:L2.aw ["_law_leg","_law_moment","_law_begun","_law_place","_law_way","_law_under"] ["_law_leg","_law_moment"] (L2.aj NR):=dH
theorem M8 {f:Addr} {fd:FuncData} (F:cb K "_law_at" "_law_at" NR f fd) (Z:bQ mg) (rq:bz P w K mg base 1 "_law_low" eL nk):aQ P w K mg base (cP P w) 2 f fd jB (dn K qh):=by
 simp_arith [zl,(ai (aE (i:=2) zl.nd (au av (rv 0) ag))
   (ai (aE (i:=3) zl.nd (au av (rv 0) ag))
   (ai (aE (i:=4) zl.nd (aR cF (au av (rv 0) ag) (aR eW (aR cF (au av (rv 1) ag) (au av (rv 2) ag)) (aR cF (au av (rv 2) ag) (au av (rv 1) ag)))))
   (ai (aE (i:=5) zl.nd (aR cF (au av (rv 1) ag) (au av (rv 2) ag)))
   (aq (aA (aO rq B hr (af (aR cS (aR cF (au av (rv 3) ag) (rv 5)) (aR cF (rv 4) (au av (rv 3) ag))) (af (aR cF (au av (rv 3) ag) (rv 5)) ah)))))))))]
 ·obtain ⟨l,t,rfl,_⟩:=h;rfl
 obtain ⟨l,m,rfl,sb,sp,sm,bv,q⟩:=h
 refine hX ?_
 simp_all! [ve,F1,kC]
 have bn:Bd 1801 (m.num * l.m.den - l.m.num * m.den):=.sub (.mul sm.num sb.den (Ux _)) (.mul sb.num sm.den (Ux _))
 have bu:Bd 1800 ((m.den:Int) * l.m.den):=.mul sm.den sb.den
 have bw:Bd 1900 (l.v * (m.num * l.m.den - l.m.num * m.den)):=.mul bv bn
 refine ⟨.of sm.num sb.den,.of sb.num sm.den,.of bv bn,?_⟩
 simp_all! []
 refine ⟨.of sm.den sb.den,?_⟩
 simp_all! [nk]
 refine ⟨.of sp.num bu,.of bw sp.den,.of sp.den bu,Int.mul_pos (fk _) (Int.mul_pos (fk _) (fk _)),.mul sp.den bu,?_⟩
 rw [OM]
 exact q
abbrev xm:Stmt:=(top 58)
abbrev mq:List Str:=["_law_clock","_law_number","_law_bottom","_law_mode"]
theorem oF:L2.aw ["_law_clock","_law_number","_law_bottom","_law_mode","_law_under","_law_steps"] ["_law_clock","_law_number","_law_bottom","_law_mode"] (L2.aj xm):=dH
def CT:cA:=λxs J Q _=>∃(c:Rat) (n b m:Int),xs=[fr c,.int n,.int b,.int m]∧0≤n∧0≤b∧0≤m∧m < 4∧n < 2 ^ 60∧Sz 900 c∧∀q,Later c q→Q (fr q) J
theorem Ee {f:Addr} {fd:FuncData} (F:cb K "_law_later" "_law_later" xm f fd) (Z:bQ mg) (rq:bz P w K mg base 1 "_law_low" eL nk):aQ P w K mg base (cP P w) 2 f fd mq (dn K CT):=by
 simp_arith [oF,(ai (aX (aL (cT hr.aV) (aR fu (rv 1) ag) ag) (aq (aA (rv 0))) aK)
   (ai (aE (i:=4) oF.nd (aR cS ag (aR fu (rv 2) (au av (k4 (w9 [.int 4,.int 6,.int 60,.int 60] rfl [.int 4,.int 6,.int 60,.int 60] rfl)) (rv 3)))))
   (ai (aE (i:=5) oF.nd (aR cS ag (aR fu (aR qO (rv 1) ag) (aR cF ag (rv 4)))))
   (ed (aX (aL (cT hr.aV) (rv 3) ag) (aq (aE (i:=5) oF.nd (aR cS ag (aR fu (aR qO (rv 1) ag) (aR cF ag (rv 4)))))) aK)
   (aq (aA (aO rq B hr (af (aR cS (aR qO (aR cF (au av (rv 0) ag) (rv 4)) (au av (rv 0) ag)) (rv 5)) (af (rv 4) ah)))))))))]
 ·obtain ⟨c,n,b,m,rfl,_⟩:=h;rfl
 obtain ⟨c,n,b,m,rfl,n0,b0,m0,m1,n2,sc,q⟩:=h
 refine hX ?_
 simp_all! []
 refine ⟨by decide,?_⟩
 split
 ·simp_all! []
  exact q c (.inl rfl)
 obtain ⟨x,hx,x0,x1⟩:∃x:Int,dk [PV.int 4,PV.int 6,PV.int 60,PV.int 60] m=some (.int x)∧1≤x∧x≤60:=by
  rcases (by omega:m=0∨m=1∨m=2∨m=3) with e | e | e | e <;> subst e
  ·exact ⟨4,dU _ _,by decide,by decide⟩
  ·exact ⟨6,fW _ _ _,by decide,by decide⟩
  ·exact ⟨60,l_ _ _ _ _,by decide,by decide⟩
  ·exact ⟨60,Fj _ _ _ _ _,by decide,by decide⟩
 have u0:0≤b % x:=Int.emod_nonneg _ (by omega)
 have u1:b % x < x:=Int.emod_lt_of_pos _ (by omega)
 have bu:Bd 64 (1 + b % x):=.small (by omega) (by omega)
 have b8:Bd 9000 8:=(Bd.small (x:=8) (by decide) (by decide)).mono (by decide)
 simp_all! [hx]
 refine ⟨by omega,?_⟩
 simp_all! []
 refine ⟨⟨by decide,b8⟩,.of (.small (x:=2) (by decide) (by decide)) bu,by omega,?_⟩
 generalize hu:1 + b % x=u at *
 have k0:0≤n.fdiv 8:=by rw [Int.fdiv_eq_ediv_of_nonneg _ (by decide)];exact Int.ediv_nonneg n0 (by decide)
 obtain ⟨M,hM⟩:∃M:Sr→Hq→Prop,∀τ' J',M τ' J'↔∃s:Int,τ'=[some (fr c),some (.int n),some (.int b),some (.int m),some (.int u),some (.int s)]∧J'=J∧1≤s∧s≤500 * u:=⟨_,λ_ _=>Iff.rfl⟩
 simp_all! []
 refine ⟨M,?_,?_⟩
 ·simp_arith! [bZ]
  have h2:0≤n.fdiv 8 % (2 * u):=Int.emod_nonneg _ (by omega)
  have h3:n.fdiv 8 % (2 * u) < 2 * u:=Int.emod_lt_of_pos _ (by omega)
  have h4:0≤n.fdiv 8 % (500 * u):=Int.emod_nonneg _ (by omega)
  have h5:n.fdiv 8 % (500 * u) < 500 * u:=Int.emod_lt_of_pos _ (by omega)
  split
  ·refine ⟨⟨by decide,b8⟩,.of (.small (x:=500) (by decide) (by decide)) bu,by omega,(hM _ _).mpr ⟨_,rfl,rfl,by omega,by omega⟩⟩
  ·exact (hM _ _).mpr ⟨_,rfl,rfl,by omega,by omega⟩
 ·intro τ' J' hm
  obtain ⟨s,rfl,rfl,s0,s1⟩:=(hM _ _).mp hm
  clear hm hM M
  simp_arith! [bZ,nk]
  refine ⟨.of sc.num bu,⟨fm c,sc.den.mono (by decide)⟩,by omega,bu.mono (by decide),?_⟩
  obtain ⟨u',rfl⟩:=Int.eq_ofNat_of_zero_le (show 0≤u by omega)
  obtain ⟨s',rfl⟩:=Int.eq_ofNat_of_zero_le (show 0≤s by omega)
  exact q _ (.inr ⟨u',s',by omega,by omega,by omega,by omega,rfl⟩)
theorem vd {α:Type} {V:α→PV} {lt:α→α→Bool} {ys:List α} {b:α} {r:Addr} {sp:cA} {E2:Addr→Hq→Prop} {D:En} {τ:Sr} {J:Hq} {iO iA iR:Nat}
  (hO:τ[iO]?=some (some (.ref r))) (hR:τ[iR]?=some (some (V b))) (hA:τ[iA]?=some (some (.int 0))) (nO:iA≠iO) (nR:iA≠iR) (hJ:J r=some (.lst (ys.map V)))
  (hb:∀y∈ys,∀R:PV→Hq→Prop,R (.bl (lt y b)) J→sp [V y,V b] J R E2)
  (high:∀{i j:Nat} {x y:α},ys[i]?=some x→ys[j]?=some y→i≤j→lt x b=false→lt y b=false)
  (fin:∀j:Nat,j≤ys.length→(∀(k:Nat) y,k < j→ys[k]?=some y→lt y b=true)→(∀(k:Nat) y,j≤k→ys[k]?=some y→lt y b=false)→D.nx (τ.set iA (some (.int j))) J) :
  G9 (JS (rB (xZ (G3 λi j=>.bl (decide (i < j))) (jF iA) (Qa NC (kZ (jF iO) uG)))) (rB (ze sp E2 (kZ (xZ Lo (jF iO) (jF iA)) (kZ (jF iR) uG))))) (uF (xZ (G3 λi j=>.int (i + j)) (jF iA) (rC (.int 1))) (IK iA)) D τ J:=by
 have hl:iA < τ.length:=(Uu.mp hA).1
 have sO:∀x,(τ.set iA x)[iO]?=some (some (.ref r)):=λx=>by rw [U' nO];exact hO
 have sR:∀x,(τ.set iA x)[iR]?=some (some (V b)):=λx=>by rw [U' nR];exact hR
 have sA:∀x,(τ.set iA x)[iA]?=some x:=λx=>UU hl
 refine ⟨λm τ' J'=>∃j:Nat,j≤ys.length∧m=ys.length - j∧τ'=τ.set iA (some (.int j))∧J'=J∧∀(k:Nat) y,k < j→ys[k]?=some y→lt y b=true,⟨ys.length,0,UZ _,rfl,?_,rfl,λk y hk=>by omega⟩,?_⟩
 ·have h2:=List.set_getElem_self hl
  rw [(Uu.mp hA).2] at h2
  exact h2.symm
 rintro m τ' J' ⟨j,hj,rfl,rfl,rfl,hlow⟩
 simp_all! [sO,sA,hJ,Us]
 by_cases c0:j < ys.length
 ·rw [if_pos (by omega)]
  obtain ⟨y,hy⟩:∃y,ys[j]?=some y:=⟨_,Ut c0⟩
  have ha:dk (ys.map V) (j:Int)=some (V y):=bq (by rw [Uz,hy];rfl)
  simp_all! [sO,sA,sR,hJ,ha]
  refine hb y (Uw hy) _ ?_
  refine wI rfl ?_
  cases hc:lt y b with
  | true =>
   rw [if_pos rfl]
   obtain ⟨N,hN⟩:∃N:Sr→Hq→Prop,∀τ' J'',N τ' J''↔∃i:Nat,i≤ys.length∧ys.length - (j + 1)=ys.length - i∧τ'=τ.set iA (some (.int i))∧J''=J'∧∀(k:Nat) y,k < i→ys[k]?=some y→lt y b=true:=⟨_,λ_ _=>Iff.rfl⟩
   refine ⟨N,λτ'' J'' h=>⟨ys.length - (j + 1),by omega,(hN _ _).mp h⟩,?_⟩
   simp_arith! [bZ,sA]
   refine (hN _ _).mpr ⟨j + 1,by omega,rfl,by rw [List.set_set,Int.natCast_succ],rfl,λk z hk e=>?_⟩
   rcases VV (Nat.lt_succ_iff.mp hk) with h | h
   ·exact hlow k z h e
   ·subst h;rw [hy] at e;cases e;exact hc
  | false =>
   rw [if_neg (by decide)]
   exact fin j hj hlow λk z hk e=>high hy e hk hc
 ·rw [if_neg (by omega)]
  exact fin j hj hlow λk z hk e=>by rw [U6 (by omega)] at e;cases e
section
variable {X:Cx}
theorem nv.or {f:Value→Value→Sem Value} {q q':nG} (h:nv X f q) (h':nv X f q'):nv X f (λx y J Q=>q x y J Q∨q' x y J Q):=by
 obtain ⟨r,a,lr⟩:=h
 obtain ⟨r',a',lr'⟩:=h'
 refine ⟨λx y H Q=>r x y H Q∨r' x y H Q,λpins s σ H x y v u Q I rx ry h=>?_,λJ H x y v w Q2 Q rx ry rr h k=>?_⟩
 ·rcases h with h | h
  ·exact a pins s σ H x y v u Q I rx ry h
  ·exact a' pins s σ H x y v u Q I rx ry h
 ·rcases h with h | h
  ·exact .inl (lr J H x y v w Q2 Q rx ry rr h k)
  ·exact .inr (lr' J H x y v w Q2 Q rx ry rr h k)
end
def Ky.V (k:Ky):PV:=.tup [fr k.p,.int k.v,.str k.n]
theorem O3 (J:Hq) (k:Ky):fL J k.V (.int 0)=some (fr k.p):=dU _ _
theorem O4 (J:Hq) (k:Ky):fL J k.V (.int 1)=some (.int k.v):=fW _ _ _
theorem KW (J:Hq) (k:Ky):fL J k.V (.int 2)=some (.str k.n):=l_ _ _ _ _
theorem QR (p:Rat) (v:Int) (n:Str):PV.tup [fr p,.int v,.str n]=(Ky.mk p v n).V:=rfl
theorem uW (p q:Rat):(p.num * (q.den:Int) < q.num * (p.den:Int))=(p < q):=propext (Rat.lt_iff p q).symm
abbrev sM:Stmt:=(top 63)
abbrev gH:List Str:=["_law_one","_law_two"]
theorem pL:L2.aw ["_law_one","_law_two","_law_here","_law_there"] ["_law_one","_law_two"] (L2.aj sM):=dH
def tj:cA:=λxs J Q _=>(∃a b:Ky,xs=[a.V,b.V]∧Sz 9000 a.p∧Sz 9000 b.p∧Q (.bl (a.lt b)) J)∨(∃a b:aJ,xs=[a.v,b.v]∧Sz 9000 a.m∧Sz 9000 b.m∧Q (.bl (a.lt b)) J)
theorem AU {f:Addr} {fd:FuncData} (F:cb K "_law_before" "_law_before" sM f fd) (Z:bQ mg):aQ P w K mg base (cP P w) 1 f fd gH (dn K tj):=by
 simp_arith [pL,(ai (aE (i:=2) pL.nd (aR cF (au av (au av (rv 0) ag) ag) (au av (au av (rv 1) ag) ag)))
   (ai (aE (i:=3) pL.nd (aR cF (au av (au av (rv 1) ag) ag) (au av (au av (rv 0) ag) ag)))
   (ai (aX (aL (g6 hr.aV) (rv 2) (rv 3)) (aq (aA (eZ gZ (rv 2) (rv 3)))) aK)
   (ai (aX (aL (g6 hr.aV) (au av (rv 0) ag) (au av (rv 1) ag)) (aq (aA (eZ (nv.or gZ A3) (au av (rv 0) ag) (au av (rv 1) ag)))) aK)
   (aq (aA (eZ A3 (au av (rv 0) ag) (au av (rv 1) ag))))))))]
 ·rcases h with ⟨a,b,rfl,_⟩ | ⟨a,b,rfl,_⟩ <;> rfl
 refine hX ?_
 rcases h with ⟨a,b,rfl,sa,sb,q⟩ | ⟨a,b,rfl,sa,sb,q⟩
 ·simp_arith! [bZ,O3,O4,KW]
  refine ⟨.of sa.num sb.den,.of sb.num sa.den,?_⟩
  unfold Ky.lt at q
  by_cases e:a.p=b.p
  ·rw [if_pos e] at q
   rw [if_pos ((lK _ _).mpr e)]
   by_cases k:a.v=b.v
   ·rw [if_pos k] at q ⊢;exact q
   ·rw [if_neg k] at q ⊢;exact .inl q
  ·rw [if_neg e] at q
   rw [if_neg (λz=>e ((lK _ _).mp z))]
   simp only [uW]
   exact q
 ·simp_arith! [bZ,FY,FZ,F0]
  refine ⟨.of sa.num sb.den,.of sb.num sa.den,?_⟩
  unfold aJ.lt at q
  by_cases e:a.m=b.m
  ·rw [if_pos e] at q
   rw [if_pos ((lK _ _).mpr e)]
   by_cases k:a.h=b.h
   ·rw [if_pos k] at q ⊢;exact q
   ·rw [if_neg k] at q ⊢;exact .inr q
  ·rw [if_neg e] at q
   rw [if_neg (λz=>e ((lK _ _).mp z))]
   simp only [uW]
   exact q
abbrev qW:Stmt:=(top 64)
abbrev iq:List Str:=["_law_legs","_law_moment"]
theorem i9:L2.aw ["_law_legs","_law_moment","_law_out","_law_name","_law_row","_law_at_here"] ["_law_legs","_law_moment"] (L2.aj qW):=dH
def tu:cA:=λxs J Q _=>∃(D:Addr) (fs:List (Str × aW)) (ep:Nat) (t:Rat),xs=[.ref D,fr t]∧J D=some (.dct (bY fs) ep)∧(fs.map (·.1)).Nodup∧fs.length≤100∧Sz 900 t∧(∀x∈fs,qk 900 x.2)∧Q (.fl ((cX t fs).map .str)) J
theorem Ef {f:Addr} {fd:FuncData} (F:cb K "_law_order" "_law_order" qW f fd) (Z:bQ mg) (zP:bz P w K mg base 2 "_law_at" jB qh) (rj:bz P w K mg base 1 "_law_before" gH tj):aQ P w K mg base (cP P w) 3 f fd iq (dn K tu):=by
 simp_arith [i9,(ai (aE (i:=2) i9.nd (mV ah))
   (ai (eE b7 rfl (xg (rv 0)) (bC (i:=3) i9.nd) (ai (aE (i:=4) i9.nd (cu (af (aO zP B hr (af (au dC (rv 0) (rv 3)) (af (rv 1) ah))) (af (au av (au dC (rv 0) (rv 3)) ag) (af (rv 3) ah)))))
   (ai (aE (i:=5) i9.nd ag)
   (ai (k9 b7 (di (fT (aL gZ (rv 5) (aI bO rfl Z.len boot_len (af (rv 2) ah))) (fb (bA (aO rj B hr (af (au av (rv 2) (rv 5)) (af (rv 4) ah))))))) (aq (aE (i:=5) i9.nd (aR cS (rv 5) ag))))
   (aq (bt (my PySem.F.plainAttrs_list PySem.F.slot_list_insert PySem.F.type_list_insert lP (rv 2) (af (rv 5) (af (rv 4) ah)))))))))
   (aq (aA (LF (L2.aj qW) ["_law_legs","_law_moment","_law_out","_law_name","_law_row","_law_at_here"] [] rfl rfl rfl (dQ (rv 2)) (λ_ _ _ _ _ _=>(au av (rv 0) ag))))))),F]
 ·obtain ⟨D,fs,ep,t,rfl,_⟩:=h;rfl
 obtain ⟨D,fs,ep,t,rfl,hD,hnd,hlen,st,sl,q⟩:=h
 refine hX ?_
 simp_all! []
 intro r hr'
 have nDr:D≠r:=by intro e;subst e;rw [hD] at hr';cases hr'
 simp_all! [ak nDr,hD]
 have hkv:(bY fs).map (λkv=>PV.str kv.1)=fs.map λx=>PV.str x.1:=by unfold bY;rw [UC];rfl
 rw [hkv]
 obtain ⟨Inv,hInv⟩:∃Inv:Nat→Sr→Hq→Prop,∀i τ J',Inv i τ J'↔∃(u3 u4 u5:Option PV),τ=[some (.ref D),some (fr t),some (.ref r),u3,u4,u5]∧J'=put J r (.lst ((cG ((fs.take i).map (key t))).map Ky.V)):=⟨_,λ_ _ _=>Iff.rfl⟩
 refine gw Inv ((hInv _ _ _).mpr ⟨_,_,_,rfl,rfl⟩) (λi τ J' h=>?_) ?_ ?_
 ·obtain ⟨_,_,_,_,rfl⟩:=(hInv _ _ _).mp h
  rw [ak nDr];exact hD
 ·intro i x τ J' hx hv
  obtain ⟨u3,u4,u5,rfl,rfl⟩:=(hInv _ _ _).mp hv
  clear hv
  have hi:i < fs.length:=by have:=(Uu.mp hx).1;simpa using this
  rw [Uz,Ut hi] at hx
  cases hx
  rcases hfi:fs[i] with ⟨n,l⟩
  have hmem:(n,l)∈fs:=by rw [← hfi];exact U9 hi
  have et:fs.take (i + 1)=fs.take i ++ [(n,l)]:=by rw [U0,Ut hi,hfi];rfl
  have hndt:((fs.take i).map (·.1)).Nodup:=by rw [Vw];exact hnd.sublist (VA _ _)
  obtain ⟨ys,hys⟩:∃ys,cG ((fs.take i).map (key t))=ys:=⟨_,rfl⟩
  have srt:oW Ky.lt ys:=by rw [← hys];exact cU (by rw [dj];exact hndt)
  have hyl:ys.length=i:=by rw [← hys,iZ,Us,UR];omega
  have hym:∀y∈ys,Sz 9000 y.p:=λy hy=>by
   rw [← hys,bD,Uv] at hy
   obtain ⟨x',hx',rfl⟩:=hy
   exact (km (sl x' (Vh hx')) st).mono (by decide)
  have en:cG ((fs.take (i + 1)).map (key t))=qr Ky.lt (key t (n,l)) ys:=by rw [et,UA,UB,Vo,i4,hys]
  rw [hys]
  have hvn:mC (bY fs) n=some l.V:=jX (f:=aW.V) hnd hmem
  have sll:=sl _ hmem
  simp_all! [ak nDr,hD,hvn]
  refine ⟨l,t,rfl,sll.m,sll.p,st,sll.v,?_⟩
  simp_all! [ak nDr,hD,hvn,kC,QR]
  have ek:(Ky.mk (l.at t) l.v n)=key t (n,l):=rfl
  rw [ek]
  have skn:Sz 9000 (key t (n,l)).p:=(km sll st).mono (by decide)
  generalize key t (n,l)=kn at en skn ⊢
  refine vd (V:=Ky.V) (lt:=Ky.lt) (ys:=ys) (b:=kn) (iO:=2) (iA:=5) (iR:=4) rfl rfl rfl (by decide) (by decide) ar (λy hy R hR=>.inl ⟨y,kn,rfl,hym y hy,skn,hR⟩) (λhx hy h k=>ED (lt:=Ky.lt) Ky.tr srt hx hy h k) λj hj hlow hhigh=>?_
  simp_all! [ar]
  refine ⟨_,j,rfl,rfl,by rw [Us];exact hj,bp (by rw [Us];omega),by omega,?_⟩
  rw [d_]
  refine (hInv _ _ _).mpr ⟨_,_,_,rfl,?_⟩
  rw [en,← B_ hj hlow hhigh,UA,UB,Vw,VX]
 ·intro τ J' hv
  obtain ⟨u3,u4,u5,rfl,rfl⟩:=(hInv _ _ _).mp hv
  rw [Us,UY]
  simp_all! [sG,ar]
  refine ⟨λ_=>true,(λx=>match x with | .tup [_,_,n]=>n | _=>.non),⟨bp (by rw [Us,iZ,Us];omega),λJ2 hs=>⟨hs _ _ ar,λx hx=>⟨⟨rfl,rfl⟩,λ_=>?_⟩⟩⟩,?_⟩
  ·obtain ⟨y,hy,rfl⟩:=Uv.mp hx
   simp_arith! [bZ,KW]
   rfl
  ·rw [Ve.mpr λ_ _=>rfl,UC]
   have e:(cX t fs).map PV.str=(cG (fs.map (key t))).map ((λx=>match x with | .tup [_,_,n]=>n | _=>.non) ∘ Ky.V):=by unfold cX;rw [UC];rfl
   rw [e] at q
   exact Fg.less (iW hr') q
abbrev xt:Stmt:=(top 51)
abbrev mw:List Str:=["_law_found","_law_due"]
theorem zo:L2.aw ["_law_found","_law_due","_law_one"] ["_law_found","_law_due"] (L2.aj xt):=dH
def C3:cA:=λxs J Q _=>∃ss:List Str,xs=[.fl (ss.map .str),.fl (ss.map .str)]∧ss.length≤900∧Q (.bl true) J
theorem GY (ss:List Str):i8 (ss.map PV.str)=true:=by
 induction ss with
 | nil=>rfl
 | cons x ss ih=>rw [UB,lT,wX,ih];rfl
theorem Fw (ss:List Str):dI (fG (ss.map PV.str))≤1:=by
 induction ss with
 | nil=>simp [fG,dI]
 | cons x ss ih=>simp only [UB,fG,fR,dI,dep];omega
theorem BQ (ss:List Str):HS (.fl (ss.map .str)):=⟨by unfold mx;exact GY ss,by
 have:=Fw ss
 simp only [fR,dep];omega⟩
theorem Ei {f:Addr} {fd:FuncData} (F:cb K "_law_words" "_law_words" xt f fd) (Z:bQ mg):aQ P w K mg base (cP P w) 1 f fd mw (dn K C3):=by
 simp_arith [zo,(ai (aX (di (fY (bS (bA (aI gr rfl Z.isinstance boot_isinstance (af (rv 0) (af (k7 rfl Z.list boot_list) ah))))) (fe (aL (g6 hr.aV) (aI bO rfl Z.len boot_len (af (rv 0) ah)) (aI bO rfl Z.len boot_len (af (rv 1) ah)))))) (aq (aA dh)) aK)
   (ai (eE b7 rfl (dQ (rv 0)) (bC (i:=2) zo.nd) (aq (aX (bS (bA (aI gr rfl Z.isinstance boot_isinstance (af (rv 2) (af (k7 rfl Z.str boot_str) ah))))) (aq (aA dh)) aK)))
   (aq (aA (eZ (cT hr.aV) (rv 0) (rv 1))))))]
 ·obtain ⟨ss,rfl,_⟩:=h;rfl
 obtain ⟨ss,rfl,hl,q⟩:=h
 refine hX ?_
 simp_all! [Us]
 obtain ⟨Inv,hInv⟩:∃Inv:Nat→Sr→Hq→Prop,∀i τ J',Inv i τ J'↔∃u:Option PV,τ=[some (.fl (ss.map .str)),some (.fl (ss.map .str)),u]∧J'=J:=⟨_,λ_ _ _=>Iff.rfl⟩
 refine gw Inv ((hInv _ _ _).mpr ⟨_,rfl,rfl⟩) (λ_ _ _ _=>trivial) ?_ ?_
 ·intro i x τ J' hx hv
  obtain ⟨u,rfl,rfl⟩:=(hInv _ _ _).mp hv
  obtain ⟨y,_,rfl⟩:=Uv.mp (Uw hx)
  simp_all! []
  exact (hInv _ _ _).mpr ⟨_,rfl,rfl⟩
 ·intro τ J' hv
  obtain ⟨u,rfl,rfl⟩:=(hInv _ _ _).mp hv
  simp_all! []
  refine ⟨BQ ss,(BQ ss).1,?_⟩
  rw [eq_self];exact q
abbrev pI:Stmt:=(top 52)
abbrev j1:List Str:=["_law_found","_law_due"]
theorem Bt:L2.aw ["_law_found","_law_due"] ["_law_found","_law_due"] (L2.aj pI):=dH
def pQ:cA:=λxs J Q _=>∃a:aJ,xs=[a.v,a.v]∧Q (.bl true) J
theorem yT {f:Addr} {fd:FuncData} (F:cb K "_law_passrow" "_law_passrow" pI f fd) (Z:bQ mg) (oQ:bz P w K mg base 2 "_law_part" f6 jT):aQ P w K mg base (cP P w) 3 f fd j1 (dn K pQ):=by
 simp_arith [Bt,(ai (aX (di (fY (bS (bA (aI gr rfl Z.isinstance boot_isinstance (af (rv 0) (af (k7 rfl Z.tuple boot_tuple) ah))))) (fe (aL (g6 hr.aV) (aI bO rfl Z.len boot_len (af (rv 0) ah)) ag)))) (aq (aA dh)) aK)
   (ai (aX (di (fY (bS (bA (aI gr rfl Z.isinstance boot_isinstance (af (au av (rv 0) ag) (af (k7 rfl Z.str boot_str) ah))))) (fe (bS (bA (aI gr rfl Z.isinstance boot_isinstance (af (au av (rv 0) ag) (af (k7 rfl Z.str boot_str) ah)))))))) (aq (aA dh)) aK)
   (aq (aA (Bi (aO oQ B hr (af (au av (rv 0) ag) (af (au av (rv 1) ag) ah))) (xa (eZ (cT hr.aV) (rv 0) (rv 1))))))))]
 ·obtain ⟨a,rfl,_⟩:=h;rfl
 obtain ⟨a,rfl,q⟩:=h
 refine hX ?_
 simp_arith! [bZ,jT,FY,FZ,F0,S1,O8,RM,Lj,RP]
 exact q
abbrev m8:Stmt:=(top 53)
abbrev i6:List Str:=["_law_found","_law_due"]
theorem qg:L2.aw ["_law_found","_law_due","_law_k"] ["_law_found","_law_due"] (L2.aj m8):=dH
def tw:cA:=λxs J Q _=>∃(rows:List aJ) (x:PV),xs=[x,.fl (rows.map aJ.v)]∧kF J x=some (rows.map aJ.v)∧rows.length≤900∧Q (.bl true) J
theorem wG {f:Addr} {fd:FuncData} (F:cb K "_law_passrows" "_law_passrows" m8 f fd) (Z:bQ mg) (Dm:bz P w K mg base 3 "_law_passrow" j1 pQ):aQ P w K mg base (cP P w) 4 f fd i6 (dn K tw):=by
 simp_arith [qg,(ai (aX (di (fY (bS (bA (aI gr rfl Z.isinstance boot_isinstance (af (rv 0) (af (k7 rfl Z.list boot_list) ah))))) (fe (aL (g6 hr.aV) (aI bO rfl Z.len boot_len (af (rv 0) ah)) (aI bO rfl Z.len boot_len (af (rv 1) ah)))))) (aq (aA dh)) aK)
   (ai (eE b7 rfl (gi rfl Z.range (af (aI bO rfl Z.len boot_len (af (rv 1) ah)) ah)) (bC (i:=2) qg.nd) (aq (aX (bS (bA (aO Dm B hr (af (au av (rv 0) (rv 2)) (af (au av (rv 1) (rv 2)) ah))))) (aq (aA dh)) aK)))
   (aq (aA dh))))]
 ·obtain ⟨rows,x,rfl,_⟩:=h;rfl
 obtain ⟨rows,x,rfl,hx,hl,q⟩:=h
 refine hX ?_
 simp_arith! [bZ,Us,K7 hx,AL hx]
 refine ⟨by omega,by omega,qH (λi τ J'=>∃u:Option PV,τ=[some x,some (.fl (rows.map aJ.v)),u]∧J'=J) ⟨none,rfl,rfl⟩ ?_ ?_⟩
 ·rintro i τ J' hi ⟨u,rfl,rfl⟩
  have hi:i < rows.length:=by omega
  have ha:dk (rows.map aJ.v) (0 + (i:Int))=some (rows[i].v):=by rw [Int.zero_add];exact Fl (Ut hi)
  simp_arith! [bZ,Ce hx,ha,pQ]
  exact ⟨_,rfl,rfl⟩
 ·rintro τ J' ⟨u,rfl,rfl⟩
  exact q
theorem Df {t p q:Rat} {v:Int} (hv:0 < v):Rat.divInt (t.num * ((p.den:Int) * (q.den:Int) * v) + (q.num * (p.den:Int) - p.num * (q.den:Int)) * (t.den:Int)) ((t.den:Int) * ((p.den:Int) * (q.den:Int) * v))=t + (q - p) / (v:Rat):=by
 have a:=cast_eq t
 have b:=cast_eq p
 have c:=cast_eq q
 have d:=d4 t
 have e:=d4 p
 have f:=d4 q
 have k:(v:Rat)≠0:=p5 (by omega)
 rw [Rat.divInt_eq_div]
 simp only [Rat.intCast_mul,Rat.intCast_add,Rat.intCast_sub,a,b,c]
 generalize (((t.den:Int)):Rat)=x at d ⊢
 generalize (((p.den:Int)):Rat)=y at e ⊢
 generalize (((q.den:Int)):Rat)=z at f ⊢
 generalize (v:Rat)=w at k ⊢
 have h1:y * z≠0:=λh=>by rcases Rat.mul_eq_zero.mp h with h | h <;> contradiction
 have h2:y * z * w≠0:=λh=>by rcases Rat.mul_eq_zero.mp h with h | h <;> contradiction
 have h3:x * (y * z * w)≠0:=λh=>by rcases Rat.mul_eq_zero.mp h with h | h <;> contradiction
 grind
theorem qk.BL {l:aW} (h:qk 240 l) {t:Rat} (st:Sz 240 t):Sz 790 (l.at t):=by
 have s1:Sz 481 (t - l.m):=st.sub h.m
 have s2:Sz 545 ((t - l.m) * (l.v:Rat)):=s1.mul h.v
 exact h.p.add s2
theorem Dg {t p q:Rat} {v:Int} (st:Sz 240 t) (sp:Sz 790 p) (sq:Sz 790 q) (bv:Bd 70 v) (hv:0 < v):Bd 1650 ((p.den:Int) * (q.den:Int) * v)∧Bd 1590 (q.num * (p.den:Int) - p.num * (q.den:Int))∧Bd 1900 ((t.den:Int) * ((p.den:Int) * (q.den:Int) * v))∧Sz 9000 (t + (q - p) / (v:Rat)):=by
 have h1:Bd 1650 ((p.den:Int) * (q.den:Int) * v):=.mul (.mul (k:=1580) sp.den sq.den) bv
 have h2:Bd 1590 (q.num * (p.den:Int) - p.num * (q.den:Int)):=.sub (Bd.mul (k:=1580) sq.num sp.den) (Bd.mul (k:=1580) sp.num sq.den)
 have h3:Bd 1900 ((t.den:Int) * ((p.den:Int) * (q.den:Int) * v)):=.mul st.den h1
 refine ⟨h1,h2,h3,?_⟩
 rw [← Df hv]
 have hd:0 < (t.den:Int) * ((p.den:Int) * (q.den:Int) * v):=Int.mul_pos (fk _) (Int.mul_pos (Int.mul_pos (fk _) (fk _)) hv)
 exact (Sz.div (n:=1901) (.add (Bd.mul (k:=1900) st.num h1) (Bd.mul (k:=1900) h2 st.den)) (h3.mono (by decide)) (by omega)).mono (by decide)
theorem b_.OU {L:Ln} (ok:b_ L):L.fs.length≤12:=by
 have:=ok.rl
 rw [ok.row,y3] at this;exact this
theorem An (t:Rat) (ks:List Ky) (h:(ks.map Ky.n).Nodup):(fK t ks).length≤ks.length:=by
 rw [← tJ h]
 have h1:=o5 t cO ((cG ks).zip (cG ks).tail)
 rw [VT,iZ] at h1
 omega
def Fc (t:Rat) (fs gs:List (Str × aW)):Prop:=∀x,x∈fs.map (key t)↔x∈gs.map (key t)
abbrev pJ:Stmt:=(top 67)
abbrev j2:List Str:=["_law_legs","_law_clock"]
theorem bW:L2.aw ["_law_legs","_law_clock","_law_row","_law_out","_law_k","_law_here","_law_there","_law_pace","_law_top","_law_under","_law_when","_law_bell","_law_at_here"] ["_law_legs","_law_clock"] (L2.aj pJ):=dH
def Ht:cA:=λxs J Q _=>∃(D:Addr) (fs:List (Str × aW)) (ep:Nat) (t:Rat),xs=[.ref D,fr t]∧J D=some (.dct (bY fs) ep)∧(fs.map (·.1)).Nodup∧fs.length≤20∧Sz 240 t∧(∀x∈fs,qk 240 x.2)∧Q (.fl ((fK t (fs.map (key t))).map aJ.v)) J
theorem yU {f:Addr} {fd:FuncData} (F:cb K "_law_ringdue" "_law_ringdue" pJ f fd) (Z:bQ mg) (vK:bz P w K mg base 3 "_law_order" iq tu) (zP:bz P w K mg base 2 "_law_at" jB qh) (rq:bz P w K mg base 1 "_law_low" eL nk) (rj:bz P w K mg base 1 "_law_before" gH tj):aQ P w K mg base (cP P w) 4 f fd j2 (dn K Ht):=by
 simp_arith [bW,(ai (aE (i:=2) bW.nd (aO vK B hr (af (rv 0) (af (rv 1) ah))))
   (ai (aE (i:=3) bW.nd (mV ah))
   (ai (eE b7 rfl (gi rfl Z.range (af (aR eW (aI bO rfl Z.len boot_len (af (rv 2) ah)) ag) ah)) (bC (i:=4) bW.nd) (ai (aE (i:=5) bW.nd (aO zP B hr (af (au dC (rv 0) (au av (rv 2) (rv 4))) (af (rv 1) ah))))
   (ai (aE (i:=6) bW.nd (aO zP B hr (af (au dC (rv 0) (au av (rv 2) (aR cS (rv 4) ag))) (af (rv 1) ah))))
   (ai (aE (i:=7) bW.nd (aR eW (au av (au dC (rv 0) (au av (rv 2) (rv 4))) ag) (au av (au dC (rv 0) (au av (rv 2) (aR cS (rv 4) ag))) ag)))
   (aq (aX (aL n8 (rv 7) ag) (ai (aE (i:=8) bW.nd (aR eW (aR cF (au av (rv 6) ag) (au av (rv 5) ag)) (aR cF (au av (rv 5) ag) (au av (rv 6) ag))))
   (ai (aE (i:=9) bW.nd (aR cF (aR cF (au av (rv 5) ag) (au av (rv 6) ag)) (rv 7)))
   (ai (aE (i:=10) bW.nd (aO rq B hr (af (aR cS (aR cF (au av (rv 1) ag) (rv 9)) (aR cF (rv 8) (au av (rv 1) ag))) (af (aR cF (au av (rv 1) ag) (rv 9)) ah))))
   (ai (aE (i:=11) bW.nd (cu (af (rv 10) (af (au av (rv 2) (rv 4)) (af (au av (rv 2) (aR cS (rv 4) ag)) ah)))))
   (ai (aE (i:=12) bW.nd ag)
   (ai (k9 b7 (di (fT (aL gZ (rv 12) (aI bO rfl Z.len boot_len (af (rv 3) ah))) (fb (bA (aO rj B hr (af (au av (rv 3) (rv 12)) (af (rv 11) ah))))))) (aq (aE (i:=12) bW.nd (aR cS (rv 12) ag))))
   (aq (bt (my PySem.F.plainAttrs_list PySem.F.slot_list_insert PySem.F.type_list_insert lP (rv 3) (af (rv 12) (af (rv 11) ah))))))))))) aK))))))
   (aq (aA (rv 3)))))),F]
 ·obtain ⟨D,fs,ep,t,rfl,_⟩:=h;rfl
 obtain ⟨D,fs,ep,t,rfl,hD,hnd,hlen,st,sl,q⟩:=h
 refine hX ?_
 simp_all! []
 refine ⟨D,fs,ep,t,rfl,hD,hnd,by omega,st.mono (by decide),λx hx=>(sl x hx).mono (by decide),?_⟩
 simp_all! []
 intro r hr'
 have nDr:D≠r:=by intro e;subst e;rw [hD] at hr';cases hr'
 obtain ⟨ks,hks⟩:∃ks,cG (fs.map (key t))=ks:=⟨_,rfl⟩
 have hrow:(cX t fs).map PV.str=ks.map λk=>PV.str k.n:=by unfold cX;rw [hks,UC];rfl
 have hkn0:((fs.map (key t)).map Ky.n).Nodup:=by rw [dj];exact hnd
 have hks':oW Ky.lt ks:=by rw [← hks];exact cU hkn0
 have hkn:(ks.map Ky.n).Nodup:=by rw [← hks];exact lX (cU hkn0) (λx hx y hy e=>iY hkn0 x ((bD _ _).mp hx) y ((bD _ _).mp hy) e)
 have hkd:ks.Nodup:=List.Pairwise.of_map Ky.n (λa b h e=>h (by rw [e])) hkn
 have hkl:ks.length=fs.length:=by rw [← hks,iZ,Us]
 have hkf:∀a∈ks,∃l,(a.n,l)∈fs∧a=key t (a.n,l):=λa ha=>by
  rw [← hks,bD] at ha
  obtain ⟨x,hx,rfl⟩:=Uv.mp ha
  exact ⟨x.2,hx,rfl⟩
 have hmz:∀a∈ks,∀b∈ks,b.v < a.v→Sz 9000 (eS t a b):=λa ha b hb h=>by
  obtain ⟨l,hl,ea⟩:=hkf a ha
  obtain ⟨l',hl',eb⟩:=hkf b hb
  have hv:l'.v < l.v:=by rw [ea,eb] at h;exact h
  rw [ea,eb]
  exact (Dg (v:=l.v - l'.v) st ((sl _ hl).BL st) ((sl _ hl').BL st) (((sl _ hl).v.sub (k:=66) (sl _ hl').v).mono (by decide)) (by omega)).2.2.2
 rw [hrow]
 simp_all! [ak nDr,hD,Us]
 generalize hps:ks.zip ks.tail=ps
 have hpl:ps.length=ks.length - 1:=by rw [← hps,VT,List.length_tail];omega
 have hpm:∀x∈ps,x.1∈ks∧x.2∈ks:=λx hx=>by
  rw [← hps] at hx
  obtain ⟨i,h3,h4⟩:=de.mp (show (x.1,x.2)∈_ from hx)
  exact ⟨Uw h3,Uw h4⟩
 have hup:∀i,∀x∈bU t cO (ps.take i),Sz 9000 x.m:=λi x hx=>by
  obtain ⟨p,hp',hc,rfl⟩:=iQ _ hx
  have:=hpm p (Vh hp')
  exact hmz _ this.1 _ this.2 (of_decide_eq_true hc)
 refine ⟨by omega,by omega,?_⟩
 have hrn:((ks.length:Int) - 1).toNat=ps.length:=by omega
 rw [hrn]
 obtain ⟨Inv,hInv⟩:∃Inv:Nat→Sr→Hq→Prop,∀i τ J',Inv i τ J'↔∃(u4 u5 u6 u7 u8 u9 u10 u11 u12:Option PV),τ=[some (.ref D),some (fr t),some (.fl (ks.map λk=>PV.str k.n)),some (.ref r),u4,u5,u6,u7,u8,u9,u10,u11,u12]∧J'=put J r (.lst ((bU t cO (ps.take i)).map aJ.v)):=⟨_,λ_ _ _=>Iff.rfl⟩
 refine qH Inv ((hInv _ _ _).mpr ⟨_,_,_,_,_,_,_,_,_,rfl,rfl⟩) ?_ ?_
 ·intro i τ J' hi hv
  obtain ⟨u4,u5,u6,u7,u8,u9,u10,u11,u12,rfl,rfl⟩:=(hInv _ _ _).mp hv
  clear hv
  have hpi:ps[i]?=some ps[i]:=Ut hi
  have et:ps.take (i + 1)=ps.take i ++ [ps[i]]:=by rw [U0,hpi];rfl
  rcases hab:ps[i] with ⟨a,y⟩
  rw [hab] at hpi et
  have hpi0:=hpi
  rw [← hps] at hpi
  obtain ⟨ha,hb⟩:=Vc.mp hpi
  rw [VW] at hb
  simp only at ha hb
  have hak:=Uw ha
  have hbk:=Uw hb
  have srt:=iP t cO (ps.take i)
  have szs:=hup i
  have hle:=o5 t cO (ps.take i)
  rw [UR] at hle
  have ef2:bU t cO (ps.take (i + 1))=iw t cO (bU t cO (ps.take i)) (a,y):=by rw [et];exact eA _ _ _ _
  have hdr:dg a.n y.n (bU t cO (ps.take i))=bU t cO (ps.take i):=by
   refine DL (p:=(a,y)) (yd.of hkn λp hp=>?_) λhm=>?_
   ·rcases UD.mp hp with hp | hp
    ·exact hpm p (Vh hp)
    ·rw [UH] at hp;subst hp;exact ⟨hak,hbk⟩
   ·obtain ⟨j,hj⟩:=UN.mp hm
    rw [List.getElem?_take] at hj
    split at hj
    ·rename_i hji
     rw [← hps] at hj
     obtain ⟨h1,_⟩:=Vc.mp hj
     simp only at h1
     obtain ⟨k1,e1⟩:=Uu.mp h1
     obtain ⟨k2,e2⟩:=Uu.mp ha
     have:=(Vt hkd).mp (e1.trans e2.symm)
     omega
    ·cases hj
  generalize bU t cO (ps.take i)=rows at hle ef2 srt szs hdr ⊢
  obtain ⟨l,hmem,ea⟩:=hkf a hak
  obtain ⟨l',hmem',eb⟩:=hkf y hbk
  have hvn:mC (bY fs) a.n=some l.V:=jX (f:=aW.V) hnd hmem
  have hvn':mC (bY fs) y.n=some l'.V:=jX (f:=aW.V) hnd hmem'
  have sll:=sl _ hmem
  have sla:=sll.BL st
  have sll':=sl _ hmem'
  have sla':=sll'.BL st
  have h1:dk (ks.map λk=>PV.str k.n) (0 + (i:Int))=some (.str a.n):=by rw [Int.zero_add];exact bq (by rw [Uz,ha];rfl)
  have h2:dk (ks.map λk=>PV.str k.n) (0 + (i:Int) + 1)=some (.str y.n):=by rw [Int.zero_add,show (i:Int) + 1=((i + 1:Nat):Int) by omega];exact bq (by rw [Uz,hb];rfl)
  have eav:a.v=l.v:=by rw [ea];rfl
  have ebv:y.v=l'.v:=by rw [eb];rfl
  simp_all! [h1,ak nDr,hD,hvn]
  refine ⟨l,t,rfl,sll.m.mono (by decide),sll.p.mono (by decide),st.mono (by decide),sll.v,?_⟩
  simp_all! [h2,ak nDr,hD,hvn']
  refine ⟨l',t,rfl,sll'.m.mono (by decide),sll'.p.mono (by decide),st.mono (by decide),sll'.v,?_⟩
  simp_all! [h1,h2,ak nDr,hD,hvn,hvn',kC]
  by_cases c1n:¬ 0 < l.v - l'.v
  ·rw [if_neg c1n]
   have hc:cO (a,y)=false:=decide_eq_false (λz=>by have:y.v < a.v:=z;omega)
   have e:iw t cO rows (a,y)=rows:=by unfold iw;rw [if_neg (by rw [hc];decide)]
   exact (hInv _ _ _).mpr ⟨_,_,_,_,_,_,_,_,_,rfl,by rw [ef2,e]⟩
  have c1:=Decidable.not_not.mp c1n
  rw [if_pos c1]
  have bv:Bd 70 (l.v - l'.v):=(sll.v.sub (k:=66) sll'.v).mono (by decide)
  obtain ⟨z1,z2,z3,z4⟩:=Dg st sla sla' bv c1
  have ew:t + (l'.at t - l.at t) / ((l.v - l'.v:Int):Rat)=eS t a y:=by rw [ea,eb];rfl
  have hd:0 < (t.den:Int) * (((l.at t).den:Int) * ((l'.at t).den:Int) * (l.v - l'.v)):=Int.mul_pos (fk _) (Int.mul_pos (Int.mul_pos (fk _) (fk _)) c1)
  simp_all! []
  refine ⟨.of sla'.num sla.den,.of sla.num sla'.den,?_⟩
  simp_all! []
  refine ⟨.of sla.den sla'.den,.of (Bd.mul (k:=1580) sla.den sla'.den) bv,?_⟩
  simp_all! [nk]
  refine ⟨.of st.num z1,.of z2 st.den,.of st.den z1,hd,z3.mono (by decide),?_⟩
  rw [Df c1,ew]
  rw [ew] at z4
  have hcp:cO (a,y)=true:=decide_eq_true (by show y.v < a.v;omega)
  have eput:iw t cO rows (a,y)=j7 ⟨eS t a y,a.n,y.n⟩ rows:=by
   unfold iw
   rw [if_pos hcp]
   show j7 _ (dg a.n y.n rows)=_;rw [hdr];rfl
  generalize eS t a y=wh at z4 eput ⊢
  simp_all! [h1,h2,LQ]
  obtain ⟨row,hrow'⟩:∃row:aJ,aJ.mk wh a.n y.n=row:=⟨_,rfl⟩
  have erm:row.m=wh:=by rw [← hrow']
  rw [hrow'] at eput ⊢
  refine vd (V:=aJ.v) (lt:=aJ.lt) (ys:=rows) (b:=row) (iO:=3) (iA:=12) (iR:=11) rfl rfl rfl (by decide) (by decide) ar (λx hx R hR=>.inr ⟨x,row,rfl,szs x hx,by rw [erm];exact z4,hR⟩) (λhx hy h k=>zI srt hx hy h k) λj hj hlow hhigh=>?_
  simp_all! [ar]
  refine ⟨_,j,rfl,rfl,by rw [Us];exact hj,bp (by rw [Us];omega),by omega,?_⟩
  rw [d_]
  refine (hInv _ _ _).mpr ⟨_,_,_,_,_,_,_,_,_,rfl,?_⟩
  rw [ef2,eput,← B9 hj hlow hhigh,UA,UB,Vw,VX]
 ·intro τ J' hv
  obtain ⟨u4,u5,u6,u7,u8,u9,u10,u11,u12,rfl,rfl⟩:=(hInv _ _ _).mp hv
  rw [UY,← hps,← hks,tJ hkn0]
  simp_all! []
  exact Fg.qJ (iW hr') ar hr' q
abbrev sU:Stmt:=(top 68)
abbrev kR:List Str:=["_law_lane","_law_legs","_law_clock"]
theorem EA:L2.aw ["_law_lane","_law_legs","_law_clock"] ["_law_lane","_law_legs","_law_clock"] (L2.aj sU):=dH
def zG (cN cL:Addr):cA:=λxs J Q _=>∃p L D ep gs,xs=[.ref p,.ref D,fr L.t]∧aY cN cL J p L∧b_ L∧J D=some (.dct (bY gs) ep)∧(gs.map (·.1)).Nodup∧gs.length≤20∧(∀x∈gs,qk 240 x.2)∧Fc L.t L.fs gs∧Q (.bl true) J
theorem AW {cN cL f:Addr} {fd:FuncData} (F:cb K "_law_stands" "_law_stands" sU f fd) (Z:bQ mg) (oQ:bz P w K mg base 2 "_law_part" f6 jT) (H0:bz P w K mg base 1 "_law_words" mw C3) (vK:bz P w K mg base 3 "_law_order" iq tu) (zU:bz P w K mg base 4 "_law_passrows" i6 tw) (Dp:bz P w K mg base 4 "_law_ringdue" j2 Ht)
  (jm:cI P w K mg base cN 1 "clock" mf (zA cN cL)) (ju:cI P w K mg base cN 1 "order" mj (zD cN cL)) (jl:cI P w K mg base cN 7 "bells" me (zy cN cL)):aQ P w K mg base (cP P w) 8 f fd kR (dn K (zG cN cL)):=by
 simp_arith [EA,(ai (aX (bS (bA (aO oQ B hr (af (cW (pl:=_) jm B hr (rv 0)) (af (rv 2) ah))))) (aq (aA dh)) aK)
   (ai (aX (bS (bA (aO H0 B hr (af (cW (pl:=_) ju B hr (rv 0)) (af (aO vK B hr (af (rv 1) (af (rv 2) ah))) ah))))) (aq (aA dh)) aK)
   (aq (aA (aO zU B hr (af (cW (pl:=_) jl B hr (rv 0)) (af (aO Dp B hr (af (rv 1) (af (rv 2) ah))) ah)))))))]
 ·obtain ⟨p,L,D,ep,gs,rfl,_⟩:=h;rfl
 obtain ⟨p,L,D,ep,gs,rfl,b,ok,hD,hnd,hgl,sg,same,q⟩:=h
 have bo:=b.ob
 have st:Sz 240 L.t:=(Cg ok.ts).mono (by decide)
 have e1:cX L.t gs=L.row:=by rw [ok.row];exact yZ hnd ok.ME λx=>(same x).symm
 have e2:fK L.t (gs.map (key L.t))=fK L.t (L.fs.map (key L.t)):=Am (by rw [dj];exact hnd) ok.knd λx=>(same x).symm
 have hrl:=ok.rl
 have hbl:=An L.t (L.fs.map (key L.t)) ok.knd
 rw [Us] at hbl
 have hfl:=ok.OU
 refine hX ?_
 simp_all! [bo]
 refine ⟨fo _ _ _ _,p,L,rfl,b,L.t,rfl,?_⟩
 simp_all! [bo]
 refine ⟨fo _ _ _ _,p,L,rfl,b,.inl ?_⟩
 refine ⟨D,gs,ep,L.t,rfl,hD,hnd,by omega,st.mono (by decide),λx hx=>(sg x hx).mono (by decide),?_⟩
 rw [e1]
 refine ⟨L.row,rfl,by omega,?_⟩
 simp_all! [bo]
 refine ⟨fo _ _ _ _,p,L,rfl,b,ok,?_⟩
 refine ⟨D,gs,ep,L.t,rfl,hD,hnd,hgl,st,sg,?_⟩
 rw [e2]
 exact ⟨_,_,rfl,rfl,by omega,q⟩
def x4:List aW→Prop
 | a :: b :: r=>b.p=a.at b.m∧x4 (b :: r)
 | _=>True
theorem lJ:∀(ls:List aW) (l:aW),x4 (ls ++ [l])↔x4 ls∧∀k,ls.getLast?=some k→l.p=k.at l.m
 | [],l=>⟨λ_=>⟨trivial,λk h=>nomatch h⟩,λ_=>trivial⟩
 | [a],l=>⟨λh=>⟨trivial,λk e=>by cases e;exact h.1⟩,λh=>⟨h.2 a rfl,trivial⟩⟩
 | a :: b :: r,l=>by
  have ih:=lJ (b :: r) l
  show (b.p=a.at b.m∧x4 ((b :: r) ++ [l]))↔_
  rw [ih,List.getLast?_cons_cons]
  constructor
  ·rintro ⟨h1,h2,h3⟩;exact ⟨⟨h1,h2⟩,h3⟩
  ·rintro ⟨⟨h1,h2⟩,h3⟩;exact ⟨h1,h2,h3⟩
def iK (l l':aW):Prop:=l.v=l'.v∧∀t,l.at t=l'.at t
theorem iK.key {l l':aW} (h:iK l l') (n:Str) (t:Rat):key t (n,l)=key t (n,l'):=by unfold Ov.key;simp only;rw [h.1,h.2 t]
theorem Iz (l:aW):l.at l.m=l.p:=by unfold aW.at;grind
theorem CH {l l':aW} {t:Rat} (hv:l.v=l'.v) (h:l.at t=l'.at t):iK l l':=⟨hv,λs=>by
 unfold aW.at at h ⊢
 rw [hv] at h ⊢
 generalize (l'.v:Rat)=x at h ⊢
 grind⟩
theorem lD {rows:List aW} {t:Rat} {v:Int} (h:x4 rows) (ne:rows≠[]):x4 (turned rows t v)∧∀l,rows.getLast?=some l→∀l',(turned rows t v).getLast?=some l'→iK ⟨t,l.at t,v⟩ l':=by
 obtain ⟨ls,l,rfl⟩:∃ls l,rows=ls ++ [l]:=⟨rows.dropLast,rows.getLast ne,(Vf ne).symm⟩
 obtain ⟨h1,h2⟩:=(lJ ls l).mp h
 have new:∀{q:List aW},(q ++ [aW.mk t (l.at t) v]).getLast?=some (aW.mk t (l.at t) v):=λ{q}=>U3 ..
 rw [ia]
 simp only [U3,Option.some.injEq]
 split
 ·rename_i e
  have el:l.at t=l.p:=by rw [← e];exact Iz l
  split
  ·rename_i ev
   refine ⟨h1,λl0 h0 l' h'=>?_⟩
   subst h0
   rw [h'] at ev
   have hv:l'.v=v:=Option.some.inj ev
   have hp:=h2 l' h'
   rw [e] at hp
   refine CH (t:=t) hv.symm ?_
   show l.at t + (t - t) * (v:Rat)=_
   rw [← hp,el];grind
  ·refine ⟨(lJ _ _).mpr ⟨h1,λk hk=>?_⟩,λl0 h0 l' h'=>?_⟩
   ·show l.at t=k.at t
    rw [el,h2 k hk,e]
   ·subst h0
    rw [new] at h';cases h';exact ⟨rfl,λ_=>rfl⟩
 ·split
  ·rename_i ev
   refine ⟨h,λl0 h0 l' h'=>?_⟩
   subst h0
   rw [U3] at h';cases h'
   refine CH (t:=t) ev.symm ?_
   show l.at t + (t - t) * (v:Rat)=_
   grind
  ·refine ⟨(lJ _ _).mpr ⟨h,λk hk=>?_⟩,λl0 h0 l' h'=>?_⟩
   ·rw [U3] at hk;cases hk;rfl
   ·subst h0
    rw [new] at h';cases h';exact ⟨rfl,λ_=>rfl⟩
structure Rl (L:Ln) (gs:List (Str × aW)):Prop where
 nm:gs.map (·.1)=L.fs.map (·.1)
 ln:∀n l l',(n,l)∈gs→(n,l')∈L.fs→iK l l'
 ck:∀x∈gs,tP x.2
 le:∀x∈gs,x.2.m≤L.t
 ct:∀c∈L.cs,x4 c.w
theorem Rl.same {L:Ln} {gs:List (Str × aW)} (h:Rl L gs) (t:Rat):Fc t L.fs gs:=λx=>by
 have other:∀{as bs:List (Str × aW)},as.map (·.1)=bs.map (·.1)→∀{n l},(n,l)∈as→∃l',(n,l')∈bs:=λ{as bs} e {n l} hm=>by
  have:n∈bs.map (·.1):=by rw [← e];exact Uv.mpr ⟨_,hm,rfl⟩
  obtain ⟨y,hy,e'⟩:=Uv.mp this
  exact ⟨y.2,by rw [← e'];exact hy⟩
 rw [Uv,Uv]
 constructor
 ·rintro ⟨⟨n,l⟩,hm,rfl⟩
  obtain ⟨l',hl'⟩:=other h.nm.symm hm
  exact ⟨(n,l'),hl',(h.ln n l' l hl' hm).key n t⟩
 ·rintro ⟨⟨n,l⟩,hm,rfl⟩
  obtain ⟨l',hl'⟩:=other h.nm hm
  exact ⟨(n,l'),hl',((h.ln n l l' hm hl').key n t).symm⟩
theorem Rl.sz {L:Ln} {gs:List (Str × aW)} (h:Rl L gs):∀x∈gs,qk 240 x.2:=λx hx=>by
 have hk:=h.ck x hx
 exact ⟨hk.TM.mono (by decide),hk.TU.mono (by decide),.small (by have:=hk.v;omega) (by have:=hk.v;omega)⟩
theorem Rl.nd {L:Ln} {gs:List (Str × aW)} (h:Rl L gs) (ok:bc L):(gs.map (·.1)).Nodup:=by rw [h.nm];exact ok.ME
theorem Rl.len {L:Ln} {gs:List (Str × aW)} (h:Rl L gs):gs.length=L.fs.length:=by have:=congrArg Vl h.nm;rw [Us,Us] at this;exact this
theorem GV {fs:List (Str × aW)} {n:Str} {l:aW} (hm:n∈fs.map (·.1)):tN (bY fs) n l.V=bY (fs.map λx=>if x.1=n then (x.1,l) else x):=by
 unfold tN bY
 rw [if_pos,UC,UC]
 ·refine US λx _=>?_
  show (if x.1=n then (x.1,l.V) else (x.1,x.2.V))=_
  show _=((if x.1=n then (x.1,l) else x).1,(if x.1=n then (x.1,l) else x).2.V)
  split <;> rfl
 ·obtain ⟨x,hx,e⟩:=Uv.mp hm
  rw [Wj]
  exact ⟨(x.1,x.2.V),Uv.mpr ⟨x,hx,rfl⟩,decide_eq_true e⟩
def vD (n:Str) (t:Rat) (v:Int) (gs:List (Str × aW)):List (Str × aW):=gs.map λx=>if x.1=n then (x.1,⟨t,x.2.at t,v⟩) else x
def kj (t:Rat) (gs:List (Str × aW)):List (Str × aW):=gs.map λx=>(x.1,⟨t,x.2.at t,-x.2.v⟩)
theorem FF {L:Ln} {f:Cf→Cf} (hn:∀c,(f c).n=c.n∧(f c).a=c.a∧(f c).r=c.r∧(f c).g=c.g) {L':Ln} (e:L'.cs=L.cs.map f):L'.fs=L.Eu.map λc=>(c.n,(f c).cur):=by
 unfold Ln.fs Ln.Eu
 rw [e,Vg,UC]
 have e1:(λc:Cf=>c.g.isNone) ∘ f=λc=>c.g.isNone:=by funext c;show (f c).g.isNone=_;rw [(hn c).2.2.2]
 rw [e1]
 exact US λc _=>by show ((f c).n,(f c).cur)=_;rw [(hn c).1]
theorem yq {c:Cf} {t:Rat} {v:Int} (h:x4 c.w) (ne:c.w≠[]):iK ⟨t,c.cur.at t,v⟩ (c.turn t v).cur:=by
 have h1:=(Cf.ji ne).1
 have h2:=(Cf.ji (c:=c.turn t v) (vE ne)).1
 exact (lD h ne).2 _ h1 _ h2
theorem iK.turn {l l':aW} (h:iK l l') (t:Rat) (v:Int):iK ⟨t,l.at t,v⟩ ⟨t,l'.at t,v⟩:=by rw [h.2 t];exact ⟨rfl,λ_=>rfl⟩
theorem iK.trans {l l' l'':aW} (h:iK l l') (k:iK l' l''):iK l l'':=⟨h.1.trans k.1,λt=>(h.2 t).trans (k.2 t)⟩
theorem Rl.turn {L L':Ln} {gs:List (Str × aW)} (h:Rl L gs) (ok:bc L) {n:Str} {v:Int} (hv:v.natAbs≤1000) (e:L'.cs=L.cs.map (dw n L.t v)) (et:L'.t=L.t):Rl L' (vD n L.t v gs):=by
 have hn:=oM n L.t v
 have hfs:=FF hn e
 have nm:(vD n L.t v gs).map (·.1)=gs.map (·.1):=by
  unfold vD;rw [UC];exact US λx _=>by show (if x.1=n then (x.1,_) else x).1=x.1;split <;> rfl
 refine ⟨?_,?_,?_,?_,?_⟩
 ·rw [nm,h.nm,hfs];unfold Ln.fs;rw [UC,UC];rfl
 ·intro m l l' hl hl'
  obtain ⟨x,hx,ex⟩:=Uv.mp hl
  rw [hfs] at hl'
  obtain ⟨c,hc,ec⟩:=Uv.mp hl'
  have hcs:=(Ln.d9.mp hc).1
  have hold:(c.n,c.cur)∈L.fs:=Uv.mpr ⟨c,hc,rfl⟩
  cases ec
  by_cases z:x.1=n
  ·rw [if_pos z] at ex
   have ex1:x.1=c.n:=(Prod.mk.inj ex).1
   have ex2:aW.mk L.t (x.2.at L.t) v=l:=(Prod.mk.inj ex).2
   subst ex2
   have hs:=h.ln x.1 x.2 c.cur hx (by rw [ex1];exact hold)
   have zc:c.n=n:=by rw [← z];exact ex1.symm
   unfold dw
   rw [if_pos zc]
   exact (hs.turn L.t v).trans (yq (h.ct c hcs) (ok.ne c hcs))
  ·rw [if_neg z] at ex
   subst ex
   have zc:¬ c.n=n:=z
   unfold dw
   rw [if_neg zc]
   exact h.ln c.n l c.cur hx hold
 ·intro x hx
  obtain ⟨y,hy,rfl⟩:=Uv.mp hx
  split
  ·exact (h.ck y hy).at (h.le y hy) ok.ts hv
  ·exact h.ck y hy
 ·intro x hx
  rw [et]
  obtain ⟨y,hy,rfl⟩:=Uv.mp hx
  split
  ·exact Rat.le_refl
  ·exact h.le y hy
 ·intro c hc
  rw [e] at hc
  obtain ⟨c0,h0,rfl⟩:=Uv.mp hc
  unfold dw
  split
  ·exact (lD (h.ct c0 h0) (ok.ne c0 h0)).1
  ·exact h.ct c0 h0
theorem yg (t:Rat) (c:Cf):(er t c).n=c.n∧(er t c).a=c.a∧(er t c).r=c.r∧(er t c).g=c.g:=by unfold er;split <;> exact ⟨rfl,rfl,rfl,rfl⟩
theorem Rl.about {L L':Ln} {gs:List (Str × aW)} (h:Rl L gs) (ok:bc L) (e:L'.cs=L.cs.map (er L.t)) (et:L'.t=L.t):Rl L' (kj L.t gs):=by
 have hn:=yg L.t
 have hfs:=FF hn e
 have nm:(kj L.t gs).map (·.1)=gs.map (·.1):=by
  unfold kj;rw [UC];rfl
 refine ⟨?_,?_,?_,?_,?_⟩
 ·rw [nm,h.nm,hfs];unfold Ln.fs;rw [UC,UC];rfl
 ·intro m l l' hl hl'
  obtain ⟨x,hx,ex⟩:=Uv.mp hl
  rw [hfs] at hl'
  obtain ⟨c,hc,ec⟩:=Uv.mp hl'
  have hcs:=Ln.d9.mp hc
  have hold:(c.n,c.cur)∈L.fs:=Uv.mpr ⟨c,hc,rfl⟩
  cases ec
  obtain ⟨xn,xl⟩:=x
  cases ex
  have hs:=h.ln c.n xl c.cur hx hold
  have ea:er L.t c=c.turn L.t (-c.cur.v):=by unfold er;rw [if_pos (by rw [hcs.2];rfl)]
  rw [ea,hs.1]
  exact (hs.turn L.t _).trans (yq (h.ct c hcs.1) (ok.ne c hcs.1))
 ·intro x hx
  obtain ⟨y,hy,rfl⟩:=Uv.mp hx
  exact (h.ck y hy).at (h.le y hy) ok.ts (by have:=(h.ck y hy).v;omega)
 ·intro x hx
  rw [et]
  obtain ⟨y,hy,rfl⟩:=Uv.mp hx
  exact Rat.le_refl
 ·intro c hc
  rw [e] at hc
  obtain ⟨c0,h0,rfl⟩:=Uv.mp hc
  unfold er
  split
  ·exact (lD (h.ct c0 h0) (ok.ne c0 h0)).1
  ·exact h.ct c0 h0
theorem Rl.join {L L':Ln} {gs:List (Str × aW)} (h:Rl L gs) (ok':bc L') {n:Str} {x v:Int} (hv:v.natAbs≤1000) (hx:x.natAbs≤1000000) (j:L.joined n x v L') (t0:0≤L.t) (ts:Sc ib MM L.t) (hnew:n ∉ L.fs.map (·.1)):Rl L' (gs ++ [(n,⟨L.t,(x:Rat),v⟩)]):=by
 obtain ⟨a,r,ecs,et⟩:=j
 have efs:L'.fs=L.fs ++ [(n,⟨L.t,(x:Rat),v⟩)]:=B2 L ecs rfl
 refine ⟨?_,?_,?_,?_,?_⟩
 ·rw [efs,UA,UA,h.nm]
 ·intro m l l' hl hl'
  rw [efs] at hl'
  have h1:∀{k},(n,k)∈gs→False:=λhk=>hnew (by rw [← h.nm];exact Uv.mpr ⟨_,hk,rfl⟩)
  have h2:∀{k},(n,k)∈L.fs→False:=λhk=>hnew (Uv.mpr ⟨_,hk,rfl⟩)
  rcases UD.mp hl with hl | hl <;> rcases UD.mp hl' with hl' | hl'
  ·exact h.ln m l l' hl hl'
  ·rw [UH] at hl';cases hl';exact (h1 hl).elim
  ·rw [UH] at hl;cases hl;exact (h2 hl').elim
  ·rw [UH] at hl hl';cases hl;cases hl';exact ⟨rfl,λ_=>rfl⟩
 ·intro y hy
  rcases UD.mp hy with hy | hy
  ·exact h.ck y hy
  ·rw [UH] at hy;subst hy;exact tP.new t0 ts hx hv
 ·intro y hy
  rw [et]
  rcases UD.mp hy with hy | hy
  ·exact h.le y hy
  ·rw [UH] at hy;subst hy;exact Rat.le_refl
 ·intro c hc
  rw [ecs] at hc
  rcases UD.mp hc with hc | hc
  ·exact h.ct c hc
  ·rw [UH] at hc;subst hc;exact trivial
def o8 (n:Str) (gs:List (Str × aW)):List (Str × aW):=gs.filter λx=>decide (x.1≠n)
theorem Rl.leave {L L':Ln} {gs:List (Str × aW)} (h:Rl L gs) {n:Str} (e:L'.cs=L.cs.map (bT n L.t)) (et:L'.t=L.t):Rl L' (o8 n gs):=by
 have hfs:L'.fs=L.fs.filter λx=>decide (x.1≠n):=yC e
 have hf:∀l:List (Str × aW),(l.filter λx=>decide (x.1≠n)).map (·.1)=(l.map (·.1)).filter λy=>decide (y≠n):=λl=>by rw [Vg];rfl
 refine ⟨?_,?_,?_,?_,?_⟩
 ·unfold o8;rw [hf,hfs,hf,h.nm]
 ·intro m l l' hl hl'
  rw [hfs] at hl'
  exact h.ln m l l' (UE.mp hl).1 (UE.mp hl').1
 ·intro x hx;exact h.ck x (UE.mp hx).1
 ·intro x hx;rw [et];exact h.le x (UE.mp hx).1
 ·intro c hc
  rw [e] at hc
  obtain ⟨c0,h0,rfl⟩:=Uv.mp hc
  rw [(fF n L.t c0).2.2.2];exact h.ct c0 h0
abbrev xj:Stmt:=(top 61)
abbrev ip:List Str:=["_law_legs","_law_clock","_law_deed_here"]
theorem zk:L2.aw ["_law_legs","_law_clock","_law_deed_here","_law_name"] ["_law_legs","_law_clock","_law_deed_here"] (L2.aj xj):=dH
def gA (n:Str) (x v:Int):PV:=.tup [.str "join",.str n,.int x,.int v]
def j4 (n:Str) (v:Int):PV:=.tup [.str "turn",.str n,.int v]
def jf:PV:=.tup [.str "about"]
def ie (n:Str):PV:=.tup [.str "leave",.str n]
def KR (m:Rat):PV:=.tup [.str "go",fr m]
def qZ:cA:=λxs J Q _=>∃(D:Addr) (gs:List (Str × aW)) (ep:Nat) (t:Rat) (dv:PV),xs=[.ref D,fr t,dv]∧J D=some (.dct (bY gs) ep)∧(gs.map (·.1)).Nodup∧gs.length≤100∧Sz 900 t∧(∀x∈gs,qk 900 x.2) ∧
 ((∃n x v,dv=gA n x v∧n ∉ gs.map (·.1)∧∀ep',Q (fr t) (put J D (.dct (bY (gs ++ [(n,⟨t,(x:Rat),v⟩)])) ep'))) ∨
  (∃n v,dv=j4 n v∧n∈gs.map (·.1)∧∀ep',Q (fr t) (put J D (.dct (bY (vD n t v gs)) ep'))) ∨
  (dv=jf∧∀ep',Q (fr t) (put J D (.dct (bY (kj t gs)) ep'))) ∨
  (∃n,dv=ie n∧n∈gs.map (·.1)∧∀ep',Q (fr t) (put J D (.dct (bY (o8 n gs)) ep'))) ∨
  (∃m,dv=KR m∧Q (fr m) J))
theorem LL:(("join":Str)="go")=False:=eq_false (by decide +kernel)
theorem LN:(("turn":Str)="go")=False:=eq_false (by decide +kernel)
theorem LK:(("about":Str)="go")=False:=eq_false (by decide +kernel)
theorem Mw {c:mI} {a u:iM} {D:En} {τ:Sr} {J:Hq} (hc:∀R:Bool→Hq→Prop,R false J→c τ J R) (hu:u D τ J):G7 (Bh c a sH) u D τ J :=
 ⟨λτ' J'=>τ'=τ∧J'=J,hc _ (by rw [if_neg (by decide)];exact ⟨rfl,rfl⟩),λτ' J' h=>by obtain ⟨rfl,rfl⟩:=h;exact hu⟩
theorem fZ {c:mI} {a u:iM} {D:En} {τ:Sr} {J:Hq} (M:Sr→Hq→Prop) (hc:∀R:Bool→Hq→Prop,R true J→c τ J R) (ha:a { D with nx:=M } τ J) (hu:∀τ' J',M τ' J'→u D τ' J'):G7 (Bh c a sH) u D τ J :=
 ⟨M,hc _ (by rw [if_pos rfl];exact ha),hu⟩
theorem Di {x y:Str} {i:Nat} {dv:PV} {τ:Sr} {J:Hq} (h:τ[i]?=some (some dv)) (h0:fL J dv (.int 0)=some (.str x)) (R:Bool→Hq→Prop) (hr:R (decide (x=y)) J):rB (xZ (Lm id) (xZ Lo (jF i) (rC (.int 0))) (rC (.str y))) τ J R :=
 M9 h (fP h0 ⟨⟨rfl,by simp [fR,dep]⟩,rfl,wI rfl (by rw [eq_str];exact hr)⟩)
theorem dy {x y:Str} {i:Nat} {dv:PV} {τ:Sr} {J:Hq} {a u:iM} {D:En} (h:τ[i]?=some (some dv)) (h0:fL J dv (.int 0)=some (.str x)) (n:decide (x=y)=false) (hu:u D τ J):G7 (Bh (rB (xZ (Lm id) (xZ Lo (jF i) (rC (.int 0))) (rC (.str y)))) a sH) u D τ J:=Mw (λR hr'=>Di h h0 R (by rw [n];exact hr')) hu
theorem wb {x:Str} {i:Nat} {dv:PV} {τ:Sr} {J:Hq} (h:τ[i]?=some (some dv)) (h0:fL J dv (.int 0)=some (.str x)) (R:Bool→Hq→Prop) (hr:R true J):rB (xZ (Lm id) (xZ Lo (jF i) (rC (.int 0))) (rC (.str x))) τ J R:=Di h h0 R (by rw [decide_eq_true rfl];exact hr)
def fj (t:Rat) (gs:List (Str × aW)) (i:Nat):List (Str × aW):=kj t (gs.take i) ++ gs.drop i
theorem uR (t:Rat) (gs:List (Str × aW)) (i:Nat):(fj t gs i).map (·.1)=gs.map (·.1):=by
 unfold fj kj
 rw [UA,UC]
 have:((gs.take i).map ((λx:Str × aW=>x.1) ∘ λx=>(x.1,(⟨t,x.2.at t,-x.2.v⟩:aW))))=(gs.take i).map (·.1):=US λ_ _=>rfl
 rw [this,← UA,V5]
theorem yh (t:Rat) (gs:List (Str × aW)) (hnd:(gs.map (·.1)).Nodup) (i:Nat) (h:i < gs.length):(fj t gs i).map (λx=>if x.1=gs[i].1 then (x.1,(⟨t,gs[i].2.at t,-gs[i].2.v⟩:aW)) else x)=fj t gs (i + 1):=by
 have hd:gs.drop i=gs[i] :: gs.drop (i + 1):=VJ h
 have ht:gs.take (i + 1)=gs.take i ++ [gs[i]]:=by rw [U0,Ut h];rfl
 have hn2:(gs.map (·.1))=(gs.take i).map (·.1) ++ (gs[i].1 :: (gs.drop (i + 1)).map (·.1)):=by
  rw [← UB (f:=λx:Str × aW=>x.1),← hd,← UA,V5]
 rw [hn2,Vp] at hnd
 unfold fj kj
 rw [hd,ht,UA,UA,UB,if_pos rfl,WH]
 congr 1
 ·rw [UC]
  refine US λx hx=>?_
  show (if x.1=gs[i].1 then _ else _)=_
  rw [if_neg (hnd.2.2 x.1 (Uv.mpr ⟨x,hx,rfl⟩) gs[i].1 (by simp))]
 ·show _ :: _=_ :: _
  congr 1
  have hno:=(Vz.mp hnd.2.1).1
  have:∀x∈gs.drop (i + 1),(if x.1=gs[i].1 then (x.1,(⟨t,gs[i].2.at t,-gs[i].2.v⟩:aW)) else x)=x:=λx hx=>if_neg λz=>hno (by rw [← z];exact Uv.mpr ⟨x,hx,rfl⟩)
  rw [US this,Wv]
  rfl
theorem LM:(("leave":Str)="go")=False:=eq_false (by decide +kernel)
theorem Ec {f:Addr} {fd:FuncData} (F:cb K "_law_acted" "_law_acted" xj f fd) (Z:bQ mg) (zP:bz P w K mg base 2 "_law_at" jB qh):aQ P w K mg base (cP P w) 3 f fd ip (dn K qZ):=by
 simp_arith [zk,(ed (aX (aL (cT hr.aV) (au av (rv 2) ag) bR) (aq (xh q_ (rv 0) (au av (rv 2) ag) (cu (af (rv 1) (af (cu (af (au av (rv 2) ag) (af ag ah))) (af (au av (rv 2) ag) ah)))))) aK)
   (ed (aX (aL (cT hr.aV) (au av (rv 2) ag) bR) (aq (bt (my PySem.F.plainAttrs_dict PySem.F.slot_dict_pop PySem.F.type_dict_pop Jg (rv 0) (af (au av (rv 2) ag) ah)))) aK)
   (ed (aX (aL (cT hr.aV) (au av (rv 2) ag) bR) (aq (xh q_ (rv 0) (au av (rv 2) ag) (cu (af (rv 1) (af (aO zP B hr (af (au dC (rv 0) (au av (rv 2) ag)) (af (rv 1) ah))) (af (au av (rv 2) ag) ah)))))) aK)
   (ed (aX (aL (cT hr.aV) (au av (rv 2) ag) bR) (aq (eE b7 rfl (dQ (dP (yp rfl) rfl Z.list boot_list (af (rv 0) ah))) (bC (i:=3) zk.nd) (aq (xh q_ (rv 0) (rv 3) (cu (af (rv 1) (af (aO zP B hr (af (au dC (rv 0) (rv 3)) (af (rv 1) ah))) (af (vm pU (au av (au dC (rv 0) (rv 3)) ag)) ah)))))))) aK)
   (ai (aX (aL (cT hr.aV) (au av (rv 2) ag) bR) (aq (aA (au av (rv 2) ag))) aK)
   (aq (aA (rv 1))))))))]
 ·obtain ⟨D,gs,ep,t,dv,rfl,_⟩:=h;rfl
 obtain ⟨D,gs,ep,t,dv,rfl,hD,hnd,hlen,st,sl,h⟩:=h
 refine hX ?_
 rcases h with ⟨n,x,v,rfl,hn,q⟩ | ⟨n,v,rfl,hn,q⟩ | ⟨rfl,q⟩ | ⟨n,rfl,hn,q⟩ | ⟨m,rfl,q⟩
 ·have i0:∀J,fL J (gA n x v) (.int 0)=some (.str "join"):=λJ=>dU _ _
  have i1:∀J,fL J (gA n x v) (.int 1)=some (.str n):=λJ=>fW _ _ _
  have i2:∀J,fL J (gA n x v) (.int 2)=some (.int x):=λJ=>l_ _ _ _ _
  have i3:∀J,fL J (gA n x v) (.int 3)=some (.int v):=λJ=>rfl
  refine fZ (λτ' J'=>∃ep',τ'=[some (.ref D),some (fr t),some (gA n x v),none]∧J'=put J D (.dct (bY (gs ++ [(n,⟨t,(x:Rat),v⟩)])) ep')) (wb rfl (i0 _)) ?_ ?_
  ·simp_all! [i1,i2,i3,hD,MG,vC]
   refine ⟨bp (by unfold bY;rw [Us];omega),λep'=>⟨ep',?_⟩⟩
   have epu:tN (bY gs) n (aW.mk t (x:Rat) v).V=bY (gs ++ [(n,⟨t,(x:Rat),v⟩)]):=Be (f:=aW.V) (l:=⟨t,(x:Rat),v⟩) hn
   rw [epu]
  rintro τ' J' ⟨ep',rfl,rfl⟩
  refine dy rfl (i0 _) (by decide +kernel) ?_
  refine dy rfl (i0 _) (by decide +kernel) ?_
  refine dy rfl (i0 _) (by decide +kernel) ?_
  simp_all! [i0,LL,if_false]
  exact q ep'
 ·have i0:∀J,fL J (j4 n v) (.int 0)=some (.str "turn"):=λJ=>dU _ _
  have i1:∀J,fL J (j4 n v) (.int 1)=some (.str n):=λJ=>fW _ _ _
  have i2:∀J,fL J (j4 n v) (.int 2)=some (.int v):=λJ=>l_ _ _ _ _
  refine dy rfl (i0 _) (by decide +kernel) ?_
  refine dy rfl (i0 _) (by decide +kernel) ?_
  refine fZ (λτ' J'=>∃ep',τ'=[some (.ref D),some (fr t),some (j4 n v),none]∧J'=put J D (.dct (bY (vD n t v gs)) ep')) (wb rfl (i0 _)) ?_ ?_
  ·obtain ⟨l,hl,hvl⟩:=xW (f:=aW.V) hnd hn
   have hvl:mC (bY gs) n=some l.V:=hvl
   have sll:=sl _ hl
   simp_all! [i1,i2,hD,hvl]
   refine ⟨l,t,rfl,sll.m,sll.p,st,sll.v,?_⟩
   simp_all! [i1,i2,hD,vC]
   refine ⟨bp (by unfold bY;rw [Us];omega),λep'=>⟨ep',?_⟩⟩
   rw [GV hn]
   have:(gs.map λx=>if x.1=n then (x.1,(⟨t,l.at t,v⟩:aW)) else x)=vD n t v gs:=US λx hx=>by
    by_cases z:x.1=n
    ·have hx':mC (bY gs) n=some x.2.V:=jX (f:=aW.V) hnd (by rw [← z];exact hx)
     rw [hvl] at hx'
     have ex:l=x.2:=by have:=Option.some.inj hx';rw [OE] at this;exact this
     rw [if_pos z,if_pos z,ex]
    ·rw [if_neg z,if_neg z]
   rw [this]
  rintro τ' J' ⟨ep',rfl,rfl⟩
  refine dy rfl (i0 _) (by decide +kernel) ?_
  simp_all! [i0,LN,if_false]
  exact q ep'
 ·have i0:∀J,fL J jf (.int 0)=some (.str "about"):=λJ=>dU _ _
  refine dy rfl (i0 _) (by decide +kernel) ?_
  refine dy rfl (i0 _) (by decide +kernel) ?_
  refine dy rfl (i0 _) (by decide +kernel) ?_
  refine fZ (λτ' J'=>∃u ep',τ'=[some (.ref D),some (fr t),some jf,u]∧J'=put J D (.dct (bY (kj t gs)) ep')) (wb rfl (i0 _)) ?_ ?_
  ·simp_all! [hD]
   have hkv:(bY gs).map (λkv=>PV.str kv.1)=gs.map λx=>PV.str x.1:=by unfold bY;rw [UC];rfl
   rw [hkv]
   obtain ⟨Inv,hInv⟩:∃Inv:Nat→Sr→Hq→Prop,∀i τ J',Inv i τ J'↔∃(u:Option PV) (ep':Nat),τ=[some (.ref D),some (fr t),some jf,u]∧J'=put J D (.dct (bY (fj t gs i)) ep'):=⟨_,λ_ _ _=>Iff.rfl⟩
   refine gw Inv ((hInv _ _ _).mpr ⟨_,ep,rfl,by show J=put J D (.dct (bY gs) ep);rw [Bg hD]⟩) (λ_ _ _ _=>trivial) ?_ ?_
   ·intro i x τ J' hx hv
    obtain ⟨u,ep',rfl,rfl⟩:=(hInv _ _ _).mp hv
    clear hv
    have hi:i < gs.length:=by have:=(Uu.mp hx).1;simpa using this
    rw [Uz,Ut hi] at hx
    cases hx
    have hnd':((fj t gs i).map (·.1)).Nodup:=by rw [uR];exact hnd
    have hmem:gs[i]∈fj t gs i:=by unfold fj;rw [VJ hi];exact UD.mpr (.inr Va)
    have hva:mC (bY (fj t gs i)) gs[i].1=some gs[i].2.V:=jX (f:=aW.V) hnd' hmem
    have hstep:=yh t gs hnd i hi
    have hin:gs[i].1∈(fj t gs i).map (·.1):=Uv.mpr ⟨_,hmem,rfl⟩
    have hlen':(fj t gs i).length=gs.length:=by have:=congrArg Vl (uR t gs i);rw [Us,Us] at this;exact this
    have sll:=sl _ (U9 hi)
    generalize gs[i]=y at hva hstep hin sll ⊢
    simp_all! [ar,hva]
    refine ⟨y.2,t,rfl,sll.m,sll.p,st,sll.v,?_⟩
    simp_all! [ar,hva,kC,vC]
    refine ⟨bp (by unfold bY;rw [Us];omega),λep2=>(hInv _ _ _).mpr ⟨_,ep2,rfl,?_⟩⟩
    rw [d_,GV hin,hstep]
   ·intro τ J' hv
    obtain ⟨u,ep',rfl,rfl⟩:=(hInv _ _ _).mp hv
    refine ⟨u,rfl,ep',?_⟩
    rw [Us]
    unfold fj
    rw [UY,List.drop_length,Vq]
  rintro τ' J' ⟨u,ep',rfl,rfl⟩
  simp_all! [i0,LK,if_false]
  exact q ep'
 ·have i0:∀J,fL J (ie n) (.int 0)=some (.str "leave"):=λJ=>dU _ _
  have i1:∀J,fL J (ie n) (.int 1)=some (.str n):=λJ=>fW _ _ _
  refine dy rfl (i0 _) (by decide +kernel) ?_
  refine fZ (λτ' J'=>∃ep',τ'=[some (.ref D),some (fr t),some (ie n),none]∧J'=put J D (.dct (bY (o8 n gs)) ep')) (wb rfl (i0 _)) ?_ ?_
  ·obtain ⟨l,hl,hvl⟩:=xW (f:=aW.V) hnd hn
   have hvl:mC (bY gs) n=some l.V:=hvl
   simp_all! [i1,hD,hvl]
   have edr:EN (bY gs) n=bY (o8 n gs):=by unfold EN bY o8;rw [Vg];rfl
   intro ep'
   exact ⟨ep',by rw [edr]⟩
  rintro τ' J' ⟨ep',rfl,rfl⟩
  refine dy rfl (i0 _) (by decide +kernel) ?_
  refine dy rfl (i0 _) (by decide +kernel) ?_
  simp_all! [i0,LM,if_false]
  exact q ep'
 ·have i0:∀J,fL J (KR m) (.int 0)=some (.str "go"):=λJ=>dU _ _
  have i1:∀J,fL J (KR m) (.int 1)=some (fr m):=λJ=>fW _ _ _
  refine dy rfl (i0 _) (by decide +kernel) ?_
  refine dy rfl (i0 _) (by decide +kernel) ?_
  refine dy rfl (i0 _) (by decide +kernel) ?_
  refine dy rfl (i0 _) (by decide +kernel) ?_
  simp_all! [i0,i1,if_true]
  exact q
abbrev Bl:Stmt:=(top 62)
abbrev jE:List Str:=["_law_lane","_law_deed_here"]
theorem Kd:L2.aw ["_law_lane","_law_deed_here"] ["_law_lane","_law_deed_here"] (L2.aj Bl):=dH
def xI (cN cL T:Addr):cA:=λxs J Q _=>∃p L dv,xs=[.ref p,dv]∧aY cN cL J p L∧b_ L ∧
 ((∃n x v,dv=gA n x v∧J T=some .tab∧good n=true∧MI x v∧n ∉ L.cs.map Cf.n∧L.row.length < 12∧L.cs.length < 100∧n.length≤sizeLine∧∀J' L',aY cN cL J' p L'→b_ L'→L.joined n x v L'→Mv J J' (L.own p) (L'.own p)→Q (.fl []) J') ∨
  (∃n v,dv=j4 n v∧n∈L.row∧v.natAbs≤1000∧(∀c∈L.cs,c.w.length < 200)∧∀J' L',aY cN cL J' p L'→b_ L'→L'.cs=L.cs.map (dw n L.t v)→L'.t=L.t→Mv J J' (L.own p) (L'.own p)→Q (.fl []) J') ∨
  (dv=jf∧(∀c∈L.cs,c.w.length < 200)∧∀J' L',aY cN cL J' p L'→b_ L'→L'.cs=L.cs.map (er L.t)→L'.t=L.t→Mv J J' (L.own p) (L'.own p)→Q (.fl []) J') ∨
  (∃n,dv=ie n∧n∈L.row∧∀J' L',aY cN cL J' p L'→b_ L'→L'.cs=L.cs.map (bT n L.t)→L'.t=L.t→Mv J J' (L.own p) (L'.own p)→Q (.fl []) J') ∨
  (∃m:Rat,dv=KR m∧iT m.num m.den=true∧L.t≤m∧∀J' o',aY cN cL J' p { L with t:=m,o:=o',row:=cX m L.fs }→b_ { L with t:=m,o:=o',row:=cX m L.fs }→Mv J J' (L.own p) (Ln.own { L with t:=m,o:=o',row:=cX m L.fs } p)→Q (.fl ((p8 L.t (L.fs.map (key L.t)) m).map aJ.v)) J'))
theorem Gv {cN cL T eB eF eT eU eC eM eP f:Addr} {fd:FuncData} (F:cb K "_law_done" "_law_done" Bl f fd) (Z:bQ mg) (eK:cI P w K mg base cN 8 "join" jA (xO cN cL T eB eF eT eU)) (jt:cI P w K mg base cN 2 "leave" mi (zB cN cL eC)) (kH:cI P w K mg base cN 8 "turn" n_ (CY cN cL eC eF)) (jk:cI P w K mg base cN 8 "about" md (zx cN cL)) (jq:cI P w K mg base cN 8 "go_to" mh (LJ cN cL eM eP)):aQ P w K mg base (cP P w) 9 f fd jE (dn K (xI cN cL T)):=by
 simp_arith [Kd,(ed (aX (aL (cT hr.aV) (au av (rv 1) ag) bR) (aq (bt (bK (pl:=_) eK B hr (rv 0) (af (au av (rv 1) ag) (af (au av (rv 1) ag) (af (au av (rv 1) ag) ah)))))) aK)
   (ed (aX (aL (cT hr.aV) (au av (rv 1) ag) bR) (aq (bt (bK (pl:=_) jt B hr (rv 0) (af (au av (rv 1) ag) ah)))) aK)
   (ed (aX (aL (cT hr.aV) (au av (rv 1) ag) bR) (aq (bt (bK (pl:=_) kH B hr (rv 0) (af (au av (rv 1) ag) (af (au av (rv 1) ag) ah))))) aK)
   (ed (aX (aL (cT hr.aV) (au av (rv 1) ag) bR) (aq (bt (cW (pl:=_) jk B hr (rv 0)))) aK)
   (ai (aX (aL (cT hr.aV) (au av (rv 1) ag) bR) (aq (aA (bK (pl:=_) jq B hr (rv 0) (af (au av (rv 1) ag) ah)))) aK)
   (aq (aA (k4 ah))))))))]
 ·obtain ⟨p,L,dv,rfl,_⟩:=h;rfl
 obtain ⟨p,L,dv,rfl,b,ok,h⟩:=h
 have bo:=b.ob
 refine hX ?_
 rcases h with ⟨n,x,v,rfl,hT,hg,hb,hn,hr12,hc,hl,q⟩ | ⟨n,v,rfl,hn,hv,hw,q⟩ | ⟨rfl,hw,q⟩ | ⟨n,rfl,hn,q⟩ | ⟨m,rfl,hg,hm,q⟩
 ·have i0:∀J,fL J (gA n x v) (.int 0)=some (.str "join"):=λJ=>dU _ _
  have i1:∀J,fL J (gA n x v) (.int 1)=some (.str n):=λJ=>fW _ _ _
  have i2:∀J,fL J (gA n x v) (.int 2)=some (.int x):=λJ=>l_ _ _ _ _
  have i3:∀J,fL J (gA n x v) (.int 3)=some (.int v):=λJ=>rfl
  refine fZ (λτ' J'=>τ'=[some (.ref p),some (gA n x v)]∧Q (.fl []) J') (wb rfl (i0 _)) ?_ ?_
  ·simp_all! [bo,i1,i2,i3]
   exact ⟨fo _ _ _ _,p,L,n,x,v,rfl,b,ok,hT,hl,hc,(λz=>by rw [hg] at z;cases z),(λ_ z=>absurd hb z),(λ_ _ z=>absurd z hn),(λ_ _ _ z=>by omega),λ_ _ _ _ J1 L1 b1 ok1 jn mv=>q J1 L1 b1 ok1 jn mv⟩
  rintro τ' J' ⟨rfl,hq⟩
  refine dy rfl (i0 _) (by decide +kernel) ?_
  refine dy rfl (i0 _) (by decide +kernel) ?_
  refine dy rfl (i0 _) (by decide +kernel) ?_
  simp_all! [i0,LL,if_false]
  exact hq
 ·have i0:∀J,fL J (j4 n v) (.int 0)=some (.str "turn"):=λJ=>dU _ _
  have i1:∀J,fL J (j4 n v) (.int 1)=some (.str n):=λJ=>fW _ _ _
  have i2:∀J,fL J (j4 n v) (.int 2)=some (.int v):=λJ=>l_ _ _ _ _
  refine dy rfl (i0 _) (by decide +kernel) ?_
  refine dy rfl (i0 _) (by decide +kernel) ?_
  refine fZ (λτ' J'=>τ'=[some (.ref p),some (j4 n v)]∧Q (.fl []) J') (wb rfl (i0 _)) ?_ ?_
  ·simp_all! [bo,i1,i2]
   exact ⟨fo _ _ _ _,p,L,n,v,rfl,b,ok,hw,λz=>absurd hn z,λ_ z=>absurd hv z,λ_ _ J1 L1 b1 ok1 e t1 mv=>q J1 L1 b1 ok1 e t1 mv⟩
  rintro τ' J' ⟨rfl,hq⟩
  refine dy rfl (i0 _) (by decide +kernel) ?_
  simp_all! [i0,LN,if_false]
  exact hq
 ·have i0:∀J,fL J jf (.int 0)=some (.str "about"):=λJ=>dU _ _
  refine dy rfl (i0 _) (by decide +kernel) ?_
  refine dy rfl (i0 _) (by decide +kernel) ?_
  refine dy rfl (i0 _) (by decide +kernel) ?_
  refine fZ (λτ' J'=>τ'=[some (.ref p),some (jf)]∧Q (.fl []) J') (wb rfl (i0 _)) ?_ ?_
  ·simp_all! [bo]
   exact ⟨fo _ _ _ _,p,L,rfl,b,ok,hw,λJ1 L1 b1 ok1 e t1 mv=>q J1 L1 b1 ok1 e t1 mv⟩
  rintro τ' J' ⟨rfl,hq⟩
  simp_all! [i0,LK,if_false]
  exact hq
 ·have i0:∀J,fL J (ie n) (.int 0)=some (.str "leave"):=λJ=>dU _ _
  have i1:∀J,fL J (ie n) (.int 1)=some (.str n):=λJ=>fW _ _ _
  refine dy rfl (i0 _) (by decide +kernel) ?_
  refine fZ (λτ' J'=>τ'=[some (.ref p),some (ie n)]∧Q (.fl []) J') (wb rfl (i0 _)) ?_ ?_
  ·simp_all! [bo,i1]
   exact ⟨fo _ _ _ _,p,L,n,rfl,b,ok,λz=>absurd hn z,λ_ J1 L1 b1 ok1 e t1 mv=>q J1 L1 b1 ok1 e t1 mv⟩
  rintro τ' J' ⟨rfl,hq⟩
  refine dy rfl (i0 _) (by decide +kernel) ?_
  refine dy rfl (i0 _) (by decide +kernel) ?_
  simp_all! [i0,LM,if_false]
  exact hq
 ·have i0:∀J,fL J (KR m) (.int 0)=some (.str "go"):=λJ=>dU _ _
  have i1:∀J,fL J (KR m) (.int 1)=some (fr m):=λJ=>fW _ _ _
  refine dy rfl (i0 _) (by decide +kernel) ?_
  refine dy rfl (i0 _) (by decide +kernel) ?_
  refine dy rfl (i0 _) (by decide +kernel) ?_
  refine dy rfl (i0 _) (by decide +kernel) ?_
  simp_all! [i0,i1,if_true,bo]
  refine ⟨fo _ _ _ _,p,L,m.num,m.den,rfl,b,ok,(λz=>by rw [hg] at z;cases z),λm' e1 e2 _=>?_⟩
  obtain rfl:m'=m:=Rat.ext e1 (by omega)
  exact ⟨λz=>absurd z (Rat.not_lt.mpr hm),λ_ J1 o1 b1 ok1 mv1=>q J1 o1 b1 ok1 mv1⟩
abbrev xk:Stmt:=(top 59)
abbrev jC:List Str:=["_law_row","_law_mode","_law_names_here","_law_used","_law_legs","_law_clock"]
theorem qX:L2.aw ["_law_row","_law_mode","_law_names_here","_law_used","_law_legs","_law_clock","_law_there","_law_fresh","_law_name"] ["_law_row","_law_mode","_law_names_here","_law_used","_law_legs","_law_clock"] (L2.aj xk):=dH
def EZ (names used:List Str) (gs:List (Str × aW)) (t:Rat) (dv:PV):Prop :=
 (∃n x v,dv=gA n x v∧n∈names∧n ∉ used∧gs.length < 12∧x.natAbs≤1000000∧v.natAbs≤1000) ∨
 (∃n v,dv=j4 n v∧n∈gs.map (·.1)∧v.natAbs≤1000)∨dv=jf∨(∃n,dv=ie n∧n∈gs.map (·.1))∨∃m,dv=KR m∧Later t m
def Bx:cA:=λxs J Q _=>∃(r0 r1 r2 r3 r4 r5 m:Int) (names used:List Str) (U D:Addr) (gs:List (Str × aW)) (ep:Nat) (t:Rat),xs=[.fl [.int r0,.int r1,.int r2,.int r3,.int r4,.int r5],.int m,.fl (names.map .str),.ref U,.ref D,fr t]∧J U=some (.lst (used.map .str))∧J D=some (.dct (bY gs) ep)∧names.length≤40∧gs.length≤100 ∧
 0≤r1∧0≤r2∧0≤r3∧r3 < 2001∧0≤r4∧r4 < 2 ^ 60∧0≤r5∧0≤m∧m < 4∧Sz 900 t∧∀dv,EZ names used gs t dv→Q dv J
theorem wa {c:mI} {a u:iM} {D:En} {τ:Sr} {J:Hq} (b:Prop) [Decidable b] (hc:∀R:Bool→Hq→Prop,R (decide b) J→c τ J R) (h1:b→∀N,a { D with nx:=N } τ J) (h2:¬ b→u D τ J):bZ (Bh c a sH) u D τ J:=by
 refine hc _ ?_
 by_cases h:b
 ·rw [decide_eq_true h,if_pos rfl];exact h1 h _
 ·rw [decide_eq_false h,if_neg (by decide)];exact h2 h
theorem JX {R:Bool→Hq→Prop} {b c:Bool} {J:Hq} (h:R b J) (e:b=true↔c=true):R c J:=by rw [← Vy.mpr e];exact h
theorem wO {xs:List Str} {r:Int} (h0:0≤r) (hl:0 < xs.length):∃n∈xs,dk (xs.map PV.str) (r % (xs.length:Int))=some (.str n):=by
 obtain ⟨j,hj⟩:∃j:Nat,r % (xs.length:Int)=j:=⟨(r % (xs.length:Int)).toNat,by have:=Int.emod_nonneg r (b:=(xs.length:Int)) (by omega);omega⟩
 have hjl:j < xs.length:=by have:=Int.emod_lt_of_pos r (b:=(xs.length:Int)) (by omega);omega
 exact ⟨xs[j],U9 hjl,by rw [hj];exact bq (by rw [Uz,Ut hjl];rfl)⟩
theorem Gu {f:Addr} {fd:FuncData} (F:cb K "_law_deed" "_law_deed" xk f fd) (Z:bQ mg) (ES:bz P w K mg base 1 "_law_placed" kQ vw) (BG:bz P w K mg base 1 "_law_paced" mr zF) (HZ:bz P w K mg base 2 "_law_later" mq CT):aQ P w K mg base (cP P w) 3 f fd jC (dn K Bx):=by
 simp_arith [qX,(ai (aE (i:=6) qX.nd (dP (yp rfl) rfl Z.list boot_list (af (rv 4) ah)))
   (ai (NM (i:=7) (L2.aj xk) ["_law_row","_law_mode","_law_names_here","_law_used","_law_legs","_law_clock","_law_there","_law_fresh","_law_name"] [("_law_used",3)] rfl rfl rfl qX.nd rfl (Or.inl rfl) (dQ (rv 2)) (λ_ _ _ _ _ _=>(rv 0)) (λ_ _ _ _ _ _=>(aL Co (rv 0) (rv 1))))
   (ai (aX (di (fT (aL n8 (aI bO rfl Z.len boot_len (af (rv 7) ah)) ag) (fT (aL gZ (aI bO rfl Z.len boot_len (af (rv 6) ah)) ag) (fb (di (fY (aL gZ (au av (rv 0) ag) ag) (fe (di (fT (aL gZ (aI bO rfl Z.len boot_len (af (rv 6) ah)) ag) (fb (aL gZ (au av (rv 0) ag) ag))))))))))) (ai (aE (i:=8) qX.nd (au av (rv 7) (aR fu (au av (rv 0) ag) (aI bO rfl Z.len boot_len (af (rv 7) ah)))))
   (aq (aA (cu (af bR (af (rv 8) (af (aO ES B hr (af (au av (rv 0) ag) (af (rv 1) ah))) (af (aO BG B hr (af (au av (rv 0) ag) (af (rv 1) ah))) ah)))))))) aK)
   (ai (aX (di (fT (aL Nn (au av (rv 0) ag) (cu (af ag (af ag ah)))) (fb (aL n8 (aI bO rfl Z.len boot_len (af (rv 6) ah)) ag)))) (aq (aA (cu (af bR (af (au av (rv 6) (aR fu (au av (rv 0) ag) (aI bO rfl Z.len boot_len (af (rv 6) ah)))) (af (aO BG B hr (af (au av (rv 0) ag) (af (rv 1) ah))) ah)))))) aK)
   (ai (aX (di (fT (aL (cT hr.aV) (au av (rv 0) ag) ag) (fb (aL n8 (aI bO rfl Z.len boot_len (af (rv 6) ah)) ag)))) (aq (aA (cu (af bR (af (au av (rv 6) (aR fu (au av (rv 0) ag) (aI bO rfl Z.len boot_len (af (rv 6) ah)))) ah))))) aK)
   (ai (aX (aL (cT hr.aV) (au av (rv 0) ag) ag) (aq (aA (cu (af bR ah)))) aK)
   (aq (aA (cu (af bR (af (aO HZ B hr (af (rv 5) (af (au av (rv 0) ag) (af (au av (rv 0) ag) (af (rv 1) ah))))) ah)))))))))))]
 ·obtain ⟨r0,r1,r2,r3,r4,r5,m,names,used,U,D,gs,ep,t,rfl,_⟩:=h;rfl
 obtain ⟨r0,r1,r2,r3,r4,r5,m,names,used,U,D,gs,ep,t,rfl,hU,hD,hnl,hgl,r10,r20,r30,r31,r40,r41,r50,m0,m1,st,q⟩:=h
 have hkv:(bY gs).map (λkv=>PV.str kv.1)=(gs.map (·.1)).map PV.str:=by unfold bY;rw [UC,UC];rfl
 refine hX ?_
 simp_all! [hD,hkv,sG]
 obtain ⟨pn,hpn⟩:∃pn:Str→Bool,∀x,pn x=!decide (x∈used):=⟨_,λ_=>rfl⟩
 refine ⟨λx=>match x with | .str s=>pn s | _=>false,id,⟨by rw [Us];exact Vk hnl (by decide),λJ' sub=>⟨trivial,λx hx=>?_⟩⟩,?_⟩
 ·obtain ⟨s,hs,rfl⟩:=Uv.mp hx
  have hU':=sub _ _ hU
  simp_all! [pN]
  refine ⟨⟨s,used,rfl,by show (match J' U with | some (.lst xs)=>some xs | _=>none)=_;rw [hU'],wI rfl ⟨(hpn s).symm,rfl⟩⟩,λ_=>trivial⟩
 have ef:((names.map PV.str).filter λx=>match x with | .str s=>pn s | _=>false).map id=(names.filter pn).map PV.str:=by rw [List.map_id,Vg];rfl
 rw [ef]
 have hfr:∀n∈names.filter pn,n∈names∧n ∉ used:=λn hn=>by
  obtain ⟨h1,h2⟩:=UE.mp hn
  rw [hpn] at h2
  exact ⟨h1,by simpa using h2⟩
 generalize names.filter pn=fresh at hfr ⊢
 have gl:(gs.map (·.1)).length=gs.length:=Us _
 generalize hgn:gs.map (·.1)=gn at gl q ⊢
 refine hNq _ _ ?_
 clear hNq Nq
 refine wa (0 < fresh.length∧gs.length < 12∧(r0 < 3∨gs.length < 2∧r0 < 8)) (λR hR=>?_) (λhb N=>?_) (λhb=>?_)
 ·simp_arith! [bZ,Us]
  (repeat' (first | split | simp_arith! [bZ,Us])) <;> exact JX hR (by simp only [decide_eq_true_eq,UK,eq_self,iff_true,iff_false];omega)
 ·obtain ⟨n,hn,ha⟩:=wO r10 hb.1
  simp_all! [Us,ha]
  refine ⟨by omega,?_⟩
  simp_all! []
  refine ⟨r2,m,rfl,r20,λx hx=>⟨r3,m,rfl,r30,r31,λv hv=>?_⟩⟩
  exact q _ (.inl ⟨n,x,v,rfl,(hfr n hn).1,(hfr n hn).2,hb.2.1,hx,hv⟩)
 refine wa ((r0=3∨r0=4)∧0 < gs.length) (λR hR=>?_) (λhb N=>?_) (λhb=>?_)
 ·simp_all! [Us]
  refine ⟨r0,[3,4],rfl,rfl,wI rfl ?_⟩
  (repeat' (first | split | simp_arith! [bZ,Us])) <;> exact JX hR (by simp only [decide_eq_true_eq,UK,id_eq,UI,UT,or_false,eq_self,iff_true,iff_false] at *;omega)
 ·obtain ⟨n,hn,ha⟩:=wO (xs:=gn) r10 (by omega)
  simp_all! [Us,ha]
  refine ⟨by omega,?_⟩
  simp_all! []
  refine ⟨r3,m,rfl,r30,r31,λv hv=>?_⟩
  exact q _ (.inr (.inl ⟨n,v,rfl,by rw [hgn];exact hn,hv⟩))
 refine wa (r0=5∧2 < gs.length) (λR hR=>?_) (λhb N=>?_) (λhb=>?_)
 ·simp_arith! [bZ,Us]
  (repeat' (first | split | simp_arith! [bZ,Us])) <;> exact JX hR (by simp only [decide_eq_true_eq,UK,eq_self,iff_true,iff_false];omega)
 ·obtain ⟨n,hn,ha⟩:=wO (xs:=gn) r10 (by omega)
  simp_all! [Us,ha]
  exact ⟨by omega,q _ (.inr (.inr (.inr (.inl ⟨n,rfl,by rw [hgn];exact hn⟩))))⟩
 refine wa (r0=6) (λR hR=>?_) (λhb N=>?_) (λhb=>?_)
 ·simp_arith! [bZ]
  exact JX hR (by simp only [decide_eq_true_eq,UK])
 ·simp_all! []
  exact q _ (.inr (.inr (.inl rfl)))
 simp_all! []
 exact ⟨t,r4,r5,m,rfl,r40,r50,m0,m1,r41,st,λm' hm'=>q _ (.inr (.inr (.inr (.inr ⟨m',rfl,hm'⟩))))⟩
theorem FL {m:Rat} (h0:0≤m) (hd:m.den≤60) (h1:m.num≤1000000 * (m.den:Int)):iT m.num m.den=true:=by
 refine decide_eq_true ⟨by omega,by have:=m.den_pos;omega,?_,Rat.num_nonneg.mpr h0,h1⟩
 have:=m.reduced
 unfold Int.gcd
 exact this
theorem DR {c q:Rat} (h:Later c q) (hc:c.den≤60):q.den≤60:=by
 rcases h with rfl | ⟨u,s,u0,u1,s0,s1,rfl⟩
 ·exact hc
 ·have:=v3 (t:=(c.num * (u:Int)).fdiv (c.den:Int) + (s:Int)) (b:=(u:Int)) (by omega)
  omega
theorem MT {q:Rat}:q.num≤1000000 * (q.den:Int)↔q≤1000000:=by
 rw [Rat.le_iff]
 have h3:(1000000:Rat).num=1000000:=rfl
 have h4:((1000000:Rat).den:Int)=1:=rfl
 rw [h3,h4]
 omega
abbrev Bs:Stmt:=(top 66)
abbrev oq:List Str:=["_law_lane","_law_names_here","_law_cells","_law_mode"]
theorem h_:L2.aw ["_law_lane","_law_names_here","_law_cells","_law_mode","_law_legs","_law_used","_law_clock","_law_cell_here","_law_row","_law_deed_here"] ["_law_lane","_law_names_here","_law_cells","_law_mode"] (L2.aj Bs):=dH
structure Wk (cN cL:Addr) (J0:Hq) (S0:Addr→Prop) (J:Hq) (p:Addr) (L:Ln) (D U:Addr) (gs:List (Str × aW)) (ep:Nat) (used:List Str) (k:Nat):Prop where
 b:aY cN cL J p L
 ok:b_ L
 rl:Rl L gs
 hD:J D=some (.dct (bY gs) ep)
 hU:J U=some (.lst (used.map .str))
 nD:¬ L.own p D
 nU:¬ L.own p U
 mv:Mv J0 J S0 (λa=>L.own p a∨a=D∨a=U)
 td:L.t.den≤60
 tl:L.t≤((500 * k:Nat):Rat)
 wl:∀c∈L.cs,c.w.length≤1 + k
theorem Rl.go {L:Ln} {gs:List (Str × aW)} (h:Rl L gs) {m:Rat} (hm:L.t≤m) {o:Addr} {row:List Str}:Rl { L with t:=m,o:=o,row:=row } gs:=⟨h.nm,h.ln,h.ck,λx hx=>Rat.le_trans (h.le x hx) hm,h.ct⟩
theorem F7 {c q:Rat} (h:Later c q) (c0:0≤c):q≤c + 500:=by
 rcases h with rfl | ⟨u,s,u0,u1,s0,s1,rfl⟩
 ·grind
 rw [Rat.divInt_eq_div]
 have hu:(0:Rat) < ((u:Int):Rat):=by exact_mod_cast (show (0:Int) < u by omega)
 have h1:((s:Int):Rat)≤500 * ((u:Int):Rat):=by exact_mod_cast (show (s:Int)≤500 * u by omega)
 have hd:(0:Rat) < ((c.den:Int):Rat):=by exact_mod_cast (show (0:Int) < c.den by have:=c.den_pos;omega)
 have h2:((((c.num * (u:Int)).fdiv (c.den:Int)):Int):Rat)≤c * ((u:Int):Rat):=by
  have e1:(c.num * (u:Int)).fdiv (c.den:Int) * (c.den:Int)≤c.num * u:=by
   rw [Int.fdiv_eq_ediv_of_nonneg _ (by omega)]
   exact Int.ediv_mul_le _ (by have:=c.den_pos;omega)
  have e2:((((c.num * (u:Int)).fdiv (c.den:Int)):Int):Rat) * ((c.den:Int):Rat)≤(c.num:Rat) * ((u:Int):Rat):=by
   rw [← Rat.intCast_mul,← Rat.intCast_mul];exact Rat.intCast_le_intCast.mpr e1
  have e3:(c.num:Rat)=c * ((c.den:Int):Rat):=cast_eq c
  rw [e3] at e2
  generalize ((((c.num * (u:Int)).fdiv (c.den:Int)):Int):Rat)=x at e2 ⊢
  generalize ((c.den:Int):Rat)=y at e2 hd
  generalize ((u:Int):Rat)=z at e2 ⊢
  by_cases k:c * z < x
  ·have:0 < (x - c * z) * y:=Rat.mul_pos (by grind) hd
   grind
  ·grind
 rw [Rat.intCast_add]
 generalize ((((c.num * (u:Int)).fdiv (c.den:Int)):Int):Rat)=a at h2 ⊢
 generalize ((s:Int):Rat)=x at h1 ⊢
 generalize ((u:Int):Rat)=y at h1 h2 hu ⊢
 have e:(a + x) / y * y=a + x:=by grind
 generalize (a + x) / y=z at e ⊢
 by_cases k:c + 500 < z
 ·have:0 < (z - (c + 500)) * y:=Rat.mul_pos (by grind) hu
  grind
 ·grind
section
variable {cN cL:Addr} {J0 J:Hq} {S0:Addr→Prop} {p:Addr} {L:Ln} {D U:Addr} {gs:List (Str × aW)} {ep:Nat} {used:List Str} {k:Nat}
theorem Wk.ne (h:Wk cN cL J0 S0 J p L D U gs ep used k):U≠D:=λe=>by have:=h.hU;rw [e,h.hD] at this;cases this
theorem Wk.kept (h:Wk cN cL J0 S0 J p L D U gs ep used k) {T:Addr} {o:HQ} (hT:J0 T=some o) (nT:¬ S0 T):J T=some o:=h.mv.keep _ _ hT nT
theorem Wk.next (h:Wk cN cL J0 S0 J p L D U gs ep used k) {J1:Hq} {L1:Ln} {gs1:List (Str × aW)} {k1:Nat} (b1:aY cN cL J1 p L1) (ok1:b_ L1) (mv:Mv J J1 (L.own p) (L1.own p)) (rl1:Rl L1 gs1) (td:L1.t.den≤60) (tl:L1.t≤((500 * k1:Nat):Rat)) (wl:∀c∈L1.cs,c.w.length≤1 + k1) (ep':Nat):Wk cN cL J0 S0 (put J1 D (.dct (bY gs1) ep')) p L1 D U gs1 ep' used k1:=by
 have new:∀{x o},J x=some o→¬ L.own p x→¬ L1.own p x:=λhx nx z=>by
  rcases mv.own _ z with q | q
  ·exact nx q
  ·rw [hx] at q;cases q
 have nD1:=new h.hD h.nD
 have hD1:=mv.keep _ _ h.hD h.nD
 have hU1:=mv.keep _ _ h.hU h.nU
 have mv1:Mv J J1 (λa=>L.own p a∨a=D∨a=U) (λa=>L1.own p a∨a=D∨a=U) :=
  ⟨λa o e n=>mv.keep a o e λz=>n (.inl z),λa z=>z.elim (λz=>(mv.own a z).imp .inl id) (λz=>.inl (.inr z)),mv.mono⟩
 refine ⟨b1.keep λa u ow e=>?_,ok1,rl1,ar,?_,nD1,new h.hU h.nU,(h.mv.trans mv1).trans (gB (.inr (.inl rfl)) λa z=>.inl z),td,tl,wl⟩
 ·rw [ak (λz=>by subst z;exact nD1 ow)];exact e
 ·rw [ak h.ne];exact hU1
theorem Wk.push (h:Wk cN cL J0 S0 J p L D U gs ep used k) (n:Str):Wk cN cL J0 S0 (put J U (.lst ((used ++ [n]).map .str))) p L D U gs ep (used ++ [n]) k:=by
 refine ⟨h.b.keep λa u ow e=>?_,h.ok,h.rl,?_,ar,h.nD,h.nU,h.mv.trans (gB (.inr (.inr rfl)) λa z=>.inl z),h.td,h.tl,h.wl⟩
 ·rw [ak (λz=>by subst z;exact h.nU ow)];exact e
 ·rw [ak (λe=>h.ne e.symm)];exact h.hD
theorem Wk.up (h:Wk cN cL J0 S0 J p L D U gs ep used k):Sz 900 L.t∧(gs.map (·.1)).Nodup∧gs.length≤12∧∀x∈gs,qk 900 x.2 :=
 ⟨h.ok.N4,h.rl.nd h.ok.tobc,by rw [h.rl.len];exact h.ok.OU,λx hx=>(h.rl.sz x hx).mono (by decide)⟩
end
theorem AS {q:Rat} {k:Nat} (hk:k≤2000) (h:q≤((500 * k:Nat):Rat)):q≤1000000:=by
 refine Rat.le_trans h ?_
 have:((500 * k:Nat):Rat)≤((1000000:Nat):Rat):=by exact_mod_cast (show 500 * k≤1000000 by omega)
 exact this
theorem C5 {a b:Rat} {k:Nat} (h:b≤a + 500) (ha:a≤((500 * k:Nat):Rat)):b≤((500 * (k + 1):Nat):Rat):=by
 have e:((500 * (k + 1):Nat):Rat)=((500 * k:Nat):Rat) + 500:=by
  rw [show 500 * (k + 1)=500 * k + 500 by omega];exact Rat.natCast_add _ _
 rw [e];grind
theorem Km {a:Rat} {k:Nat} (ha:a≤((500 * k:Nat):Rat)):a≤((500 * (k + 1):Nat):Rat):=C5 (a:=a) (by grind) ha
theorem B6 {n:Str} (hg:good n=true):n.length≤sizeLine:=by
 have h8:n.cps.size≤8:=by
  unfold good at hg
  rw [UX,UX] at hg
  exact of_decide_eq_true hg.1.2
 exact UM h8 (by decide)
theorem vH {cN cL T p D U:Addr} {J0 J:Hq} {S0:Addr→Prop} {L:Ln} {gs:List (Str × aW)} {ep:Nat} {used names:List Str} {i:Nat} {dv:PV} {E2:Addr→Hq→Prop} {Dn:En} {τ:Sr} {iL iU iD iC iV:Nat}
  (hL:τ[iL]?=some (some (.ref p))) (hU:τ[iU]?=some (some (.ref U))) (hDt:τ[iD]?=some (some (.ref D))) (hC:τ[iC]?=some (some (fr L.t))) (hV:τ[iV]?=some (some dv))
  (wk:Wk cN cL J0 S0 J p L D U gs ep used i) (hun:L.cs.map Cf.n=used) (hus:∀n∈used,n∈names) (hul:used.length≤i) (hi:i < 90) (hng:∀n∈names,good n=true) (hT:J0 T=some .tab) (nT:¬ S0 T) (hdv:EZ names used gs L.t dv)
  (fin:∀J1 L1 gs1 ep1 used1 t1,L1.t=t1→Wk cN cL J0 S0 J1 p L1 D U gs1 ep1 used1 (i + 1)→L1.cs.map Cf.n=used1→(∀n∈used1,n∈names)→used1.length≤i + 1→Dn.nx (τ.set iC (some (fr t1))) J1) :
  G7 (Bh (rB (xZ (Lm id) (xZ Lo (jF iV) (rC (.int 0))) (rC (.str "join")))) (CD (SG "list" w6 (jF iU) (kZ (xZ Lo (jF iV) (rC (.int 1))) uG))) sH)
   (bZ (CD (ze (xI cN cL T) E2 (kZ (jF iL) (kZ (jF iV) uG)))) (uF (ze qZ E2 (kZ (jF iD) (kZ (jF iC) (kZ (jF iV) uG)))) (IK iC))) Dn τ J:=by
 obtain ⟨st,gnd,gl,gsz⟩:=wk.up
 have hT':∀{J1:Hq} {L1 gs1 ep1 us k1},Wk cN cL J0 S0 J1 p L1 D U gs1 ep1 us k1→J1 T=some .tab:=λwk'=>wk'.kept hT nT
 have hw200:∀c∈L.cs,c.w.length < 200:=λc hc=>by have:=wk.wl c hc;omega
 have tl1:L.t≤((500 * (i + 1):Nat):Rat):=Km wk.tl
 have hfl:L.fs.length=gs.length:=wk.rl.len.symm
 have hrow:∀n,n∈gs.map (·.1)→n∈L.row:=λn hn=>(wk.ok.rm n).mpr (by rw [← wk.rl.nm];exact hn)
 rcases hdv with ⟨n,x,v,rfl,hn,hnu,hgl,hx,hv⟩ | ⟨n,v,rfl,hn,hv⟩ | rfl | ⟨n,rfl,hn⟩ | ⟨m',rfl,hm'⟩
 ·have i0:∀J,fL J (gA n x v) (.int 0)=some (.str "join"):=λJ=>dU _ _
  have i1:∀J,fL J (gA n x v) (.int 1)=some (.str n):=λJ=>fW _ _ _
  refine fZ (λτ' J2=>τ'=τ∧J2=put J U (.lst ((used ++ [n]).map .str))) (wb hV (i0 _)) ?_ ?_
  ·simp_all! [hU,hV,i1,wk.hU,Us]
   exact ⟨UL (show used.length < 100 by omega) (by decide),by rw [UA];rfl⟩
  rintro τ' J2 ⟨rfl,rfl⟩
  have wk2:=wk.push n
  generalize put J U (.lst ((used ++ [n]).map .str))=J2 at wk2 ⊢
  have hnc:n ∉ L.cs.map Cf.n:=by rw [hun];exact hnu
  have hcl':L.cs.length < 100:=by have:=congrArg Vl hun;rw [Us] at this;omega
  have hnf:n ∉ L.fs.map (·.1):=λz=>hnc (by
   rw [fC,Uv] at z
   obtain ⟨c',hc',e'⟩:=z
   exact Uv.mpr ⟨c',(Ln.d9.mp hc').1,e'⟩)
  simp_all! [hL,hDt,hC,hV]
  refine ⟨p,L,_,rfl,wk2.b,wk2.ok,.inl ⟨n,x,v,rfl,hT' wk2,hng n hn,⟨hx,hv⟩,hnc,by rw [wk.ok.row,y3];omega,hcl',B6 (hng n hn),λJ3 L3 b3 ok3 jn mv3=>?_⟩⟩
  have rl3:=wk2.rl.join ok3.tobc hv hx jn wk.ok.t0 wk.ok.ts hnf
  obtain ⟨a,r,ecs,et⟩:=jn
  simp_all! [hL,hDt,hC,hV]
  refine ⟨D,gs,ep,L.t,_,rfl,mv3.keep _ _ wk2.hD wk2.nD,gnd,by omega,st,gsz,.inl ⟨n,x,v,rfl,by rw [wk.rl.nm];exact hnf,λep'=>?_⟩⟩
  refine fin _ L3 _ ep' (used ++ [n]) _ et (wk2.next b3 ok3 mv3 rl3 (by rw [et];exact wk.td) (by rw [et];exact tl1) (λc hc=>?_) ep') ?_ (λy hy=>?_) (by rw [UP];show used.length + 1≤_;omega)
  ·rw [ecs] at hc
   rcases UD.mp hc with hc | hc
   ·have:=wk.wl c hc;omega
   ·rw [UH] at hc;subst hc;show 1≤_;omega
  ·rw [ecs,UA,hun];rfl
  ·rcases UD.mp hy with hy | hy
   ·exact hus y hy
   ·rw [UH] at hy;subst hy;exact hn
 ·have i0:∀J,fL J (j4 n v) (.int 0)=some (.str "turn"):=λJ=>dU _ _
  refine dy hV (i0 _) (by decide +kernel) ?_
  simp_all! [hL,hDt,hC,hV]
  refine ⟨p,L,_,rfl,wk.b,wk.ok,.inr (.inl ⟨n,v,rfl,hrow n hn,hv,hw200,λJ3 L3 b3 ok3 e t1 mv3=>?_⟩)⟩
  simp_all! [hL,hDt,hC,hV]
  refine ⟨D,gs,ep,L.t,_,rfl,mv3.keep _ _ wk.hD wk.nD,gnd,by omega,st,gsz,.inr (.inl ⟨n,v,rfl,hn,λep'=>?_⟩)⟩
  refine fin _ L3 _ ep' used _ t1 (wk.next b3 ok3 mv3 (wk.rl.turn wk.ok.tobc hv e t1) (by rw [t1];exact wk.td) (by rw [t1];exact tl1) (λc hc=>?_) ep') (by rw [e,eR (λc=>(oM n L.t v c).1)];exact hun) hus (by omega)
  rw [e] at hc
  obtain ⟨c0,h0,rfl⟩:=Uv.mp hc
  have h1:=wk.wl c0 h0
  unfold dw
  split
  ·have:=nt c0.w L.t v
   show (turned c0.w L.t v).length≤_
   omega
  ·omega
 ·have i0:∀J,fL J jf (.int 0)=some (.str "about"):=λJ=>dU _ _
  refine dy hV (i0 _) (by decide +kernel) ?_
  simp_all! [hL,hDt,hC,hV]
  refine ⟨p,L,_,rfl,wk.b,wk.ok,.inr (.inr (.inl ⟨rfl,hw200,λJ3 L3 b3 ok3 e t1 mv3=>?_⟩))⟩
  simp_all! [hL,hDt,hC,hV]
  refine ⟨D,gs,ep,L.t,_,rfl,mv3.keep _ _ wk.hD wk.nD,gnd,by omega,st,gsz,.inr (.inr (.inl ⟨rfl,λep'=>?_⟩))⟩
  refine fin _ L3 _ ep' used _ t1 (wk.next b3 ok3 mv3 (wk.rl.about wk.ok.tobc e t1) (by rw [t1];exact wk.td) (by rw [t1];exact tl1) (λc hc=>?_) ep') (by rw [e,eR (λc=>(yg L.t c).1)];exact hun) hus (by omega)
  rw [e] at hc
  obtain ⟨c0,h0,rfl⟩:=Uv.mp hc
  have h1:=wk.wl c0 h0
  unfold er
  split
  ·have:=nt c0.w L.t (-c0.cur.v)
   show (turned c0.w L.t (-c0.cur.v)).length≤_
   omega
  ·omega
 ·have i0:∀J,fL J (ie n) (.int 0)=some (.str "leave"):=λJ=>dU _ _
  refine dy hV (i0 _) (by decide +kernel) ?_
  simp_all! [hL,hDt,hC,hV]
  refine ⟨p,L,_,rfl,wk.b,wk.ok,.inr (.inr (.inr (.inl ⟨n,rfl,hrow n hn,λJ3 L3 b3 ok3 e t1 mv3=>?_⟩)))⟩
  simp_all! [hL,hDt,hC,hV]
  refine ⟨D,gs,ep,L.t,_,rfl,mv3.keep _ _ wk.hD wk.nD,gnd,by omega,st,gsz,.inr (.inr (.inr (.inl ⟨n,rfl,hn,λep'=>?_⟩)))⟩
  refine fin _ L3 _ ep' used _ t1 (wk.next b3 ok3 mv3 (wk.rl.leave e t1) (by rw [t1];exact wk.td) (by rw [t1];exact tl1) (λc hc=>?_) ep') (by rw [e,eR (λc=>(fF n L.t c).1)];exact hun) hus (by omega)
  rw [e] at hc
  obtain ⟨c0,h0,rfl⟩:=Uv.mp hc
  have h1:=wk.wl c0 h0
  rw [(fF n L.t c0).2.2.2];omega
 ·have i0:∀J,fL J (KR m') (.int 0)=some (.str "go"):=λJ=>dU _ _
  refine dy hV (i0 _) (by decide +kernel) ?_
  have tl3:=C5 (F7 hm' wk.ok.t0) wk.tl
  have td3:=DR hm' wk.td
  have hg:iT m'.num m'.den=true:=FL (Rat.le_trans wk.ok.t0 (hm'.le)) td3 (MT.mpr (AS (by omega) tl3))
  simp_all! [hL,hDt,hC,hV]
  refine ⟨p,L,_,rfl,wk.b,wk.ok,.inr (.inr (.inr (.inr ⟨m',rfl,hg,hm'.le,λJ3 o3 b3 ok3 mv3=>?_⟩)))⟩
  simp_all! [hL,hDt,hC,hV]
  have hD3:=mv3.keep _ _ wk.hD wk.nD
  refine ⟨D,gs,ep,L.t,_,rfl,hD3,gnd,by omega,st,gsz,.inr (.inr (.inr (.inr ⟨m',rfl,?_⟩)))⟩
  have w3:=wk.next b3 ok3 mv3 (wk.rl.go hm'.le) td3 tl3 (λc hc=>by have:=wk.wl c hc;omega) ep
  rw [Bg hD3] at w3
  exact fin _ _ _ ep used _ rfl w3 hun hus (by omega)
def Hu (cN cL T:Addr):cA:=λxs J Q _=>∃(p:Addr) (L0:Ln) (names:List Str) (cells:List Int) (m:Int),xs=[.ref p,.fl (names.map .str),.fl (cells.map .int),.int m]∧aY cN cL J p L0∧b_ L0∧L0.cs=[]∧L0.t=0∧J T=some .tab∧names.length≤40∧(∀n∈names,good n=true)∧cells.length≤40∧0≤m∧m < 4 ∧
 ∀J' L D U gs ep used,Wk cN cL J (L0.own p) J' p L D U gs ep used cells.length→L.cs.map Cf.n=used→(∀n∈used,n∈names)→used.length≤cells.length→Q (.tup [.ref D,fr L.t,.ref U]) J'
theorem Gz {cN cL T f:Addr} {fd:FuncData} (F:cb K "_law_walk" "_law_walk" Bs f fd) (Z:bQ mg) (dA:bz P w K mg base 1 "_law_digits" cq xH) (zQ:bz P w K mg base 3 "_law_deed" jC Bx) (zR:bz P w K mg base 9 "_law_done" jE (xI cN cL T)) (vI:bz P w K mg base 3 "_law_acted" ip qZ):aQ P w K mg base (cP P w) 10 f fd oq (dn K (Hu cN cL T)):=by
 simp_arith [h_,(ai (aE (i:=4) h_.nd w_)
   (ai (aE (i:=5) h_.nd (mV ah))
   (ai (aE (i:=6) h_.nd (cu (af ag (af ag ah))))
   (ai (eE b7 rfl (dQ (rv 2)) (bC (i:=7) h_.nd) (ai (aE (i:=8) h_.nd (aO dA B hr (af (rv 7) (af (k4 (w9 [.int 10,.int 97,.int 2000001,.int 2001,.int 400000,.int 60] rfl [.int 10,.int 97,.int 2000001,.int 2001,.int 400000,.int 60] rfl)) ah))))
   (ai (aE (i:=9) h_.nd (aO zQ B hr (af (rv 8) (af (rv 3) (af (rv 1) (af (rv 5) (af (rv 4) (af (rv 6) ah))))))))
   (ed (aX (aL (cT hr.aV) (au av (rv 9) ag) bR) (aq (bt (my PySem.F.plainAttrs_list PySem.F.slot_list_append PySem.F.type_list_append lO (rv 5) (af (au av (rv 9) ag) ah)))) aK)
   (ai (bt (aO zR B hr (af (rv 0) (af (rv 9) ah))))
   (aq (aE (i:=6) h_.nd (aO vI B hr (af (rv 4) (af (rv 6) (af (rv 9) ah)))))))))))
   (aq (aA (cu (af (rv 4) (af (rv 6) (af (rv 5) ah))))))))))]
 ·obtain ⟨p,L0,names,cells,m,rfl,_⟩:=h;rfl
 obtain ⟨p,L0,names,cells,m,rfl,b,ok,cs0,t0,hT,hnl,hng,hcl,m0,m1,q⟩:=h
 refine hX ?_
 simp_all! []
 intro D hD ep
 simp_all! []
 intro U hU
 have nDU:D≠U:=λe=>by subst e;rw [ar] at hU;cases hU
 have hU0:J U=none:=by rw [ak (λe=>nDU e.symm)] at hU;exact hU
 have w0:Wk cN cL J (L0.own p) (put (put J D (.dct [] ep)) U (.lst [])) p L0 D U [] ep [] 0:=by
  refine ⟨(b.fresh hD).fresh hU,ok,⟨by unfold Ln.fs Ln.Eu;rw [cs0];rfl,(by simp),(by simp),(by simp),(by rw [cs0];simp)⟩,by rw [ak nDU];exact ar,ar,λz=>b.some z hD,λz=>b.some z hU0,?_,by rw [t0];decide,by rw [t0];decide,by rw [cs0];simp⟩
  have hh:=(Mv.uo (S:=L0.own p) (o:=.dct [] ep) hD).trans (Mv.uo (o:=.lst []) hU)
  exact ⟨hh.keep,λa z=>hh.own a (z.elim (λz=>.inl (.inl z)) λz=>z.elim (λz=>.inl (.inr z)) .inr),hh.mono⟩
 generalize put (put J D (.dct [] ep)) U (.lst [])=J1 at w0 ⊢
 clear hU hU0
 simp_all! []
 obtain ⟨Inv,hInv⟩:∃Inv:Nat→Sr→Hq→Prop,∀i τ J',Inv i τ J'↔∃(L:Ln) (gs:List (Str × aW)) (ep:Nat) (used:List Str) (u7 u8 u9:Option PV),τ=[some (.ref p),some (.fl (names.map .str)),some (.fl (cells.map .int)),some (.int m),some (.ref D),some (.ref U),some (fr L.t),u7,u8,u9]∧Wk cN cL J (L0.own p) J' p L D U gs ep used i∧L.cs.map Cf.n=used∧(∀n∈used,n∈names)∧used.length≤i:=⟨_,λ_ _ _=>Iff.rfl⟩
 refine gw Inv ((hInv _ _ _).mpr ⟨L0,[],ep,[],_,_,_,by rw [t0];rfl,w0,by rw [cs0];rfl,(by simp),Ux _⟩) (λ_ _ _ _=>trivial) ?_ ?_
 ·intro i x τ J' hx hv
  obtain ⟨L,gs,ep,used,u7,u8,u9,rfl,wk,hun,hus,hul⟩:=(hInv _ _ _).mp hv
  clear hv
  have hi:i < cells.length:=by have:=(Uu.mp hx).1;simpa using this
  rw [Uz,Ut hi] at hx
  cases hx
  generalize cells[i]=c
  simp_all! []
  refine ⟨c,[10,97,2000001,2001,400000,60],rfl,lA (by decide),by decide,λds hG=>?_⟩
  obtain ⟨r0,ds,rfl,_,_,hG⟩:=hG.cons
  obtain ⟨r1,ds,rfl,r10,_,hG⟩:=hG.cons
  obtain ⟨r2,ds,rfl,r20,_,hG⟩:=hG.cons
  obtain ⟨r3,ds,rfl,r30,r31,hG⟩:=hG.cons
  obtain ⟨r4,ds,rfl,r40,r41,hG⟩:=hG.cons
  obtain ⟨r5,ds,rfl,r50,_,hG⟩:=hG.cons
  cases hG.nil
  obtain ⟨st,gnd,gl,gsz⟩:=wk.up
  simp_all! []
  refine ⟨r0,r1,r2,r3,r4,r5,m,names,used,U,D,gs,ep,L.t,rfl,wk.hU,wk.hD,hnl,by omega,r10,r20,r30,r31,r40,by omega,r50,m0,m1,st,λdv hdv=>?_⟩
  refine hNq _ _ ?_
  clear hNq Nq
  refine vH (iL:=0) (iU:=5) (iD:=4) (iC:=6) (iV:=9) rfl rfl rfl rfl rfl wk hun hus hul (by omega) hng hT (b.Gn hT) hdv λJ1 L1 gs1 ep1 used1 t1 e1 wk1 h1 h2 h3=>?_
  subst e1
  exact (hInv _ _ _).mpr ⟨L1,gs1,ep1,used1,_,_,_,rfl,wk1,h1,h2,h3⟩
 ·intro τ J' hv
  obtain ⟨L,gs,ep,used,u7,u8,u9,rfl,wk,hun,hus,hul⟩:=(hInv _ _ _).mp hv
  simp_all! []
  rw [Us] at wk hul
  exact q J' L D U gs ep used wk hun hus hul
def pX (ns:List Int) (k:Int):Int:=if k < (ns.length:Int) then ns.getD k.toNat 0 else 5 + 17 * k
def CK:cA:=λxs J Q _=>∃(ns:List Int) (k:Int),xs=[.fl (ns.map .int),.int k]∧0≤k∧k < 1000∧Q (.int (pX ns k)) J
theorem Gs {f:Addr} {fd:FuncData} (F:cb K "_law_cell" "_law_cell" Bk f fd) (Z:bQ mg):aQ P w K mg base (cP P w) 1 f fd oi (dn K CK):=by
 simp_arith [Kc,(ai (aX (aL gZ (rv 1) (aI bO rfl Z.len boot_len (af (rv 0) ah))) (aq (aA (au av (rv 0) (rv 1)))) aK)
   (aq (aA (aR cS ag (aR cF ag (rv 1))))))]
 ·obtain ⟨ns,k,rfl,_⟩:=h;rfl
 obtain ⟨ns,k,rfl,h0,h1,q⟩:=h
 unfold pX at q
 refine hX ?_
 simp_arith! [bZ,Us]
 split
 ·rename_i c
  rw [if_pos c] at q
  obtain ⟨j,rfl⟩:=Int.eq_ofNat_of_zero_le h0
  have hj:j < ns.length:=by omega
  refine fP (x:=.int ns[j]) (bq (by rw [Uz,Ut hj];rfl)) ?_
  simpa [Xb,hj] using q
 ·rename_i c
  rw [if_neg c] at q
  exact ⟨.of (.small (x:=17) (by decide) (by decide)) (.small (x:=k) (by omega) (by omega)),q⟩
def Oj:PV→Int
 | .int i=>i
 | _=>0
theorem Ft (ss:List Str):ko (ss.map .str) none (some (-1))=(ss.dropLast).map PV.str:=by
 unfold ko
 rw [HT.zi,V2,Nat.sub_zero,List.map_dropLast,V4]
 have e:HT.dZ (ss.map PV.str).length (ss.map PV.str).length (some (-1))=(ss.map PV.str).length - 1:=by
  show (if (-1:Int) < 0 then (-1 + ((ss.map PV.str).length:Int)).toNat else min (-1:Int).toNat (ss.map PV.str).length)=_
  rw [if_pos (by decide)];omega
 rw [e]
def Az:List Str:=["BadName","Taken","Full","NoCraft","TooFar","BadMoment","Past","NotThere","NoWatch","NoTale"]
theorem MD:∀i,i < 10→gX i≠"":=by decide +kernel
theorem IH (i:Nat) (hi:i < 10):Az.map (λx=>decide (x=gX i))=(Vb 10).map λj=>decide (i=j):=by
 have:∀i,i < 10→Az.map (λx=>decide (x=gX i))=(Vb 10).map λj=>decide (i=j):=by decide +kernel
 exact this i hi
def Dh (i:Nat):Str:=if i < 10 then gX i else ""
def o4 (i:Nat):List PV:=if i < 10 then mL i else []
theorem Fp (j:Nat):HS (.fl (o4 j)):=by
 unfold o4
 split
 ·exact ⟨by simp [mL,GW,lT,Bf,za (λk=>PV.bl (decide (j=k))) (λk=>Bf _)],by simp [mL,fR,fG,dep,dI,Vb,List.range.loop]⟩
 ·exact ⟨by simp [GW,sF],by simp [fR,fG,dep,dI]⟩
abbrev qV:Stmt:=(top 65)
abbrev mn:List Str:=["_law_due"]
theorem zm:L2.aw ["_law_due","_law_some"] ["_law_due"] (L2.aj qV):=dH
def RH:PV→Str
 | .str x=>x
 | _=>""
def zp:cA:=λxs J Q _=>∃i,xs=[.str (Dh i)]∧Q (.fl (o4 i)) J
theorem Ed {f:Addr} {fd:FuncData} (F:cb K "_law_flags" "_law_flags" qV f fd) (Z:bQ mg):aQ P w K mg base (cP P w) 1 f fd mn (dn K zp):=by
 simp_arith [zm,(ai (aE (i:=1) zm.nd (k4 (w9 [.str "BadName",.str "Taken",.str "Full",.str "NoCraft",.str "TooFar",.str "BadMoment",.str "Past",.str "NotThere",.str "NoWatch",.str "NoTale"] rfl [.str "BadName",.str "Taken",.str "Full",.str "NoCraft",.str "TooFar",.str "BadMoment",.str "Past",.str "NotThere",.str "NoWatch",.str "NoTale"] rfl)))
   (ai (aX (aL (cT hr.aV) (rv 0) bR) (aq (aA (k4 ah))) aK)
   (aq (aA (aR Jw (k4 (af dh ah)) (LF (L2.aj qV) ["_law_due","_law_some"] [("_law_due",0)] rfl rfl rfl (dQ (rv 1)) (λ_ _ _ _ _ _=>(eZ (cT hr.aV) (rv 0) (rv 1)))))))))]
 ·obtain ⟨i,rfl,_⟩:=h;rfl
 obtain ⟨i,rfl,q⟩:=h
 refine hX ?_
 simp_all! []
 by_cases hi:i < 10
 ·unfold Dh o4 at *
  rw [if_pos hi] at q ⊢
  rw [if_neg (MD i hi)]
  simp_all! [sG]
  refine ⟨λ_=>true,λx=>.bl (decide (RH x=gX i)),⟨by decide +kernel,λJ' _=>⟨trivial,λx hx=>⟨⟨rfl,rfl⟩,λ_=>?_⟩⟩⟩,?_⟩
  ·obtain ⟨y,hy,rfl⟩:∃y∈Az,x=.str y:=by
    simp only [UI,UT,or_false] at hx
    rcases hx with h | h | h | h | h | h | h | h | h | h <;> subst h <;> exact ⟨_,by decide +kernel,rfl⟩
   simp_arith! [bZ,RH]
   exact rfl
  ·have e:(([.str "BadName",.str "Taken",.str "Full",.str "NoCraft",.str "TooFar",.str "BadMoment",.str "Past",.str "NotThere",.str "NoWatch",.str "NoTale"]:List PV).filter λ_=>true).map (λx=>PV.bl (decide (RH x=gX i)))=(Vb 10).map λj=>PV.bl (decide (i=j)):=by
    have:=congrArg (VQ PV.bl) (IH i hi)
    rw [UC,UC] at this
    exact this
   simp_arith! [bZ,e]
   refine ⟨by rw [Us,V1];exact dJ (by decide),q⟩
 ·unfold Dh o4 at *
  rw [if_neg hi] at q ⊢
  rw [if_pos rfl]
  simp_all! []
  exact q
abbrev iz:Stmt:=(L2.inClass (top 44) 21)
abbrev kO:List Str:=["self","name"]
theorem sW:L2.aw ["self","name"] ["self","name"] (L2.aj iz):=dH
def zC (cN cL eC:Addr):cA:=λxs J Q E=>∃p L n,xs=[.ref p,.str n]∧aY cN cL J p L∧bc L∧(∀c∈L.cs,c.n=n→Q (.ref c.a) J)∧(n ∉ L.cs.map Cf.n→E eC J)
theorem sh {cN cL eC f:Addr} {fd:FuncData} (F:cb K "log_of" "Lane.log_of" iz f fd) (Z:bQ mg) (ay:dW K mg "Lane" cN) (aF:aH K cN "logs") (gf:Own K mg "NoCraft" eC):aQ P w K mg base (cP P w) 1 f fd kO (dn K (zC cN cL eC)):=by
 simp_arith [sW,(ai (aX (aL Jz (rv 1) (aT ay.cl aF (rv 0))) (aq (d6 gf rfl cK B.kn rfl (af bR ah))) aK)
   (aq (aA (au dC (aT ay.cl aF (rv 0)) (rv 1)))))]
 ·obtain ⟨p,L,n,rfl,_⟩:=h;rfl
 obtain ⟨p,L,n,rfl,b,ok,q,qe⟩:=h
 have bo:=b.ob
 have bd:=b.dc
 refine hX ?_
 simp_all! [bo,um,bd,ok.T7]
 by_cases c:n∈L.cs.map Cf.n
 ·rw [if_pos (by simpa using c)]
  obtain ⟨c0,hc,rfl⟩:=Uv.mp c
  simp_all! [bo,um,bd,ok.va hc]
  exact q c0 hc rfl
 ·rw [if_neg (by simpa using c)]
  simp_all! [fS]
  exact qe c
abbrev gJ:Stmt:=(L2.inClass (top 44) 16)
abbrev jZ:List Str:=["self","name"]
theorem qA:L2.aw ["self","name"] ["self","name"] (L2.aj gJ):=dH
def xM (cN cL eC:Addr):cA:=λxs J Q E=>∃p L n,xs=[.ref p,.str n]∧aY cN cL J p L∧bc L∧(∀c∈L.cs,c.n=n→Q (.fl (c.w.map aW.V)) J∨∀l,J l=none→Q (.ref l) (put J l (.lst (c.w.map aW.V))))∧(n ∉ L.cs.map Cf.n→E eC J)
theorem qw {cN cL eC f:Addr} {fd:FuncData} (F:cb K "history" "Lane.history" gJ f fd) (Z:bQ mg) (ay:dW K mg "Lane" cN) (ig:cI P w K mg base cN 1 "log_of" kO (zC cN cL eC)) (mS:cI P w K mg base cL 1 "legs" p9 (CP cL)):aQ P w K mg base (cP P w) 2 f fd jZ (dn K (xM cN cL eC)):=by
 simp_arith [qA,(aq (aA (cW (pl:=_) mS B hr (bK (pl:=_) ig B hr (rv 0) (af (rv 1) ah)))))]
 ·obtain ⟨p,L,n,rfl,_⟩:=h;rfl
 obtain ⟨p,L,n,rfl,b,ok,q,qe⟩:=h
 have bo:=b.ob
 refine hX ?_
 simp_all! [bo]
 refine ⟨fo _ _ _ _,p,L,n,rfl,b,ok,λc hc e=>?_,qe⟩
 have lo:=(b.lg c hc).o
 simp_all! [lo]
 exact ⟨Sb _ _,c.a,c.r,c.w,c.g,rfl,b.lg c hc,q c hc e⟩
abbrev pG:Stmt:=(top 54)
abbrev j0:List Str:=["_law_found","_law_due"]
theorem ni:L2.aw ["_law_found","_law_due","_law_k","_law_row"] ["_law_found","_law_due"] (L2.aj pG):=dH
def vt:cA:=λxs J Q _=>∃(rows:List aW) (x:PV),xs=[x,.fl (rows.map aW.V)]∧kF J x=some (rows.map aW.V)∧rows.length≤900∧Q (.bl true) J
theorem yR {f:Addr} {fd:FuncData} (F:cb K "_law_legrows" "_law_legrows" pG f fd) (Z:bQ mg) (qC:bz P w K mg base 1 "_law_whole" iu jb) (oQ:bz P w K mg base 2 "_law_part" f6 jT):aQ P w K mg base (cP P w) 3 f fd j0 (dn K vt):=by
 simp_arith [ni,(ai (aX (di (fY (bS (bA (aI gr rfl Z.isinstance boot_isinstance (af (rv 0) (af (k7 rfl Z.list boot_list) ah))))) (fe (aL (g6 hr.aV) (aI bO rfl Z.len boot_len (af (rv 0) ah)) (aI bO rfl Z.len boot_len (af (rv 1) ah)))))) (aq (aA dh)) aK)
   (ai (eE b7 rfl (gi rfl Z.range (af (aI bO rfl Z.len boot_len (af (rv 1) ah)) ah)) (bC (i:=2) ni.nd) (ai (aE (i:=3) ni.nd (au av (rv 0) (rv 2)))
   (ai (aX (di (fY (bS (bA (aI gr rfl Z.isinstance boot_isinstance (af (rv 3) (af (k7 rfl Z.tuple boot_tuple) ah))))) (fY (aL (g6 hr.aV) (aI bO rfl Z.len boot_len (af (rv 3) ah)) ag) (fe (bS (bA (aO qC B hr (af (au av (rv 3) ag) ah)))))))) (aq (aA dh)) aK)
   (aq (aX (di (fY (bS (bA (aO oQ B hr (af (au av (rv 3) ag) (af (au av (au av (rv 1) (rv 2)) ag) ah))))) (fY (bS (bA (aO oQ B hr (af (au av (rv 3) ag) (af (au av (au av (rv 1) (rv 2)) ag) ah))))) (fe (aL (g6 hr.aV) (rv 3) (au av (rv 1) (rv 2))))))) (aq (aA dh)) aK)))))
   (aq (aA dh))))]
 ·obtain ⟨rows,x,rfl,_⟩:=h;rfl
 obtain ⟨rows,x,rfl,hx,hl,q⟩:=h
 refine hX ?_
 simp_all! [Us,K7 hx,AL hx]
 refine ⟨by omega,by omega,qH (λi τ J'=>∃u u':Option PV,τ=[some x,some (.fl (rows.map aW.V)),u,u']∧J'=J) ⟨none,none,rfl,rfl⟩ ?_ ?_⟩
 ·rintro i τ J' hi ⟨u,u',rfl,rfl⟩
  have hi:i < rows.length:=by omega
  have ha:dk (rows.map aW.V) (0 + (i:Int))=some (rows[i].V):=by rw [Int.zero_add];exact Tu (Ut hi)
  simp_all! [Ce hx,ha,jb,jT,QX,K2,ve,F1,kC,OQ,GX,MC]
  rw [if_pos (show ((3:Nat):Int)=3 from rfl)]
  refine hNq _ _ ?_
  clear hNq Nq
  simp_all! [Ce hx,ha,jb,jT,QX,K2,ve,F1,kC,OQ,GX,MC]
 ·rintro τ J' ⟨u,u',rfl,rfl⟩
  refine hNq _ _ ?_
  simp_all! []
  exact q
def Ln.j3 (L:Ln) (n:Str):List aW:=((L.cs.find? λc=>decide (c.n=n)).map Cf.w).getD []
theorem bc.j3 {L:Ln} (ok:bc L) {c:Cf} (hc:c∈L.cs):L.j3 c.n=c.w:=by
 unfold Ln.j3
 cases h:L.cs.find? λd=>decide (d.n=c.n) with
 | none=>have:=WD.mp h c hc;simp at this
 | some d =>
  have h1:=Wc h
  have h2:d.n=c.n:=by simpa using WT h
  rw [ok.uniq h1 hc h2];rfl
abbrev Bo:Stmt:=(top 69)
abbrev oj:List Str:=["_law_lane","_law_state","_law_names_here","_law_cells","_law_mode"]
theorem hE:L2.aw ["_law_lane","_law_state","_law_names_here","_law_cells","_law_mode","_law_legs","_law_clock","_law_used","_law_cell_here","_law_row","_law_deed_here"] ["_law_lane","_law_state","_law_names_here","_law_cells","_law_mode"] (L2.aj Bo):=dH
theorem IZ {J:Hq} {D:Addr} {o:HQ} {x:PV} {ys:List PV} (h:kF J x=some ys) (hD:J D=none):kF (put J D o) x=some ys:=by
 rcases kG h with rfl | ⟨a,rfl,ha⟩
 ·rfl
 ·rw [Gg,ak (λz=>by subst z;rw [hD] at ha;cases ha),ha]
def Hs (cN cL T:Addr):cA:=λxs J Q _=>∃(p:Addr) (L0:Ln) (D0:Addr) (xU:PV) (gs0:List (Str × aW)) (ep0:Nat) (used0 names:List Str) (cells:List Int) (m:Int) (k0:Nat),xs=[.ref p,.tup [.ref D0,fr L0.t,xU],.fl (names.map .str),.fl (cells.map .int),.int m]∧aY cN cL J p L0∧b_ L0∧Rl L0 gs0∧J D0=some (.dct (bY gs0) ep0)∧kF J xU=some (used0.map .str) ∧
 L0.cs.map Cf.n=used0∧(∀n∈used0,n∈names)∧used0.length≤k0∧L0.t.den≤60∧L0.t≤((500 * k0:Nat):Rat)∧(∀c∈L0.cs,c.w.length≤1 + k0)∧J T=some .tab∧names.length≤40∧(∀n∈names,good n=true)∧k0 + cells.length≤80∧0≤m∧m < 4 ∧
 ∀J' L D U gs ep used,Wk cN cL J (L0.own p) J' p L D U gs ep used (k0 + cells.length)→L.cs.map Cf.n=used→(∀n∈used,n∈names)→used.length≤k0 + cells.length→Q (.tup [.ref D,fr L.t,.ref U]) J'
theorem Gw {cN cL T f:Addr} {fd:FuncData} (F:cb K "_law_more" "_law_more" Bo f fd) (Z:bQ mg) (dA:bz P w K mg base 1 "_law_digits" cq xH) (zQ:bz P w K mg base 3 "_law_deed" jC Bx) (zR:bz P w K mg base 9 "_law_done" jE (xI cN cL T)) (vI:bz P w K mg base 3 "_law_acted" ip qZ):aQ P w K mg base (cP P w) 10 f fd oj (dn K (Hs cN cL T)):=by
 simp_arith [hE,(ai (aE (i:=5) hE.nd (dP Fq rfl Z.dict boot_dict (af (au av (rv 1) ag) ah)))
   (ai (aE (i:=6) hE.nd (au av (rv 1) ag))
   (ai (aE (i:=7) hE.nd (dP iN rfl Z.list boot_list (af (au av (rv 1) ag) ah)))
   (ai (eE b7 rfl (dQ (rv 3)) (bC (i:=8) hE.nd) (ai (aE (i:=9) hE.nd (aO dA B hr (af (rv 8) (af (k4 (w9 [.int 10,.int 97,.int 2000001,.int 2001,.int 400000,.int 60] rfl [.int 10,.int 97,.int 2000001,.int 2001,.int 400000,.int 60] rfl)) ah))))
   (ai (aE (i:=10) hE.nd (aO zQ B hr (af (rv 9) (af (rv 4) (af (rv 2) (af (rv 7) (af (rv 5) (af (rv 6) ah))))))))
   (ed (aX (aL (cT hr.aV) (au av (rv 10) ag) bR) (aq (bt (my PySem.F.plainAttrs_list PySem.F.slot_list_append PySem.F.type_list_append lO (rv 7) (af (au av (rv 10) ag) ah)))) aK)
   (ai (bt (aO zR B hr (af (rv 0) (af (rv 10) ah))))
   (aq (aE (i:=6) hE.nd (aO vI B hr (af (rv 5) (af (rv 6) (af (rv 10) ah)))))))))))
   (aq (aA (cu (af (rv 5) (af (rv 6) (af (rv 7) ah))))))))))]
 ·obtain ⟨p,L0,D0,xU,gs0,ep0,used0,names,cells,m,k0,rfl,_⟩:=h;rfl
 obtain ⟨p,L0,D0,xU,gs0,ep0,used0,names,cells,m,k0,rfl,b,ok,rl0,hD0,hU0,hun0,hus0,hul0,td0,tl0,wl0,hT,hnl,hng,hcl,m0,m1,q⟩:=h
 refine hX ?_
 simp_all! [G1,hD0]
 intro D hD ep
 refine hNq _ _ ?_
 clear hNq Nq
 simp_all! []
 have hU1:=IZ (o:=.dct (bY gs0) ep) hU0 hD
 simp only [hU1]
 refine fP rfl λU hU=>?_
 have nDU:D≠U:=λe=>by subst e;rw [ar] at hU;cases hU
 have hUn:J U=none:=by rw [ak (λe=>nDU e.symm)] at hU;exact hU
 have w0:Wk cN cL J (L0.own p) (put (put J D (.dct (bY gs0) ep)) U (.lst (used0.map .str))) p L0 D U gs0 ep used0 k0:=by
  refine ⟨(b.fresh hD).fresh hU,ok,rl0,by rw [ak nDU];exact ar,ar,λz=>b.some z hD,λz=>b.some z hUn,?_,td0,tl0,wl0⟩
  have hh:=(Mv.uo (S:=L0.own p) (o:=.dct (bY gs0) ep) hD).trans (Mv.uo (o:=.lst (used0.map .str)) hU)
  exact ⟨hh.keep,λa z=>hh.own a (z.elim (λz=>.inl (.inl z)) λz=>z.elim (λz=>.inl (.inr z)) .inr),hh.mono⟩
 generalize put (put J D (.dct (bY gs0) ep)) U (.lst (used0.map .str))=J1 at w0 ⊢
 clear hU hUn hU1
 refine hNq _ _ ?_
 clear hNq Nq
 simp_all! []
 obtain ⟨Inv,hInv⟩:∃Inv:Nat→Sr→Hq→Prop,∀i τ J',Inv i τ J'↔∃(L:Ln) (gs:List (Str × aW)) (ep:Nat) (used:List Str) (u7 u8 u9:Option PV),τ=[some (.ref p),some (.tup [.ref D0,fr L0.t,xU]),some (.fl (names.map .str)),some (.fl (cells.map .int)),some (.int m),some (.ref D),some (fr L.t),some (.ref U),u7,u8,u9]∧Wk cN cL J (L0.own p) J' p L D U gs ep used (k0 + i)∧L.cs.map Cf.n=used∧(∀n∈used,n∈names)∧used.length≤k0 + i:=⟨_,λ_ _ _=>Iff.rfl⟩
 refine gw Inv ((hInv _ _ _).mpr ⟨L0,gs0,ep,used0,_,_,_,rfl,w0,hun0,hus0,hul0⟩) (λ_ _ _ _=>trivial) ?_ ?_
 ·intro i x τ J' hx hv
  obtain ⟨L,gs,ep,used,u7,u8,u9,rfl,wk,hun,hus,hul⟩:=(hInv _ _ _).mp hv
  clear hv
  have hi:i < cells.length:=by have:=(Uu.mp hx).1;simpa using this
  rw [Uz,Ut hi] at hx
  cases hx
  generalize cells[i]=c
  simp_all! []
  refine ⟨c,[10,97,2000001,2001,400000,60],rfl,lA (by decide),by decide,λds hG=>?_⟩
  obtain ⟨r0,ds,rfl,_,_,hG⟩:=hG.cons
  obtain ⟨r1,ds,rfl,r10,_,hG⟩:=hG.cons
  obtain ⟨r2,ds,rfl,r20,_,hG⟩:=hG.cons
  obtain ⟨r3,ds,rfl,r30,r31,hG⟩:=hG.cons
  obtain ⟨r4,ds,rfl,r40,r41,hG⟩:=hG.cons
  obtain ⟨r5,ds,rfl,r50,_,hG⟩:=hG.cons
  cases hG.nil
  obtain ⟨st,gnd,gl,gsz⟩:=wk.up
  simp_all! []
  refine ⟨r0,r1,r2,r3,r4,r5,m,names,used,U,D,gs,ep,L.t,rfl,wk.hU,wk.hD,hnl,by omega,r10,r20,r30,r31,r40,by omega,r50,m0,m1,st,λdv hdv=>?_⟩
  refine hNq _ _ ?_
  clear hNq Nq
  refine vH (iL:=0) (iU:=7) (iD:=5) (iC:=6) (iV:=10) rfl rfl rfl rfl rfl wk hun hus hul (by omega) hng hT (b.Gn hT) hdv λJ1 L1 gs1 ep1 used1 t1 e1 wk1 h1 h2 h3=>?_
  subst e1
  exact (hInv _ _ _).mpr ⟨L1,gs1,ep1,used1,_,_,_,rfl,wk1,h1,h2,h3⟩
 ·intro τ J' hv
  obtain ⟨L,gs,ep,used,u7,u8,u9,rfl,wk,hun,hus,hul⟩:=(hInv _ _ _).mp hv
  simp_all! []
  rw [Us] at wk hul
  exact q J' L D U gs ep used wk hun hus hul
abbrev Br:Stmt:=(top 70)
abbrev om:List Str:=["_law_lane","_law_name"]
theorem qY:L2.aw ["_law_lane","_law_name","_law_said_here","e"] ["_law_lane","_law_name"] (L2.aj Br):=dH
def C1 (cN cL T:Addr):cA:=λxs J Q _=>∃(p:Addr) (L:Ln) (n:Str),xs=[.ref p,.str n]∧aY cN cL J p L∧b_ L∧J T=some .tab∧good n=true∧n∈L.cs.map Cf.n∧L.cs.length < 100∧Q (.fl (o4 1)) J
theorem Gy {cN cL T f W:Addr} {c:Nat→Addr} {fd:FuncData} (F:cb K "_law_said" "_law_said" Br f fd) (Z:bQ mg) (Er:Dw K mg W c) (eK:cI P w K mg base cN 8 "join" jA (xO cN cL T (c 0) (c 4) (c 1) (c 2))):aQ P w K mg base (cP P w) 9 f fd om (dn K (C1 cN cL T)):=by
 simp_arith [qY]
 ·obtain ⟨p,L,n,rfl,_⟩:=h;rfl
 obtain ⟨p,L,n,rfl,b,ok,hT,hg,hn,hl,q⟩:=h
 refine ⟨_,(ai (aE (i:=2) qY.nd (k4 ah))
   (ai (NO (i:=3) (n:=2) Er rfl Er.mW qY.nd rfl (by decide) rfl (λ_ _ _ _ _ hx=>(aq (bt (bK (pl:=_) eK hx hr (rv 0) (af (rv 1) (af ag (af ag ah)))))))
   (λ_ _=>(bN (cV (i:=2) qY.nd rfl (Or.inl rfl) (jy (az (bL (cR (K:=K) rfl) rfl Z.isinstance boot_isinstance (az (pv 3) (az (qP (v:=.ty "ValueError") rfl Er.nV PyProof.Rows.Boot.«ValueError» rfl) bj))) (az (bL (cR (K:=K) rfl) rfl Z.isinstance boot_isinstance (az (pv 3) (az (du (v:=.ref (c 0)) rfl (Er.own 0 (by decide)).mg rfl) bj))) (az (bL (cR (K:=K) rfl) rfl Z.isinstance boot_isinstance (az (pv 3) (az (du (v:=.ref (c 1)) rfl (Er.own 1 (by decide)).mg rfl) bj))) (az (bL (cR (K:=K) rfl) rfl Z.isinstance boot_isinstance (az (pv 3) (az (du (v:=.ref (c 2)) rfl (Er.own 2 (by decide)).mg rfl) bj))) (az (bL (cR (K:=K) rfl) rfl Z.isinstance boot_isinstance (az (pv 3) (az (du (v:=.ref (c 3)) rfl (Er.own 3 (by decide)).mg rfl) bj))) (az (bL (cR (K:=K) rfl) rfl Z.isinstance boot_isinstance (az (pv 3) (az (du (v:=.ref (c 4)) rfl (Er.own 4 (by decide)).mg rfl) bj))) (az (bL (cR (K:=K) rfl) rfl Z.isinstance boot_isinstance (az (pv 3) (az (du (v:=.ref (c 5)) rfl (Er.own 5 (by decide)).mg rfl) bj))) (az (bL (cR (K:=K) rfl) rfl Z.isinstance boot_isinstance (az (pv 3) (az (du (v:=.ref (c 6)) rfl (Er.own 6 (by decide)).mg rfl) bj))) (az (bL (cR (K:=K) rfl) rfl Z.isinstance boot_isinstance (az (pv 3) (az (du (v:=.ref (c 7)) rfl (Er.own 7 (by decide)).mg rfl) bj))) (az (bL (cR (K:=K) rfl) rfl Z.isinstance boot_isinstance (az (pv 3) (az (du (v:=.ref (c 8)) rfl (Er.own 8 (by decide)).mg rfl) bj))) (az (bL (cR (K:=K) rfl) rfl Z.isinstance boot_isinstance (az (pv 3) (az (du (v:=.ref (c 9)) rfl (Er.own 9 (by decide)).mg rfl) bj))) bj))))))))))))))) (λj hj σ H ea D h1 h2 q=>Hy Er hj h1 h2 q))
   (aq (aA (rv 2))))),?_⟩
 have bo:=b.ob
 have h0:MI 0 0:=⟨by decide,by decide⟩
 simp_all! [bo]
 refine ⟨fo _ _ _ _,p,L,n,0,0,rfl,b,ok,hT,B6 hg,hl,(λz=>by rw [hg] at z;cases z),(λ_ z=>absurd h0 z),(λ_ _ _=>⟨1,by decide,rfl,hNq _ _ q⟩),(λ_ _ z=>absurd hn z),λ_ _ z=>absurd hn z⟩
abbrev ly:Stmt:=(top 71)
abbrev g7:List Str:=["_law_lane","_law_used"]
theorem oE:L2.aw ["_law_lane","_law_used","_law_name"] ["_law_lane","_law_used"] (L2.aj ly):=dH
def s_ (cN cL T:Addr):cA:=λxs J Q _=>∃(p U:Addr) (L:Ln),xs=[.ref p,.ref U]∧aY cN cL J p L∧b_ L∧J T=some .tab∧J U=some (.lst ((L.cs.map Cf.n).map .str))∧(∀n∈L.cs.map Cf.n,good n=true)∧L.cs.length < 100∧Q (.bl true) J
theorem uD {cN cL T f:Addr} {fd:FuncData} (F:cb K "_law_all_given" "_law_all_given" ly f fd) (Z:bQ mg) (LV:bz P w K mg base 9 "_law_said" om (C1 cN cL T)) (HY:bz P w K mg base 1 "_law_flags" mn zp):aQ P w K mg base (cP P w) 10 f fd g7 (dn K (s_ cN cL T)):=by
 simp_arith [oE,(ai (eE b7 rfl (dQ (rv 1)) (bC (i:=2) oE.nd) (aq (aX (aL (g6 hr.aV) (aO LV B hr (af (rv 0) (af (rv 2) ah))) (aO HY B hr (af bR ah))) (aq (aA dh)) aK)))
   (aq (aA dh)))]
 ·obtain ⟨p,U,L,rfl,_⟩:=h;rfl
 obtain ⟨p,U,L,rfl,b,ok,hT,hU,hg,hl,q⟩:=h
 refine hX ?_
 simp_all! [hU]
 obtain ⟨Inv,hInv⟩:∃Inv:Nat→Sr→Hq→Prop,∀i τ J',Inv i τ J'↔∃(u:Option PV),τ=[some (.ref p),some (.ref U),u]∧J'=J:=⟨_,λ_ _ _=>Iff.rfl⟩
 refine gw Inv ((hInv _ _ _).mpr ⟨_,rfl,rfl⟩) (λi τ J' hv=>?_) ?_ ?_
 ·obtain ⟨u,rfl,rfl⟩:=(hInv _ _ _).mp hv;exact hU
 ·intro i x τ J' hx hv
  obtain ⟨u,rfl,rfl⟩:=(hInv _ _ _).mp hv
  obtain ⟨n,hn,rfl⟩:=Uv.mp (Uw hx)
  have w1:Dh 1=("Taken":Str):=by decide +kernel
  simp_all! []
  refine ⟨p,L,n,rfl,b,ok,hT,hg n hn,hn,hl,⟨1,by rw [w1],?_⟩⟩
  have cf:=Fp 1
  simp_all! [cf,cf.1,eq_self]
  exact (hInv _ _ _).mpr ⟨_,rfl,rfl⟩
 ·intro τ J' hv
  obtain ⟨u,rfl,rfl⟩:=(hInv _ _ _).mp hv
  refine hNq _ _ ?_
  simp_all! []
  exact q
theorem Mv.fresh {J J':Hq} {S S':Addr→Prop} (mv:Mv J J' S S') {x:Addr} {o:HQ} (hx:J x=some o) (nx:¬ S x):¬ S' x:=λz=>by
 rcases mv.own _ z with q | q
 ·exact nx q
 ·rw [hx] at q;cases q
theorem rK (cs:List Int) (lo hi:Option Int):∃cs':List Int,ko (cs.map .int) lo hi=cs'.map .int∧cs'.length≤cs.length:=by
 refine ⟨(cs.drop (HT.dZ cs.length 0 lo)).take (HT.dZ cs.length cs.length hi - HT.dZ cs.length 0 lo),?_,?_⟩
 ·unfold ko;rw [Us,Vw,VX]
 ·rw [UR,Vu];omega
theorem aY.off {cN cL:Addr} {J J':Hq} {p:Addr} {L:Ln} {S S':Addr→Prop} (h:aY cN cL J p L) (mv:Mv J J' S S') (n:∀a,L.own p a→¬ S a):aY cN cL J' p L:=h.keep λa o ow e=>mv.keep a o e (n a ow)
theorem aY.sub {cN cL:Addr} {J J':Hq} {p:Addr} {L:Ln} (h:aY cN cL J p L) (s:Sub J J'):aY cN cL J' p L:=h.keep λa o _ e=>s a o e
theorem Rl.alike {L L':Ln} {gs:List (Str × aW)} (h:Rl L gs) (al:L.alike L'):Rl L' gs:=⟨by rw [al.fs];exact h.nm,λn l l' a b=>h.ln n l l' a (by rw [al.fs] at b;exact b),h.ck,λx hx=>by rw [al.t];exact h.le x hx,λc hc=>by obtain ⟨c0,h0,_,e,_⟩:=al.ex hc;rw [← e];exact h.ct c0 h0⟩
abbrev sQ:Stmt:=(top 72)
abbrev Ny:List Str:=["_law_script"]
theorem dm:L2.aw ["_law_script","_law_head","_law_names_here","_law_lane","_law_cells","_law_legs","_law_clock","_law_used","_law_state","_law_row","_law_other","_law_third","_law_told","_law_more_here","_law_ones","_law_k","_law_thirds","_law_others"] ["_law_script"] (L2.aj sQ):=dH
theorem Jq {cN cL T eC f:Addr} {fd:FuncData} (F:cb K "law" "law" sQ f fd) (Z:bQ mg) (rp:bz P w K mg base 1 "_law_cell" oi CK) (dA:bz P w K mg base 1 "_law_digits" cq xH) (vJ:bz P w K mg base 2 "_law_names" fA zE) (LW:bz P w K mg base 10 "_law_walk" oq (Hu cN cL T)) (mE:vT P w K mg base cN 1 "Lane" fv (xN cN cL)) (kI:cI P w K mg base cN 4 "twin" oa (CZ cN cL)) (ka:bz P w K mg base 8 "_law_stands" kR (zG cN cL)) (eQ:cI P w K mg base cN 2 "history" jZ (xM cN cL eC)) (zT:bz P w K mg base 10 "_law_more" oj (Hs cN cL T)) (Dk:bz P w K mg base 3 "_law_legrows" j0 vt) (pV:bz P w K mg base 10 "_law_all_given" g7 (s_ cN cL T)) :
  aQ P w K mg base (cP P w) 11 f fd Ny (dn K (By [T])):=by
 simp_arith [dm,(ai (aE (i:=1) dm.nd (aO dA B hr (af (aO rp B hr (af (rv 0) (af ag ah))) (af (k4 (af ag (af ag (af ag ah)))) ah))))
   (ai (aE (i:=2) dm.nd (aO vJ B hr (af (aO rp B hr (af (rv 0) (af ag ah))) (af (aR cS ag (au av (rv 1) ag)) ah))))
   (ai (aE (i:=3) dm.nd (k6 mE B hr))
   (ai (He (i:=4) (L2.aj sQ) ["_law_script","_law_head","_law_names_here","_law_lane","_law_cells","_law_legs","_law_clock","_law_used","_law_state","_law_row","_law_other","_law_third","_law_told","_law_more_here","_law_ones","_law_k","_law_thirds","_law_others"] [("_law_script",0)] rfl rfl rfl dm.nd rfl (Or.inl rfl) (gi rfl Z.range (af (au av (rv 1) ag) ah)) (λ_ _ _ _ _ _=>(aO rp Fx hr (af (rv 1) (af (aR cS ag (rv 0)) ah)))))
   (ai (sL (aO LW B hr (af (rv 3) (af (e8 vA (rv 2) jI (e_ (vm pU ag))) (af (rv 4) (af (au av (rv 1) ag) ah))))) (pE (n:=3) rfl (cx (bC (i:=5) dm.nd) (cx (bC (i:=6) dm.nd) (cx (bC (i:=7) dm.nd) lU)))))
   (ai (aE (i:=8) dm.nd (cu (af (rv 5) (af (rv 6) (af (rv 7) ah)))))
   (ai (aE (i:=9) dm.nd (aO dA B hr (af (aO rp B hr (af (rv 0) (af ag ah))) (af (k4 (af ag (af ag (af ag ah)))) ah))))
   (ai (aE (i:=10) dm.nd (cW (pl:=_) kI B hr (rv 3)))
   (ai (aE (i:=11) dm.nd (k6 mE B hr))
   (ai (aX (bS (bA (aO ka B hr (af (rv 10) (af (rv 5) (af (rv 6) ah)))))) (aq (aA dh)) aK)
   (ai (He (i:=12) (L2.aj sQ) ["_law_script","_law_head","_law_names_here","_law_lane","_law_cells","_law_legs","_law_clock","_law_used","_law_state","_law_row","_law_other","_law_third","_law_told","_law_more_here","_law_ones","_law_k","_law_thirds","_law_others"] [("_law_lane",3)] rfl rfl rfl dm.nd rfl (Or.inl rfl) (dQ (rv 7)) (λ_ _ _ _ _ _=>(bK (pl:=_) eQ Fx hr (rv 1) (af (rv 0) ah))))
   (ai (He (i:=13) (L2.aj sQ) ["_law_script","_law_head","_law_names_here","_law_lane","_law_cells","_law_legs","_law_clock","_law_used","_law_state","_law_row","_law_other","_law_third","_law_told","_law_more_here","_law_ones","_law_k","_law_thirds","_law_others"] [("_law_script",0)] rfl rfl rfl dm.nd rfl (Or.inl rfl) (gi rfl Z.range (af ag ah)) (λ_ _ _ _ _ _=>(aO rp Fx hr (af (rv 1) (af (aR cS ag (rv 0)) ah)))))
   (ai (aE (i:=14) dm.nd (aO zT B hr (af (rv 3) (af (rv 8) (af (rv 2) (af (e8 vA (rv 13) jI (e_ (au av (rv 9) ag))) (af (au av (rv 1) ag) ah)))))))
   (ai (eE b7 rfl (gi rfl Z.range (af (aI bO rfl Z.len boot_len (af (rv 7) ah)) ah)) (bC (i:=15) dm.nd) (aq (aX (bS (bA (aO Dk B hr (af (bK (pl:=_) eQ B hr (rv 10) (af (au av (rv 7) (rv 15)) ah)) (af (au av (rv 12) (rv 15)) ah))))) (aq (aA dh)) aK)))
   (ai (aX (bS (bA (aO ka B hr (af (rv 10) (af (rv 5) (af (rv 6) ah)))))) (aq (aA dh)) aK)
   (ai (aE (i:=16) dm.nd (aO zT B hr (af (rv 11) (af (cu (af w_ (af (cu (af ag (af ag ah))) (af (k4 ah) ah)))) (af (rv 2) (af (e8 vA (rv 13) (e_ ag) (e_ (aR cS ag (au av (rv 9) ag)))) (af (au av (rv 1) ag) ah)))))))
   (ai (aE (i:=17) dm.nd (aO zT B hr (af (rv 10) (af (rv 8) (af (rv 2) (af (e8 vA (rv 13) (e_ ag) (e_ (aR cS ag (au av (rv 9) ag)))) (af (au av (rv 1) ag) ah)))))))
   (ai (aX (di (fY (bS (bA (aO ka B hr (af (rv 3) (af (au av (rv 14) ag) (af (au av (rv 14) ag) ah)))))) (fe (bS (bA (aO ka B hr (af (rv 10) (af (au av (rv 17) ag) (af (au av (rv 17) ag) ah))))))))) (aq (aA dh)) aK)
   (ai (aX (di (fY (bS (bA (aO pV B hr (af (rv 3) (af (au av (rv 14) ag) ah))))) (fe (bS (bA (aO pV B hr (af (rv 10) (af (au av (rv 17) ag) ah)))))))) (aq (aA dh)) aK)
   (aq (aA (aO ka B hr (af (rv 11) (af (au av (rv 16) ag) (af (au av (rv 16) ag) ah)))))))))))))))))))))))))]
 ·obtain ⟨ns,rfl,_⟩:=h;rfl
 obtain ⟨ns,rfl,hl,hT,hJ,q⟩:=h
 have hT:J T=some .tab:=hT T (by simp)
 refine hX ?_
 simp_all! []
 refine ⟨ns,0,rfl,by decide,by decide,_,[21,7,4],rfl,lA (by decide),by decide,λds hD=>?_⟩
 obtain ⟨d0,ds,rfl,d00,d01,hD⟩:=hD.cons
 obtain ⟨d1,ds,rfl,d10,d11,hD⟩:=hD.cons
 obtain ⟨d2,ds,rfl,d20,d21,hD⟩:=hD.cons
 cases hD.nil
 simp_all! []
 refine ⟨ns,1,rfl,by decide,by decide,_,3 + d1,rfl,by omega,by omega,λnames nl nd ng=>?_⟩
 simp_all! []
 intro p hp
 refine ⟨p,rfl,ar,λJ1 d e o b mv=>?_⟩
 have mvJ:Mv J J1 (λ_=>False) (Ln.own ⟨0,d,e,o,[],[]⟩ p):=by
  refine (Mv.uo (S:=λ_=>False) hp).trans ⟨λa u h n=>mv.keep a u h λz=>n (.inr z),λa z=>(mv.own a z).imp .inr id,mv.mono⟩
 have okN:∀d e o,b_ ⟨0,d,e,o,[],[]⟩:=λd e o=>⟨⟨Wz,(by simp),(by simp),(by simp),(by simp),(by simp),Rat.le_refl,Up _,(by show 0≤100;decide),(by intro n;simp [Ln.fs,Ln.Eu]),Wz,(by show 0≤12;decide)⟩,rfl⟩
 have hT1:J1 T=some .tab:=mvJ.keep _ _ hT λz=>z
 simp_all! [sG]
 refine ⟨by omega,by omega,λ_=>true,λx=>.int (pX ns (8 + Oj x)),⟨by rw [fE];exact bp (by omega),λJ' _=>⟨trivial,λx hx=>⟨⟨rfl,rfl⟩,λ_=>?_⟩⟩⟩,?_⟩
 ·obtain ⟨i,hi⟩:=UN.mp hx
  obtain ⟨i1,rfl⟩:=(nW _ _ _ _).mp hi
  simp_all! []
  exact ⟨ns,_,rfl,by omega,by omega,rfl,rfl⟩
 obtain ⟨cs,hcs,hcl⟩:∃cs:List Int,((o6 0 d0.toNat).filter λ_=>true).map (λx=>PV.int (pX ns (8 + Oj x)))=cs.map .int∧cs.length≤21:=⟨((o6 0 d0.toNat).filter λ_=>true).map (λx=>pX ns (8 + Oj x)),by rw [UC];rfl,by
  rw [Us]
  exact UM (Vj _ _) (by rw [fE];omega)⟩
 rw [hcs]
 simp_all! [Ft]
 have hnl:names.dropLast.length≤40:=by rw [Ww];omega
 refine ⟨p,_,names.dropLast,cs,d2,rfl,b,okN _ _ _,rfl,rfl,hT1,hnl,(λn hn=>ng n (Wy _ hn)),by omega,d20,d21,λJ2 L D U gs ep used wk hun hus hul=>?_⟩
 have hT2:J2 T=some .tab:=wk.kept hT1 (b.Gn hT1)
 have hus:∀n∈used,n∈names:=λn hn=>Wy _ (hus n hn)
 obtain ⟨st,gnd,gl,gsz⟩:=wk.up
 clear mvJ mv hcs b hT1
 simp_all! []
 refine ⟨ns,2,rfl,by decide,by decide,_,[9,9,9],rfl,lA (by decide),by decide,λds hQ=>?_⟩
 obtain ⟨e0,ds,rfl,e00,e01,hQ⟩:=hQ.cons
 obtain ⟨e1,ds,rfl,e10,e11,hQ⟩:=hQ.cons
 obtain ⟨e2,ds,rfl,e20,e21,hQ⟩:=hQ.cons
 cases hQ.nil
 have bo:=wk.b.ob
 simp_all! [bo]
 refine ⟨fo _ _ _ _,p,L,rfl,wk.b,wk.ok,λJ3 p2 L2 s3 b2 ok2 al own2=>?_⟩
 refine hNq _ _ ?_
 clear hNq Nq
 simp_all! []
 intro p3 hp3
 refine ⟨p3,rfl,ar,λJ4 d3 e3 o3 b3 mv3=>?_⟩
 have s4:Sub J3 J4:=λa u e=>mv3.keep a u (by rw [ak (λz=>by subst z;rw [hp3] at e;cases e)];exact e) (λz=>by subst z;rw [hp3] at e;cases e)
 have own3:∀a,Ln.own ⟨0,d3,e3,o3,[],[]⟩ p3 a→J3 a=none:=λa z=>by
  rcases mv3.own a z with z | z
  ·rw [z];exact hp3
  ·by_cases y:a=p3
   ·rw [y];exact hp3
   ·rw [ak y] at z;exact z
 clear mv3
 have n2:∀{a},J2 a≠none→¬ L2.own p2 a:=λh z=>h (own2 _ z)
 have n3:∀{a},J3 a≠none→¬ Ln.own ⟨0,d3,e3,o3,[],[]⟩ p3 a:=λh z=>h (own3 _ z)
 have O0:∀{Jx:Hq} {a u},Jx a=some u→Jx a≠none:=λh z=>by rw [z] at h;cases h
 have n2':∀{a},L.own p a→¬ L2.own p2 a:=λz=>n2 (wk.b.some z)
 have n3':∀{a},L.own p a→¬ Ln.own ⟨0,d3,e3,o3,[],[]⟩ p3 a:=λz=>n3 ((wk.b.sub s3).some z)
 have n32:∀{a},L2.own p2 a→¬ Ln.own ⟨0,d3,e3,o3,[],[]⟩ p3 a:=λz=>n3 (b2.some z)
 have s24:Sub J2 J4:=s3.trans s4
 have b14:=wk.b.sub s24
 have b24:=b2.sub s4
 have hD4:=s24 _ _ wk.hD
 have hU4:=s24 _ _ wk.hU
 have hT4:=s24 _ _ hT2
 have sam2:Fc L2.t L2.fs gs:=by rw [al.t,al.fs];exact wk.rl.same _
 refine ⟨rfl,hNq _ _ ?_⟩
 clear hNq Nq
 simp_all! []
 refine ⟨p2,L2,D,ep,gs,by rw [al.t],b24,ok2,hD4,gnd,by omega,wk.rl.sz,sam2,?_⟩
 simp_all! [sG,hU4]
 have hist:∀{Jx:Hq} {px:Addr} {Lx:Ln} {n:Str},aY cN cL Jx px Lx→L.alike Lx→n∈used→∀(R:PV→Hq→Prop),R (.fl ((L.j3 n).map aW.V)) Jx→∀Ex,xM cN cL eC [.ref px,.str n] Jx R Ex:=λ{Jx px Lx n} bx ax hn R hR Ex=>⟨px,Lx,n,rfl,bx,(ax.ok wk.ok).tobc,λc hc e=>.inl (by
  obtain ⟨c0,h0,en,ew,_⟩:=ax.ex hc
  rw [← e,← en,wk.ok.j3 h0,ew] at hR;exact hR),λz=>by rw [ax.nm,hun] at z;exact absurd hn z⟩
 have alR:L.alike L:=⟨rfl,rfl,rfl⟩
 refine ⟨λ_=>true,λx=>match x with | .str n=>.fl ((L.j3 n).map aW.V) | _=>.non,⟨by rw [Us];exact bp (by omega),λJ' sub=>⟨sub _ _ hU4,λx hx=>⟨⟨rfl,rfl⟩,λ_=>?_⟩⟩⟩,?_⟩
 ·obtain ⟨n,hn,rfl⟩:=Uv.mp hx
  have b':=b14.sub sub
  simp_all! [pN,b'.ob]
  exact ⟨fo _ _ _ _,hist b' alR hn _ ⟨rfl,rfl⟩ _⟩
 have ek:((used.map PV.str).filter λ_=>true).map (λx=>match x with | .str n=>PV.fl ((L.j3 n).map aW.V) | _=>.non)=used.map λn=>PV.fl ((L.j3 n).map aW.V):=by rw [Ve.mpr λ_ _=>rfl,UC];rfl
 rw [ek]
 refine hNq _ _ ?_
 clear hNq Nq
 simp_all! [sG]
 refine ⟨by decide,by decide,λ_=>true,λx=>.int (pX ns (29 + Oj x)),⟨by rw [fE];decide,λJ' _=>⟨trivial,λx hx=>⟨⟨rfl,rfl⟩,λ_=>?_⟩⟩⟩,?_⟩
 ·obtain ⟨i,hi⟩:=UN.mp hx
  obtain ⟨i1,rfl⟩:=(nW _ _ _ _).mp hi
  simp_all! []
  exact ⟨ns,_,rfl,by omega,by omega,rfl,rfl⟩
 obtain ⟨ms,hms,hml⟩:∃ms:List Int,((o6 0 (Int.toNat 24)).filter λ_=>true).map (λx=>PV.int (pX ns (29 + Oj x)))=ms.map .int∧ms.length≤24:=⟨((o6 0 (Int.toNat 24)).filter λ_=>true).map (λx=>pX ns (29 + Oj x)),by rw [UC];rfl,by
  rw [Us]
  exact UM (Vj _ _) (by rw [fE];decide)⟩
 rw [hms]
 obtain ⟨m1,hm1,lm1⟩:=rK ms none (some e0)
 obtain ⟨m2,hm2,lm2⟩:=rK ms (some 8) (some (8 + e2))
 obtain ⟨m3,hm3,lm3⟩:=rK ms (some 16) (some (16 + e1))
 refine hNq _ _ ?_
 clear hNq Nq hms ek
 have hnl4:names.length≤40:=by omega
 simp_all! [hm1]
 refine ⟨p,L,D,.ref U,gs,ep,used,names,m1,d2,cs.length,rfl,b14,wk.ok,wk.rl,hD4,by rw [Gg,hU4],hun,hus,hul,wk.td,wk.tl,wk.wl,hT4,hnl4,ng,by omega,d20,d21,λJ5 L5 D5 U5 gs5 ep5 used5 wk5 hun5 hus5 hul5=>?_⟩
 have b34:aY cN cL J4 p3 ⟨0,d3,e3,o3,[],[]⟩:=b3
 have b25:aY cN cL J5 p2 L2:=b24.off wk5.mv λa z z'=>n2' z' z
 have b35:=b34.off wk5.mv λa z z'=>n3' z' z
 have nDL:¬ L.own p D:=wk.nD
 have nUL:¬ L.own p U:=wk.nU
 have hD5:=wk5.mv.keep _ _ hD4 nDL
 have hU5:=wk5.mv.keep _ _ hU4 nUL
 have hT5:=wk5.mv.keep _ _ hT4 (b14.Gn hT4)
 refine hNq _ _ ?_
 clear hNq Nq
 simp_all! [hU5,Us]
 refine ⟨by omega,by omega,?_⟩
 obtain ⟨Inv,hInv⟩:∃Inv:Nat→Sr→Hq→Prop,∀i τ Ja,Inv i τ Ja↔∃u15:Option PV,τ=[some (PV.fl (VQ PV.int ns)),some (PV.fl [PV.int d0,PV.int d1,PV.int d2]),some (PV.fl (VQ PV.str names)),some (PV.ref p),some (PV.fl (VQ PV.int cs)),some (PV.ref D),some (fr L.t),some (PV.ref U),some (PV.tup [PV.ref D,fr L.t,PV.ref U]),some (PV.fl [PV.int e0,PV.int e1,PV.int e2]),some (PV.ref p2),some (PV.ref p3),some (PV.fl (VQ (λn=>PV.fl (VQ aW.V (L.j3 n))) used)),some (PV.fl (VQ PV.int ms)),some (PV.tup [PV.ref D5,fr L5.t,PV.ref U5]),u15,none,none]∧Ja=J5:=⟨_,λ_ _ _=>Iff.rfl⟩
 refine qH Inv ((hInv _ _ _).mpr ⟨_,rfl,rfl⟩) ?_ ?_
 ·intro i τ Ja hi hv
  obtain ⟨u15,rfl,rfl⟩:=(hInv _ _ _).mp hv
  clear hv
  have hi':i < used.length:=by omega
  have hn:used[i]?=some used[i]:=Ut hi'
  have hnm:=U9 hi'
  generalize used[i]=n at hn hnm
  have ha:dk (used.map PV.str) (0 + (i:Int))=some (.str n):=by rw [Int.zero_add];exact bq (by rw [Uz,hn];rfl)
  have hb:dk (used.map λn=>PV.fl ((L.j3 n).map aW.V)) (0 + (i:Int))=some (.fl ((L.j3 n).map aW.V)):=by rw [Int.zero_add];exact bq (by rw [Uz,hn];rfl)
  have bo2:=b25.ob
  simp_all! [hU5,bo2,ha]
  refine ⟨fo _ _ _ _,hist b25 al hnm _ ?_ _⟩
  simp_all! [hb]
  refine ⟨_,_,rfl,rfl,?_,?_⟩
  ·obtain ⟨c,hc,rfl⟩:∃c∈L.cs,c.n=n:=by rw [← hun] at hnm;obtain ⟨c,hc,e⟩:=Uv.mp hnm;exact ⟨c,hc,e⟩
   rw [wk.ok.j3 hc];exact UM (wk.ok.len c hc) (by decide)
  simp_all! []
  exact (hInv _ _ _).mpr ⟨_,rfl,rfl⟩
 intro τ Ja hv
 obtain ⟨u15,rfl,rfl⟩:=(hInv _ _ _).mp hv
 clear hv hInv Inv
 refine hNq _ _ ?_
 clear hNq Nq
 simp_all! []
 refine ⟨p2,L2,D,ep,gs,by rw [al.t],b25,ok2,hD5,gnd,by omega,wk.rl.sz,sam2,?_⟩
 simp_all! []
 rw [hm2]
 intro D3 hD3 ep3
 have nD3:∀{a u},Ja a=some u→a≠D3:=λe z=>by subst z;rw [hD3] at e;cases e
 have s56:Sub Ja (put Ja D3 (.dct [] ep3)):=Sub.put hD3
 have b36:=b35.sub s56
 have hT6:=s56 _ _ hT5
 refine ⟨p3,⟨0,d3,e3,o3,[],[]⟩,D3,.fl [],[],ep3,[],names,m2,d2,0,rfl,b36,okN _ _ _,⟨rfl,(by simp),(by simp),(by simp),(by simp)⟩,ar,rfl,rfl,(by simp),Ux _,(by show (0:Rat).den≤60;decide),(by show (0:Rat)≤((500 * 0:Nat):Rat);decide),(by simp),hT6,hnl4,ng,by omega,d20,d21,λJ7 L7 D7 U7 gs7 ep7 used7 wk7 hun7 hus7 hul7=>?_⟩
 have k57:∀{a u},Ja a=some u→¬ Ln.own ⟨0,d3,e3,o3,[],[]⟩ p3 a→J7 a=some u:=λh n=>wk7.mv.keep _ _ (s56 _ _ h) n
 have sJ:∀{a u},J3 a=some u→¬ Ln.own ⟨0,d3,e3,o3,[],[]⟩ p3 a:=λh=>n3 (O0 h)
 have b27:aY cN cL J7 p2 L2:=b25.keep λa o ow e=>k57 e (n32 ow)
 have hD7:=k57 hD5 (sJ (s3 _ _ wk.hD))
 have hU7:=k57 hU5 (sJ (s3 _ _ wk.hU))
 have hT7:=k57 hT5 (sJ (s3 _ _ hT2))
 refine hNq _ _ ?_
 clear hNq Nq
 simp_all! [hm3]
 refine ⟨p2,L2,D,.ref U,gs,ep,used,names,m3,d2,cs.length,by rw [al.t],b27,ok2,wk.rl.alike al,hD7,by rw [Gg,hU7],by rw [al.nm];exact hun,hus,hul,by rw [al.t];exact wk.td,by rw [al.t];exact wk.tl,?_,hT7,hnl4,ng,by omega,d20,d21,λJ8 L8 D8 U8 gs8 ep8 used8 wk8 hun8 hus8 hul8=>?_⟩
 ·intro c hc
  obtain ⟨c0,h0,_,e,_⟩:=al.ex hc
  rw [← e];exact wk.wl c0 h0
 have off5:∀{a},(L5.own p a∨a=D5∨a=U5)→¬ Ln.own ⟨0,d3,e3,o3,[],[]⟩ p3 a∧¬ L2.own p2 a:=λ{a} z=>by
  rcases wk5.mv.own a z with y | y
  ·exact ⟨n3' y,n2' y⟩
  ·exact ⟨λx=>b34.some x y,λx=>b24.some x y⟩
 have off7:∀{a},(L7.own p3 a∨a=D7∨a=U7)→¬ L2.own p2 a:=λ{a} z=>by
  rcases wk7.mv.own a z with y | y
  ·exact λx=>n32 x y
  ·exact λx=>(b25.sub s56).some x y
 have k58:∀{a u},(L5.own p a∨a=D5∨a=U5)→Ja a=some u→J8 a=some u:=λz h=>wk8.mv.keep _ _ (k57 h (off5 z).1) (off5 z).2
 have b58:aY cN cL J8 p L5:=wk5.b.keep λa o ow e=>k58 (.inl ow) e
 have hD58:=k58 (.inr (.inl rfl)) wk5.hD
 have hU58:=k58 (.inr (.inr rfl)) wk5.hU
 have b78:aY cN cL J8 p3 L7:=wk7.b.keep λa o ow e=>wk8.mv.keep _ _ e (off7 (.inl ow))
 have hD78:=wk8.mv.keep _ _ wk7.hD (off7 (.inr (.inl rfl)))
 have hT8:=wk8.mv.keep _ _ hT7 (b27.Gn hT7)
 obtain ⟨_,gnd5,gl5,_⟩:=wk5.up
 obtain ⟨_,gnd7,gl7,_⟩:=wk7.up
 obtain ⟨_,gnd8,gl8,_⟩:=wk8.up
 have l5:L5.cs.length < 100:=by have:=congrArg Vl hun5;rw [Us] at this;omega
 have l8:L8.cs.length < 100:=by have:=congrArg Vl hun8;rw [Us] at this;omega
 refine hNq _ _ ?_
 clear hNq Nq
 simp_all! []
 refine ⟨p,L5,D5,ep5,gs5,rfl,b58,wk5.ok,hD58,gnd5,by omega,wk5.rl.sz,wk5.rl.same _,?_⟩
 simp_all! []
 refine ⟨p2,L8,D8,ep8,gs8,rfl,wk8.b,wk8.ok,wk8.hD,gnd8,by omega,wk8.rl.sz,wk8.rl.same _,?_⟩
 simp_all! []
 refine ⟨p,U5,L5,rfl,b58,wk5.ok,hT8,by rw [hun5];exact hU58,λn hn=>ng n (hus5 n (by rw [← hun5];exact hn)),l5,?_⟩
 simp_all! []
 refine ⟨p2,U8,L8,rfl,wk8.b,wk8.ok,hT8,by rw [hun8];exact wk8.hU,λn hn=>ng n (hus8 n (by rw [← hun8];exact hn)),l8,?_⟩
 simp_all! []
 exact ⟨p3,L7,D7,ep7,gs7,rfl,b78,wk7.ok,hD78,gnd7,by omega,wk7.rl.sz,wk7.rl.same _,q J8 (by simpa using hT8)⟩
end
theorem Ml {P:Program} {w:World} {K:PySem.W.Frag} {mg:Str→Option Value} (Z:bQ mg) {W:Addr} {c:Nat→Addr} (Er:Dw K mg W c) (N:rG K mg) {jV:Tok} (gx:mg "FARTHEST"=some (.int 1000000 jV)) {gj:Tok} (eI:mg "FASTEST"=some (.int 1000 gj)) {oJ:Tok} (kA:mg "FINEST"=some (.int 60 oJ)) {oK:Tok} (kB:mg "LATEST"=some (.int 1000000 oK)) {lY:Tok} (iS:mg "LONGEST"=some (.int 8 lY)) {xT:Tok} (rR:mg "MOST"=some (.int 12 xT)) {rb:Tok} (nN:mg "SIGNS"=some (.str "abcdefghijklmnopqrstuvwxyz0123456789" rb)) (X_Log:∃C,dW K mg "Log" C∧aH K C "rows"∧aH K C "gone"∧dX K C "__init__" "Log.__init__" gK∧dX K C "turn" "Log.turn" m4∧dX K C "leave" "Log.leave" lp∧dX K C "legs" "Log.legs" mZ∧dX K C "twin" "Log.twin" m5∧dX K C "there" "Log.there" lq∧dX K C "leg_at" "Log.leg_at" jS) (X_Lane:∃C,dW K mg "Lane" C∧aH K C "now"∧aH K C "logs"∧aH K C "row"∧dX K C "__init__" "Lane.__init__" fU∧dX K C "twin" "Lane.twin" g9∧dX K C "must_be_there" "Lane.must_be_there" dG∧dX K C "leg_of" "Lane.leg_of" iy∧dX K C "settle" "Lane.settle" fB∧dX K C "join" "Lane.join" lh∧dX K C "clock" "Lane.clock" jM∧dX K C "order" "Lane.order" jR∧dX K C "log_of" "Lane.log_of" iz∧dX K C "history" "Lane.history" gJ∧dX K C "meets" "Lane.meets" jQ∧dX K C "foretold" "Lane.foretold" fV∧dX K C "go_to" "Lane.go_to" jN∧dX K C "bells" "Lane.bells" jL∧dX K C "turn" "Lane.turn" lj∧dX K C "about" "Lane.about" jK∧dX K C "leave" "Lane.leave" jP) (X_Bells:∃C,dW K mg "Bells" C∧aH K C "rows"∧dX K C "__init__" "Bells.__init__" fw∧dX K C "drop" "Bells.drop" gd∧dX K C "put" "Bells.put" k_∧dX K C "told" "Bells.told" jJ) (LX:Def K mg "_law_cell" Bk) (EV:Def K mg "_law_digits" sP) (EX:Def K mg "shared" sT) (zW:Def K mg "fraction" m6) (OA:Def K mg "_law_low" Hf) (L4:Def K mg "less" Bn) (L_:Def K mg "plus" Bq) (Ic:Def K mg "minus" xo) (Ii:Def K mg "times" xq) {gU:Addr} (gT:z_ K mg "good_name" g_ gU) (Ie:Def K mg "_law_names" oz) (zZ:Def K mg "place_on" m9) (Dq:Def K mg "last_by" pF) (tU:Def K mg "lies_behind" iE) (zX:Def K mg "in_order" m7) (tV:Def K mg "rings_ahead" iF) (Ds:Def K mg "meeting" pH) (nC:Def K mg "in_lowest_terms" ff) (tT:Def K mg "good_moment" iB) (Ij:Def K mg "_law_whole" xr) (L9:Def K mg "_law_part" Bp) (Ik:Def K mg "_law_words" xt) (Dr:Def K mg "_law_legrows" pG) (Dt:Def K mg "_law_passrow" pI) (zY:Def K mg "_law_passrows" m8) (EW:Def K mg "_law_placed" sS) (Ih:Def K mg "_law_paced" xp) (Rt:Def K mg "_law_at" NR) (Ib:Def K mg "_law_later" xm) (EU:Def K mg "_law_before" sM) (Ig:Def K mg "_law_order" qW) (Du:Def K mg "_law_ringdue" pJ) (EY:Def K mg "_law_stands" sU) (Ia:Def K mg "_law_flags" qV) (Ma:Def K mg "_law_said" Br) (x5:Def K mg "_law_all_given" ly) (H_:Def K mg "_law_acted" xj) (LZ:Def K mg "_law_done" Bl) (LY:Def K mg "_law_deed" xk) (Mb:Def K mg "_law_walk" Bs) (L6:Def K mg "_law_more" Bo) {f:Addr} {fd:FuncData} (F:cb K "law" "law" sQ f fd) (base:Heap) (Bm:BMain mg base) :
  aQ P w K mg base (cP P w) 11 f fd ["_law_script"] (dn K (By [gU])):=by
 obtain ⟨ym,bh,aP,bJ,qm,yb,vR,ya,yc,vS,ud⟩:=X_Log
 obtain ⟨RK,ay,aB,aF,aD,oT,vQ,j5,rD,rF,vN,t9,uc,rE,ql,ub,oU,t_,t8,vO,t6,ua⟩:=X_Lane
 obtain ⟨Q_,bM,aZ,nF,tZ,vM,t4⟩:=X_Bells
 have kb:=Er.own 5 (by decide)
 have oV:=Er.own 0 (by decide)
 have Ag:=Er.own 2 (by decide)
 have gf:=Er.own 3 (by decide)
 have mF:=Er.own 7 (by decide)
 have Ah:=Er.own 6 (by decide)
 have vU:=Er.own 1 (by decide)
 have iJ:=Er.own 4 (by decide)
 have Md:=LX.eu (P:=P) (w:=w) (base:=base) (λ_ _ F=>Gs F Z) λ_ _ _ _ _ _=>jc λ_ _=>rfl
 have dA:=EV.Fn (P:=P) (w:=w) (base:=base) (λ_ _ F=>Ea F Z.toEL) λ_ _ _ _ _ _=>jc λ_ _=>rfl
 have rA:=yE dA
 have iI:=EX.Fn (P:=P) (w:=w) (base:=base) (λ_ _ F=>Eb F Z.toEL) λ_ _ _ _ _ _=>jc λ_ _=>rfl
 have E9:=yF iI
 have b9:=zW.Fn (λ_ _ F=>yP F Z.toEL iI) λ_ _ _ _ _ _=>jc λ_ _=>rfl
 have Ac:=uk b9
 have rq:=OA.Fn (P:=P) (w:=w) (base:=base) (λ_ _ F=>M7 F Z.toEL) λ_ _ _ _ _ _=>jc λ_ _=>rfl
 have E7:=Gb rq
 have eg:=L4.Fn (P:=P) (w:=w) (base:=base) (λ_ _ F=>Jo F Z.toEL) λ_ _ _ _ _ _=>jc λ_ _=>rfl
 have oR:=DW eg
 have zV:=L_.Fn (λ_ _ F=>Jp F Z.toEL b9) λ_ _ _ _ _ _=>jc λ_ _=>rfl
 have nB:=Ic.Fn (λ_ _ F=>Gp F Z.toEL b9) λ_ _ _ _ _ _=>jc λ_ _=>rfl
 have vL:=Ii.Fn (λ_ _ F=>Gr F Z.toEL b9) λ_ _ _ _ _ _=>jc λ_ _=>rfl
 have Mf:=DX zV
 have BI:=AH nB
 have Iu:=AJ vL
 have j_:=gT.Fn (P:=P) (w:=w) (base:=base) (λ_ _ _ F=>wD F Z.toEL Bm iS nN) λ_ _ _ _ _ _=>yi λ_=>rfl
 have x_:=rY j_
 have vJ:=Ie.Fn (λ_ _ F=>Gq F Z.toEL dA) λ_ _ _ _ _ _=>jc λ_ _=>rfl
 have Iq:=AI vJ
 have mD:=zZ.eu (λ_ _ F=>wH F Z Mf BI Iu) λ_ _ _ _ _ _=>jc λ_ _=>rfl
 have Dx:=Dq.eu (λ_ _ F=>yQ F Z oR) λ_ _ _ _ _ _=>jc λ_ _=>rfl
 have tX:=tU.eu (λ_ _ F=>qy F Z mD oR) λ_ _ _ _ _ _=>RF λ_ _ _ _ _=>rfl
 have Ad:=zX.eu (λ_ _ F=>wF F Z tX) λ_ _ _ _ _ _=>jc λ_ _=>rfl
 have uQ:=qm.Si (P:=P) (w:=w) (base:=base) bh (λ_ _ F=>yL F bh aP bJ) λ_ _ _ _ _ _=>Oh λ_ _ _ _=>rfl
 have fq:=yb.qv (mg:=mg) bh.cl (λ_ _ F=>yN F Z bh aP mD) λ_ _ _ _ _ _=>Mm λ_ _ _=>rfl
 have kJ:=vR.qv (P:=P) (w:=w) (base:=base) (mg:=mg) bh.cl (λ_ _ F=>wB F Z bh bJ) λ_ _ _ _ _ _=>jc λ_ _=>rfl
 have mS:=ya.qv (P:=P) (w:=w) (base:=base) (mg:=mg) bh.cl (λ_ _ F=>yM F Z bh aP) λ_ _ _ _ _ _=>yi λ_=>rfl
 have mT:=yc.qv (mg:=mg) bh.cl (λ_ _ F=>yO F Z bh aP bJ uQ) λ_ _ _ _ _ _=>yi λ_=>rfl
 have kK:=vS.qv (mg:=mg) bh.cl (λ_ _ F=>wC F Z bh aP bJ oR) λ_ _ _ _ _ _=>jc λ_ _=>rfl
 have jv:=ud.qv (mg:=mg) bh.cl (λ_ _ F=>uC F Z bh aP mF kK Dx) λ_ _ _ _ _ _=>jc λ_ _=>rfl
 have mE:=oT.Si (P:=P) (w:=w) (base:=base) ay (λ_ _ F=>wx F (cL:=ym) N ay aB aF aD) λ_ _ _ _ _ _=>yi λ_=>rfl
 have kI:=vQ.qv (mg:=mg) ay.cl (λ_ _ F=>wA F Z ay aB aF aD mE mT) λ_ _ _ _ _ _=>yi λ_=>rfl
 have ba:=j5.qv (P:=P) (w:=w) (base:=base) (mg:=mg) ay.cl (λ_ _ F=>j8 F Z (cL:=ym) ay aD gf) λ_ _ _ _ _ _=>jc λ_ _=>rfl
 have bP:=rD.qv (mg:=mg) ay.cl (λ_ _ F=>sf F Z ay aF aB ba jv) λ_ _ _ _ _ _=>jc λ_ _=>rfl
 have bE:=rF.qv (mg:=mg) ay.cl (λ_ _ F=>si F Z ay aD aB bP Ad) λ_ _ _ _ _ _=>yi λ_=>rfl
 have eK:=vN.qv (mg:=mg) ay.cl (λ_ _ F=>wy F Z ay aD aB aF gx eI rR oV iJ vU Ag x_ uQ bE) λ_ _ _ _ _ _=>Oh λ_ _ _ _=>rfl
 have jm:=t9.qv (P:=P) (w:=w) (base:=base) (mg:=mg) ay.cl (λ_ _ F=>ux F Z (cL:=ym) ay aB) λ_ _ _ _ _ _=>yi λ_=>rfl
 have ju:=uc.qv (P:=P) (w:=w) (base:=base) (mg:=mg) ay.cl (λ_ _ F=>uB F Z (cL:=ym) ay aD) λ_ _ _ _ _ _=>yi λ_=>rfl
 have ig:=rE.qv (P:=P) (w:=w) (base:=base) (mg:=mg) ay.cl (λ_ _ F=>sh F Z (cL:=ym) ay aF gf) λ_ _ _ _ _ _=>jc λ_ _=>rfl
 have eQ:=ql.qv (mg:=mg) ay.cl (λ_ _ F=>qw F Z ay ig mS) λ_ _ _ _ _ _=>jc λ_ _=>rfl
 have tY:=tV.eu (λ_ _ F=>qz F Z oR) λ_ _ _ _ _ _=>jc λ_ _=>rfl
 have lG:=nF.Si (P:=P) (w:=w) (base:=base) bM (λ_ _ F=>ur F bM aZ) λ_ _ _ _ _ _=>yi λ_=>rfl
 have jj:=tZ.qv (P:=P) (w:=w) (base:=base) (mg:=mg) bM.cl (λ_ _ F=>uq F Z bM aZ) λ_ _ _ _ _ _=>Mm λ_ _ _=>rfl
 have eJ:=vM.qv (mg:=mg) bM.cl (λ_ _ F=>wu F Z bM aZ jj tY) λ_ _ _ _ _ _=>Oh λ_ _ _ _=>rfl
 have dM:=t4.qv (P:=P) (w:=w) (base:=base) (mg:=mg) bM.cl (λ_ _ F=>uu F Z bM aZ) λ_ _ _ _ _ _=>yi λ_=>rfl
 have Dz:=Ds.eu (λ_ _ F=>yS F Z N mD BI Ac) λ_ _ _ _ _ _=>jc λ_ _=>rfl
 have dN:=ub.qv (mg:=mg) ay.cl (λ_ _ F=>uA F Z ay aB bP Dz oR) λ_ _ _ _ _ _=>Mm λ_ _ _=>rfl
 have nE:=nC.eu (λ_ _ F=>l6 F Z E9) λ_ _ _ _ _ _=>yi λ_=>rfl
 have tW:=tT.eu (λ_ _ F=>qx F Z kA kB nE) λ_ _ _ _ _ _=>yi λ_=>rfl
 have fM:=oU.qv (mg:=mg) ay.cl (λ_ _ F=>pe F Z ay aB aD kb Ah tW oR lG dN eJ dM) λ_ _ _ _ _ _=>jc λ_ _=>rfl
 have jq:=t_.qv (mg:=mg) ay.cl (λ_ _ F=>uy F Z ay aB fM bE) λ_ _ _ _ _ _=>jc λ_ _=>rfl
 have jl:=t8.qv (mg:=mg) ay.cl (λ_ _ F=>uw F Z ay aD lG dN eJ dM) λ_ _ _ _ _ _=>yi λ_=>rfl
 have kH:=vO.qv (mg:=mg) ay.cl (λ_ _ F=>wz F Z ay aF aB eI iJ ba fq bE) λ_ _ _ _ _ _=>Mm λ_ _ _=>rfl
 have jk:=t6.qv (mg:=mg) ay.cl (λ_ _ F=>uv F Z ay aD aF aB bP fq bE) λ_ _ _ _ _ _=>yi λ_=>rfl
 have jt:=ua.qv (mg:=mg) ay.cl (λ_ _ F=>uz F Z ay aF aB aD ba kJ) λ_ _ _ _ _ _=>jc λ_ _=>rfl
 have BK:=Ij.eu (P:=P) (w:=w) (base:=base) (λ_ _ F=>Eh F Z) λ_ _ _ _ _ _=>yi λ_=>rfl
 have Ae:=L9.eu (λ_ _ F=>Gx F Z BK) λ_ _ _ _ _ _=>jc λ_ _=>rfl
 have Iv:=Ik.eu (P:=P) (w:=w) (base:=base) (λ_ _ F=>Ei F Z) λ_ _ _ _ _ _=>jc λ_ _=>rfl
 have Dy:=Dr.eu (λ_ _ F=>yR F Z BK Ae) λ_ _ _ _ _ _=>jc λ_ _=>rfl
 have DA:=Dt.eu (λ_ _ F=>yT F Z Ae) λ_ _ _ _ _ _=>jc λ_ _=>rfl
 have Af:=zY.eu (λ_ _ F=>wG F Z DA) λ_ _ _ _ _ _=>jc λ_ _=>rfl
 have E8:=EW.eu (P:=P) (w:=w) (base:=base) (λ_ _ F=>AV F Z) λ_ _ _ _ _ _=>jc λ_ _=>rfl
 have Ir:=Ih.eu (P:=P) (w:=w) (base:=base) (λ_ _ F=>Eg F Z) λ_ _ _ _ _ _=>jc λ_ _=>rfl
 have Mc:=Rt.eu (λ_ _ F=>M8 F Z E7) λ_ _ _ _ _ _=>jc λ_ _=>rfl
 have Ip:=Ib.eu (λ_ _ F=>Ee F Z E7) λ_ _ _ _ _ _=>Oh λ_ _ _ _=>rfl
 have x9:=EU.eu (P:=P) (w:=w) (base:=base) (λ_ _ F=>AU F Z) λ_ _ _ _ _ _=>jc λ_ _=>rfl
 have BJ:=Ig.eu (λ_ _ F=>Ef F Z Mc x9) λ_ _ _ _ _ _=>jc λ_ _=>rfl
 have DB:=Du.eu (λ_ _ F=>yU F Z BJ Mc E7 x9) λ_ _ _ _ _ _=>jc λ_ _=>rfl
 have E_:=EY.eu (λ_ _ F=>AW F Z Ae Iv BJ Af DB jm ju jl) λ_ _ _ _ _ _=>Mm λ_ _ _=>rfl
 have Io:=Ia.eu (P:=P) (w:=w) (base:=base) (λ_ _ F=>Ed F Z) λ_ _ _ _ _ _=>yi λ_=>rfl
 have Mg:=Ma.eu (λ_ _ F=>Gy F Z Er eK) λ_ _ _ _ _ _=>jc λ_ _=>rfl
 have x8:=x5.eu (λ_ _ F=>uD F Z Mg Io) λ_ _ _ _ _ _=>jc λ_ _=>rfl
 have BH:=H_.eu (λ_ _ F=>Ec F Z Mc) λ_ _ _ _ _ _=>Mm λ_ _ _=>rfl
 have E6:=LZ.eu (λ_ _ F=>Gv F Z eK jt kH jk jq) λ_ _ _ _ _ _=>jc λ_ _=>rfl
 have E5:=LY.eu (λ_ _ F=>Gu F Z E8 Ir Ip) λ_ _ _ _ _ _=>Ub λ_ _ _ _ _ _=>rfl
 have Mh:=Mb.eu (λ_ _ F=>Gz F Z rA E5 E6 BH) λ_ _ _ _ _ _=>Oh λ_ _ _ _=>rfl
 have Me:=L6.eu (λ_ _ F=>Gw F Z rA E5 E6 BH) λ_ _ _ _ _ _=>RF λ_ _ _ _ _=>rfl
 exact Jq F Z Md rA Iq Mh mE kI E_ eQ Me Dy x8
end Ov
namespace PySem.W.Fast
def tw6503237646010898993:=0
def tw9333604036568340993:=0
def tw2423349631051595806:=0
def tw8098479613718662283:=0
def tw18056364899203907026:=0
def tw14959800785528477352:=0
def tw12129878709304154492:=0
def tw16960576893419130784:=0
def tw30654740637718480:=0
def tw17007039640617153379:=0
def tw10324920718853932946:=0
def tw2529897374130975214:=0
def tw13246138779924582685:=0
def tw373293918343117730:=0
def tw18094193990087979740:=0
def tw12073903472120978189:=0
def tw18170962120858267641:=0
def tw11424810534087286966:=0
def tw6538410157260830109:=0
def tw5724573229246734126:=0
def tw3150687607920480503:=0
def tw2782792907029054133:=0
def tw3604321626694837462:=0
def tw10376665540585399375:=0
def tw4388955875074592931:=0
def tw9526631455795144322:=0
def tw6838568076400049331:=0
def tw5145382761531058376:=0
def tw13376161776417125292:=0
def tw8904538884055645270:=0
def tw4858717000698460019:=0
def tw16359699663834669575:=0
def tw2260092637628403440:=0
def tw8890882401888700145:=0
def tw17408733043699183718:=0
def tw10599210323137467863:=0
def tw9176820881598384282:=0
def tw1436449814320986951:=0
def tw11978815272869223525:=0
def tw1605019400483653039:=0
def tw9690694285825001212:=0
def tw14473746039108256066:=0
def tw11649043062711567550:=0
def tw369114762532837685:=0
def tw14636454121776563310:=0
def tw17903926737640875232:=0
def tw3341041292845209980:=0
def tw8826295365225550453:=0
def tw2304107155987764518:=0
def tw1780847890115236082:=0
def tw12373415117939503502:=0
def tw4649736813259619822:=0
def tw4988339375824344349:=0
def tw13119283813032721363:=0
def tw10575263687963274770:=0
def tw8900228967774291515:=0
def tw18040418636148363251:=0
def tw6685996413780230739:=0
def tw10286244530412593353:=0
def tw15616995897377063729:=0
def tw14159010895455376626:=0
def tw5593938288913038537:=0
def tw15525926758554649656:=0
def tw18404066132082333487:=0
def tw6094626310833605103:=0
def tw16090501629852123931:=0
def tw4287993893392934922:=0
def tw5537464235977554284:=0
def tw8666378024291269633:=0
def tw13401965426844016772:=0
def tw11664253866276278788:=0
def tw797832048508767904:=0
def tw3213797551724600704:=0
def tw14393086221876582793:=0
def tw3397511533101539528:=0
def tw16749850857154354294:=0
def tw9198948581135355211:=0
def tw9220608662283266348:=0
def tw6495871447853839127:=0
def tw4694612863580162150:=0
def tw5010408116579733256:=0
def tw1779637577718802540:=0
def tw1065970756553800394:=0
def tw8005805288855998846:=0
def tw2046609324089398508:=0
def tw15937904540126430474:=0
def tw18325709672203352261:=0
def tw15482356079407672408:=0
def tw2846380894216562764:=0
def tw16645763532537249127:=0
def tw10199924806464323817:=0
def tw11879076536270626303:=0
def tw1008926814397968450:=0
def tw8630922941676609914:=0
def tw16293577977413674681:=0
def tw15660860800193503433:=0
def tw7180413519653489798:=0
def tw8599803020635219231:=0
def tw2153968195027509804:=0
def tw15989970691684692016:=0
def tw8710846864904440544:=0
def tw9928963508975839950:=0
def tw3850519319261664282:=0
def tw7987222713132310449:=0
def tw12511314655257428133:=0
def tw14539432557717530497:=0
def tw10771425626685190798:=0
def tw9396610306130532528:=0
def tw4590934487173201128:=0
def tw3416607867064288973:=0
def tw16779731201652477282:=0
def tw11879504287079712076:=0
def tw18387088420705495551:=0
def tw6422220987159871688:=0
def tw11532629495899574974:=0
def tw13432874396028394806:=0
def tw1196790326312823363:=0
def tw5629953678832810005:=0
def tw16709151100974310296:=0
def tw3748704658187829379:=0
def tw18372315018060273095:=0
def tw15218826108594096703:=0
def tw11198081589507392879:=0
def tw17193643557298686844:=0
def tw17589531537419728882:=0
def tw8780980911242685932:=0
def tw4120510148038464318:=0
def tw3918118169453570226:=0
def tw6402118364403159266:=0
def tw892020198319263853:=0
def tw556021679578355135:=0
def tw3627779707445780943:=0
def tw3410555502035850427:=0
def tw11729177586062048205:=0
def tw10314203001155683978:=0
def tw9165708813156834240:=0
def tw6845797071251139876:=0
def tw12345846442696647742:=0
def tw1902575077272897068:=0
def tw5989217740856823338:=0
def tw7325767182860590701:=0
def tw15788295631879667131:=0
def tw1329103940700729196:=0
def tw241063174450696272:=0
def tw16523873175634465861:=0
def tw12346628696335462456:=0
def tw328593523920612026:=0
def tw3826755955407460287:=0
def tw12630869992625831197:=0
def tw4461348803754812618:=0
def tw12690036761387960541:=0
def tw14445558687366778659:=0
def tw2793390838421364445:=0
def tw9188379581426476012:=0
def tw13155294931944484366:=0
def tw4263784676972101942:=0
def tw1294284677548217558:=0
def tw13951493599058361614:=0
def tw17376505270033977204:=0
def tw8244919182872789415:=0
def tw11544956607183480500:=0
def tw8141055175154090023:=0
def tw4256202599487228435:=0
def tw6526976108796032220:=0
def tw10494314364484940958:=0
def tw18055696750224195209:=0
def tw5924680950627297293:=0
def tw18334491073074927987:=0
def tw7428277017549790157:=0
def tw12308091873223063425:=0
def tw7889505729333837159:=0
def tw1295107249906721255:=0
def tw340211204524797237:=0
def tw15162666883098086918:=0
def tw12213822666309544078:=0
def tw8303413563185540598:=0
def tw3839293286880473026:=0
def tw280880552967180561:=0
def tw17415388489496747154:=0
def tw2272956544811744524:=0
def tw12787532857249995867:=0
def tw1145037215631198357:=0
def tw9861851266768238444:=0
def tw4927673770948014742:=0
def tw2327453520019370413:=0
def tw1767378941769124881:=0
def tw16846356761117256194:=0
def tw11444420543225584318:=0
def tw8072241941018558593:=0
def tw17346633462787762887:=0
def tw11845908159140014043:=0
def tw11074971621230989475:=0
def tw4148971410202241355:=0
def tw1906504118398376971:=0
def tw9622005718715539605:=0
def tw16389026482316551790:=0
def tw15042123229373494514:=0
def tw5408929714495007500:=0
def tw10886190867289197763:=0
def tw13250935644504208332:=0
def tw9338320659124498042:=0
def tw15346871174639885279:=0
def tw2321583228923950629:=0
def tw8703535080074695905:=0
def tw8701668000895524153:=0
def tw16821624187575743121:=0
def tw18344053534650036635:=0
def tw12880342738009768731:=0
def tw8366551826976320926:=0
def tw13831115704781454114:=0
def tw11944066932370849885:=0
def tw17975533070587239996:=0
def tw5254070735583615703:=0
def tw13821884141535940204:=0
def tw5238215053431119798:=0
def tw4940888538621188962:=0
def tw7938682342096451203:=0
def tw5987852055938137384:=0
def tw11530398876743136479:=0
def tw8194133337700132312:=0
def tw950266257795808611:=0
def tw7799952015041561440:=0
def tw3482861440066382733:=0
def tw520726664752003991:=0
def tw8811481127531747350:=0
def tw15144754708062127663:=0
def tw8354023545382682003:=0
def tw10329527127678047093:=0
def tw6698805052235442406:=0
def tw8257417195561459992:=0
def tw17310429425580800556:=0
def tw17651538011022894876:=0
def tw5684562501099624322:=0
def tw7790853433402119548:=0
def tw11877428609069527663:=0
def tw8850868016235584674:=0
def tw11097948508789650888:=0
def tw2631289359721190348:=0
def tw9005788132317400076:=0
def tw15116831148590074721:=0
def tw960882838632464914:=0
def tw8924274357368415924:=0
def tw14555586352058281925:=0
def tw6797282609586963982:=0
def tw6557689919736141105:=0
def tw750691180470994748:=0
def tw14876981880641374479:=0
def tw5552462592526637662:=0
def tw15065724986920878315:=0
def tw897582279667893405:=0
def tw15009852699356980219:=0
def tw3334996419634395630:=0
def tw10162101801608734017:=0
def tw10418197427453345333:=0
def tw11610447914678461069:=0
def tw10861032864318345438:=0
def tw7432372385473637292:=0
def tw2402177917031469183:=0
def tw7331798901182858551:=0
def tw13618306741575399866:=0
def tw4983477784170823642:=0
def tw8311600277686108744:=0
def tw8056868755561811972:=0
def tw5559071473675957684:=0
def tw5449126430016458329:=0
def tw5168078958874527832:=0
def tw12593739038022004378:=0
def tw12279320292340016218:=0
def tw11535317702507154488:=0
def tw10910252299369657250:=0
def tw9733989547820724527:=0
def tw12211782240174592112:=0
def tw18160014247632731079:=0
def tw11423961613117575301:=0
def tw10766093153692490794:=0
def tw103424538933310108:=0
def tw6429589175375147223:=0
def tw14551954418226176327:=0
def tw12791534666889921461:=0
def tw6419058513893406511:=0
def tw12976499899242980249:=0
def tw14303025936891878730:=0
def tw3248471457245438983:=0
def tw17112538071041320620:=0
def tw9338959131632047717:=0
def tw8968413991426484419:=0
def tw6165152920700891683:=0
def tw11622567788022996278:=0
def tw14462238272052712253:=0
def tw2694055061875402407:=0
def tw16675033340457072333:=0
def tw11019947008238470716:=0
def tw6189913280951224934:=0
def tw1007101574659574605:=0
def tw9826879775232778558:=0
def tw18088377864420451146:=0
def tw5516355083698746797:=0
def tw4420609682447160462:=0
def tw3056004855168661954:=0
def tw6328295016416932001:=0
def tw3472498111346299766:=0
end PySem.W.Fast
open PySem PySem.W PyProof.Rows
set_option hygiene false
local macro_rules | `(tactic| simp_arith)=>`(tactic| (dsimp only [L2.E4];refine' Ov.Mz KX G ?a ?l ?c ?k;(case a=>k_is);(case l=>k_is);(case c=>k_is);(case k=>k_is)))
set_option maxRecDepth 100000 in
set_option maxHeartbeats 0 in
theorem PySem.Challenge.cw_overhaul_k30_lanes_apart_holds : PySem.Challenge.rw_overhaul_k30_lanes_apart.Holds := by
 w_on;o_law;k_head;(case hw=>w_witness2)
 k_fill
 refine Ov.HL (l:=PySem.Challenge.rw_overhaul_k30_lanes_apart) (n:=63) (k:=11) (x:="_law_script") (sp:=Ov.Hn) ["good_name"] rfl (by decide) rfl ⟨rfl,by decide,by decide⟩ (λw h Y=>PySem.W.kIn_of Y) ?Nm ?F (λtabs K H a ns hl hT hS hA hK=>⟨a,ns,rfl,hS,hl,hT,hA,hK,λ_ e=>⟨rfl,e⟩⟩)
 case Nm=>decide +kernel
 case F =>
  intro w mg fa h KX G hmg
  obtain ⟨gU,gT⟩:∃T,Ov.z_ (L2.E4 KX) mg "good_name" Ov.g_ T:=by
   dsimp only [L2.E4]
   refine' ⟨_,Ov.ID KX G ?ga ?gl ?gc ?gk ?gt ?gp ?gb ?ge ?go⟩
   (case ga=>k_is);(case gl=>k_is);(case gc=>k_is);(case gk=>k_is);(case gt=>k_is);(case gp=>rfl);(case gb=>kernel_rfl);(case ge=>decide);(case go=>kernel_rfl)
  have Oz:Ov.Def (L2.E4 KX) mg "law" Ov.sQ:=by simp_arith
  have Z:Ov.bQ mg:=by
   refine' ⟨Ov.EL.mk (PySem.W.mg_none_of KX G ?z0) (PySem.W.mg_none_of KX G ?z1) (PySem.W.mg_none_of KX G ?z2) (PySem.W.mg_none_of KX G ?z3) (PySem.W.mg_none_of KX G ?z4) (PySem.W.mg_none_of KX G ?z5) (PySem.W.mg_none_of KX G ?z6) (PySem.W.mg_none_of KX G ?z7) (PySem.W.mg_none_of KX G ?z8) (PySem.W.mg_none_of KX G ?z9),PySem.W.mg_none_of KX G ?w0,PySem.W.mg_none_of KX G ?w1,PySem.W.mg_none_of KX G ?w2,PySem.W.mg_none_of KX G ?w3,PySem.W.mg_none_of KX G ?w4⟩
   (case z0=>k_is);(case z1=>k_is);(case z2=>k_is);(case z3=>k_is);(case z4=>k_is);(case z5=>k_is);(case z6=>k_is);(case z7=>k_is);(case z8=>k_is);(case z9=>k_is);(case w0=>k_is);(case w1=>k_is);(case w2=>k_is);(case w3=>k_is);(case w4=>k_is)
  obtain ⟨W,c,Er⟩:∃W c,Ov.Dw (L2.E4 KX) mg W c:=by
   dsimp only [L2.E4]
   refine' Ov.II KX G ?v ?w ?a0 ?a1 ?a2 ?a3 ?a4 ?a5 ?a6 ?a7 ?a8 ?a9 ?b
   (case v=>k_is);(case w=>k_is);(case a0=>k_is);(case a1=>k_is);(case a2=>k_is);(case a3=>k_is);(case a4=>k_is);(case a5=>k_is);(case a6=>k_is);(case a7=>k_is);(case a8=>k_is);(case a9=>k_is)
   (case b=>kernel_rfl)
  have N:Ov.rG (L2.E4 KX) mg:=by
   dsimp only [L2.E4]
   refine' Ov.D_ KX G ?a ?l
   (case a=>k_is);(case l=>k_is)
  obtain ⟨jV,gx⟩:∃t,mg "FARTHEST"=some (.int 1000000 t):=by
   refine' Ov.const_int KX G ?cz ?cw
   (case cz=>k_is);(case cw=>kernel_rfl)
  obtain ⟨gj,eI⟩:∃t,mg "FASTEST"=some (.int 1000 t):=by
   refine' Ov.const_int KX G ?cz ?cw
   (case cz=>k_is);(case cw=>kernel_rfl)
  obtain ⟨oJ,kA⟩:∃t,mg "FINEST"=some (.int 60 t):=by
   refine' Ov.const_int KX G ?cz ?cw
   (case cz=>k_is);(case cw=>kernel_rfl)
  obtain ⟨oK,kB⟩:∃t,mg "LATEST"=some (.int 1000000 t):=by
   refine' Ov.const_int KX G ?cz ?cw
   (case cz=>k_is);(case cw=>kernel_rfl)
  obtain ⟨lY,iS⟩:∃t,mg "LONGEST"=some (.int 8 t):=by
   refine' Ov.const_int KX G ?cz ?cw
   (case cz=>k_is);(case cw=>kernel_rfl)
  obtain ⟨xT,rR⟩:∃t,mg "MOST"=some (.int 12 t):=by
   refine' Ov.const_int KX G ?cz ?cw
   (case cz=>k_is);(case cw=>kernel_rfl)
  obtain ⟨rb,nN⟩:∃t,mg "SIGNS"=some (.str "abcdefghijklmnopqrstuvwxyz0123456789" t):=by
   refine' Ov.DG KX G ?cz ?cw
   (case cz=>k_is);(case cw=>kernel_rfl)
  obtain ⟨fd,F,hb⟩:=Ov.MS Oz hmg (λ_ _ _ _ _ _ _=>rfl)
  exact ⟨fd,[gU],hb,(λT hT=>by simp only [UI,UT,or_false] at hT;rcases hT with rfl <;> first | exact ⟨_,by simp,_,gT⟩),λbase _ _ Bm=>Ov.DT (Ov.Ml Z Er N gx eI kA kB iS rR nN (by dsimp only [L2.E4];refine' ⟨_,Ov.wd KX G ?a ?pg ?hd ?po ?sa ?mk ?kc,?n0,?n1,Ov.bB ?m0a ?m0i ?m0l ?m0c ?m0k,Ov.bB ?m1a ?m1i ?m1l ?m1c ?m1k,Ov.bB ?m2a ?m2i ?m2l ?m2c ?m2k,Ov.bB ?m3a ?m3i ?m3l ?m3c ?m3k,Ov.bB ?m4a ?m4i ?m4l ?m4c ?m4k,Ov.bB ?m5a ?m5i ?m5l ?m5c ?m5k,Ov.bB ?m6a ?m6i ?m6l ?m6c ?m6k⟩;(case a=>k_is);(case pg=>k_is);(case hd=>k_is);(case po=>k_is);(case sa=>k_is);(case mk=>k_is);(case kc=>k_is);(case n0=>(show PySem.W.findIn _ _ _=_;k_is));(case n1=>(show PySem.W.findIn _ _ _=_;k_is));(case m0a=>k_is);(case m0i=>k_is);(case m0l=>k_is);(case m0c=>k_is);(case m0k=>k_is);(case m1a=>k_is);(case m1i=>k_is);(case m1l=>k_is);(case m1c=>k_is);(case m1k=>k_is);(case m2a=>k_is);(case m2i=>k_is);(case m2l=>k_is);(case m2c=>k_is);(case m2k=>k_is);(case m3a=>k_is);(case m3i=>k_is);(case m3l=>k_is);(case m3c=>k_is);(case m3k=>k_is);(case m4a=>k_is);(case m4i=>k_is);(case m4l=>k_is);(case m4c=>k_is);(case m4k=>k_is);(case m5a=>k_is);(case m5i=>k_is);(case m5l=>k_is);(case m5c=>k_is);(case m5k=>k_is);(case m6a=>k_is);(case m6i=>k_is);(case m6l=>k_is);(case m6c=>k_is);(case m6k=>k_is)) (by dsimp only [L2.E4];refine' ⟨_,Ov.wd KX G ?a ?pg ?hd ?po ?sa ?mk ?kc,?n0,?n1,?n2,Ov.bB ?m0a ?m0i ?m0l ?m0c ?m0k,Ov.bB ?m1a ?m1i ?m1l ?m1c ?m1k,Ov.bB ?m2a ?m2i ?m2l ?m2c ?m2k,Ov.bB ?m3a ?m3i ?m3l ?m3c ?m3k,Ov.bB ?m4a ?m4i ?m4l ?m4c ?m4k,Ov.bB ?m5a ?m5i ?m5l ?m5c ?m5k,Ov.bB ?m6a ?m6i ?m6l ?m6c ?m6k,Ov.bB ?m7a ?m7i ?m7l ?m7c ?m7k,Ov.bB ?m8a ?m8i ?m8l ?m8c ?m8k,Ov.bB ?m9a ?m9i ?m9l ?m9c ?m9k,Ov.bB ?m10a ?m10i ?m10l ?m10c ?m10k,Ov.bB ?m11a ?m11i ?m11l ?m11c ?m11k,Ov.bB ?m12a ?m12i ?m12l ?m12c ?m12k,Ov.bB ?m13a ?m13i ?m13l ?m13c ?m13k,Ov.bB ?m14a ?m14i ?m14l ?m14c ?m14k,Ov.bB ?m15a ?m15i ?m15l ?m15c ?m15k,Ov.bB ?m16a ?m16i ?m16l ?m16c ?m16k⟩;(case a=>k_is);(case pg=>k_is);(case hd=>k_is);(case po=>k_is);(case sa=>k_is);(case mk=>k_is);(case kc=>k_is);(case n0=>(show PySem.W.findIn _ _ _=_;k_is));(case n1=>(show PySem.W.findIn _ _ _=_;k_is));(case n2=>(show PySem.W.findIn _ _ _=_;k_is));(case m0a=>k_is);(case m0i=>k_is);(case m0l=>k_is);(case m0c=>k_is);(case m0k=>k_is);(case m1a=>k_is);(case m1i=>k_is);(case m1l=>k_is);(case m1c=>k_is);(case m1k=>k_is);(case m2a=>k_is);(case m2i=>k_is);(case m2l=>k_is);(case m2c=>k_is);(case m2k=>k_is);(case m3a=>k_is);(case m3i=>k_is);(case m3l=>k_is);(case m3c=>k_is);(case m3k=>k_is);(case m4a=>k_is);(case m4i=>k_is);(case m4l=>k_is);(case m4c=>k_is);(case m4k=>k_is);(case m5a=>k_is);(case m5i=>k_is);(case m5l=>k_is);(case m5c=>k_is);(case m5k=>k_is);(case m6a=>k_is);(case m6i=>k_is);(case m6l=>k_is);(case m6c=>k_is);(case m6k=>k_is);(case m7a=>k_is);(case m7i=>k_is);(case m7l=>k_is);(case m7c=>k_is);(case m7k=>k_is);(case m8a=>k_is);(case m8i=>k_is);(case m8l=>k_is);(case m8c=>k_is);(case m8k=>k_is);(case m9a=>k_is);(case m9i=>k_is);(case m9l=>k_is);(case m9c=>k_is);(case m9k=>k_is);(case m10a=>k_is);(case m10i=>k_is);(case m10l=>k_is);(case m10c=>k_is);(case m10k=>k_is);(case m11a=>k_is);(case m11i=>k_is);(case m11l=>k_is);(case m11c=>k_is);(case m11k=>k_is);(case m12a=>k_is);(case m12i=>k_is);(case m12l=>k_is);(case m12c=>k_is);(case m12k=>k_is);(case m13a=>k_is);(case m13i=>k_is);(case m13l=>k_is);(case m13c=>k_is);(case m13k=>k_is);(case m14a=>k_is);(case m14i=>k_is);(case m14l=>k_is);(case m14c=>k_is);(case m14k=>k_is);(case m15a=>k_is);(case m15i=>k_is);(case m15l=>k_is);(case m15c=>k_is);(case m15k=>k_is);(case m16a=>k_is);(case m16i=>k_is);(case m16l=>k_is);(case m16c=>k_is);(case m16k=>k_is)) (by dsimp only [L2.E4];refine' ⟨_,Ov.wd KX G ?a ?pg ?hd ?po ?sa ?mk ?kc,?n0,Ov.bB ?m0a ?m0i ?m0l ?m0c ?m0k,Ov.bB ?m1a ?m1i ?m1l ?m1c ?m1k,Ov.bB ?m2a ?m2i ?m2l ?m2c ?m2k,Ov.bB ?m3a ?m3i ?m3l ?m3c ?m3k⟩;(case a=>k_is);(case pg=>k_is);(case hd=>k_is);(case po=>k_is);(case sa=>k_is);(case mk=>k_is);(case kc=>k_is);(case n0=>(show PySem.W.findIn _ _ _=_;k_is));(case m0a=>k_is);(case m0i=>k_is);(case m0l=>k_is);(case m0c=>k_is);(case m0k=>k_is);(case m1a=>k_is);(case m1i=>k_is);(case m1l=>k_is);(case m1c=>k_is);(case m1k=>k_is);(case m2a=>k_is);(case m2i=>k_is);(case m2l=>k_is);(case m2c=>k_is);(case m2k=>k_is);(case m3a=>k_is);(case m3i=>k_is);(case m3l=>k_is);(case m3c=>k_is);(case m3k=>k_is)) (by simp_arith) (by simp_arith) (by simp_arith) (by simp_arith) (by simp_arith) (by simp_arith) (by simp_arith) (by simp_arith) (by simp_arith) gT (by simp_arith) (by simp_arith) (by simp_arith) (by simp_arith) (by simp_arith) (by simp_arith) (by simp_arith) (by simp_arith) (by simp_arith) (by simp_arith) (by simp_arith) (by simp_arith) (by simp_arith) (by simp_arith) (by simp_arith) (by simp_arith) (by simp_arith) (by simp_arith) (by simp_arith) (by simp_arith) (by simp_arith) (by simp_arith) (by simp_arith) (by simp_arith) (by simp_arith) (by simp_arith) (by simp_arith) (by simp_arith) (by simp_arith) (by simp_arith) (by simp_arith) F base Bm)⟩
