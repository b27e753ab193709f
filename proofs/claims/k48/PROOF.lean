import PyProof.Rows.All
import Wide.All
import OpenK.AllK
import Wide.FinOn
import Lean
import PyProof.EqAt
import PyProof.EqKinds
import PyProof.TupleCall
import PyProof.NeKinds
import PyProof.CompFree
import PyProof.CompMap
import PyProof.ListRange
import PyProof.Rows.SortWalk
import PyProof.ExcArgsOwn
import PyProof.ExcAttrAll.ValueError
import KE.KTryMore
import PyProof.GenCompD
import PyProof.StrWalks
import PyProof.ConsumeS
import PyProof.StrOps2
import KE.KRevIter
import PyProof.Rows.FStr
import PyProof.ZipIter
import PyProof.DictWalks
import PyProof.DictCompW
import PyProof.DictRoads
import PyProof.MeetsDictList
import KE.KDictList
import PyProof.EnumFor
import PyProof.EnumMake
import PyProof.WalksEnum
import KE.KIntText
import PyProof.Rows.StrNews
import KE.KDictOf
import KE.KxMul
import PyProof.DictValues
import PySem.Challenge.RW_overhaul_k48_whole_home_again
noncomputable section
set_option compiler.extract_closed false
set_option Elab.async false
set_option linter.all false
set_option maxRecDepth 100000
open List renaming length_map→Rr,getElem?_eq_getElem→Rt,mem_map→Ru,getElem?_eq_some_iff→Rv,map_append→Rw,size_toArray→Rx,getElem?_map→Ry,mem_append→RC,map_cons→RD,mem_singleton→RF,mem_append_right→RH,mem_of_getElem?→RJ,map_map→RK,length_append→RL,mem_cons→RM,take_add_one→RQ,mem_filter→RU,length_take→RX,take_length→RY,getElem_mem→RZ,length_cons→R0,mem_cons_of_mem→R3,take_sublist→R4,mem_iff_getElem?→R5,map_congr_left→R6,lookup_cons→R9,getLast?_concat→R_,dropLast_concat_getLast→R',mem_cons_self→Sa,append_nil→Sd,mem_of_mem_take→Sg,not_mem_nil→Sh,filter_cons→Si,getElem?_set_self→Sj,getElem_of_mem→Sk,filter_eq_self→Sl,replicate→Sm,pairwise_iff_getElem→Sn,map_take→So,map_nil→Sq,nodup_append→Ss,filterMap_cons→Su,getElem?_eq_none→Sw,length→Sx,getElem?_append_left→Sy,mem_append_left→SA,getElem?_set_ne→SD,foldl_append→SE,mem_singleton_self→SF,getElem_inj→SG,length_drop→SH,getElem_map→SI,range→SJ,take_of_length_le→SK,cons_lt_cons_iff→SM,getElem?_append_right→SO,exists_cons_of_ne_nil→SQ,getD_eq_getElem?_getD→SR,getElem?_eq_none_iff→SS,mem_flatMap→SV,lookup→SW,mem_filterMap→SX,nodup_cons→SY,length_set→S0,length_nil→S1,pairwise_cons→S2,map_drop→S4,mem_range→S6,length_filter_le→S9,all_eq_true→S_,dropLast_concat→Ta,any_cons→Tb,mem_map_of_mem→Te,nil_append→Tf,filter_append→Th,getElem?_drop→Ti,drop_zero→Tj,nodup_nil→Tn,lookup_eq_some_iff→Tq,getElem?_cons_zero→Tr,getElem?_cons_succ→Ts,filter_eq_nil_iff→Tu,sum_replicate_nat→Tv,of_mem_zip→Tx,dropLast_eq_take→TB,filter_nil→TC,head?_cons→TH,filter_map→TK,eq_replicate_iff→TL,pairwise_append→TN,getElem?_range→TR,replicate_succ→TU,length_flatMap→TV,all_cons→TX,map→TY,zip_cons_cons→TZ,length_range→T3,flatten_cons→T4,append_assoc→T6,map_id'→T8,nil_lt_cons→T',any_eq_true→Ua,forIn_cons→Uc,getD→UB
open Nat renaming le_refl→Rz,le_trans→RN,lt_of_lt_of_le→RP,ne_of_lt→R1,zero_le→Sb,lt_of_le_of_lt→Se,lt_irrefl→Sv,lt_succ_self→SU,lt_or_eq_of_le→S3,not_lt_zero→Tc,le_of_lt→Tg,mul_div_cancel_left→Tt,ne_of_gt→Tw,mul_le_mul→TQ,lt_trichotomy→T5,min_self→T7,le_add_right→T_,min_eq_left→Ue
open Bool renaming false_eq_true→RV,and_eq_true→R7,false_ne_true→R8,and_true→SN,false_and→S7,and_false→S8,decide_and→Td,beq_eq_decide_eq→TF,and_eq_true_iff→TM,not_eq_true'→T2,eq_iff_iff→Ud
open Option renaming some→Sf,map_eq_some_iff→S5,isSome_iff_exists→To,map_some→Tz,getD_none→T9
namespace L2
open PySem PySem.Spec PyProof.Rows
abbrev Key:=Sum Int Str
def HP:Key→Value→Bool
 | .inl k,v=>Value.isInt k v
 | .inr x,v=>Value.isStrOf x v
def O0 (w:World):Key→Int
 | .inl k=>hashInt k
 | .inr x=>hashStr w x
theorem cx:∀{k:Key} {v:Value},HP k v=true→(∃i t,k=Sum.inl i∧v=Value.int i t)∨(∃x t,k=Sum.inr x∧v=Value.str x t)
 | .inl i,v,h=>by
  obtain ⟨t,e⟩:=Value.isInt_shape (k:=i) (v:=v) h
  exact .inl ⟨i,t,rfl,e⟩
 | .inr x,v,h=>by
  obtain ⟨t,e⟩:=Value.isStrOf_shape (x:=x) (v:=v) h
  exact .inr ⟨x,t,rfl,e⟩
theorem Jw (a b:Int):decide ((Sum.inl a:Key)=Sum.inl b)=(a == b):=by
 by_cases e:a=b
 ·subst e;simp
 ·have h:¬ (Sum.inl a:Key)=Sum.inl b:=λq=>e (Sum.inl.inj q)
  rw [decide_eq_false h]
  exact (beq_eq_false_iff_ne.mpr e).symm
theorem Jz (a b:Str):decide ((Sum.inr a:Key)=Sum.inr b)=decide (a=b):=by
 by_cases e:a=b
 ·subst e;simp
 ·have h:¬ (Sum.inr a:Key)=Sum.inr b:=λq=>e (Sum.inr.inj q)
  rw [decide_eq_false h,decide_eq_false e]
theorem Jx (a:Int) (b:Str):decide ((Sum.inl a:Key)=Sum.inr b)=false:=decide_eq_false (λq=>nomatch q)
theorem Jy (a:Str) (b:Int):decide ((Sum.inr a:Key)=Sum.inl b)=false:=decide_eq_false (λq=>nomatch q)
def Gn (prog:Program) (w:World):PySem.KeyKind prog w Key where
 is:=HP
 hash:=O0 w
 inj:=λv a b ha hb=>by
  rcases cx ha with ⟨i,t,rfl,rfl⟩ | ⟨x,t,rfl,rfl⟩
  ·rcases cx hb with ⟨j,u,rfl,e⟩ | ⟨y,u,rfl,e⟩
   ·injection e with e1 _;rw [e1]
   ·exact nomatch e
  ·rcases cx hb with ⟨j,u,rfl,e⟩ | ⟨y,u,rfl,e⟩
   ·exact nomatch e
   ·injection e with e1 _;rw [e1]
 byValue:=λk v h=>by
  rcases cx h with ⟨i,t,rfl,rfl⟩ | ⟨x,t,rfl,rfl⟩ <;> rfl
 pyHash:=λhv h=>by
  rcases cx hv with ⟨i,t,rfl,rfl⟩ | ⟨x,t,rfl,rfl⟩
  ·exact wpAny_pyHash_int h
  ·exact wpAny_pyHash_str h
 eqBool:=λhu hv h=>by
  rcases cx hu with ⟨i,t,rfl,rfl⟩ | ⟨x,t,rfl,rfl⟩
  ·rcases cx hv with ⟨j,u,rfl,rfl⟩ | ⟨y,u,rfl,rfl⟩
   ·rw [Jw] at h;exact wpAny_eqBool_int h
   ·rw [Jx] at h;exact SeqAt.EqAt.int_str i t y u _ _ _ _ h
  ·rcases cx hv with ⟨j,u,rfl,rfl⟩ | ⟨y,u,rfl,rfl⟩
   ·rw [Jy] at h;exact SeqAt.EqAt.str_int x t j u _ _ _ _ h
   ·rw [Jz] at h;exact wpAny_eqBool_str h
 «strs»:=λk x t v h=>by
  rcases cx h with ⟨i,u,rfl,e⟩ | ⟨y,u,rfl,e⟩
  ·exact nomatch e
  ·injection e with e1 _
   subst e1
   cases v <;> rfl
end L2
namespace L2
open PySem PySem.Spec PyProof.Rows
inductive V where
 | non | bl (b:Bool) | int (i:Int) | str (x:Str) | byt (b:Array UInt8) | flt (b:UInt64) | ref (a:Addr) | ty (n:String)
 deriving DecidableEq
def RelV:V→Value→Prop
 | .non,u=>u=Value.none
 | .bl b,u=>u=Value.bool b
 | .int i,u=>∃t,u=Value.int i t
 | .str x,u=>∃t,u=Value.str x t
 | .byt b,u=>∃t,u=Value.bytes b t
 | .flt b,u=>∃t,u=Value.float b t
 | .ref a,u=>u=Value.ref a
 | .ty n,u=>u=Value.type n
abbrev Vals:List V→List Value→Prop:=Paired RelV
theorem Vals.length {xs:List V} {us:List Value} (r:Vals xs us):xs.length=us.length:=Paired.length r
theorem Vals.get:∀{xs:List V} {us:List Value} {i:Nat} {x:V},Vals xs us→xs[i]?=some x→∃u,us[i]?=some u∧RelV x u
 | _,_,_,_,.nil,e=>by simp at e
 | _,_,0,_,.cons r _,e=>by simp at e;subst e;exact ⟨_,rfl,r⟩
 | _,_,i + 1,x,.cons _ t,e=>by
  obtain ⟨u,h1,h2⟩:=Vals.get (i:=i) (x:=x) t (by simpa using e)
  exact ⟨u,by simpa using h1,h2⟩
theorem Vals.set {x:V} {u:Value} (r:RelV x u):∀{xs:List V} {us:List Value} (i:Nat),Vals xs us→Vals (xs.set i x) (us.set i u)
 | _,_,_,.nil=>.nil
 | _,_,0,.cons _ t=>.cons r t
 | _,_,i + 1,.cons q t=>.cons q (Vals.set r i t)
theorem Vals.append:∀{xs ys:List V} {us ws:List Value},Vals xs us→Vals ys ws→Vals (xs ++ ys) (us ++ ws)
 | _,_,_,_,.nil,s=>s
 | _,_,_,_,.cons r t,s=>.cons r (Vals.append t s)
theorem Vals.take:∀{xs:List V} {us:List Value} (n:Nat),Vals xs us→Vals (xs.take n) (us.take n)
 | _,_,0,_=>.nil
 | _,_,_ + 1,.nil=>.nil
 | _,_,n + 1,.cons r t=>.cons r (Vals.take n t)
theorem Vals.drop:∀{xs:List V} {us:List Value} (n:Nat),Vals xs us→Vals (xs.drop n) (us.drop n)
 | _,_,0,r=>r
 | _,_,_ + 1,.nil=>.nil
 | _,_,n + 1,.cons _ t=>Vals.drop n t
def sH:Option V→Option Value→Prop
 | some v,some u=>RelV v u
 | none,none=>True
 | _,_=>False
def KV {κ:Type}:List (κ × V)→List (κ × Value)→Prop:=Paired λ(p:κ × V) (q:κ × Value)=>p.1=q.1∧RelV p.2 q.2
def kV:Key→V
 | .inl i=>.int i
 | .inr x=>.str x
inductive HO where
 | lst (xs:List V)
 | tup (xs:List V)
 | dK (kvs:List (Key × V)) | dE (kvs:List (Str × V)) (ep:Nat)
 | set (S:Int→Bool) (n:Nat)
 | ins (C dx:Addr) (fs:List (Str × V))
 | own (x:Addr)
 | xd (fs:List (Str × V))
 | met (f x:Addr)
 | Lq (lo hi:Int)
 | n6 (o:Obj) (u:HO)
 | tbl (ps:Array Value)
 | ext (φ:Heap→Prop)
abbrev Hp:=Addr→Option HO
def upd (H:Hp) (a:Addr) (o:HO):Hp:=λb=>if b=a then some o else H b
theorem aR {H:Hp} {a:Addr} {o:HO}:upd H a o a=some o:=by unfold upd;rw [if_pos rfl]
theorem aK {H:Hp} {a b:Addr} {o:HO} (h:b≠a):upd H a o b=H b:=by unfold upd;rw [if_neg h]
theorem eY {H:Hp} {a b:Addr} {o:HO} (h:H a=some o) (h':H b=none):a≠b:=by
 intro e;subst e;rw [h] at h';cases h'
section
variable (P:Program) (w:World)
def dD (H:Hp) (h:Heap) (a:Addr):HO→Prop
 | .lst xs=>xs.length≤sizeLine∧∃(its:List Value) (n:Nat),Vals xs its∧h.get? a=some { cls:=.type "list",data:=.seq its.toArray n }
 | .tup xs=>xs.length≤sizeLine∧∃its:List Value,Vals xs its∧IsTup h a its.toArray
 | .dK kvs=>kvs.length≤sizeLine∧(a == sysModules)=false∧∃vs,KV kvs vs∧h.DictOf (Gn P w) a vs
 | .dE kvs ep=>kvs.length≤sizeLine∧(a == sysModules)=false∧∃vs,KV kvs vs∧h.DictAt (strKind P w) a vs ep
 | .set S n=>h.SetOf (intKind P w) a S n
 | .ins C dx fs=>H dx=some (.own a)∧fs.length≤1000∧dx≠a∧h.get? a=some (PySem.W.instObj C dx) ∧
   ∃mA,h.Ns1 dx mA∧(∀f,sH (fs.lookup f) (mA f))∧PySem.Within mA (fs.map (·.1))
 | .own _=>∃o,h.get? a=some o
 | .xd fs=>∃mA,h.Ns1 a mA∧∀f,sH (fs.lookup f) (mA f)
 | .Lq lo hi=>∃t u v,h.get? a=some { cls:=.type "range",data:=.fields #[.int lo t,.int hi u,.int 1 v] }
 | .n6 o u=>h.get? a=some o∧dD H h a u
 | .tbl ps=>h.get? a=some { cls:=.none,data:=.fields ps }
 | .met f x=>h.get? a=some (PySem.W.methodObj (.ref f) (.ref x))
 | .ext φ=>φ h∧(∃o,h.get? a=some o)∧∀h1 h2:Heap,φ h1→(∀o,h1.get? a=some o→h2.get? a=some o)→φ h2
def l5 (H:Hp) (h:Heap):Prop:=∀a o,H a=some o→dD P w H h a o
end
section
variable {P:Program} {w:World} {H H':Hp} {h h':Heap} {a:Addr} {o:HO}
theorem dD.lt (x:dD P w H h a o):a < h.objs.size:=by
 cases o with
 | lst xs=>obtain ⟨_,_,_,_,e⟩:=x;exact Heap.lt_size e
 | tup xs=>obtain ⟨_,_,_,p⟩:=x;exact p.lt
 | dK kvs=>obtain ⟨_,_,_,_,o,_,_,e,_⟩:=x;exact Heap.lt_size e
 | dE kvs ep=>obtain ⟨_,_,_,_,o,_,e,_⟩:=x;exact Heap.lt_size e
 | set S n=>obtain ⟨o,_,_,_,e,_⟩:=x;exact Heap.lt_size e
 | ins C dx fs=>obtain ⟨_,_,_,e,_⟩:=x;exact Heap.lt_size e
 | own y=>obtain ⟨_,e⟩:=x;exact Heap.lt_size e
 | xd fs=>obtain ⟨_,⟨_,_,_,e,_⟩,_⟩:=x;exact Heap.lt_size e
 | Lq lo hi=>obtain ⟨_,_,_,e⟩:=x;exact Heap.lt_size e
 | n6 ob u=>obtain ⟨e,_⟩:=x;exact Heap.lt_size e
 | tbl ps=>exact Heap.lt_size (show h.get? a=some _ from x)
 | met f y=>exact Heap.lt_size (show h.get? a=some _ from x)
 | ext φ=>obtain ⟨_,⟨_,e⟩,_⟩:=x;exact Heap.lt_size e
theorem dD.lX (x:dD P w H h a o) (k:∀b u,(b=a∨H b=some (.own a))→h.get? b=some u→h'.get? b=some u)
  (ho:∀b,H b=some (.own a)→H' b=some (.own a)) (ht:∀b xs,H b=some (.tup xs)→H' b=some (.tup xs)):dD P w H' h' a o:=by
 induction o with
 | lst xs=>obtain ⟨z,its,n,r,e⟩:=x;exact ⟨z,its,n,r,k _ _ (.inl rfl) e⟩
 | tup xs=>obtain ⟨z,its,r,ob,e,c⟩:=x;exact ⟨z,its,r,ob,k _ _ (.inl rfl) e,c⟩
 | dK kvs=>obtain ⟨z,y,vs,r,ob,es,ep,e,c⟩:=x;exact ⟨z,y,vs,r,ob,es,ep,k _ _ (.inl rfl) e,c⟩
 | dE kvs ep=>obtain ⟨z,y,vs,r,ob,es,e,c⟩:=x;exact ⟨z,y,vs,r,ob,es,k _ _ (.inl rfl) e,c⟩
 | set S n=>obtain ⟨ob,es,ep,t,e,c⟩:=x;exact ⟨ob,es,ep,t,k _ _ (.inl rfl) e,c⟩
 | ins C dx fs =>
  obtain ⟨d,z,ne,e,mA,⟨od,es,ep,e2,c⟩,r⟩:=x
  exact ⟨ho _ d,z,ne,k _ _ (.inl rfl) e,mA,⟨od,es,ep,k _ _ (.inr d) e2,c⟩,r⟩
 | own y=>obtain ⟨ob,e⟩:=x;exact ⟨ob,k _ _ (.inl rfl) e⟩
 | xd fs=>obtain ⟨mA,⟨od,es,ep,e,c⟩,r⟩:=x;exact ⟨mA,⟨od,es,ep,k _ _ (.inl rfl) e,c⟩,r⟩
 | Lq lo hi=>obtain ⟨t,u,v,e⟩:=x;exact ⟨t,u,v,k _ _ (.inl rfl) e⟩
 | n6 ob u ih=>obtain ⟨e,q⟩:=x;exact ⟨k _ _ (.inl rfl) e,ih q⟩
 | tbl ps =>
  have e:h.get? a=some { cls:=.none,data:=.fields ps }:=x
  show h'.get? a=some { cls:=.none,data:=.fields ps }
  exact k a _ (.inl rfl) e
 | met f y =>
  have e:h.get? a=some (PySem.W.methodObj (.ref f) (.ref y)):=x
  show h'.get? a=some (PySem.W.methodObj (.ref f) (.ref y))
  exact k a _ (.inl rfl) e
 | ext φ=>obtain ⟨p,⟨o,e⟩,st⟩:=x;exact ⟨st _ _ p λo q=>k _ _ (.inl rfl) q,⟨o,k _ _ (.inl rfl) e⟩,st⟩
theorem l5.lt (x:l5 P w H h) (e:H a=some o):a < h.objs.size:=(x a o e).lt
theorem l5.fresh (x:l5 P w H h) (e:h.objs.size≤a):H a=none:=by
 cases q:H a with
 | none=>rfl
 | some u=>exact absurd (RP (x.lt q) e) (Sv _)
theorem l5.kept (x:l5 P w H h) (k:∀b u,h.get? b=some u→h'.get? b=some u):l5 P w H h':=λa o e =>
 (x a o e).lX (λb u _ q=>k b u q) (λ_ q=>q) λ_ _ q=>q
theorem l5.laid (x:l5 P w H h) (k:∀b u,h.get? b=some u→h'.get? b=some u) (hp:h.objs.size≤a) (new:dD P w (upd H a o) h' a o):l5 P w (upd H a o) h':=λb u e=>by
 have hn:=x.fresh hp
 by_cases hb:b=a
 ·subst hb;rw [aR] at e;cases e;exact new
 ·rw [aK hb] at e
  exact (x b u e).lX (λc v _ q=>k c v q) (λc q=>by rw [aK (eY q hn)];exact q) λc xs q=>by rw [aK (eY q hn)];exact q
end
def Rd (H:Hp) (a:Addr) (u:HO):Prop:=H a=some u∨∃o,H a=some (.n6 o u)
theorem Rd.ok {P:Program} {w:World} {H:Hp} {h:Heap} {a:Addr} {u:HO} (r:Rd H a u) (x:l5 P w H h):dD P w H h a u:=by
 rcases r with r | ⟨o,r⟩
 ·exact x a u r
 ·obtain ⟨_,q⟩:=x a _ r
  exact q
def N_:Option HO→Prop
 | some (.lst _)=>True
 | some (.dK _)=>True
 | some (.dE _ _)=>True
 | some (.set _ _)=>True
 | some (.ins _ _ _)=>True
 | some (.ext _)=>True
 | _=>False
section
variable {P:Program} {w:World} {H:Hp} {h h':Heap} {x e:Addr} {o':HO}
theorem l5.write (ok:l5 P w H h) (mu:N_ (H x)) (he:e=x∨H e=some (.own x)) (k:∀b u,b≠e→h.get? b=some u→h'.get? b=some u) (heo:∃u,h'.get? e=some u)
  (new:dD P w (upd H x o') h' x o'):l5 P w (upd H x o') h':=λb u q=>by
 have nown:∀c y,H c=some (.own y)→c≠x:=λc y r z=>by subst z;rw [r] at mu;exact mu
 have ntup:∀c xs,H c=some (.tup xs)→c≠x:=λc xs r z=>by subst z;rw [r] at mu;exact mu
 by_cases hb:b=x
 ·subst hb;rw [aR] at q;cases q;exact new
 ·rw [aK hb] at q
  by_cases hbe:b=e
  ·have q':H b=some (.own x):=by
    rcases he with z | z
    ·exact absurd (hbe.trans z) hb
    ·rw [hbe];exact z
   rw [q] at q';cases q'
   obtain ⟨v,hv⟩:=heo
   exact ⟨v,by rw [hbe];exact hv⟩
  ·refine (ok b u q).lX (λc v hc r=>k c v ?_ r) (λc r=>by rw [aK (nown c b r)];exact r) λc xs r=>by rw [aK (ntup c xs r)];exact r
   rcases hc with rfl | hc
   ·exact hbe
   ·rintro rfl
    rcases he with z | z
    ·exact nown c b hc z
    ·rw [hc] at z;cases z;exact hb rfl
end
structure Un (fs ex:List Addr) (H H':Hp) (h h':Heap):Prop where
 keep:∀b o,h.get? b=some o→H b=none→b ∉ fs→b ∉ ex→h'.get? b=some o
 slot:∀b o,h.get? b=some o→H b=none→b∈fs→b ∉ ex→∃sl,h'.get? b=some { o with slots:=sl }
 free:∀b o,h.get? b=some o→H b=none→b ∉ ex→H' b=none
 there:∀b o,h.get? b=some o→b ∉ ex→∃o',h'.get? b=some o'
 tups:∀b xs,H b=some (.tup xs)→H' b=some (.tup xs)
 frzs:∀b o u,H b=some (.n6 o u)→H' b=some (.n6 o u)
 tbls:∀b ps,H b=some (.tbl ps)→∃more,H' b=some (.tbl (ps ++ more))
section
variable {fs fs' ex ex':List Addr} {H H1 H2:Hp} {h h1 h2 h':Heap} {a x e:Addr} {o:HO}
theorem Un.any (u:Un fs ex H H1 h h1) {b:Addr} {ob:Obj} (q:h.get? b=some ob) (n:H b=none) (hx:b ∉ ex):∃sl,h1.get? b=some { ob with slots:=sl }:=by
 by_cases hb:b∈fs
 ·exact u.slot b ob q n hb hx
 ·exact ⟨ob.slots,u.keep b ob q n hb hx⟩
theorem Un.kept (k:∀b u,h.get? b=some u→h'.get? b=some u):Un fs ex H H h h' :=
 ⟨λb ob q _ _ _=>k b ob q,λb ob q _ _ _=>⟨ob.slots,k b ob q⟩,λ_ _ _ n _=>n,λb ob q _=>⟨ob,k b ob q⟩,λ_ _ q=>q,λ_ _ _ q=>q,λ_ ps q=>⟨#[],by rw [q];simp⟩⟩
theorem Un.refl:Un fs ex H H h h:=Un.kept λ_ _ q=>q
theorem Un.laid (k:∀b u,h.get? b=some u→h'.get? b=some u) (hp:h.objs.size≤a) (hn:H a=none):Un fs ex H (upd H a o) h h' where
 keep:=λb u q _ _ _=>k b u q
 slot:=λb u q _ _ _=>⟨u.slots,k b u q⟩
 free:=λb u q n _=>by rw [aK (R1 (RP (Heap.lt_size q) hp))];exact n
 there:=λb u q _=>⟨u,k b u q⟩
 tups:=λb xs q=>by rw [aK (eY q hn)];exact q
 frzs:=λb u xs q=>by rw [aK (eY q hn)];exact q
 tbls:=λb ps q=>⟨#[],by rw [aK (eY q hn),q];simp⟩
theorem Un.write (mu:N_ (H x)) (he:e=x∨H e=some (.own x)) (k:∀b u,b≠e→h.get? b=some u→h'.get? b=some u) (heo:∃u,h'.get? e=some u):Un fs ex H (upd H x o) h h':=by
 have hx:∀b,H b=none→b≠x:=λb n z=>by subst z;rw [n] at mu;exact mu
 have hb:∀b,H b=none→b≠e:=λb n z=>by
  subst z
  rcases he with r | r
  ·exact hx b n r
  ·rw [n] at r;cases r
 have hm:∀b u,H b=some u→¬ N_ (some u)→b≠x:=λb u q nm z=>by subst z;rw [q] at mu;exact nm mu
 refine ⟨λb u q n _ _=>k b u (hb b n) q,λb u q n _ _=>⟨u.slots,k b u (hb b n) q⟩,λb u q n _=>by rw [aK (hx b n)];exact n,λb u q _=>?_,
  λb xs q=>by rw [aK (hm b _ q λz=>z)];exact q,λb u xs q=>by rw [aK (hm b _ q λz=>z)];exact q,λb ps q=>⟨#[],by rw [aK (hm b _ q λz=>z),q];simp⟩⟩
 by_cases hbe:b=e
 ·subst hbe;exact heo
 ·exact ⟨u,k b u hbe q⟩
end
def Oy (h:Heap) (H:Hp):List Addr:=(SJ h.objs.size).filter λa=>(H a).isSome
def sL (h:Heap) (H:Hp):Heap:=PySem.W.hideAll h (Oy h H)
theorem BV (h:Heap) (H:Hp):(sL h H).objs.size=h.objs.size:=PySem.W.hideAll_size _ _
theorem Dy {h:Heap} {H:Hp} {b:Addr} {o:Obj} (e:h.get? b=some o) (n:H b=none):(sL h H).get? b=some o :=
 PySem.W.hideAll_get _ e λhm=>by
  have q:(H b).isSome=true:=(RU.mp hm).2
  rw [n] at q;simp at q
theorem Gu {h:Heap} {H:Hp} {b:Addr} {o:Obj} (e:(sL h H).get? b=some o):h.get? b=some o∧H b=none:=by
 have e':h.get? b=some o:=PySem.W.of_hideAll (Oy h H) e
 refine ⟨e',?_⟩
 cases q:H b with
 | none=>rfl
 | some x =>
  have hm:b∈Oy h H:=RU.mpr ⟨S6.mpr (Heap.lt_size e'),by simp [q]⟩
  have z:(sL h H).get? b=none:=PySem.W.hideAll_none (Oy h H) hm
  rw [z] at e;cases e
def FW (g h:Heap) (L:Addr):List (Addr × Obj):=(SJ h.objs.size).filterMap λa=>if a=L∨(g.get? a).isSome=true then none else (h.get? a).map λo=>(a,o)
def rest (g h:Heap) (L d:Addr):List (Addr × Obj):=(FW g h L).filter λp=>decide (p.1≠d)
end L2
namespace L2
open PySem PySem.Spec PyProof.Rows
structure Mod (K:PySem.W.Frag) (mg:Str→Option Value) (base:Heap):Prop where
 kin:K.In base
 glob:base.Ns mainGlobals mg
 blt:∃mb,base.Ns builtinsNs mb∧∀x:Str,x≠"__name__"→mb x=bootBuiltins x
 nolimit:base.NoLimit
structure Cx where
 prog:Program
 w:World
 K:PySem.W.Frag
 mg:Str→Option Value
 base:Heap
 A:Around
 N:List Str
 s₀:Shared
 H₀:Hp
 env:Env
 outer:List Env
 stack:List Env
 ex:List Addr
 fn:Str→Bool
 calm:Bool
 pn:List (Addr × Obj)
 xe:Value→Shared→Prop
def jl (l:List Env):List Addr:=l.filterMap (·.frame)
abbrev Cx.fs (X:Cx):List Addr:=jl X.outer
def pM (sc:Scope) (x:Str):Prop:=sc.names.lookup x=some .local∨sc.names.lookup x=some .cell∨sc.names.lookup x=some .free
def Loc (sc:Scope) (x:Str):Prop:=sc.names.lookup x=some .local∨sc.names.lookup x=some .cell
def Look (env:Env) (h:Heap) (m:Str→Option Value) (x:Str) (u:Value):Prop :=
 (env.kindOf x=some .local∧m x=some u)∨((env.kindOf x=some .cell∨env.kindOf x=some .free)∧∃c,env.cells.lookup x=some c∧h.IsCell c (some u))
structure Cx.Ok (X:Cx):Prop where
 mod:Mod X.K X.mg X.base
 kind:X.env.scope.kind=.function
 glob:X.env.globals=mainGlobals
 blt:X.env.builtins=builtinsNs
 above:X.s₀.heap.objs.size≤X.env.locals
 inj:∀x y c,X.env.cells.lookup x=some c→X.env.cells.lookup y=some c→x=y
 has:∀x,(X.env.kindOf x=some .cell∨X.env.kindOf x=some .free)→∃c,X.env.cells.lookup x=some c
 cab:∀x c,X.fn x=true→X.env.cells.lookup x=some c→X.s₀.heap.objs.size≤c
 hd:X.calm=true→X.A.handled=none
 frames:X.A.frames=some X.stack
 stk:X.stack=X.outer∨(X.stack=X.env :: X.outer∧X.env.frame=some X.env.locals)
 exf:∀b∈X.ex,b≠X.env.locals∧∀x c,X.env.cells.lookup x=some c→c≠b
 bs:∀b o,X.base.get? b=some o→X.s₀.heap.get? b=some o∧X.H₀ b=none
 bsz:X.base.objs.size≤X.s₀.heap.objs.size
 noex:∀b o,X.base.get? b=some o→b ∉ X.ex
 exfs:∀b∈X.ex,b ∉ X.fs
 n8:X.s₀.heap.FunFrames X.base X.outer
 frf:∀b∈X.fs,X.H₀ b=none
structure Inv (X:Cx) (pins:List (Addr × Obj)) (σ:List (Option V)) (H:Hp) (s:Shared):Prop where
 ok:X.Ok
 os:s.os=X.s₀.os
 bare:AllBare s.gens
 base:Un X.fs X.ex X.H₀ H X.s₀.heap s.heap
 loc:∃m,s.heap.Ns X.env.locals m∧∀(i:Nat) (x:Str) (v:V),X.N[i]?=some x→σ[i]?=some (some v)→pM X.env.scope x→∃u,RelV v u∧Look X.env s.heap m x u
 cell:∀x c,X.env.cells.lookup x=some c→∃v,s.heap.IsCell c v
 free:H X.env.locals=none
 freeC:∀x c,X.env.cells.lookup x=some c→H c=none
 pin:∀p∈X.pn ++ pins,s.heap.get? p.1=some p.2∧H p.1=none∧p.1≠X.env.locals∧p.1 ∉ X.fs∧∀v,p.2.data≠.cell v
 hok:l5 X.prog X.w H s.heap
 len:σ.length=X.N.length
section
variable {X:Cx} {pins:List (Addr × Obj)} {σ:List (Option V)} {H H':Hp} {s:Shared} {h':Heap}
theorem Cx.Ok.Pb (ok:X.Ok) {b:Addr} {o:Obj} (e:X.base.get? b=some o):b ∉ X.fs:=λhb=>by
 have:=(ok.n8.mem hb).1
 rw [e] at this;cases this
theorem Inv.bs (I:Inv X pins σ H s):∀b o,X.base.get? b=some o→s.heap.get? b=some o∧H b=none:=λb o e =>
 ⟨I.base.keep b o (I.ok.bs b o e).1 (I.ok.bs b o e).2 (I.ok.Pb e) (I.ok.noex b o e),I.base.free b o (I.ok.bs b o e).1 (I.ok.bs b o e).2 (I.ok.noex b o e)⟩
theorem Inv.bk (I:Inv X pins σ H s):∀b o,X.base.get? b=some o→s.heap.get? b=some o:=λb o e=>(I.bs b o e).1
theorem Inv.mod (I:Inv X pins σ H s):Mod X.K X.mg X.base:=I.ok.mod
theorem Inv.mG (I:Inv X pins σ H s):X.K.In s.heap:=I.ok.mod.kin.keeps I.bk
theorem Inv.nolimit (I:Inv X pins σ H s):s.heap.NoLimit:=I.ok.mod.nolimit.keeps I.bk
theorem Inv.fr (I:Inv X pins σ H s):∃m,Fr X.base X.env.locals s.heap m :=
 let ⟨m,hn,_⟩:=I.loc
 ⟨m,hn,I.bk,RN I.ok.bsz I.ok.above⟩
theorem Inv.lt (I:Inv X pins σ H s):X.env.locals < s.heap.objs.size:=let ⟨_,hn,_⟩:=I.loc;hn.lt
theorem Inv.sz (I:Inv X pins σ H s):X.s₀.heap.objs.size≤s.heap.objs.size:=RN I.ok.above (Tg I.lt)
theorem Inv.Pc (I:Inv X pins σ H s) {a:Addr} (h:s.heap.objs.size≤a):a ∉ X.fs:=λhb=>by
 obtain ⟨_,o,ho,_⟩:=I.ok.n8.mem hb
 exact absurd (RP (Heap.lt_size ho) (RN I.sz h)) (Sv _)
theorem Inv.Jc (I:Inv X pins σ H s):∀x c,X.env.cells.lookup x=some c→c≠X.env.locals:=λx c e z=>by
 obtain ⟨v,o,ho,hd⟩:=I.cell x c e
 obtain ⟨m,⟨o',es,ep,ho',hd',_⟩,_⟩:=I.loc
 rw [z,ho'] at ho;cases ho;rw [hd'] at hd;cases hd
theorem Inv.n8 (I:Inv X pins σ H s):s.heap.FunFrames X.base X.outer:=by
 have all:∀(l:List Env),(∀b∈jl l,b∈X.fs)→X.s₀.heap.FunFrames X.base l→s.heap.FunFrames X.base l:=by
  intro l
  induction l with
  | nil=>intro _ _;trivial
  | cons env r ih =>
   intro hs hl
   obtain ⟨hk,⟨L,o,hf,hn,ho,hd⟩,hr⟩:=hl
   have hL:L∈X.fs:=hs L (by unfold jl;rw [Su,hf];exact Sa)
   obtain ⟨sl,e⟩:=I.base.slot L o ho (I.ok.frf L hL) hL λz=>I.ok.exfs L z hL
   exact ⟨hk,⟨L,_,hf,hn,e,hd⟩,ih (λb hb=>hs b (by unfold jl;rw [Su,hf];exact R3 _ hb)) hr⟩
 exact all X.outer (λ_ hb=>hb) I.ok.n8
theorem Inv.stack (I:Inv X pins σ H s):s.heap.FunFrames X.base X.stack:=by
 rcases I.ok.stk with e | ⟨e,hf⟩
 ·rw [e];exact I.n8
 ·rw [e]
  obtain ⟨m,hn,_⟩:=I.loc
  refine .cons (by rw [I.ok.kind];decide) hf hn ?_ I.n8
  exact Heap.get?_none_of_le (RN I.ok.bsz I.ok.above)
theorem Inv.oP (I:Inv X pins σ H s):∀b∈jl X.stack,b∈X.env.locals :: X.fs:=λb hb=>by
 rcases I.ok.stk with e | ⟨e,hf⟩
 ·rw [e] at hb;exact R3 _ hb
 ·rw [e] at hb
  unfold jl at hb
  rw [Su,hf] at hb
  exact hb
theorem Inv.wN (I:Inv X pins σ H s):∀b∈jl X.stack,H b=none:=λb hb=>by
 rcases RM.mp (I.oP b hb) with e | hb
 ·rw [e];exact I.free
 ·obtain ⟨_,o,ho,_⟩:=I.ok.n8.mem hb
  exact I.base.free b o ho (I.ok.frf b hb) λz=>I.ok.exfs b z hb
theorem Inv.step {g':Array GenState} {t':Nat} {d':Drawn} {ch:List Addr} (I:Inv X pins σ H s)
  (hch:∀b∈ch,(b∈X.ex∨X.s₀.heap.objs.size≤b)∧b≠X.env.locals∧(∀x c,X.env.cells.lookup x=some c→c≠b)∧∀p∈X.pn ++ pins,p.1≠b)
  (keep:∀b o,b≠X.env.locals→b ∉ X.fs→b ∉ ch→s.heap.get? b=some o→H b=none→h'.get? b=some o)
  (slot:∀b o,b≠X.env.locals→b∈X.fs→b ∉ ch→s.heap.get? b=some o→H b=none→∃sl,h'.get? b=some { o with slots:=sl }) (free:∀b o,b ∉ ch→s.heap.get? b=some o→H b=none→H' b=none)
  (there:∀b o,b ∉ ch→s.heap.get? b=some o→∃o',h'.get? b=some o')
  (tups:∀b xs,H b=some (.tup xs)→H' b=some (.tup xs)) (frzs:∀b o u,H b=some (.n6 o u)→H' b=some (.n6 o u)) (tbls:∀b ps,H b=some (.tbl ps)→∃more,H' b=some (.tbl (ps ++ more)))
  (ns:∀m,s.heap.Ns X.env.locals m→h'.Ns X.env.locals m) (hok:l5 X.prog X.w H' h') (hg:AllBare g') :
  Inv X pins σ H' { s with heap:=h',gens:=g',drawn:=d',toks:=t' }:=by
 have neL:∀b o,X.s₀.heap.get? b=some o→b≠X.env.locals:=λb o e=>R1 (RP (Heap.lt_size e) I.ok.above)
 have neC:∀b o,X.s₀.heap.get? b=some o→b ∉ X.ex→b ∉ ch:=λb o e hx hb=>by
  rcases (hch b hb).1 with z | z
  ·exact hx z
  ·exact absurd (RP (Heap.lt_size e) z) (Sv _)
 have cellK:∀x c,X.env.cells.lookup x=some c→∀v,s.heap.IsCell c v→h'.IsCell c v:=λx c e v ⟨o,ho,hd⟩=>by
  have nch:c ∉ ch:=λz=>(hch c z).2.2.1 x c e rfl
  by_cases hc:c∈X.fs
  ·obtain ⟨sl,q⟩:=slot c o (I.Jc x c e) hc nch ho (I.freeC x c e)
   exact ⟨_,q,hd⟩
  ·exact ⟨o,keep c o (I.Jc x c e) hc nch ho (I.freeC x c e),hd⟩
 refine ⟨I.ok,I.os,hg,⟨λb o e n hb hx=>?_,λb o e n hb hx=>?_,λb o e n hx=>?_,λb o e hx=>?_,λb xs e=>tups b xs (I.base.tups b xs e),λb o xs e=>frzs b o xs (I.base.frzs b o xs e),λb ps e=>?_⟩,?_,λx c e=>?_,?_,λx c e=>?_,λp hp=>?_,hok,I.len⟩
 ·exact keep b o (neL b o e) hb (neC b o e hx) (I.base.keep b o e n hb hx) (I.base.free b o e n hx)
 ·obtain ⟨sl,e1⟩:=I.base.slot b o e n hb hx
  obtain ⟨sl',e2⟩:=slot b _ (neL b o e) hb (neC b o e hx) e1 (I.base.free b o e n hx)
  exact ⟨sl',e2⟩
 ·obtain ⟨o',e1⟩:=I.base.there b o e hx
  exact free b o' (neC b o e hx) e1 (I.base.free b o e n hx)
 ·obtain ⟨o',e1⟩:=I.base.there b o e hx
  exact there b o' (neC b o e hx) e1
 ·obtain ⟨m1,e1⟩:=I.base.tbls b ps e
  obtain ⟨m2,e2⟩:=tbls b _ e1
  exact ⟨m1 ++ m2,by rw [e2,Array.append_assoc]⟩
 ·obtain ⟨m,hn,hl⟩:=I.loc
  refine ⟨m,ns m hn,λi x v e1 e2 e3=>?_⟩
  obtain ⟨u,r,l⟩:=hl i x v e1 e2 e3
  refine ⟨u,r,?_⟩
  rcases l with l | ⟨k,c,e,z⟩
  ·exact .inl l
  ·exact .inr ⟨k,c,e,cellK x c e _ z⟩
 ·obtain ⟨v,z⟩:=I.cell x c e
  exact ⟨v,cellK x c e v z⟩
 ·obtain ⟨m,⟨o,_,_,ho,_⟩,_⟩:=I.loc
  exact free _ o (λz=>(hch _ z).2.1 rfl) ho I.free
 ·obtain ⟨v,o,ho,hd⟩:=I.cell x c e
  exact free c o (λz=>(hch c z).2.2.1 x c e rfl) ho (I.freeC x c e)
 ·obtain ⟨e,n,ne,nf,d⟩:=I.pin p hp
  have nch:p.1 ∉ ch:=λz=>(hch p.1 z).2.2.2 p hp rfl
  exact ⟨keep p.1 p.2 ne nf nch e n,free p.1 p.2 nch e n,ne,nf,d⟩
theorem Inv.un {t':Nat} (I:Inv X pins σ H s) (u:Un X.fs [] H H' s.heap h') (hok:l5 X.prog X.w H' h'):Inv X pins σ H' { s with heap:=h',toks:=t' }:=by
 obtain ⟨m,⟨o,es,ep,ho,r⟩,_⟩:=id I.loc
 obtain ⟨sl,hL⟩:=u.any ho I.free (by simp)
 exact I.step (g':=s.gens) (d':=s.drawn) (ch:=[]) (λ_ z=>nomatch z) (λb o _ hb _ e n=>u.keep b o e n hb (by simp)) (λb o _ hb _ e n=>u.slot b o e n hb (by simp)) (λb o _ e n=>u.free b o e n (by simp)) (λb o _ e=>u.there b o e (by simp)) u.tups u.frzs u.tbls (λm' hm=>by
  obtain ⟨o',es',ep',ho',r'⟩:=hm
  rw [ho] at ho';cases ho'
  exact ⟨_,es',ep',hL,r'⟩) hok I.bare
theorem Inv.call {g':Array GenState} {t':Nat} {d':Drawn} {ch:List Addr} (I:Inv X pins σ H s) (u:Un (jl X.stack) ch H H' s.heap h') (hok:l5 X.prog X.w H' h') (hg:AllBare g')
  (hch:∀b∈ch,(b∈X.ex∨X.s₀.heap.objs.size≤b)∧b≠X.env.locals∧(∀x c,X.env.cells.lookup x=some c→c≠b)∧∀p∈X.pn ++ pins,p.1≠b) :
  Inv X pins σ H' { s with heap:=h',gens:=g',drawn:=d',toks:=t' }:=by
 obtain ⟨m,⟨o,es,ep,ho,r⟩,_⟩:=id I.loc
 obtain ⟨sl,hL⟩:=u.any ho I.free λz=>(hch _ z).2.1 rfl
 exact I.step (ch:=ch) hch (λb o hL hb hc e n=>u.keep b o e n (λz=>(RM.mp (I.oP b z)).elim hL hb) hc) (λb o _ _ hc e n=>u.any e n hc) (λb o hc e n=>u.free b o e n hc) (λb o hc e=>u.there b o e hc) u.tups u.frzs u.tbls (λm' hm=>by
  obtain ⟨o',es',ep',ho',r'⟩:=hm
  rw [ho] at ho';cases ho'
  exact ⟨_,es',ep',hL,r'⟩) hok hg
theorem Inv.turned {t':Nat} {it:Addr} (I:Inv X pins σ H s) (k:∀b o,b≠it→s.heap.get? b=some o→h'.get? b=some o) (hn:H it=none) (hL:it≠X.env.locals)
  (h1:it∈X.ex∨X.s₀.heap.objs.size≤it) (h2:∀x c,X.env.cells.lookup x=some c→c≠it) (h3:∀p∈X.pn ++ pins,p.1≠it):Inv X pins σ H { s with heap:=h',toks:=t' }:=by
 have nit:∀b u,H b=some u→b≠it:=λb u e z=>by rw [z,hn] at e;cases e
 refine I.step (g':=s.gens) (d':=s.drawn) (ch:=[it]) (λb hb=>?_) (λb o _ _ hc e _=>k b o (λz=>hc (by simp [z])) e) (λb o _ _ hc e _=>⟨o.slots,k b o (λz=>hc (by simp [z])) e⟩) (λ_ _ _ _ n=>n)
  (λb o hc e=>⟨o,k b o (λz=>hc (by simp [z])) e⟩) (λ_ _ e=>e) (λ_ _ _ e=>e) (λb ps e=>⟨#[],by rw [e];simp⟩) (λm hm=>?_) (λb u e=>?_) I.bare
 ·have e:b=it:=by simpa using hb
  subst e
  exact ⟨h1,hL,h2,h3⟩
 ·obtain ⟨o,es,ep,ho,r⟩:=hm
  exact ⟨o,es,ep,k _ o (Ne.symm hL) ho,r⟩
 ·refine (I.hok b u e).lX (λc v hc q=>k c v ?_ q) (λ_ q=>q) λ_ _ q=>q
  rcases hc with z | z
  ·rw [z];exact nit b u e
  ·exact nit c _ z
theorem Inv.tok (I:Inv X pins σ H s) (t:Nat):Inv X pins σ H { s with toks:=t }:=I.un (h':=s.heap) (t':=t) Un.refl I.hok
theorem Inv.kept {t':Nat} (I:Inv X pins σ H s) (k:∀b u,s.heap.get? b=some u→h'.get? b=some u):Inv X pins σ H { s with heap:=h',toks:=t' }:=I.un (Un.kept k) (I.hok.kept k)
theorem Inv.laid {a:Addr} {o:HO} {t':Nat} (I:Inv X pins σ H s) (k:∀b u,s.heap.get? b=some u→h'.get? b=some u) (hp:s.heap.objs.size≤a) (new:dD X.prog X.w (upd H a o) h' a o) :
  Inv X pins σ (upd H a o) { s with heap:=h',toks:=t' }:=I.un (Un.laid k hp (I.hok.fresh hp)) (I.hok.laid k hp new)
theorem Inv.write {x e:Addr} {o:HO} {t':Nat} (I:Inv X pins σ H s) (mu:N_ (H x)) (he:e=x∨H e=some (.own x)) (k:∀b u,b≠e→s.heap.get? b=some u→h'.get? b=some u) (heo:∃u,h'.get? e=some u)
  (new:dD X.prog X.w (upd H x o) h' x o):Inv X pins σ (upd H x o) { s with heap:=h',toks:=t' }:=I.un (Un.write mu he k heo) (I.hok.write mu he k heo new)
theorem Inv.AR {pins':List (Addr × Obj)} (I:Inv X pins σ H s) (h:∀p∈pins',s.heap.get? p.1=some p.2∧H p.1=none∧p.1≠X.env.locals∧p.1 ∉ X.fs∧∀v,p.2.data≠.cell v):Inv X pins' σ H s :=
 ⟨I.ok,I.os,I.bare,I.base,I.loc,I.cell,I.free,I.freeC,λp hp=>(RC.mp hp).elim (λz=>I.pin p (SA _ z)) (h p),I.hok,I.len⟩
theorem xH {N:List Str} (hN:N.Nodup) {i j:Nat} {x:Str} (a:N[i]?=some x) (b:N[j]?=some x):i=j:=by
 obtain ⟨h1,e1⟩:=Rv.mp a
 obtain ⟨h2,e2⟩:=Rv.mp b
 exact (SG hN).mp (e1.trans e2.symm)
theorem oQ {M:Model} {A:Around} {E:Value→Shared→Prop} {i:Nat} {x:Str} {v:V} {u:Value} {Q:Unit→Shared→Prop} (I:Inv X pins σ H s) (hN:X.N.Nodup) (hi:X.N[i]?=some x) (hx:Loc X.env.scope x) (r:RelV v u)
  (h:∀s',Inv X pins (σ.set i (some v)) H s'→(∃a,Heap.SameBut a s.heap s'.heap∧(a=X.env.locals∨X.env.cells.lookup x=some a))→Q () s') (hf:X.fn x=true∨X.env.scope.names.lookup x=some .local:=by first | exact .inl rfl | exact .inr rfl | assumption):wpAny M A (storeName X.env x u) Q E s:=by
 obtain ⟨m,hn,hl⟩:=id I.loc
 have hcls:(X.env.scope.kind == .class || (X.env.scope.kind == .module && X.env.locals != X.env.globals))=false:=by rw [I.ok.kind];rfl
 have hiσ:i < σ.length:=by rw [I.len];exact (Rv.mp hi).1
 have Jc:=I.Jc
 have tracked:∀{a:Addr} {h':Heap},(∃o,s.heap.get? a=some o∧H a=none)→Heap.SameBut a s.heap h'→l5 X.prog X.w H h':=λ{a h'} ha hs b ob e=>by
  obtain ⟨_,_,hfree⟩:=ha
  refine (I.hok b ob e).lX (λc w' hc q=>(hs.2 c ?_).trans q) (λ_ q=>q) λ_ _ q=>q
  rintro rfl
  rcases hc with rfl | hc
  ·rw [hfree] at e;cases e
  ·rw [hfree] at hc;cases hc
 rcases hx with hk | hk
 ·refine wpAny_storeName_local hk hn (λh' hn' hs=>?_) hcls
  obtain ⟨oL,_,_,hoL,_⟩:=id hn
  refine h _ ⟨I.ok,I.os,I.bare,⟨λb o e n hb hx=>?_,λb o e n hb hx=>?_,I.base.free,λb o e hx=>?_,I.base.tups,I.base.frzs,I.base.tbls⟩,⟨_,hn',λj y v' e1 e2 e3=>?_⟩,λy c e=>?_,I.free,I.freeC,λp hp=>?_,tracked ⟨oL,hoL,I.free⟩ hs,by simpa using I.len⟩ ⟨_,hs,.inl rfl⟩
  ·exact (hs.2 b (R1 (RP (Heap.lt_size e) I.ok.above))).trans (I.base.keep b o e n hb hx)
  ·obtain ⟨sl,e1⟩:=I.base.slot b o e n hb hx
   exact ⟨sl,(hs.2 b (R1 (RP (Heap.lt_size e) I.ok.above))).trans e1⟩
  ·obtain ⟨o',e1⟩:=I.base.there b o e hx
   exact ⟨o',(hs.2 b (R1 (RP (Heap.lt_size e) I.ok.above))).trans e1⟩
  ·by_cases hj:j=i
   ·subst hj
    rw [hi] at e1;cases e1
    rw [Sj hiσ] at e2
    cases e2
    exact ⟨u,r,.inl ⟨hk,by simp⟩⟩
   ·rw [SD (Ne.symm hj)] at e2
    obtain ⟨u',r',q⟩:=hl j y v' e1 e2 e3
    refine ⟨u',r',?_⟩
    rcases q with ⟨k,e⟩ | ⟨k,c,e,z⟩
    ·refine .inl ⟨k,?_⟩
     have:y≠x:=λe=>hj (xH hN e1 (e ▸ hi))
     simp [this,e]
    ·exact .inr ⟨k,c,e,z.sameBut hs (Jc y c e)⟩
  ·obtain ⟨w',z⟩:=I.cell y c e
   exact ⟨w',z.sameBut hs (Jc y c e)⟩
  ·obtain ⟨e,n,ne,nf,d⟩:=I.pin p hp
   exact ⟨(hs.2 p.1 ne).trans e,n,ne,nf,d⟩
 ·have hfn:X.fn x=true:=by
   rcases hf with z | z
   ·exact z
   ·rw [z] at hk;cases hk
  obtain ⟨c,hc⟩:=I.ok.has x (.inl hk)
  obtain ⟨w',z⟩:=I.cell x c hc
  refine wpAny_storeName_cell I.ok.kind hk hc z (λh' hc' hs=>?_)
  obtain ⟨oc,hoc,hocd⟩:=id z
  refine h { s with heap:=h' } ⟨I.ok,I.os,I.bare,⟨λb o e n hb hx=>?_,λb o e n hb hx=>?_,I.base.free,λb o e hx=>?_,I.base.tups,I.base.frzs,I.base.tbls⟩,⟨m,hn.sameBut hs (Ne.symm (Jc x c hc)),λj y v' e1 e2 e3=>?_⟩,λy c' e=>?_,I.free,I.freeC,λp hp=>?_,tracked ⟨oc,hoc,I.freeC x c hc⟩ hs,by simpa using I.len⟩ ⟨c,hs,.inr hc⟩
  ·exact (hs.2 b (R1 (RP (Heap.lt_size e) (I.ok.cab x c hfn hc)))).trans (I.base.keep b o e n hb hx)
  ·obtain ⟨sl,e1⟩:=I.base.slot b o e n hb hx
   exact ⟨sl,(hs.2 b (R1 (RP (Heap.lt_size e) (I.ok.cab x c hfn hc)))).trans e1⟩
  ·obtain ⟨o',e1⟩:=I.base.there b o e hx
   exact ⟨o',(hs.2 b (R1 (RP (Heap.lt_size e) (I.ok.cab x c hfn hc)))).trans e1⟩
  ·by_cases hj:j=i
   ·subst hj
    rw [hi] at e1;cases e1
    rw [Sj hiσ] at e2
    cases e2
    exact ⟨u,r,.inr ⟨.inl hk,c,hc,hc'⟩⟩
   ·rw [SD (Ne.symm hj)] at e2
    obtain ⟨u',r',q⟩:=hl j y v' e1 e2 e3
    refine ⟨u',r',?_⟩
    rcases q with q | ⟨k,c',e,z'⟩
    ·exact .inl q
    ·refine .inr ⟨k,c',e,z'.sameBut hs ?_⟩
     rintro rfl
     exact hj (xH hN e1 (I.ok.inj _ _ _ e hc ▸ hi))
  ·by_cases hcc:c'=c
   ·subst hcc;exact ⟨_,hc'⟩
   ·obtain ⟨w2,z2⟩:=I.cell y c' e
    exact ⟨w2,z2.sameBut hs hcc⟩
  ·obtain ⟨e,n,ne,nf,d⟩:=I.pin p hp
   refine ⟨(hs.2 p.1 ?_).trans e,n,ne,nf,d⟩
   intro q
   rw [q,hoc] at e
   have q':oc=p.2:=Option.some.inj e
   exact d w' (by rw [← q'];exact hocd)
theorem gq {M:Model} {A:Around} {E:Value→Shared→Prop} {i:Nat} {x:Str} {v:V} {u:Value} {Q:Unit→Shared→Prop} (I:Inv X pins σ H s) (hN:X.N.Nodup) (hi:X.N[i]?=some x) (hx:Loc X.env.scope x) (r:RelV v u)
  (h:∀s',Inv X pins (σ.set i (some v)) H s'→Q () s') (hf:X.fn x=true∨X.env.scope.names.lookup x=some .local:=by first | exact .inl rfl | exact .inr rfl | assumption):wpAny M A (storeName X.env x u) Q E s :=
 oQ I hN hi hx r (λs' I' _=>h s' I') hf
theorem Inv.LW {s':Shared} {ch:List Addr} (I:Inv X pins σ H s) (ho:s'.os=s.os) (u:Un (jl X.stack) ch H H' s.heap s'.heap) (hok:l5 X.prog X.w H' s'.heap) (hg:AllBare s'.gens)
  (hch:∀b∈ch,(b∈X.ex∨X.s₀.heap.objs.size≤b)∧b≠X.env.locals∧(∀x c,X.env.cells.lookup x=some c→c≠b)∧∀p∈X.pn ++ pins,p.1≠b):Inv X pins σ H' s':=by
 obtain ⟨h',g',d',t',o'⟩:=s'
 have e:o'=s.os:=ho
 subst e
 exact I.call (g':=g') (t':=t') (d':=d') u hok hg hch
end
abbrev XK:=Value→Option Addr→Hp→Prop
abbrev St:=List (Option V)
abbrev VK:=V→Hp→Prop
abbrev TE:=St→Hp→VK→Prop
abbrev TT:=St→Hp→(Bool→Hp→Prop)→Prop
abbrev TA:=St→Hp→(List V→Hp→Prop)→Prop
structure Ends where
 nx:St→Hp→Prop
 rt:VK
 bk:St→Hp→Prop:=λ_ _=>False
 ct:St→Hp→Prop:=λ_ _=>False
abbrev TS:=Ends→St→Hp→Prop
def EP (X:Cx) (pins:List (Addr × Obj)) (σ:St) (Q:VK) (u:Value) (s':Shared):Prop:=∃v H',Inv X pins σ H' s'∧RelV v u∧Q v H'
def TP (X:Cx) (pins:List (Addr × Obj)) (σ:St) (Q:Bool→Hp→Prop) (b:Bool) (s':Shared):Prop:=∃H',Inv X pins σ H' s'∧Q b H'
def AP (X:Cx) (pins:List (Addr × Obj)) (σ:St) (Q:List V→Hp→Prop) (us:List Value) (s':Shared):Prop:=∃vs H',Inv X pins σ H' s'∧Vals vs us∧Q vs H'
def SP (X:Cx) (pins:List (Addr × Obj)) (D:Ends) (f:Flow) (s':Shared):Prop :=
 match f with
 | .next=>∃σ' H',Inv X pins σ' H' s'∧D.nx σ' H'
 | .brk=>∃σ' H',Inv X pins σ' H' s'∧D.bk σ' H'
 | .cont=>∃σ' H',Inv X pins σ' H' s'∧D.ct σ' H'
 | .ret u=>∃v σ' H',Inv X pins σ' H' s'∧RelV v u∧D.rt v H'
def PE (X:Cx) (e:Expr) (t:TE):Prop :=
 ∀(pins:List (Addr × Obj)) (s:Shared) (σ:St) (H:Hp) (Q:VK),Inv X pins σ H s→t σ H Q→wpAny (model X.prog X.w) X.A (eval e X.env) (EP X pins σ Q) X.xe s
def PT (X:Cx) (e:Expr) (t:TT):Prop :=
 ∀(pins:List (Addr × Obj)) (s:Shared) (σ:St) (H:Hp) (Q:Bool→Hp→Prop),Inv X pins σ H s→t σ H Q→wpAny (model X.prog X.w) X.A (isTrue e X.env (eval e X.env)) (TP X pins σ Q) X.xe s
def PW (X:Cx) (e:Expr) (t:TT):Prop :=
 ∀(whole:Sem Value) (pins:List (Addr × Obj)) (s:Shared) (σ:St) (H:Hp) (Q:Bool→Hp→Prop),Inv X pins σ H s→t σ H Q→wpAny (model X.prog X.w) X.A (isTrue e X.env whole) (TP X pins σ Q) X.xe s
theorem PW.pt {X:Cx} {e:Expr} {t:TT} (h:PW X e t):PT X e t:=h _
def PA (X:Cx) (es:List Expr) (t:TA):Prop :=
 ∀(pos:Pos) (pins:List (Addr × Obj)) (s:Shared) (σ:St) (H:Hp) (Q:List V→Hp→Prop),Inv X pins σ H s→t σ H Q→wpAny (model X.prog X.w) X.A (spliced (backTo pos (starEach es X.env))) (AP X pins σ Q) X.xe s
def PS (X:Cx) (st:Stmt) (t:TS):Prop :=
 ∀(pins:List (Addr × Obj)) (s:Shared) (σ:St) (H:Hp) (D:Ends),Inv X pins σ H s→t D σ H→wpAny (model X.prog X.w) X.A (exec st X.env) (SP X pins D) X.xe s
def xf (X:Cx) (st:List Stmt) (t:TS):Prop :=
 ∀(pins:List (Addr × Obj)) (s:Shared) (σ:St) (H:Hp) (D:Ends),Inv X pins σ H s→t D σ H→wpAny (model X.prog X.w) X.A (execs st X.env) (SP X pins D) X.xe s
theorem cf {α:Type} {t:Sem α} {Q Q':α→Shared→Prop} {M:Model} {A:Around} {E:Value→Shared→Prop} {s:Shared} (h:wpAny M A t Q E s) (hQ:∀a s,Q a s→Q' a s):wpAny M A t Q' E s:=wpAny_mono h hQ λ_ _ x=>x
end L2
namespace L2
open PySem PySem.Spec PyProof.Rows
section
variable {X:Cx}
def K4 (i:Nat):TE:=λσ H Q=>∃v,σ[i]?=some (some v)∧Q v H
def tC (v:V):TE:=λ_ H Q=>Q v H
theorem Kf {i:Nat} {x:Str} {pos:Pos} (hN:X.N[i]?=some x) (hv:pM X.env.scope x) (hd:(x == ("__debug__":Str))=false:=by decide) (hcd:(x == ("__classdict__":Str))=false:=by decide):PE X (.Name x pos) (K4 i):=by
 intro pins s σ H Q I h
 obtain ⟨v,e,h⟩:=h
 obtain ⟨m,hn,hl⟩:=I.loc
 obtain ⟨u,r,l⟩:=hl i x v hN e hv
 have fin:EP X pins σ Q u s:=⟨v,H,I,r,h⟩
 rcases l with ⟨hk,hm⟩ | ⟨hk,c,hc,hcell⟩
 ·exact wpAny_Name (wpAny_loadName_local I.ok.kind hk hn hm fin) hd
 ·rcases hk with hk | hk
  ·exact wpAny_Name (wpAny_loadName_cell I.ok.kind hk hc hcell fin) hd
  ·exact wpAny_Name (wpAny_loadName_free I.ok.kind hk hc hcell fin hcd) hd
theorem vN {i j pos}:PE X (.Constant (.int i) j pos) (tC (.int i)):=λ_ _ _ H _ I h=>wpAny_Constant_int ⟨.int i,H,I.tok _,⟨_,rfl⟩,h⟩
theorem AQ {b j pos}:PE X (.Constant (.bool b) j pos) (tC (.bl b)):=λ_ _ _ H _ I h=>Constant_bool ⟨.bl b,H,I,rfl,h⟩
theorem zp {j pos}:PE X (.Constant .none j pos) (tC .non):=λ_ _ _ H _ I h=>Constant_none ⟨.non,H,I,rfl,h⟩
theorem vQ {x j pos}:PE X (.Constant (.str x) j pos) (tC (.str x)):=λ_ _ _ H _ I h=>Calls.Constant_str ⟨.str x,H,I.tok _,⟨_,rfl⟩,h⟩
def Gl (X:Cx) (x:Str):Prop:=X.env.kindOf x=some .globalImplicit
theorem mI {E:Value→Shared→Prop} {pins:List (Addr × Obj)} {s:Shared} {σ:St} {H:Hp} {x:Str} {u:Value} {pos:Pos} {Q:Value→Shared→Prop} (I:Inv X pins σ H s) (hg:Gl X x) (hm:X.mg x=some u) (h:Q u s)
  (hd:(x == ("__debug__":Str))=false:=by decide):wpAny (model X.prog X.w) X.A (eval (.Name x pos) X.env) Q E s :=
 Calls.Name_function_global I.ok.kind hg (Calls.loadGlobal_global (by rw [I.ok.glob];exact I.mod.glob.keeps I.bk) hm h) hd
theorem oa {E:Value→Shared→Prop} {pins:List (Addr × Obj)} {s:Shared} {σ:St} {H:Hp} {x:Str} {u:Value} {pos:Pos} {Q:Value→Shared→Prop} (I:Inv X pins σ H s) (hg:Gl X x) (hm:X.mg x=none) (hv:bootBuiltins x=some u) (h:Q u s)
  (hn:x≠"__name__":=by decide) (hd:(x == ("__debug__":Str))=false:=by decide):wpAny (model X.prog X.w) X.A (eval (.Name x pos) X.env) Q E s:=by
 obtain ⟨mb,h1,h2⟩:=I.mod.blt
 exact Calls.Name_function_global I.ok.kind hg (Calls.loadGlobal_builtin (by rw [I.ok.glob];exact I.mod.glob.keeps I.bk) hm (by rw [I.ok.blt];exact h1.keeps I.bk) ((h2 x hn).trans hv) h) hd
theorem vM {x:Str} {v:V} {u:Value} {pos:Pos} (hg:Gl X x) (hm:X.mg x=some u) (r:RelV v u) (hd:(x == ("__debug__":Str))=false:=by decide):PE X (.Name x pos) (tC v) :=
 λ_ _ _ H _ I h=>mI I hg hm ⟨v,H,I,r,h⟩ hd
theorem vK {x:Str} {v:V} {u:Value} {pos:Pos} (hg:Gl X x) (hm:X.mg x=none) (hv:bootBuiltins x=some u) (r:RelV v u) (hn:x≠"__name__":=by decide) (hd:(x == ("__debug__":Str))=false:=by decide):PE X (.Name x pos) (tC v) :=
 λ_ _ _ H _ I h=>oa I hg hm hv ⟨v,H,I,r,h⟩ hn hd
variable {a b:Expr} {ta tb:TE} {pos:Pos}
def tB (t:TE):TT:=λσ H Q=>t σ H λx H1=>∃c,x=.bl c∧Q c H1
theorem zG {e:Expr} {t:TE} (h:PE X e t) (he:∀whole,isTrue e X.env whole=(do let v ← whole;standAt e.pos;holding [v] (truthy v)):=by intro _;rfl):PT X e (tB t):=by
 intro pins s σ H Q I hw
 refine isTrue_plain (cf (h pins s σ H _ I hw) λv s1 ⟨x,H1,I1,r1,q1⟩=>?_) (he _)
 obtain ⟨d,rfl,q⟩:=q1
 cases r1
 exact wpAny_truthy_bool ⟨H1,I1,q⟩
variable {tA tB':TT} {rest:List Expr}
def Hr (t u:TT):TT:=λσ H Q=>t σ H λc H1=>if c=true then u σ H1 Q else Q false H1
def Ox (t u:TT):TT:=λσ H Q=>t σ H λc H1=>if c=true then Q true H1 else u σ H1 Q
def KW (t:TT):TT:=λσ H Q=>t σ H λc H1=>Q (!c) H1
theorem wc (ha:PT X a tA):PW X (.BoolOp .And [a] pos) tA:=by
 intro wh pins s σ H Q I h
 refine isTrue_and (cf (ha pins s σ H Q I h) λc s1 e=>?_)
 cases c with
 | true=>exact isTrue_and_nil e
 | false=>exact e
theorem zJ (ha:PT X a tA):PW X (.BoolOp .Or [a] pos) tA:=by
 intro wh pins s σ H Q I h
 refine isTrue_or (cf (ha pins s σ H Q I h) λc s1 e=>?_)
 cases c with
 | false=>exact isTrue_or_nil e
 | true=>exact e
theorem zI (ha:PT X a tA) (hb:PW X (.BoolOp .And (b :: rest) pos) tB'):PW X (.BoolOp .And (a :: b :: rest) pos) (Hr tA tB'):=by
 intro wh pins s σ H Q I h
 refine isTrue_and (cf (ha pins s σ H _ I h) λc s1 ⟨H1,I1,q1⟩=>?_)
 cases c with
 | true=>exact hb wh pins s1 σ H1 Q I1 q1
 | false=>exact ⟨H1,I1,q1⟩
theorem Ew (ha:PT X a tA) (hb:PW X (.BoolOp .Or (b :: rest) pos) tB'):PW X (.BoolOp .Or (a :: b :: rest) pos) (Ox tA tB'):=by
 intro wh pins s σ H Q I h
 refine isTrue_or (cf (ha pins s σ H _ I h) λc s1 ⟨H1,I1,q1⟩=>?_)
 cases c with
 | true=>exact ⟨H1,I1,q1⟩
 | false=>exact hb wh pins s1 σ H1 Q I1 q1
theorem zF (ha:PT X a tA):PT X (.UnaryOp .Not a pos) (KW tA):=by
 intro pins s σ H Q I h
 exact isTrue_not (ha pins s σ H (λc H1=>Q (!c) H1) I h)
def E3 (ta tb:TE):TE:=λσ H Q=>ta σ H λx H1=>∃c,x=.bl c∧if c=true then tb σ H1 Q else Q (.bl false) H1
def KY (ta tb:TE):TE:=λσ H Q=>ta σ H λx H1=>∃c,x=.bl c∧if c=true then Q (.bl true) H1 else tb σ H1 Q
def E9 (ta:TE):TE:=λσ H Q=>ta σ H λx H1=>∃c,x=.bl c∧Q (.bl (!c)) H1
theorem zr {op} {t:TE} (h:PE X a t):PE X (.BoolOp op [a] pos) t:=λpins s σ H Q I hw=>BoolOp_one (h pins s σ H Q I hw)
theorem zo (ha:PE X a ta) (hb:PE X (.BoolOp .And (b :: rest) pos) tb):PE X (.BoolOp .And (a :: b :: rest) pos) (E3 ta tb):=by
 intro pins s σ H Q I h
 refine BoolOp_and (cf (ha pins s σ H _ I h) λv s1 ⟨x,H1,I1,r1,q1⟩=>?_)
 obtain ⟨c,rfl,q1⟩:=q1
 cases r1
 refine wpAny_truthy_bool ?_
 cases c with
 | true=>exact hb pins s1 σ H1 Q I1 q1
 | false=>exact ⟨.bl false,H1,I1,rfl,q1⟩
theorem Ej (ha:PE X a ta) (hb:PE X (.BoolOp .Or (b :: rest) pos) tb):PE X (.BoolOp .Or (a :: b :: rest) pos) (KY ta tb):=by
 intro pins s σ H Q I h
 refine BoolOp_or (cf (ha pins s σ H _ I h) λv s1 ⟨x,H1,I1,r1,q1⟩=>?_)
 obtain ⟨c,rfl,q1⟩:=q1
 cases r1
 refine wpAny_truthy_bool ?_
 cases c with
 | false=>exact hb pins s1 σ H1 Q I1 q1
 | true=>exact ⟨.bl true,H1,I1,rfl,q1⟩
theorem zq (ha:PE X a ta):PE X (.UnaryOp .Not a pos) (E9 ta):=by
 intro pins s σ H Q I h
 refine UnaryOp_ (cf (ha pins s σ H _ I h) λv s1 ⟨x,H1,I1,r1,q1⟩=>?_)
 obtain ⟨c,rfl,q1⟩:=q1
 cases r1
 exact not_of (wpAny_truthy_bool ⟨.bl (!c),H1,I1,rfl,q1⟩)
def PR (t:TT) (ta tb:TE):TE:=λσ H Q=>t σ H λc H1=>if c=true then ta σ H1 Q else tb σ H1 Q
theorem qN {c:Expr} (hc:PT X c tA) (ha:PE X a ta) (hb:PE X b tb):PE X (.IfExp c a b pos) (PR tA ta tb):=by
 intro pins s σ H Q I h
 refine wpAny_IfExp (cf (hc pins s σ H _ I h) λd s1 ⟨H1,I1,q1⟩=>?_)
 cases d with
 | true=>exact ha pins s1 σ H1 Q I1 q1
 | false=>exact hb pins s1 σ H1 Q I1 q1
end
end L2
namespace L2
open PySem PySem.Spec PyProof.Rows
def dM (K:PySem.W.Frag) (H:Hp) (a:Addr) (xs:List V):Prop :=
 Rd H a (.lst xs) ∨
  ∃(o:Obj) (its:Array Value) (n:Nat),K.lookup a=some o∧o.cls=.type "list"∧o.dict=none∧o.data=.seq its n∧its.size≤sizeLine∧Vals xs its.toList
def fu (K:PySem.W.Frag) (H:Hp) (a:Addr) (xs:List V):Prop :=
 Rd H a (.tup xs) ∨
  ∃(o:Obj) (its:Array Value) (n:Nat),K.lookup a=some o∧o.cls=.type "tuple"∧o.data=.seq its n∧its.size≤sizeLine∧Vals xs its.toList
def OG:Value→Option V
 | .none=>some .non
 | .bool b=>some (.bl b)
 | .int i _=>some (.int i)
 | .str x _=>some (.str x)
 | .bytes b _=>some (.byt b)
 | .float b _=>some (.flt b)
 | .ref a=>some (.ref a)
 | .type n=>some (.ty n)
 | _=>none
theorem RelV.abs {x:V} {u:Value} (r:RelV x u):OG u=some x:=by
 cases x with
 | non=>cases r;rfl
 | bl _=>cases r;rfl
 | int _=>obtain ⟨t,rfl⟩:=r;rfl
 | str _=>obtain ⟨t,rfl⟩:=r;rfl
 | byt _=>obtain ⟨t,rfl⟩:=r;rfl
 | flt _=>obtain ⟨t,rfl⟩:=r;rfl
 | ref _=>cases r;rfl
 | ty _=>cases r;rfl
theorem RelV.inj {x y:V} {u:Value} (r:RelV x u) (q:RelV y u):x=y:=Option.some.inj (r.abs.symm.trans q.abs)
theorem Vals.inj:∀{xs ys:List V} {us:List Value},Vals xs us→Vals ys us→xs=ys
 | _,_,_,.nil,.nil=>rfl
 | _,_,_,.cons r t,.cons r' t'=>by rw [r.inj r',Vals.inj t t']
section
variable {X:Cx} {pins:List (Addr × Obj)} {σ:St} {H:Hp} {s:Shared} {a:Addr} {xs ys:List V}
theorem dM.of {K:PySem.W.Frag} (h:H a=some (.lst xs)):dM K H a xs:=.inl (.inl h)
theorem fu.of {K:PySem.W.Frag} (h:H a=some (.tup xs)):fu K H a xs:=.inl (.inl h)
theorem Inv.list (I:Inv X pins σ H s) (h:dM X.K H a xs):∃its:List Value,Vals xs its∧PlainL s.heap a its.toArray∧xs.length≤sizeLine:=by
 rcases h with h | ⟨o,its,n,hk,hc,hd,hs,hz,r⟩
 ·obtain ⟨z,its,n,r,e⟩:=h.ok I.hok
  exact ⟨its,r,⟨_,n,e,rfl,rfl,rfl⟩,z⟩
 ·refine ⟨its.toList,r,⟨o,n,I.mG a o hk,hc,hd,by simpa using hs⟩,?_⟩
  have e:=r.length
  simp only [Array.length_toList] at e
  omega
theorem Inv.tuple (I:Inv X pins σ H s) (h:fu X.K H a xs):∃its:List Value,Vals xs its∧IsTup s.heap a its.toArray∧xs.length≤sizeLine:=by
 rcases h with h | ⟨o,its,n,hk,hc,hs,hz,r⟩
 ·obtain ⟨z,its,r,p⟩:=h.ok I.hok
  exact ⟨its,r,p,z⟩
 ·refine ⟨its.toList,r,⟨o,I.mG a o hk,hc,n,by simpa using hs⟩,?_⟩
  have e:=r.length
  simp only [Array.length_toList] at e
  omega
theorem Inv.qz (I:Inv X pins σ H s) (h:dM X.K H a xs) (h':dM X.K H a ys):xs=ys:=by
 obtain ⟨its,r,⟨o,n,e,_,_,d⟩,_⟩:=I.list h
 obtain ⟨its',r',⟨o',n',e',_,_,d'⟩,_⟩:=I.list h'
 rw [e] at e';cases e'
 rw [d] at d'
 injection d' with d1 _
 have:its=its':=by simpa using congrArg Array.toList d1
 subst this
 exact r.inj r'
theorem Inv.CC (I:Inv X pins σ H s) (h:fu X.K H a xs) (h':fu X.K H a ys):xs=ys:=by
 obtain ⟨its,r,⟨o,e,_,n,d⟩,_⟩:=I.tuple h
 obtain ⟨its',r',⟨o',e',_,n',d'⟩,_⟩:=I.tuple h'
 rw [e] at e';cases e'
 rw [d] at d'
 injection d' with d1 _
 have:its=its':=by simpa using congrArg Array.toList d1
 subst this
 exact r.inj r'
end
abbrev Cx.tO (X:Cx) (E:Value→Shared→Prop):Cx:={ X with xe:=E }
abbrev Cx.Om (X:Cx):Cx:=X.tO λ_ _=>False
theorem Cx.Ok.tO {X:Cx} (ok:X.Ok) (E:Value→Shared→Prop):(X.tO E).Ok :=
 ⟨ok.mod,ok.kind,ok.glob,ok.blt,ok.above,ok.inj,ok.has,ok.cab,ok.hd,ok.frames,ok.stk,ok.exf,ok.bs,ok.bsz,ok.noex,ok.exfs,ok.n8,ok.frf⟩
theorem Cx.Ok.kg {X:Cx} {E:Value→Shared→Prop} (ok:(X.tO E).Ok):X.Ok :=
 ⟨ok.mod,ok.kind,ok.glob,ok.blt,ok.above,ok.inj,ok.has,ok.cab,ok.hd,ok.frames,ok.stk,ok.exf,ok.bs,ok.bsz,ok.noex,ok.exfs,ok.n8,ok.frf⟩
section
variable {X:Cx} {pins:List (Addr × Obj)} {σ:St} {H:Hp} {s:Shared} {E:Value→Shared→Prop}
theorem Inv.tO (I:Inv X pins σ H s) (E:Value→Shared→Prop):Inv (X.tO E) pins σ H s:=⟨I.ok.tO E,I.os,I.bare,I.base,I.loc,I.cell,I.free,I.freeC,I.pin,I.hok,I.len⟩
theorem Inv.kg (I:Inv (X.tO E) pins σ H s):Inv X pins σ H s:=⟨I.ok.kg,I.os,I.bare,I.base,I.loc,I.cell,I.free,I.freeC,I.pin,I.hok,I.len⟩
theorem SP.kg {D:Ends} {f:Flow} {s':Shared} (h:SP (X.tO E) pins D f s'):SP X pins D f s':=by
 cases f with
 | next=>obtain ⟨σ',H',I,q⟩:=h;exact ⟨σ',H',I.kg,q⟩
 | brk=>obtain ⟨σ',H',I,q⟩:=h;exact ⟨σ',H',I.kg,q⟩
 | cont=>obtain ⟨σ',H',I,q⟩:=h;exact ⟨σ',H',I.kg,q⟩
 | ret u=>obtain ⟨v,σ',H',I,r,q⟩:=h;exact ⟨v,σ',H',I.kg,r,q⟩
theorem xf.Om {st:List Stmt} {t:TS} (h:xf X.Om st t):xf X st t:=λpins s σ H D I hw =>
 wpAny_mono (h pins s σ H D (I.tO _) hw) (λ_ _ q=>q.kg) λ_ _ z=>False.elim z
end
section
variable {X:Cx} {st:Stmt} {rest:List Stmt} {t u:TS} {e:Expr} {te:TE} {pos:Pos}
def E8:TS:=λD σ H=>D.nx σ H
def K2 (t u:TS):TS:=λD σ H=>t { D with nx:=u D } σ H
theorem vZ:xf X [] E8:=λ_ _ σ H _ I h=>wpAny_execs_nil ⟨σ,H,I,h⟩
theorem m6 (h1:PS X st t) (h2:xf X rest u):xf X (st :: rest) (K2 t u):=by
 intro pins s σ H D I h
 refine wpAny_execs_cons (cf (h1 pins s σ H { D with nx:=u D } I h) λf s1 q=>?_)
 cases f with
 | next =>
  obtain ⟨σ',H',I',q⟩:=q
  exact h2 pins s1 σ' H' D I' q
 | ret v=>exact q
 | brk=>exact q
 | cont=>exact q
theorem v3 (h1:PS X st t):xf X [st] t:=by
 intro pins s σ H D I h
 refine wpAny_execs_cons (cf (h1 pins s σ H D I h) λf s1 q=>?_)
 cases f with
 | next=>exact wpAny_execs_nil q
 | ret v=>exact q
 | brk=>exact q
 | cont=>exact q
def KO:TS:=λD σ H=>D.bk σ H
def NQ:TS:=λD σ H=>D.ct σ H
theorem Inv.quiet {pins:List (Addr × Obj)} {σ:St} {H:Hp} {s:Shared} (I:Inv X pins σ H s):interactive X.env=false:=by simp [interactive,I.ok.kind]
def E5 (te:TE):TS:=λD σ H=>te σ H λ_ H1=>D.nx σ H1
theorem vX (he:PE X e te) (hs:swapsWith e none pos.line X.env=pure false:=by rfl):PS X (.Expr e pos) (E5 te):=by
 intro pins s σ H D I h
 exact wpAny_Expr_any (cf (he pins s σ H _ I h) λv s1 ⟨x,H1,I1,r1,q1⟩=>⟨σ,H1,I1,q1⟩) I.quiet hs
def K1 (te:TE):TS:=λD σ H=>te σ H D.rt
theorem zD (he:PE X e te):PS X (.Return (some e) pos) (K1 te):=by
 intro pins s σ H D I h
 exact wpAny_Return_some (cf (he pins s σ H _ I h) λv s1 ⟨x,H1,I1,r1,q1⟩=>⟨x,σ,H1,I1,r1,q1⟩)
def Fb:TS:=λD _ H=>D.rt .non H
theorem vY:PS X (.Return none pos) Fb:=λ_ _ σ H _ I h=>wpAny_Return_none ⟨.non,σ,H,I,rfl,h⟩
def KR (c:TT) (t u:TS):TS:=λD σ H=>c σ H λb H1=>if b=true then t D σ H1 else u D σ H1
theorem Eo {c:Expr} {a b:List Stmt} {tc:TT} (hc:PT X c tc) (ha:xf X a t) (hb:xf X b u):PS X (.If c a b pos) (KR tc t u):=by
 intro pins s σ H D I h
 refine wpAny_If (cf (hc pins s σ H _ I h) λd s1 ⟨H1,I1,q1⟩=>?_)
 cases d with
 | true=>exact ha pins s1 σ H1 D I1 q1
 | false=>exact hb pins s1 σ H1 D I1 q1
def KU:TS:=λ_ _ _=>False
end
abbrev TG:=V→St→Hp→(St→Hp→Prop)→Prop
abbrev kL:=List V→St→Hp→(St→Hp→Prop)→Prop
def PG (X:Cx) (target:Expr) (t:TG):Prop :=
 ∀(pins:List (Addr × Obj)) (s:Shared) (σ:St) (H:Hp) (v:V) (u:Value) (Q:St→Hp→Prop),Inv X pins σ H s→RelV v u→t v σ H Q →
  wpAny (model X.prog X.w) X.A (assign target X.env u) (λ_ s'=>∃σ' H',Inv X pins σ' H' s'∧Q σ' H') X.xe s
def HE (X:Cx) (ts:List Expr) (t:kL):Prop :=
 ∀(pins:List (Addr × Obj)) (s:Shared) (σ:St) (H:Hp) (vs:List V) (us:List Value) (Q:St→Hp→Prop),Inv X pins σ H s→Vals vs us→t vs σ H Q →
  wpAny (model X.prog X.w) X.A (assignInOrder ((assignEach ts X.env).map (·.2)) us) (λ_ s'=>∃σ' H',Inv X pins σ' H' s'∧Q σ' H') X.xe s
abbrev fw:=V→V→V→Hp→(Hp→Prop)→Prop
def fv (X:Cx) (t:fw):Prop :=
 ∀(pins:List (Addr × Obj)) (s:Shared) (σ:St) (H:Hp) (o i v:V) (ov iv u:Value) (Q:Hp→Prop),Inv X pins σ H s→RelV o ov→RelV i iv→RelV v u→t o i v H Q →
  wpAny (model X.prog X.w) X.A (setItem ov iv u) (λ_ s'=>∃H',Inv X pins σ H' s'∧Q H') X.xe s
abbrev Od:=V→V→Hp→VK→Prop
def OE (X:Cx) (op:Operator) (t:Od):Prop :=
 ∀(pins:List (Addr × Obj)) (s:Shared) (σ:St) (H:Hp) (x y:V) (v u:Value) (Q:VK),Inv X pins σ H s→RelV x v→RelV y u→t x y H Q →
  wpAny (model X.prog X.w) X.A (inplaceOp op v u) (EP X pins σ Q) X.xe s
section
variable {X:Cx} {pos:Pos}
def ub (i:Nat):TG:=λv σ H Q=>Q (σ.set i (some v)) H
theorem vR {i:Nat} {x:Str} (hN:X.N.Nodup) (hi:X.N[i]?=some x) (hx:Loc X.env.scope x) (hf:X.fn x=true∨X.env.scope.names.lookup x=some .local:=by first | exact .inl rfl | exact .inr rfl | assumption):PG X (.Name x pos) (ub i):=by
 intro pins s σ H v u Q I r h
 exact wpAny_assign_Name (gq I hN hi hx r (λs' I'=>⟨_,H,I',h⟩) hf)
def Jj:kL:=λvs σ H Q=>vs=[]∧Q σ H
def Ds (t:TG) (u:kL):kL:=λvs σ H Q=>∃v r,vs=v :: r∧t v σ H λσ' H'=>u r σ' H' Q
theorem vS:HE X [] Jj:=by
 intro pins s σ H vs us Q I r h
 obtain ⟨e,h⟩:=h
 subst e
 cases r
 exact assignInOrder_nil ⟨σ,H,I,h⟩
theorem qP {e:Expr} {es:List Expr} {t:TG} {u:kL} (h1:PG X e t) (h2:HE X es u)
  (hs:(assignEach (e :: es) X.env).map (·.2)=assign e X.env :: (assignEach es X.env).map (·.2):=by rfl):HE X (e :: es) (Ds t u):=by
 intro pins s σ H vs us Q I r h
 obtain ⟨v,vr,e1,h⟩:=h
 subst e1
 cases r with
 | cons r rr =>
  rw [hs]
  refine assignInOrder_cons (cf (h1 pins s σ H _ _ _ I r h) λ_ s1 ⟨σ1,H1,I1,q1⟩=>?_)
  exact h2 pins s1 σ1 H1 _ _ Q I1 rr q1
def Jl (K:PySem.W.Frag) (n:Nat) (t:kL):TG:=λv σ H Q=>∃a xs,v=.ref a∧fu K H a xs∧xs.length=n∧t xs σ H Q
theorem zw {es:List Expr} {k:Nat} {t:kL} {n:Nat} (hc:X.calm=true) (h:HE X es t)
  (hn:(assignEach es X.env).length=n:=by rfl) (hst:(assignEach es X.env).findIdx? (·.1)=none:=by rfl):PG X (.Tuple es k pos) (Jl X.K n t):=by
 intro pins s σ H v u Q I r hw
 obtain ⟨a,xs,e1,hq,hl,hw⟩:=hw
 subst e1
 cases r
 obtain ⟨its,rv,ht,hz⟩:=I.tuple hq
 refine assign_Tuple_tuple (I.ok.hd hc) ht (by simp [hn,← hl,rv.length]) hst λh' hx=>?_
 have I1:Inv X pins σ H { s with heap:=h' }:=I.kept (t':=s.toks) λb o e=>hx b o (R1 (Heap.lt_size e)) e
 exact h pins _ σ H xs _ Q I1 (by simpa using rv) hw
def Jk (to ti:TE) (t:fw):TG:=λv σ H Q=>to σ H λo H1=>ti σ H1 λi H2=>t o i v H2 λH3=>Q σ H3
theorem zu {o i:Expr} {to ti:TE} {t:fw} (ho:PE X o to) (hi:PE X i ti) (hs:fv X t)
  (ha:∀v,assign (.Subscript o i pos) X.env v=(do
   let ov ← holding [v] (eval o X.env)
   let iv ← holding [v,ov] (eval i X.env)
   standAt pos
   holding [v,ov,iv] (setItem ov iv v)
   release [v,ov,iv] []):=by intro _;rfl):PG X (.Subscript o i pos) (Jk to ti t):=by
 intro pins s σ H v u Q I r h
 rw [ha]
 refine wpAny_bind (wpAny_holding (cf (ho pins s σ H _ I h) λov s1 ⟨x,H1,I1,r1,q1⟩=>?_))
 refine wpAny_bind (wpAny_holding (cf (hi pins s1 σ H1 _ I1 q1) λiv s2 ⟨y,H2,I2,r2,q2⟩=>?_))
 refine wpAny_bind (wpAny_standAt (wpAny_bind (wpAny_holding (cf (hs pins s2 σ H2 x y v ov iv u _ I2 r1 r2 r q2) λ_ s3 ⟨H3,I3,q3⟩=>?_))))
 exact wpAny_release ⟨σ,H3,I3,q3⟩
def CA (te:TE) (g:TG):TS:=λD σ H=>te σ H λx H1=>g x σ H1 D.nx
theorem zA {tg e:Expr} {te:TE} {g:TG} (he:PE X e te) (hg:PG X tg g) (hs:swapsWithSole [tg] e pos.line X.env=pure false:=by rfl) (hw:swappedStores [tg] e X.env=pure none:=by rfl)
  (h1:(assignEach [tg] X.env).map (·.2)=[assign tg X.env]:=by rfl):PS X (.Assign [tg] e pos) (CA te g):=by
 intro pins s σ H D I h
 refine wpAny_Assign_stores (cf (he pins s σ H _ I h) λv s1 ⟨x,H1,I1,r1,q1⟩=>?_) hs hw
 rw [h1]
 exact cf (hg pins s1 σ H1 x v _ I1 r1 q1) λ_ s2 q=>q
theorem zE {i:Nat} {x:Str} {e:Expr} {te:TE} {pos':Pos} (hN:X.N.Nodup) (hi:X.N[i]?=some x) (hx:Loc X.env.scope x) (he:PE X e te) (hs:swapsWith e (some (.Name x pos')) pos.line X.env=pure false:=by rfl) (hf:X.fn x=true∨X.env.scope.names.lookup x=some .local:=by first | exact .inl rfl | exact .inr rfl | assumption) :
  PS X (.Assign [.Name x pos'] e pos) (CA te (ub i)):=by
 intro pins s σ H D I h
 refine wpAny_Assign_Name (cf (he pins s σ H _ I h) λv s1 ⟨y,H1,I1,r1,q1⟩=>?_) hs
 exact gq I1 hN hi hx r1 (λs2 I2=>⟨_,H1,I2,q1⟩) hf
def KZ (i j:Nat) (ta:TA):TS:=λD σ H=>ta σ H λvs H1=>∃v w,vs=[v,w]∧D.nx ((σ.set i (some v)).set j (some w)) H1
theorem zC {i j:Nat} {x y:Str} {a b:Expr} {ta:TA} {px py pt:Pos} {kt k2 pt2} (hc:X.calm=true) (hN:X.N.Nodup) (hi:X.N[i]?=some x) (hj:X.N[j]?=some y) (hij:i≠j)
  (hx:X.env.scope.names.lookup x=some .local) (hy:X.env.scope.names.lookup y=some .local) (ha:PA X [a,b] ta)
  (hw:swappedStores [.Tuple [.Name x px,.Name y py] kt pt] (.Tuple [a,b] k2 pt2) X.env=pure (some [x,y]))
  (hs:swapsWithSole [.Tuple [.Name x px,.Name y py] kt pt] (.Tuple [a,b] k2 pt2) pos.line X.env=pure false:=by rfl) :
  PS X (.Assign [.Tuple [.Name x px,.Name y py] kt pt] (.Tuple [a,b] k2 pt2) pos) (KZ i j ta):=by
 intro pins s σ H D I h
 rw [exec_Assign_arm]
 refine wpAny_bind (wpAny_standAt ?_)
 rw [hs]
 refine wpAny_bind (wpAny_pure ?_)
 rw [if_neg (by decide)]
 refine wpAny_bind (Tuple_ (cf (ha _ pins s σ H _ I h) λus s1 ⟨vs,H1,I1,r1,q1⟩=>?_))
 obtain ⟨v,w,e1,q1⟩:=q1
 subst e1
 obtain ⟨u1,u2,rfl,rv,rw'⟩:∃u1 u2,us=[u1,u2]∧RelV v u1∧RelV w u2:=by
  cases r1 with
  | cons p q =>
   cases q with
   | cons p' q' =>
    cases q'
    exact ⟨_,_,rfl,p,p'⟩
 refine wpAny_newObj_type ?_ (by show 2≤sizeLine;decide)
 have I2:Inv X pins σ H1 { s1 with heap:=s1.heap.push { cls:=.type "tuple",data:=.seq [u1,u2].toArray } }:=I1.kept (t':=s1.toks) λb o e=>Heap.get?_push_of_some _ e
 rw [hw]
 refine wpAny_bind (wpAny_pure ?_)
 show wpAny (model X.prog X.w) X.A (do rule "assign.swapped-stores";let items ← unpackItems (.ref s1.heap.objs.size) 2 none;assignInOrder [λv=>bindName X.env y v,λv=>bindName X.env x v] items.reverse;pure Flow.next) _ _ _
 refine wpAny_bind (wpAny_rule (wpAny_bind (unpackItems_tuple (items:=#[u1,u2]) (I.ok.hd hc) (IsTup.new s1.heap _) λh' hx'=>?_)))
 have I3:=I2.kept (h':=h') (t':=s1.toks) λb o e=>hx' b o (R1 (Heap.lt_size e)) e
 show wpAny _ _ (assignInOrder [λv=>bindName X.env y v,λv=>bindName X.env x v] [u2,u1] >>= λ_=>pure Flow.next) _ _ _
 refine wpAny_bind (assignInOrder_cons (wpAny_bindName (gq I3 hN hj (.inl hy) rw' (λs2 I4=>?_) (.inr hy))))
 refine assignInOrder_cons (wpAny_bindName (gq I4 hN hi (.inl hx) rv (λs3 I5=>assignInOrder_nil (wpAny_pure ?_)) (.inr hx)))
 rw [List.set_comm _ _ (Ne.symm hij)] at I5
 exact ⟨_,H1,I5,q1⟩
def PK (i:Nat) (te:TE) (ti:Od):TS:=λD σ H=>∃x,σ[i]?=some (some x)∧te σ H λy H1=>ti x y H1 λz H2=>D.nx (σ.set i (some z)) H2
theorem Kg {i:Nat} {x:Str} {e:Expr} {te:TE} {op:Operator} {ti:Od} {pos':Pos} (hN:X.N.Nodup) (hi:X.N[i]?=some x) (hx:Loc X.env.scope x) (he:PE X e te) (ho:OE X op ti) (hf:X.fn x=true∨X.env.scope.names.lookup x=some .local:=by first | exact .inl rfl | exact .inr rfl | assumption) :
  PS X (.AugAssign (.Name x pos') op e pos) (PK i te ti):=by
 intro pins s σ H D I h
 obtain ⟨v,e1,h⟩:=h
 obtain ⟨m,hn,hl⟩:=I.loc
 have vis:pM X.env.scope x:=by rcases hx with k | k;exact .inl k;exact .inr (.inl k)
 obtain ⟨u,r,l⟩:=hl i x v hi e1 vis
 refine wpAny_AugAssign_Name ?_
 have go:wpAny (model X.prog X.w) X.A (eval e X.env) (λw s₂=>wpAny (model X.prog X.w) X.A (inplaceOp op u w) (λr s₃=>wpAny (model X.prog X.w) X.A (storeName X.env x r) (λ_=>SP X pins D .next) X.xe s₃) X.xe s₂) X.xe s:=by
  refine cf (he pins s σ H _ I h) λw s1 ⟨y,H1,I1,r1,q1⟩=>?_
  refine cf (ho pins s1 σ H1 v y u w _ I1 r r1 q1) λz s2 ⟨zv,H2,I2,r2,q2⟩=>?_
  exact gq I2 hN hi hx r2 (λs3 I3=>⟨_,H2,I3,q2⟩) hf
 rcases l with ⟨hk,hm⟩ | ⟨hk,c,hc,hcell⟩
 ·exact wpAny_loadName_local I.ok.kind hk hn hm go
 ·rcases hk with hk | hk
  ·exact wpAny_loadName_cell I.ok.kind hk hc hcell go
  ·rcases hx with k | k
   ·have:X.env.scope.names.lookup x=some .free:=hk
    rw [k] at this;cases this
   ·have:X.env.scope.names.lookup x=some .free:=hk
    rw [k] at this;cases this
def Q_ (f:Int→Int→Int):Od:=λx y H Q=>∃i j,x=.int i∧y=.int j∧Q (.int (f i j)) H
theorem Jp:OE X .Sub (Q_ λi j=>i - j):=by
 intro pins s σ H x y v u Q I r1 r2 h
 obtain ⟨i,j,e1,e2,q⟩:=h
 subst e1;subst e2
 obtain ⟨t,rfl⟩:=r1
 obtain ⟨t',rfl⟩:=r2
 exact isub_int ⟨.int _,H,I.tok _,⟨_,rfl⟩,q⟩
end
section
variable {X:Cx} {pos:Pos}
def zX (c:TT) (tb:TS):TS:=λD σ H=>∃W:Nat→St→Hp→Prop,(∃m,W m σ H)∧∀m σ H,W m σ H →
 c σ H λb H1=>if b=true then ∃N:St→Hp→Prop,(∀σ' H',N σ' H'→∃m',m' < m∧W m' σ' H')∧tb { D with nx:=N,ct:=N,bk:=D.nx } σ H1 else D.nx σ H1
theorem qV {c:Expr} {body:List Stmt} {tc:TT} {tb:TS} (hp:PassesOwn (model X.prog X.w) X.A X.env X.xe) (hc:PT X c tc) (hb:xf X body tb):PS X (.While c body [] pos) (zX tc tb):=by
 intro pins s σ H D I h
 obtain ⟨W,⟨m0,w0⟩,turn⟩:=h
 refine wpAny_While (codeAny_whileLoop (λn s'=>∃σ' H',Inv X pins σ' H' s'∧W n σ' H') ?_ m0 ⟨σ,H,I,w0⟩)
 rintro n s1 ⟨σ1,H1,I1,w1⟩
 refine wpAny_passesOwn hp (cf (hc pins s1 σ1 H1 _ I1 (turn n σ1 H1 w1)) λb s2 ⟨H2,I2,q2⟩=>?_)
 cases b with
 | true =>
  obtain ⟨N,hN,q2⟩:=q2
  rw [if_pos rfl]
  refine wpAny_passesOwn hp (cf (hb pins s2 σ1 H2 _ I2 q2) λf s3 q3=>?_)
  cases f with
  | next =>
   obtain ⟨σ3,H3,I3,n3⟩:=q3
   obtain ⟨m',hm,w3⟩:=hN σ3 H3 n3
   exact ⟨m',hm,σ3,H3,I3,w3⟩
  | cont =>
   obtain ⟨σ3,H3,I3,n3⟩:=q3
   obtain ⟨m',hm,w3⟩:=hN σ3 H3 n3
   exact ⟨m',hm,σ3,H3,I3,w3⟩
  | brk=>exact q3
  | ret v=>exact q3
 | false =>
  rw [if_neg R8]
  exact wpAny_execs_nil ⟨σ1,H2,I2,q2⟩
end
structure It where
 go:Nat→Hp→Prop
 yld:Nat→Hp→V→Hp→Prop
 stop:Nat→Hp→Prop
def lz (X:Cx) (pins:List (Addr × Obj)) (H:Hp) (b:Addr):Prop :=
 H b=none∧b≠X.env.locals∧b ∉ X.fs∧(b∈X.ex∨X.s₀.heap.objs.size≤b)∧(∀x c,X.env.cells.lookup x=some c→c≠b)∧∀p∈X.pn ++ pins,p.1≠b
theorem Inv.Dq {X:Cx} {pins:List (Addr × Obj)} {σ:St} {H H':Hp} {s:Shared} {b:Addr} (I:Inv X pins σ H s) (hb:s.heap.objs.size≤b) (hn:H' b=none):lz X pins H' b:=by
 refine ⟨hn,Tw (RP I.lt hb),I.Pc hb,.inr (RN I.sz hb),λx c e z=>?_,λp hp z=>?_⟩
 ·obtain ⟨v,q⟩:=I.cell x c e
  exact absurd (RP q.lt (by rw [z];exact hb)) (Sv _)
 ·exact absurd (RP (Heap.lt_size (I.pin p hp).1) (by rw [z];exact hb)) (Sv _)
structure Turn (P:Program) (w:World) (K:PySem.W.Frag) (tg:Expr) (J:It) (fp:List Addr) (it:Addr) (tn:Nat→Heap→Prop):Prop where
 mem:it∈fp
 obj:∀i h,tn i h→∀b∈fp,∃o,h.get? b=some o∧∀v,o.data≠.cell v
 keep:∀i h h',tn i h→(∀b∈fp,∀o,h.get? b=some o→h'.get? b=some o)→tn i h'
 item:∀(X:Cx),X.prog=P→X.w=w→X.K=K→X.calm=true→∀(i:Nat) (pins:List (Addr × Obj)) (s:Shared) (σ:St) (H:Hp) (E:Value→Shared→Prop),Inv X pins σ H s→(∀b∈fp,lz X pins H b)→tn i s.heap→J.go i H →
  wpAny (model P w) X.A (pyNext (.ref it)) (λr s1=>∃u,r=some u ∧
   wpAny (model P w) X.A (letOwnedTupleGo tg (.ref it) u) (λ_ s2=>∃x H',Inv X pins σ H' s2∧RelV x u∧J.yld i H x H'∧tn (i + 1) s2.heap∧∀b∈fp,H' b=none) E s1) E s
 done:∀(X:Cx),X.prog=P→X.w=w→X.K=K→X.calm=true→∀(i:Nat) (pins:List (Addr × Obj)) (s:Shared) (σ:St) (H:Hp) (E:Value→Shared→Prop),Inv X pins σ H s→(∀b∈fp,lz X pins H b)→tn i s.heap→J.stop i H →
  wpAny (model P w) X.A (pyNext (.ref it)) (λr s1=>r=none∧Inv X pins σ H s1) E s
 self:∀(A:Around) (i:Nat) (s:Shared) (Q:Value→Shared→Prop) (E:Value→Shared→Prop),tn i s.heap→Q (.ref it) s→wpAny (model P w) A (pyIter (.ref it)) Q E s
abbrev TI:=St→Hp→(It→Hp→Prop)→Prop
def Qr (X:Cx) (pins:List (Addr × Obj)) (σ:St) (tg:Expr) (R:It→Hp→Prop) (itv:Value) (s2:Shared):Prop :=
 ∃(it:Addr) (fp:List Addr) (tn:Nat→Heap→Prop) (J:It) (H':Hp),itv=.ref it∧Inv X pins σ H' s2∧Turn X.prog X.w X.K tg J fp it tn∧tn 0 s2.heap∧(∀b∈fp,lz X pins H' b)∧R J H'
def PI (X:Cx) (tg iter:Expr) (wi:TI):Prop :=
 ∀(pins:List (Addr × Obj)) (s:Shared) (σ:St) (H:Hp) (R:It→Hp→Prop),Inv X pins σ H s→wi σ H R →
  wpAny (model X.prog X.w) X.A (eval iter X.env) (λv s1=>wpAny (model X.prog X.w) X.A (pyIter v) (Qr X pins σ tg R) X.xe s1) X.xe s
theorem Au {M:Model} {A:Around} {E:Value→Shared→Prop} {s:Shared} {tg:Expr} {it:Addr} {u:Value} {o:Obj} {n:String} {vs:Array Value} {Q:Unit→Shared→Prop} (ho:s.heap.get? it=some o) (hc:o.cls=.type n) (hd:o.data=.fields vs)
  (hn:["enumerate","zip","dict_itemiterator","dict_reverseitemiterator","odict_iterator","itertools.zip_longest","itertools.pairwise"].contains n=false) (hQ:Q () s):wpAny M A (letOwnedTupleGo tg (.ref it) u) Q E s:=by
 unfold letOwnedTupleGo
 cases tg <;> first
  | exact wpAny_pure hQ
  | (cases u <;> first
    | exact wpAny_pure hQ
    | (refine wpAny_bind (wpAny_load ho ?_)
       rw [hc,hd]
       show wpAny M A (if (["enumerate","zip","dict_itemiterator","dict_reverseitemiterator","odict_iterator","itertools.zip_longest","itertools.pairwise"].contains n && vs[0]? == some (rawInt _))=true then _ else _) Q E s
       rw [if_neg (by intro h;rw [hn,S7] at h;cases h)]
       exact wpAny_pure hQ))
def OC (K:PySem.W.Frag) (a:Addr):It :=
 ⟨λi H=>∃xs x,dM K H a xs∧xs[i]?=some x,λi H x H'=>H'=H∧∀xs,dM K H a xs→xs[i]?=some x,λi H=>∃xs,dM K H a xs∧xs.length≤i⟩
def Q1 (K:PySem.W.Frag) (a:Addr):It :=
 ⟨λi H=>∃xs x,fu K H a xs∧xs[i]?=some x,λi H x H'=>H'=H∧∀xs,fu K H a xs→xs[i]?=some x,λi H=>∃xs,fu K H a xs∧xs.length≤i⟩
def Lx (lo:Int) (n:Nat):It:=⟨λi _=>i < n,λi H x H'=>H'=H∧x=.int (lo + i),λi _=>n≤i⟩
theorem CG {P:Program} {w:World} {K:PySem.W.Frag} {tg:Expr} (a it:Addr):Turn P w K tg (OC K a) [it] it (λi h=>h.IsListIter it a i) where
 mem:=by simp
 obj:=λi h st b hb=>by
  have e:b=it:=by simpa using hb
  subst e
  obtain ⟨o,e,c,d⟩:=st
  exact ⟨o,e,λv z=>by rw [d] at z;cases z⟩
 keep:=λi h h' st k=>st.at λo e=>k it (by simp) o e
 item:=by
  intro X hP hw hK hc i pins s σ H E I hf st hg
  subst hP hw hK
  obtain ⟨xs,x,hq,hx⟩:=hg
  obtain ⟨its,rv,p,hz⟩:=I.list hq
  obtain ⟨u,hu,ru⟩:=rv.get hx
  obtain ⟨f0,f1,f2,f3,f4,f5⟩:=hf it (by simp)
  refine wpAny_pyNext_list_item st p.isList (x:=u) (by simpa using hu) λh' st' sb=>?_
  have I1:Inv X pins σ H { s with heap:=h' }:=I.turned (t':=s.toks) (λb o hb e=>(sb.2 b hb).trans e) f0 f1 f3 f4 f5
  obtain ⟨o,e,c,d⟩:=id st'
  exact ⟨u,rfl,Au (s:={ s with heap:=h' }) e c d (by decide) ⟨x,H,I1,ru,⟨rfl,λys hy=>by rw [I.qz hy hq];exact hx⟩,st',λb hb=>(hf b hb).1⟩⟩
 done:=by
  intro X hP hw hK hc i pins s σ H E I hf st hg
  subst hP hw hK
  obtain ⟨xs,hq,hx⟩:=hg
  obtain ⟨its,rv,p,hz⟩:=I.list hq
  obtain ⟨f0,f1,f2,f3,f4,f5⟩:=hf it (by simp)
  have hl:=rv.length
  exact wpAny_pyNext_list_end (I.ok.hd hc) st p.isList (by simp;omega) λh' eb=>⟨rfl,I.turned (t':=s.toks) (λb o hb e=>eb b o hb e) f0 f1 f3 f4 f5⟩
 self:=λ_ _ _ _ _ st h=>wpAny_pyIter_listiter st h
theorem zY {P:Program} {w:World} {K:PySem.W.Frag} {tg:Expr} (it:Addr) (lo:Int) (n:Nat):Turn P w K tg (Lx lo n) [it] it (λi h=>IsRangeIter h it (lo + (i:Nat) * 1) ((n:Int) - (i:Nat)) 1) where
 mem:=by simp
 obj:=λi h st b hb=>by
  have e:b=it:=by simpa using hb
  subst e
  exact ⟨_,st,λv z=>by
   have z':Data.fields _=Data.cell v:=z
   cases z'⟩
 keep:=λi h h' st k=>k it (by simp) _ st
 item:=by
  intro X hP hw hK hc i pins s σ H E I hf st hg
  subst hP hw hK
  obtain ⟨f0,f1,f2,f3,f4,f5⟩:=hf it (by simp)
  have W:=Walks.range (prog:=X.prog) (w:=X.w) (I.ok.hd hc) it lo 1 n
  refine W.item i s _ _ hg st λv h' tk hv st' kk=>?_
  obtain ⟨t,rfl⟩:=hv
  have I1:Inv X pins σ H { s with heap:=h',toks:=tk }:=I.turned (λb o hb e=>kk b o (by simpa using hb) e) f0 f1 f3 f4 f5
  refine ⟨_,rfl,Au (s:={ s with heap:=h',toks:=tk }) (n:="range_iterator") st' rfl rfl (by decide) ⟨.int (lo + i),H,I1,⟨t,?_⟩,⟨rfl,rfl⟩,st',λb hb=>(hf b hb).1⟩⟩
  rw [Int.mul_one]
 done:=by
  intro X hP hw hK hc i pins s σ H E I hf st hg
  subst hP hw hK
  obtain ⟨f0,f1,f2,f3,f4,f5⟩:=hf it (by simp)
  exact wpAny_pyNext_range_end (I.ok.hd hc) st (by have:n≤i:=hg;omega) λh' eb=>⟨rfl,I.turned (t':=s.toks) (λb o hb e=>eb b o hb e) f0 f1 f3 f4 f5⟩
 self:=λ_ _ _ _ _ st h=>wpAny_pyIter_rangeiter st h
end L2
namespace L2
open PySem PySem.Spec PyProof.Rows
section
variable {X:Cx} {tg:Expr}
def Dz (K:PySem.W.Frag) (tl:TE):TI:=λσ H R=>tl σ H λx H1=>∃a,x=.ref a∧(∃xs,dM K H1 a xs)∧R (OC K a) H1
def OP (K:PySem.W.Frag) (tl:TE):TI:=λσ H R=>tl σ H λx H1=>∃a,x=.ref a∧(∃xs,fu K H1 a xs)∧R (Q1 K a) H1
theorem vT {l:Expr} {tl:TE} (hl:PE X l tl):PI X tg l (Dz X.K tl):=by
 intro pins s σ H R I h
 refine cf (hl pins s σ H _ I h) λv s1 ⟨x,H1,I1,r1,q1⟩=>?_
 obtain ⟨a,e,⟨xs,hq⟩,q⟩:=q1
 subst e
 cases r1
 obtain ⟨its,rv,p,hz⟩:=I1.list hq
 refine wpAny_pyIter_list p.isList ?_
 refine ⟨s1.heap.objs.size,[s1.heap.objs.size],_,_,H1,rfl,I1.kept (t':=s1.toks) λb o e=>Heap.get?_push_of_some _ e,CG a _,⟨_,Heap.get?_push_size _ rfl,rfl,rfl⟩,λb hb=>?_,q⟩
 have e:b=s1.heap.objs.size:=by simpa using hb
 subst e
 exact I1.Dq (Rz _) (I1.hok.fresh (Rz _))
theorem EF {pins:List (Addr × Obj)} {σ:St} {H:Hp} {s:Shared} {R:It→Hp→Prop} {E:Value→Shared→Prop} {lo hi:Int} {t u v:Tok} {tk:Nat} (I:Inv X pins σ H s) (h1:-(2 ^ 62)≤lo) (h2:lo < 2 ^ 62) (h3:-(2 ^ 62)≤hi) (h4:hi < 2 ^ 62)
  (q:R (Lx lo (hi - lo).toNat) H):wpAny (model X.prog X.w) X.A (pyIter (.ref s.heap.objs.size)) (Qr X pins σ tg R) E { s with heap:=s.heap.push { cls:=.type "range",data:=.fields #[.int lo t,.int hi u,.int 1 v] },toks:=tk }:=by
 refine wpAny_pyIter_range (IsRange.new ..) (small_one h1 h2 h3 h4) ?_
 have I1:Inv X pins σ H { s with heap:=s.heap.push { cls:=.type "range",data:=.fields #[.int lo t,.int hi u,.int 1 v] },toks:=tk }:=I.kept λb o e=>Heap.get?_push_of_some _ e
 refine ⟨(s.heap.push { cls:=.type "range",data:=.fields #[.int lo t,.int hi u,.int 1 v] }).objs.size,[(s.heap.push { cls:=.type "range",data:=.fields #[.int lo t,.int hi u,.int 1 v] }).objs.size],_,_,H,rfl,
  I1.kept (t':=tk) λb o e=>Heap.get?_push_of_some _ e,zY _ lo (hi - lo).toNat,?_,λb hb=>?_,q⟩
 ·have e1:lo + ((0:Nat):Int) * 1=lo:=by simp
  have e2:(((hi - lo).toNat:Nat):Int) - ((0:Nat):Int)=Builtin.Range.rangeSize lo hi 1:=by rw [rangeSize_one];split <;> omega
  show IsRangeIter _ _ (lo + ((0:Nat):Int) * 1) ((((hi - lo).toNat:Nat):Int) - ((0:Nat):Int)) 1
  rw [e1,e2]
  exact Heap.get?_push_size _ rfl
 ·have e:b=(s.heap.push { cls:=.type "range",data:=.fields #[.int lo t,.int hi u,.int 1 v] }).objs.size:=by simpa using hb
  subst e
  exact I1.Dq (Rz _) (I1.hok.fresh (Rz _))
def DA (ta:TA):TI:=λσ H R=>ta σ H λvs H1=>∃j:Int,vs=[.int j]∧-(2 ^ 62)≤j∧j < 2 ^ 62∧R (Lx 0 j.toNat) H1
def Mb (ta:TA):TI:=λσ H R=>ta σ H λvs H1=>∃i j:Int,vs=[.int i,.int j]∧(-(2 ^ 62)≤i∧i < 2 ^ 62∧-(2 ^ 62)≤j∧j < 2 ^ 62)∧R (Lx i (j - i).toNat) H1
theorem oy {a:Expr} {ta:TA} {p pos:Pos} (hg:Gl X "range") (hm:X.mg "range"=none) (ha:PA X [a] ta) (hs:starEach [a] X.env=[(false,eval a X.env)]:=by rfl):PI X tg (.Call (.Name "range" p) [a] [] pos) (DA ta):=by
 intro pins s σ H R I h
 refine Call_ (oa I hg hm boot_range (PyProof.Rows.callWith_type1 (cf (ha pos pins s σ H _ I h) λus s1 ⟨vs,H1,I1,r1,q1⟩=>?_) hs rfl))
 obtain ⟨j,e,q1,q2,q⟩:=q1
 subst e
 cases r1 with
 | cons r rr =>
  cases rr
  obtain ⟨t,rfl⟩:=r
  exact call_range_1 (EF I1 (by omega) (by omega) q1 q2 (by simpa using q))
def KQ (wi:TI) (g:TG) (tb:TS):TS:=λD σ H=>wi σ H λJ H1=>∃W:Nat→Nat→St→Hp→Prop,(∃m,W 0 m σ H1)∧∀i m σ H,W i m σ H →
 (J.stop i H∧D.nx σ H)∨(J.go i H∧∃N:St→Hp→Prop,(∀σ' H',N σ' H'→∃m',m' < m∧W (i + 1) m' σ' H')∧∀x H',J.yld i H x H'→g x σ H' λσ2 H2=>tb { D with nx:=N,ct:=N,bk:=D.nx } σ2 H2)
def vU (fp:List Addr) (h:Heap):List (Addr × Obj):=fp.filterMap λb=>(h.get? b).map λo=>(b,o)
theorem cE {fp:List Addr} {h:Heap} {b:Addr} {o:Obj} (hb:b∈fp) (e:h.get? b=some o):(b,o)∈vU fp h:=SX.mpr ⟨b,hb,by rw [e];rfl⟩
theorem Cb {fp:List Addr} {h:Heap} {p:Addr × Obj} (hp:p∈vU fp h):p.1∈fp∧h.get? p.1=some p.2:=by
 obtain ⟨b,hb,e⟩:=SX.mp hp
 cases q:h.get? b with
 | none=>rw [q] at e;cases e
 | some o =>
  rw [q] at e
  have e':(b,o)=p:=Option.some.inj e
  subst e'
  exact ⟨hb,q⟩
theorem Inv.pinned {pins:List (Addr × Obj)} {σ:St} {H:Hp} {s:Shared} {fp:List Addr} (I:Inv X pins σ H s) (hf:∀b∈fp,lz X pins H b) (ho:∀b∈fp,∃o,s.heap.get? b=some o∧∀v,o.data≠.cell v):Inv X (pins ++ vU fp s.heap) σ H s :=
 I.AR λp hp=>(RC.mp hp).elim (λz=>I.pin p (RH _ z)) λz=>by
  obtain ⟨hb,e⟩:=Cb z
  obtain ⟨f0,f1,f2,_⟩:=hf p.1 hb
  obtain ⟨o,e',d⟩:=ho p.1 hb
  rw [e] at e';cases e'
  exact ⟨e,f0,f1,f2,d⟩
theorem Inv.gr {pins pl:List (Addr × Obj)} {σ:St} {H:Hp} {s:Shared} (I:Inv X (pins ++ pl) σ H s):Inv X pins σ H s:=I.AR λp hp=>I.pin p (RH _ (SA _ hp))
theorem zB {iter:Expr} {body:List Stmt} {wi:TI} {g:TG} {tb:TS} {pos:Pos} (hp:PassesOwn (model X.prog X.w) X.A X.env X.xe) (hc:X.calm=true) (hi:PI X tg iter wi) (hg:PG X tg g) (hb:xf X body tb)
  (hs:∀x,foldedSetIterable iter X.env x=pure x:=by intro _;rfl):PS X (.For tg iter body [] pos) (KQ wi g tb):=by
 intro pins s σ H D I h
 refine wpAny_For (cf (hi pins s σ H _ I h) λv s1 h1=>cf h1 λitv s2 h2=>?_) hs
 obtain ⟨it,fp,tn,J,H2,e,I2,T,st2,f2,W,⟨m0,w0⟩,turn⟩:=h2
 subst e
 have stat:∀{H':Hp},(∀b∈fp,H' b=none)→∀b∈fp,lz X pins H' b:=λhn b hb=>⟨hn b hb,(f2 b hb).2⟩
 refine codeAny_forLoop_any (λn s'=>∃i σ' H',Inv X pins σ' H' s'∧tn i s'.heap∧(∀b∈fp,H' b=none)∧W i n σ' H') ?_ m0 ⟨0,σ,H2,I2,st2,λb hb=>(f2 b hb).1,w0⟩
 rintro n s3 ⟨i,σ3,H3,I3,st3,fr3,w3⟩
 rcases turn i n σ3 H3 w3 with ⟨stop,qn⟩ | ⟨go,N,hN,step⟩
 ·refine wpAny_passesOwn hp (cf (T.done X rfl rfl rfl hc i pins s3 σ3 H3 X.xe I3 (stat fr3) st3 stop) λr s4 ⟨hr,I4⟩=>?_)
  subst hr
  exact wpAny_execs_nil ⟨σ3,H3,I4,qn⟩
 ·refine wpAny_passesOwn hp (cf (T.item X rfl rfl rfl hc i pins s3 σ3 H3 X.xe I3 (stat fr3) st3 go) λr s4 ⟨u,hr,h4⟩=>?_)
  subst hr
  refine wpAny_passesOwn hp (cf h4 λ_ s5 ⟨x,H5,I5,r5,y5,st5,fr5⟩=>?_)
  have I5':=I5.pinned (stat fr5) (T.obj _ _ st5)
  refine wpAny_passesOwn hp (cf (hg _ s5 σ3 H5 x u _ I5' r5 (step x H5 y5)) λ_ s6 ⟨σ6,H6,I6,q6⟩=>?_)
  refine wpAny_passesOwn hp (cf (hb _ s6 σ6 H6 _ I6 q6) λf s7 q7=>?_)
  have again:∀{σ7:St} {H7:Hp},Inv X (pins ++ vU fp s5.heap) σ7 H7 s7→N σ7 H7→∃m,m < n∧∃i σ' H',Inv X pins σ' H' s7∧tn i s7.heap∧(∀b∈fp,H' b=none)∧W i m σ' H':=λ{σ7 H7} I7 n7=>by
   obtain ⟨m',hm,w7⟩:=hN σ7 H7 n7
   refine ⟨m',hm,i + 1,σ7,H7,I7.gr,T.keep _ _ _ st5 λb hb o e=>(I7.pin (b,o) (RH _ (RH _ (cE hb e)))).1,λb hb=>?_,w7⟩
   obtain ⟨o,e,d⟩:=T.obj _ _ st5 b hb
   exact (I7.pin (b,o) (RH _ (RH _ (cE hb e)))).2.1
  cases f with
  | next=>obtain ⟨σ7,H7,I7,n7⟩:=q7;exact again I7 n7
  | cont=>obtain ⟨σ7,H7,I7,n7⟩:=q7;exact again I7 n7
  | brk=>obtain ⟨σ7,H7,I7,q7⟩:=q7;exact ⟨σ7,H7,I7.gr,q7⟩
  | ret v=>obtain ⟨x7,σ7,H7,I7,r7,q7⟩:=q7;exact ⟨x7,σ7,H7,I7.gr,r7,q7⟩
end
end L2
namespace L2
open PySem PySem.Spec PyProof.Rows
abbrev R2:=V→V→Hp→VK→Prop
def eI (X:Cx) (f:Value→Value→Sem Value) (r:R2):Prop :=
 ∀(pins:List (Addr × Obj)) (s:Shared) (σ:St) (H:Hp) (x y:V) (v u:Value) (Q:VK),Inv X pins σ H s→RelV x v→RelV y u→r x y H Q →
  wpAny (model X.prog X.w) X.A (f v u) (EP X pins σ Q) X.xe s
def pA (X:Cx) (f:Value→Sem Value) (r:V→Hp→VK→Prop):Prop :=
 ∀(pins:List (Addr × Obj)) (s:Shared) (σ:St) (H:Hp) (x:V) (v:Value) (Q:VK),Inv X pins σ H s→RelV x v→r x H Q →
  wpAny (model X.prog X.w) X.A (f v) (EP X pins σ Q) X.xe s
def bJ (X:Cx) (f:Value) (r:List V→Hp→VK→Prop):Prop :=
 ∀(pins:List (Addr × Obj)) (s:Shared) (σ:St) (H:Hp) (xs:List V) (us:List Value) (Q:VK),Inv X pins σ H s→Vals xs us→r xs H Q →
  wpAny (model X.prog X.w) X.A (call f us) (EP X pins σ Q) X.xe s
def OF (X:Cx) (r:V→Hp→(Bool→Hp→Prop)→Prop):Prop :=
 ∀(pins:List (Addr × Obj)) (s:Shared) (σ:St) (H:Hp) (x:V) (v:Value) (Q:Bool→Hp→Prop),Inv X pins σ H s→RelV x v→r x H Q →
  wpAny (model X.prog X.w) X.A (truthy v) (TP X pins σ Q) X.xe s
def Ft (r:R2) (ta tb:TE):TE:=λσ H Q=>ta σ H λx H1=>tb σ H1 λy H2=>r x y H2 Q
def PY (r:V→Hp→VK→Prop) (ta:TE):TE:=λσ H Q=>ta σ H λx H1=>r x H1 Q
def rI (C:Int→Int→Prop) (g:Int→Int→V):R2:=λx y H Q=>∃i j,x=.int i∧y=.int j∧C i j∧Q (g i j) H
def G7 (g:Int→Int→V):R2:=λx y H Q=>∃i j,x=.int i∧y=.int j∧Q (g i j) H
def rU (g:Int→V):V→Hp→VK→Prop:=λx H Q=>∃i,x=.int i∧Q (g i) H
section
variable {X:Cx} {a b c:Expr} {ta tb tc:TE} {pos:Pos}
theorem IZ (ha:PE X a ta) (hb:PE X b tb) {pins:List (Addr × Obj)} {s:Shared} {σ:St} {H:Hp} {R:V→V→Hp→Prop} (I:Inv X pins σ H s)
  (h:ta σ H λx H1=>tb σ H1 λy H2=>R x y H2) {Q:Value→Shared→Prop} {f:Value→Value→Sem Value}
  (hf:∀v u s2 x y H2,Inv X pins σ H2 s2→RelV x v→RelV y u→R x y H2→wpAny (model X.prog X.w) X.A (f v u) Q X.xe s2) :
  wpAny (model X.prog X.w) X.A (eval a X.env) (λv s₁=>wpAny (model X.prog X.w) X.A (eval b X.env) (λu s₂=>wpAny (model X.prog X.w) X.A (f v u) Q X.xe s₂) X.xe s₁) X.xe s:=by
 refine cf (ha pins s σ H _ I h) λv s1 ⟨x,H1,I1,r1,q1⟩=>?_
 refine cf (hb pins s1 σ H1 _ I1 q1) λu s2 ⟨y,H2,I2,r2,q2⟩=>?_
 exact hf v u s2 x y H2 I2 r1 r2 q2
theorem Ei {op:Operator} {r:R2} (ho:eI X (binaryOp op) r) (ha:PE X a ta) (hb:PE X b tb):PE X (.BinOp a op b pos) (Ft r ta tb):=by
 intro pins s σ H Q I h
 exact wpAny_BinOp (IZ ha hb I h λv u s2 x y H2 I2 rx ry q=>ho pins s2 σ H2 x y v u Q I2 rx ry q)
theorem Ek {op:UnaryOp} {r:V→Hp→VK→Prop} (ho:pA X (unaryOp op) r) (ha:PE X a ta):PE X (.UnaryOp op a pos) (PY r ta):=by
 intro pins s σ H Q I h
 exact UnaryOp_ (cf (ha pins s σ H _ I h) λv s1 ⟨x,H1,I1,r1,q1⟩=>ho pins s1 σ H1 x v Q I1 r1 q1)
theorem Oq {f:Value→Value→Sem Value} {C:Int→Int→Prop} {g:Int→Int→Int}
  (rule:∀(i j:Int) (t u:Tok) (s:Shared) (Q:Value→Shared→Prop) (E:Value→Shared→Prop),C i j→Q (.int (g i j) s.toks) { s with toks:=s.toks + 1 }→wpAny (model X.prog X.w) X.A (f (.int i t) (.int j u)) Q E s) :
  eI X f (rI C λi j=>.int (g i j)):=by
 intro pins s σ H x y v u Q I rx ry h
 obtain ⟨i,j,rfl,rfl,hc,q⟩:=h
 obtain ⟨t,rfl⟩:=rx
 obtain ⟨t',rfl⟩:=ry
 exact rule i j t t' s _ _ hc ⟨.int (g i j),H,I.tok _,⟨_,rfl⟩,q⟩
theorem MW {f:Value→Value→Sem Value} {g:Int→Int→Int}
  (rule:∀(i j:Int) (t u:Tok) (s:Shared) (Q:Value→Shared→Prop) (E:Value→Shared→Prop),Q (.int (g i j) s.toks) { s with toks:=s.toks + 1 }→wpAny (model X.prog X.w) X.A (f (.int i t) (.int j u)) Q E s) :
  eI X f (G7 λi j=>.int (g i j)):=by
 intro pins s σ H x y v u Q I rx ry h
 obtain ⟨i,j,rfl,rfl,q⟩:=h
 obtain ⟨t,rfl⟩:=rx
 obtain ⟨t',rfl⟩:=ry
 exact rule i j t t' s _ _ ⟨.int (g i j),H,I.tok _,⟨_,rfl⟩,q⟩
theorem Gz {f:Value→Value→Sem Value} {g:Int→Int→Bool}
  (rule:∀(i j:Int) (t u:Tok) (s:Shared) (Q:Value→Shared→Prop) (E:Value→Shared→Prop),Q (.bool (g i j)) s→wpAny (model X.prog X.w) X.A (f (.int i t) (.int j u)) Q E s) :
  eI X f (G7 λi j=>.bl (g i j)):=by
 intro pins s σ H x y v u Q I rx ry h
 obtain ⟨i,j,rfl,rfl,q⟩:=h
 obtain ⟨t,rfl⟩:=rx
 obtain ⟨t',rfl⟩:=ry
 exact rule i j t t' s _ _ ⟨.bl (g i j),H,I,rfl,q⟩
def II (i j:Int):Prop:=0≤j∧j≤1000000∧i.natAbs < 2 ^ 64
theorem JU:eI X (binaryOp .Add) (G7 λi j=>.int (i + j)):=MW λ_ _ _ _ _ _ _ q=>add_int q
theorem Ka:eI X (binaryOp .Sub) (G7 λi j=>.int (i - j)):=MW λ_ _ _ _ _ _ _ q=>sub_int q
theorem JY:eI X (binaryOp .Mod) (rI (λ_ j=>0 < j) λi j=>.int (i % j)):=Oq λi j _ _ _ _ _ hc q=>by
 have h1:(0:Int) < j:=hc
 exact mod_int' (by omega) (by rw [Int.fmod_eq_emod_of_nonneg i (by omega)];exact q)
theorem J_:eI X (binaryOp .Pow) (rI II λi j=>.int (i ^ j.toNat)):=Oq λ_ _ _ _ _ _ _ hc q=>pow_int_small hc.1 hc.2.1 hc.2.2 q
theorem Ro {f:Value→Sem Value} {g:Int→Int}
  (rule:∀(i:Int) (t:Tok) (s:Shared) (Q:Value→Shared→Prop) (E:Value→Shared→Prop),Q (.int (g i) s.toks) { s with toks:=s.toks + 1 }→wpAny (model X.prog X.w) X.A (f (.int i t)) Q E s) :
  pA X f (rU λi=>.int (g i)):=by
 intro pins s σ H x v Q I rx h
 obtain ⟨i,rfl,q⟩:=h
 obtain ⟨t,rfl⟩:=rx
 exact rule i t s _ _ ⟨.int (g i),H,I.tok _,⟨_,rfl⟩,q⟩
theorem K_:pA X (unaryOp .USub) (rU λi=>.int (-i)):=Ro λ_ _ _ _ _ q=>neg_int q
end
section
variable {X:Cx} {a b c:Expr} {ta tb tc:TE} {pos:Pos}
theorem yQ {pins:List (Addr × Obj)} {σ:St} {H:Hp} {s:Shared} {Q:VK} {k k':Bool} (I:Inv X pins σ H s) (q:Q (.bl k) H) (e:k=k'):EP X pins σ Q (.bool k') s:=by
 subst e
 exact ⟨.bl k,H,I,rfl,q⟩
theorem M0:eI X (compareOp .Lt) (G7 λi j=>.bl (decide (i < j))):=Gz λ_ _ _ _ _ _ _ q=>lt_int q
theorem MZ:eI X (compareOp .LtE) (G7 λi j=>.bl (decide (i≤j))):=Gz λ_ _ _ _ _ _ _ q=>le_int q
theorem MY:eI X (compareOp .Gt) (G7 λi j=>.bl (decide (j < i))):=Gz λ_ _ _ _ _ _ _ q=>gt_int q
theorem MX:eI X (compareOp .GtE) (G7 λi j=>.bl (decide (j≤i))):=Gz λ_ _ _ _ _ _ _ q=>ge_int q
theorem Co:eI X (compareOp .Lt) (λx y H Q=>∃i j,x=.str i∧y=.str j∧Q (.bl (decide (i.cps.toList < j.cps.toList))) H):=by
 intro pins s σ H x y v u Q I rx ry h
 obtain ⟨i,j,rfl,rfl,q⟩:=h
 obtain ⟨t,rfl⟩:=rx
 obtain ⟨t',rfl⟩:=ry
 exact lt_str (yQ I q rfl)
theorem JX:eI X (compareOp .Is) (λx y H Q=>y=.non∧Q (.bl (decide (x=.non))) H):=by
 intro pins s σ H x y v u Q I rx ry h
 obtain ⟨rfl,q⟩:=h
 cases ry
 refine is_none_gen (yQ I q ?_)
 cases x <;> first
  | (cases rx;rfl)
  | (obtain ⟨t,rfl⟩:=rx;rfl)
theorem GD:eI X (compareOp .IsNot) (λx y H Q=>y=.non∧Q (.bl (!decide (x=.non))) H):=by
 intro pins s σ H x y v u Q I rx ry h
 obtain ⟨rfl,q⟩:=h
 cases ry
 refine isnot_none_gen (yQ I q ?_)
 cases x <;> first
  | (cases rx;rfl)
  | (obtain ⟨t,rfl⟩:=rx;rfl)
theorem eI.or {f:Value→Value→Sem Value} {r r':R2} (h:eI X f r) (h':eI X f r'):eI X f (λx y H Q=>r x y H Q∨r' x y H Q):=by
 intro pins s σ H x y v u Q I rx ry q
 rcases q with q | q
 ·exact h pins s σ H x y v u Q I rx ry q
 ·exact h' pins s σ H x y v u Q I rx ry q
theorem DX (b:Expr) {op:CmpOp} (h:op≠.In:=by decide) (h2:op≠.NotIn:=by decide):behindInMarks op b=false:=by
 have e1:(op == CmpOp.In)=false:=by cases op <;> first | rfl | exact absurd rfl h
 have e2:(op == CmpOp.NotIn)=false:=by cases op <;> first | rfl | exact absurd rfl h2
 cases b <;> simp [behindInMarks,e1,e2]
theorem vL {op:CmpOp} {r:R2} (ho:eI X (compareOp op) r) (ha:PE X a ta) (hb:PE X b tb) (hm:behindInMarks op b=false):PE X (.Compare a [op] [b] pos) (Ft r ta tb):=by
 intro pins s σ H Q I h
 exact wpAny_Compare1 (IZ ha hb I h λv u s2 x y H2 I2 rx ry q=>ho pins s2 σ H2 x y v u Q I2 rx ry q) hm
def Fc (t:TE):TT:=λσ H Q=>t σ H λx H'=>∃k,x=.bl k∧Q k H'
theorem v_ {op:CmpOp} {r:R2} (ho:eI X (compareOp op) r) (ha:PE X a ta) (hb:PE X b tb) (hm:behindInMarks op b=false):PT X (.Compare a [op] [b] pos) (Fc (Ft r ta tb)):=by
 intro pins s σ H Q I h
 refine wpAny_isTrue_Compare1 (cf (ha pins s σ H _ I h) λv s1 ⟨x,H1,I1,r1,q1⟩=>cf (hb pins s1 σ H1 _ I1 q1) λu s2 ⟨y,H2,I2,r2,q2⟩ =>
  cf (ho pins s2 σ H2 x y v u _ I2 r1 r2 q2) λc s3 ⟨z,H3,I3,r3,k,e,q3⟩=>?_) hm
 subst e
 cases r3
 exact wpAny_truthy_bool ⟨H3,I3,q3⟩
def E4 (r r':R2) (ta tb tc:TE):TE:=λσ H Q=>ta σ H λx H1=>tb σ H1 λy H2=>r x y H2 λz H3=>∃k,z=.bl k ∧
 (if k=true then tc σ H3 λw' H4=>r' y w' H4 Q else Q (.bl false) H3)
theorem Ee {op op':CmpOp} {r r':R2} (ho:eI X (compareOp op) r) (ho':eI X (compareOp op') r') (ha:PE X a ta) (hb:PE X b tb) (hc:PE X c tc)
  (hm:lastMarks [op,op'] [b,c]=false:=by with_unfolding_all rfl):PE X (.Compare a [op,op'] [b,c] pos) (E4 r r' ta tb tc):=by
 intro pins s σ H Q I h
 refine Compare_chain (cf (ha pins s σ H _ I h) λv s1 ⟨x,H1,I1,r1,q1⟩=>chain_link (cf (hb pins s1 σ H1 _ I1 q1) λu s2 ⟨y,H2,I2,r2,q2⟩ =>
  cf (ho pins s2 σ H2 x y v u _ I2 r1 r2 q2) λd s3 ⟨z,H3,I3,r3,k,e,q3⟩=>?_)) hm
 subst e
 cases r3
 refine wpAny_truthy_bool ?_
 cases k with
 | false=>exact ite_ff ⟨.bl false,H3,I3,rfl,q3⟩
 | true=>exact ite_tt (chain_last (cf (hc pins s3 σ H3 _ I3 q3) λw' s4 ⟨z',H4,I4,r4,q4⟩=>ho' pins s4 σ H4 y z' u w' Q I4 r2 r4 q4))
def IV (K:PySem.W.Frag) (x:V) (H:Hp) (k:Bool):Prop :=
 match x with
 | .non=>k=false
 | .bl b=>k=b
 | .int i=>k=(i != 0)
 | .str y=>y.length≤sizeLine∧k=((y.length:Int) != 0)
 | .byt y=>y.size≤sizeLine∧k=((y.size:Int) != 0)
 | .ref p=>(∃xs,dM K H p xs∧k=!xs.isEmpty)∨(∃xs,fu K H p xs∧k=!xs.isEmpty)∨∃kvs ep,H p=some (.dE kvs ep)∧k=!kvs.isEmpty
 | _=>False
theorem yV {κ:Type} {kvs:List (κ × V)} {vs:List (κ × Value)} (r:KV kvs vs):(!vs.isEmpty)=!kvs.isEmpty:=by
 cases r <;> rfl
theorem qs {xs:List V} {its:List Value} (r:Vals xs its):(!its.toArray.isEmpty)=!xs.isEmpty:=by
 cases r <;> simp
theorem lJ:(sizeLine:Nat) < 2 ^ 63:=by rw [sizeLine_eq];decide
theorem K6:OF X (λx H Q=>∃k,IV X.K x H k∧Q k H):=by
 intro pins s σ H x v Q I rx h
 obtain ⟨k,e,q⟩:=h
 have hl:=lJ
 have hs:sizeLine=16777216:=sizeLine_eq
 cases x with
 | non =>
  cases rx
  have e':k=false:=e
  subst e'
  exact truthy_none ⟨H,I,q⟩
 | bl b =>
  cases rx
  have e':k=b:=e
  subst e'
  exact wpAny_truthy_bool ⟨H,I,q⟩
 | int i =>
  obtain ⟨t,rfl⟩:=rx
  have e':k=(i != 0):=e
  subst e'
  exact PySem.P.truthy_int ⟨H,I,q⟩
 | str y =>
  obtain ⟨t,rfl⟩:=rx
  obtain ⟨hy,e'⟩:y.length≤sizeLine∧k=((y.length:Int) != 0):=e
  subst e'
  exact PySem.P.truthy_str (by omega) ⟨H,I.tok _,q⟩
 | byt y =>
  obtain ⟨t,rfl⟩:=rx
  obtain ⟨hy,e'⟩:y.size≤sizeLine∧k=((y.size:Int) != 0):=e
  subst e'
  exact PySem.W.truthy_bytes (by omega) ⟨H,I.tok _,q⟩
 | ref p =>
  cases rx
  have e':(∃xs,dM X.K H p xs∧k=!xs.isEmpty)∨(∃xs,fu X.K H p xs∧k=!xs.isEmpty)∨∃kvs ep,H p=some (.dE kvs ep)∧k=!kvs.isEmpty:=e
  rcases e' with ⟨xs,hx,e'⟩ | ⟨xs,hx,e'⟩ | ⟨kvs,ep,hx,e'⟩
  ·subst e'
   obtain ⟨its,r,pl,hz⟩:=I.list hx
   have hlen:=r.length
   exact wpAny_truthy_list pl.isList (by simp only [Rx];omega) ⟨H,I.tok _,by rw [qs r];exact q⟩
  ·subst e'
   obtain ⟨its,r,pl,hz⟩:=I.tuple hx
   have hlen:=r.length
   exact truthy_tuple pl (by simp only [Rx];omega) ⟨H,I.tok _,by rw [qs r];exact q⟩
  ·subst e'
   obtain ⟨hz,hS,vs,r,m⟩:kvs.length≤sizeLine∧(p == sysModules)=false∧∃vs,KV kvs vs∧s.heap.DictAt (strKind X.prog X.w) p vs ep:=I.hok p _ hx
   have hlen:kvs.length=vs.length:=Paired.length r
   exact wpAny_truthy_dict hS m.dictOf (by omega) ⟨H,I.tok _,by rw [yV r];exact q⟩
 | _=>exact (show False from e).elim
theorem Er (ha:PE X a ta) (he:∀whole,isTrue a X.env whole=(do let v ← whole;standAt a.pos;holding [v] (truthy v))) :
  PT X a (λσ H Q=>ta σ H λx H'=>∃k,IV X.K x H' k∧Q k H'):=by
 intro pins s σ H Q I h
 exact isTrue_plain (cf (ha pins s σ H _ I h) λv s1 ⟨x,H1,I1,r1,q1⟩=>K6 pins s1 σ H1 x v Q I1 r1 q1) (he _)
theorem vals1 {x:V} {us:List Value} (r:Vals [x] us):∃u,us=[u]∧RelV x u:=by
 cases r with
 | cons r1 r2=>cases r2;exact ⟨_,rfl,r1⟩
theorem vals2 {x y:V} {us:List Value} (r:Vals [x,y] us):∃u w',us=[u,w']∧RelV x u∧RelV y w':=by
 cases r with
 | cons r1 r2 =>
  cases r2 with
  | cons r3 r4=>cases r4;exact ⟨_,_,rfl,r1,r3⟩
theorem C8:bJ X (.builtin "abs") (λxs H Q=>∃i,xs=[.int i]∧Q (.int (if i < 0 then -i else i)) H):=by
 intro pins s σ H xs us Q I r h
 obtain ⟨i,rfl,q⟩:=h
 obtain ⟨u,rfl,t,rfl⟩:=vals1 r
 exact call_abs_int λu tk=>⟨.int (if i < 0 then -i else i),H,I.tok _,⟨_,rfl⟩,q⟩
end
end L2
namespace L2
open PySem PySem.Spec PyProof.Rows
structure yG (h:Heap) (x dx C:Addr) (mA:Str→Option Value):Prop where
 obj:h.get? x=some (PySem.W.instObj C dx)
 ns:h.Ns1 dx mA
 ne:dx≠x
theorem B6 {h:Heap} {dx:Addr} {mA:Str→Option Value} (n:h.Ns1 dx mA):∃od,h.get? dx=some od∧∀name,PySem.W.lookIn name od=some (mA name):=by
 obtain ⟨o,es,ep,ho,hd,hk,_,hm⟩:=n
 refine ⟨o,ho,λname=>?_⟩
 have e:=hm name
 unfold nsFind findBy at e
 rw [← Array.find?_toList] at e
 unfold PySem.W.lookIn
 rw [hd]
 dsimp only
 split
 ·rename_i y q
  rw [q] at e
  exact congrArg some e
 ·rename_i q
  rw [q] at e
  have a:es.toList.any (·.refKey)=false:=by
   rw [List.any_eq_false]
   intro y hy
   obtain ⟨z,t,hkey⟩:=hk y (Array.mem_toList_iff.mp hy)
   simp [DictEntry.refKey,hkey]
  have a':¬ es.toList.any (·.refKey)=true:=by rw [a];exact R8
  rw [if_neg a']
  exact congrArg some e
theorem yG.look {h:Heap} {x dx C:Addr} {mA:Str→Option Value} (I:yG h x dx C mA):∃od,PySem.W.InstAt h x (PySem.W.instObj C dx) C (some od)∧∀name,PySem.W.lookIn name od=some (mA name) :=
 let ⟨od,ho,hl⟩:=B6 I.ns
 ⟨od,⟨I.obj,rfl,rfl,ho⟩,hl⟩
section
variable {prog:Program} {w:World} {A:Around} {E:Value→Shared→Prop} {s:Shared} {K:PySem.W.Frag} {x dx C f:Addr} {mA:Str→Option Value} {name:Str} {v:Value}
theorem get_map {expr:Bool} {Q:Value→Shared→Prop} (X:K.In s.heap) (I:yG s.heap x dx C mA) (hg:PySem.W.plainGet K C name=true) (hh:PySem.W.hasDictIn K C=true)
  (ha:PySem.W.findIn K (.ref C) name=some none) (hv:mA name=some v) (hv':PySem.W.handedIn v=true) (h:Q v { s with toks:=s.toks + 1 }) :
  wpAny (model prog w) A (getAttr (.ref x) name expr) Q E s:=by
 obtain ⟨od,J,hl⟩:=I.look
 exact PySem.W.get_value X J (PySem.W.plainGet_of hg).1 (PySem.W.findObj_own hh ha rfl (by rw [hl,hv])) hv' h
theorem Dw {pl:Sem Bool} {Q:Value × List Value→Shared→Prop} (X:K.In s.heap) (I:yG s.heap x dx C mA) (hg:PySem.W.plainGet K C name=true)
  (hf:PySem.W.findIn K (.ref C) name=some (some (.ref f))) (ht:PySem.W.isFn K (.ref f)=true) (hv:mA name=none) (h:Q (.ref f,[.ref x]) s) :
  wpAny (model prog w) A (getMethod (.ref x) name pl) Q E s:=by
 obtain ⟨od,J,hl⟩:=I.look
 exact PySem.W.method_fn X J (PySem.W.plainGet_of hg).1 (PySem.W.plainGet_of hg).2 hf (beq_iff_eq.mp ht) (by show (PySem.W.lookIn name od).map (·.isSome)=some false;rw [hl,hv];rfl) h
theorem Hl {ns:List Str} {Q:Unit→Shared→Prop} (X:K.In s.heap) (I:yG s.heap x dx C mA)
  (hs:PySem.W.findIn K (.ref C) "__setattr__"=some (some (.builtin "object.__setattr__"))) (hp:PySem.W.plainOver K C=true) (ht:PySem.W.takerIn K C name=some none) (hh:PySem.W.hasDictIn K C=true)
  (hw:PySem.Within mA ns) (hsz:ns.length≤sizeLine)
  (h:∀h',yG h' x dx C (λy=>if y=name then some v else mA y)→Heap.SameBut dx s.heap h'→Q () { s with heap:=h',toks:=s.toks + 2 }) :
  wpAny (model prog w) A (setAttr (.ref x) name v) Q E s:=by
 obtain ⟨od,J,hl⟩:=I.look
 refine PySem.W.set_plain X J hs (PySem.W.osa_open (s:={ s with toks:=s.toks + 1 }) (r:=none) X J hp ht λb=>?_)
 obtain ⟨cd,hc,hd'⟩:=PySem.W.any_some hh
 have hx:s.heap.get? x=some ⟨.ref C,some dx,.plain,#[]⟩:=I.obj
 refine wpAny_bind (wpAny_pure (wpAny_bind (wpAny_bind (wpAny_loadPart hx (wpAny_bind (PySem.W.Looks.here (s:={ s with toks:=s.toks + 1 }) (PySem.W.looks_clsIn X hc) ?_))))))
 rw [hd']
 refine wpAny_pure (a:=some dx) (wpAny_bind (wpAny_pure (wpAny_bind ?_)))
 refine wpAny_nsSet1 (s:={ s with toks:=s.toks + 1 }) I.ns λh' hn2 hs2=>?_
 obtain ⟨oD,esD,epD,hoD,hdD,hcD⟩:=hn2.count (PySem.Within.cons name v hw)
 refine wpAny_bind (wpAny_lookBehind hoD (by rw [hdD];exact pastItsLine_dict (RN hcD (by rw [R0];omega))) ?_)
 exact wpAny_pure (h _ ⟨(hs2.2 _ (Ne.symm I.ne)).trans I.obj,hn2,I.ne⟩ hs2)
theorem DT {R:Result→Shared→Prop} {vs:List Value} {kw:List (Str × Value)} (X:K.In s.heap) (hm:PySem.W.makesIn K C=true)
  (hi:PySem.W.findIn K (.ref C) "__init__"=some (some (.ref f))) (hf:PySem.W.typeIn K (.ref f)=some (.type "function"))
  (h:codeAny (model prog w) (A.under (.builtin "type.__call__" ⟨.ref C :: vs,kw⟩)) (.call (.ref f) ⟨.ref (s.heap.objs.size + 1) :: vs,kw⟩) (PySem.W.InitBack (s.heap.objs.size + 1) R)
   { s with heap:=(s.heap.push PySem.W.emptyDict).push (PySem.W.instObj C s.heap.objs.size) }) :
  codeAny (model prog w) A (.call (.ref C) ⟨vs,kw⟩) R s:=by
 obtain ⟨hh,g,d,t,os⟩:=s
 exact PySem.W.make_core (PySem.W.makes_of X hm) (PySem.W.looks_findIn X hi) (λself=>PySem.W.bind_fn X self hf) (.inl rfl) h
end
def dg (f:Str) (v:V):List (Str × V)→List (Str × V)
 | []=>[(f,v)]
 | (g,x) :: r=>if g=f then (g,v) :: r else (g,x) :: dg f v r
theorem oY (f g:Str) (v:V):∀fs:List (Str × V),(dg f v fs).lookup g=if g=f then some v else fs.lookup g
 | []=>by
  show SW g [(f,v)]=_
  by_cases h:g=f
  ·have hb:(g == f)=true:=beq_iff_eq.mpr h
   simp only [SW,hb,if_pos h]
  ·have hb:(g == f)=false:=beq_eq_false_iff_ne.mpr h
   simp only [SW,hb,if_neg h]
 | (k,x) :: r=>by
  have ih:=oY f g v r
  rw [show dg f v ((k,x) :: r)=(if k=f then (k,v) :: r else (k,x) :: dg f v r) from rfl]
  by_cases hk:k=f
  ·rw [if_pos hk]
   by_cases h:g=k
   ·have hb:(g == k)=true:=beq_iff_eq.mpr h
    simp only [SW,hb,if_pos (h.trans hk)]
   ·have hb:(g == k)=false:=beq_eq_false_iff_ne.mpr h
    simp only [SW,hb,if_neg (λe:g=f=>h (e.trans hk.symm))]
  ·rw [if_neg hk]
   by_cases h:g=k
   ·have hb:(g == k)=true:=beq_iff_eq.mpr h
    simp only [SW,hb,if_neg (λe:g=f=>hk (h.symm.trans e))]
   ·have hb:(g == k)=false:=beq_eq_false_iff_ne.mpr h
    simp only [SW,hb]
    exact ih
theorem n_ (f:Str) (v:V):∀fs:List (Str × V),f∈(dg f v fs).map (·.1)∧∀g,g∈fs.map (·.1)→g∈(dg f v fs).map (·.1)
 | []=>⟨by simp [dg],λg h=>by simp at h⟩
 | (k,x) :: r=>by
  obtain ⟨i1,i2⟩:=n_ f v r
  rw [show dg f v ((k,x) :: r)=(if k=f then (k,v) :: r else (k,x) :: dg f v r) from rfl]
  by_cases hk:k=f
  ·rw [if_pos hk]
   subst hk
   exact ⟨by simp,λg h=>by simpa using h⟩
  ·rw [if_neg hk]
   refine ⟨?_,λg h=>?_⟩
   ·rw [RD]
    exact R3 _ i1
   ·rw [RD] at h ⊢
    rcases RM.mp h with e | e
    ·exact RM.mpr (.inl e)
    ·exact R3 _ (i2 g e)
theorem oX (f:Str) (v:V):∀fs:List (Str × V),(dg f v fs).length≤fs.length + 1
 | []=>by simp [dg]
 | (k,x) :: r=>by
  have ih:=oX f v r
  rw [show dg f v ((k,x) :: r)=(if k=f then (k,v) :: r else (k,x) :: dg f v r) from rfl]
  by_cases hk:k=f
  ·rw [if_pos hk,R0,R0];omega
  ·rw [if_neg hk,R0,R0];omega
theorem sH.some_of {v:V} {o:Option Value} (r:sH (some v) o):∃u,o=some u∧RelV v u:=by
 cases o with
 | none=>exact (show False from r).elim
 | some u=>exact ⟨u,rfl,r⟩
theorem sH.none_of {o:Option Value} (r:sH none o):o=none:=by
 cases o with
 | none=>rfl
 | some u=>exact (show False from r).elim
theorem BU {v:V} {u:Value} (r:RelV v u):PySem.W.handedIn u=true:=by
 cases v with
 | non=>cases (show u=Value.none from r);rfl
 | bl b=>cases (show u=Value.bool b from r);rfl
 | int i=>obtain ⟨t,e⟩:=(show ∃t,u=Value.int i t from r);cases e;rfl
 | str x=>obtain ⟨t,e⟩:=(show ∃t,u=Value.str x t from r);cases e;rfl
 | byt b=>obtain ⟨t,e⟩:=(show ∃t,u=Value.bytes b t from r);cases e;rfl
 | flt b=>obtain ⟨t,e⟩:=(show ∃t,u=Value.float b t from r);cases e;rfl
 | ref a=>cases (show u=Value.ref a from r);rfl
 | ty n=>cases (show u=Value.type n from r);rfl
section
variable {P:Program} {w:World} {H H':Hp} {h h':Heap} {a C dx:Addr} {fs fs':List (Str × V)}
theorem pQ (hok:l5 P w H h) (e:H a=some (.ins C dx fs)):∃mA,yG h a dx C mA∧(∀f,sH (fs.lookup f) (mA f))∧PySem.Within mA (fs.map (·.1))∧fs.length≤1000∧H dx=some (.own a):=by
 obtain ⟨d,z,ne,ob,mA,n,r,q⟩:=(show dD P w H h a (.ins C dx fs) from hok a _ e)
 exact ⟨mA,⟨ob,n,ne⟩,r,q,z,d⟩
end
structure kH (K:PySem.W.Frag) (C:Addr):Prop where
 pg:PySem.W.plainGet K C Str.empty=true
 hd:PySem.W.hasDictIn K C=true
 po:PySem.W.plainOver K C=true
 sa:PySem.W.findIn K (.ref C) "__setattr__"=some (some (.builtin "object.__setattr__"))
theorem kH.get {K:PySem.W.Frag} {C:Addr} (c:kH K C) (f:Str):PySem.W.plainGet K C f=true:=c.pg
def aA (K:PySem.W.Frag) (C:Addr) (f:Str):Prop:=PySem.W.findIn K (.ref C) f=some none
theorem aA.NT {K:PySem.W.Frag} {C:Addr} {f:Str} (n:aA K C f):PySem.W.takerIn K C f=some none:=by
 unfold PySem.W.takerIn
 rw [show PySem.W.findIn K (.ref C) f=some none from n]
 rfl
structure Meth (K:PySem.W.Frag) (C:Addr) (m:Str) (f:Addr):Prop where
 at_:PySem.W.findIn K (.ref C) m=some (some (.ref f))
 fn:PySem.W.isFn K (.ref f)=true
 kp:PySem.W.keepIn K (.ref f)=true
section
variable {X:Cx} {pins:List (Addr × Obj)} {σ:St} {H:Hp} {s:Shared} {a C dx:Addr} {fs:List (Str × V)} {f:Str} {v:V} {A:Around} {E:Value→Shared→Prop}
theorem yS {b:Bool} {Q:Value→Shared→Prop} (I:Inv X pins σ H s) (e:H a=some (.ins C dx fs)) (c:kH X.K C) (n:aA X.K C f) (l:fs.lookup f=some v)
  (h:∀u s',Inv X pins σ H s'→RelV v u→Q u s'):wpAny (model X.prog X.w) A (getAttr (.ref a) f b) Q E s:=by
 obtain ⟨mA,O,r,_,_,_⟩:=pQ I.hok e
 obtain ⟨u,hu,ru⟩:=sH.some_of (v:=v) (o:=mA f) (by rw [← l];exact r f)
 exact get_map I.mG O (c.get f) c.hd n hu (BU ru) (h u _ (I.tok _) ru)
theorem ql {m:Str} {g:Addr} {pl:Sem Bool} {Q:Value × List Value→Shared→Prop} (I:Inv X pins σ H s) (e:H a=some (.ins C dx fs)) (c:kH X.K C) (k:Meth X.K C m g) (l:fs.lookup m=none)
  (h:Q (.ref g,[.ref a]) s):wpAny (model X.prog X.w) A (getMethod (.ref a) m pl) Q E s:=by
 obtain ⟨mA,O,r,_,_,_⟩:=pQ I.hok e
 have hn:mA m=none:=sH.none_of (by rw [← l];exact r m)
 exact Dw I.mG O (c.get m) k.at_ k.fn hn h
theorem zT {y:V} {u:Value} {Q:Unit→Shared→Prop} (I:Inv X pins σ H s) (e:H a=some (.ins C dx fs)) (c:kH X.K C) (n:aA X.K C f) (hl:fs.length < 1000) (ry:RelV y u)
  (h:∀s',Inv X pins σ (upd H a (.ins C dx (dg f y fs))) s'→Q () s'):wpAny (model X.prog X.w) A (setAttr (.ref a) f u) Q E s:=by
 obtain ⟨mA,O,r,wi,_,ho⟩:=pQ I.hok e
 have hz:(fs.map (·.1)).length≤sizeLine:=by rw [Rr,sizeLine_eq];omega
 refine Hl I.mG O c.sa c.po n.NT c.hd wi hz λh' O' sb=>h _ ?_
 have hd:∃o,h'.get? dx=some o:=let ⟨o,_,_,e',_⟩:=O'.ns;⟨o,e'⟩
 refine I.write (x:=a) (e:=dx) (by rw [e];exact True.intro) (.inr ho) (λb q hb z=>(sb.2 b hb).trans z) hd ?_
 refine ⟨by rw [aK O.ne];exact ho,?_,O.ne,O'.obj,_,O'.ns,λg=>?_,λg hg=>?_⟩
 ·have:=oX f y fs;omega
 ·show sH ((dg f y fs).lookup g) (if g=f then some u else mA g)
  rw [oY]
  by_cases q:g=f
  ·rw [if_pos q,if_pos q];exact ry
  ·rw [if_neg q,if_neg q];exact r g
 ·by_cases q:g=f
  ·rw [q];exact (n_ f y fs).1
  ·refine (n_ f y fs).2 g (wi g λz=>hg ?_)
   show (if g=f then some u else mA g)=none
   rw [if_neg q];exact z
theorem Inv.made (I:Inv X pins σ H s):Inv X pins σ (upd (upd H s.heap.objs.size (.own (s.heap.objs.size + 1))) (s.heap.objs.size + 1) (.ins C s.heap.objs.size []))
  { s with heap:=(s.heap.push PySem.W.emptyDict).push (PySem.W.instObj C s.heap.objs.size) }:=by
 have e1:(s.heap.push PySem.W.emptyDict).get? s.heap.objs.size=some PySem.W.emptyDict:=Heap.get?_push_size s.heap rfl
 have e2:((s.heap.push PySem.W.emptyDict).push (PySem.W.instObj C s.heap.objs.size)).get? (s.heap.objs.size + 1)=some (PySem.W.instObj C s.heap.objs.size):=by
  have:=Heap.get?_push_size (s.heap.push PySem.W.emptyDict) (o:=PySem.W.instObj C s.heap.objs.size) rfl
  rwa [Heap.size_push] at this
 have e3:(s.heap.push PySem.W.emptyDict).Ns s.heap.objs.size (λ_=>none):=⟨PySem.W.emptyDict,#[],_,e1,rfl,(λe he=>absurd he (by simp)),λ_=>rfl⟩
 have I1:=I.laid (a:=s.heap.objs.size) (o:=.own (s.heap.objs.size + 1)) (h':=s.heap.push PySem.W.emptyDict) (t':=s.toks) (λb u q=>Heap.get?_push_of_some _ q) (Rz _) ⟨_,e1⟩
 refine I1.laid (a:=s.heap.objs.size + 1) (o:=.ins C s.heap.objs.size []) (t':=s.toks) (λb u q=>Heap.get?_push_of_some _ q) (Nat.le_of_eq (Heap.size_push _ _)) ?_
 have ne:s.heap.objs.size≠s.heap.objs.size + 1:=R1 (SU _)
 refine ⟨by rw [aK ne,aR],Sb _,ne,e2,λ_=>none,(Heap.Ns1.of_empty e3).at λo q=>Heap.get?_push_of_some _ q,λ_=>True.intro,λy hy=>absurd rfl hy⟩
theorem FX {prog:Program} {w:World} {env:Env} {e:Expr} {f:Str} {pos:Pos} {s:Shared} {Q:Value→Shared→Prop} (hb:attributeBase e f env (eval e env)=eval e env)
  (h:wpAny (model prog w) A (eval e env) (λo s₁=>wpAny (model prog w) A (getAttr o f true) Q E s₁) E s):wpAny (model prog w) A (eval (.Attribute e f pos) env) Q E s :=
 Attribute_any_ h (by rw [arm_eval_Attribute,hb])
end
def PQ (K:PySem.W.Frag) (ta:TE) (f:Str):TE:=λσ H Q=>ta σ H λx H1=>∃a C dx fs v,x=.ref a∧H1 a=some (.ins C dx fs)∧kH K C∧aA K C f∧fs.lookup f=some v∧Q v H1
def PJ (K:PySem.W.Frag) (ta tv:TE) (f:Str):TS:=λD σ H=>tv σ H λy H1=>ta σ H1 λx H2=>∃a C dx fs,x=.ref a∧H2 a=some (.ins C dx fs)∧kH K C∧aA K C f∧fs.length < 1000 ∧
 D.nx σ (upd H2 a (.ins C dx (dg f y fs)))
section
variable {X:Cx} {o e value:Expr} {f:Str} {pos pos' tpos:Pos} {ta tv:TE}
theorem Kd (he:PE X e ta) (hb:attributeBase e f X.env (eval e X.env)=eval e X.env):PE X (.Attribute e f pos) (PQ X.K ta f):=by
 intro pins s σ H Q I h
 refine FX hb (cf (he pins s σ H _ I h) λu s1 ⟨x,H1,I1,rx,a,C,dx,fs,v,ex,ea,c,n,l,q⟩=>?_)
 subst ex
 obtain rfl:u=Value.ref a:=rx
 exact yS I1 ea c n l λu' s2 I2 ru=>⟨v,H1,I2,ru,q⟩
theorem Kh (ha:PE X o ta) (hv:PE X value tv) (hs:swapsWith value (some (.Attribute o f pos')) pos.line X.env=pure false):PS X (.Assign [.Attribute o f pos'] value pos) (PJ X.K ta tv f):=by
 intro pins s σ H D I h
 refine plainObj_wpAny_Assign_Attribute (cf (hv pins s σ H _ I h) λu s1 ⟨y,H1,I1,ry,q⟩=>cf (ha pins s1 σ H1 _ I1 q) λov s2 ⟨x,H2,I2,rx,a,C,dx,fs,ex,ea,c,n,l,q2⟩=>?_) hs
 subst ex
 obtain rfl:ov=Value.ref a:=rx
 exact zT I2 ea c n l ry λs3 I3=>⟨σ,_,I3,q2⟩
end
section
variable {X:Cx} {pins:List (Addr × Obj)} {σ:St} {H:Hp} {s:Shared} {A:Around} {E:Value→Shared→Prop} {Q:Value→Shared→Prop} {c:Value} {b:Bool}
inductive dW (K:PySem.W.Frag) (H:Hp):V→Value→Prop where
 | non:dW K H .non (.type "NoneType")
 | bl (x:Bool):dW K H (.bl x) (.type "bool")
 | int (i:Int):dW K H (.int i) (.type "int")
 | str (x:Str):dW K H (.str x) (.type "str")
 | flt (x:UInt64):dW K H (.flt x) (.type "float")
 | lst {a:Addr} {xs:List V} (e:H a=some (.lst xs)):dW K H (.ref a) (.type "list")
 | n6 {a:Addr} {o:Obj} {xs:List V} (e:H a=some (.n6 o (.lst xs))):dW K H (.ref a) (.type "list")
 | tup {a:Addr} {xs:List V} (e:H a=some (.tup xs)):dW K H (.ref a) (.type "tuple")
 | dK {a:Addr} {kvs:List (Key × V)} (e:H a=some (.dK kvs)):dW K H (.ref a) (.type "dict")
 | dE {a:Addr} {kvs:List (Str × V)} {ep:Nat} (e:H a=some (.dE kvs ep)):dW K H (.ref a) (.type "dict")
 | ins {a C dx:Addr} {fs:List (Str × V)} (e:H a=some (.ins C dx fs)) (cl:kH K C) (ha:PySem.W.findIn K (.ref C) "__class__"=some (some (.builtin "object.__class__")))
   (hn:PySem.W.specialIn K (.builtin "object.__class__") "__get__"=some (some (.builtin "getset_descriptor.__get__"))) (htk:PySem.W.takesIn K (.builtin "object.__class__")=some true)
   (hm:PySem.W.mroIn K C (.type "object")=some true):dW K H (.ref a) (.ref C)
theorem BX {x:V} {u t:Value} (I:Inv X pins σ H s) (rx:RelV x u) (ty:dW X.K H x t) (e:PySem.W.kitOne X.K t c=some b) (h:∀tk,Q (.bool b) { s with toks:=tk }) :
  wpAny (model X.prog X.w) A (call (.builtin "isinstance") [u,c]) Q E s:=by
 cases ty with
 | non=>cases (show u=Value.none from rx);exact PySem.W.kia_one PySem.W.kitx_none I.mG True.intro e (λz=>nomatch z) h
 | bl y=>cases (show u=Value.bool y from rx);exact PySem.W.kia_one PySem.W.kitx_bool I.mG True.intro e (λz=>nomatch z) h
 | int i=>obtain ⟨t,q⟩:=(show ∃t,u=Value.int i t from rx);cases q;exact PySem.W.kia_one PySem.W.kitx_int I.mG True.intro e (λz=>nomatch z) h
 | str y=>obtain ⟨t,q⟩:=(show ∃t,u=Value.str y t from rx);cases q;exact PySem.W.kia_one PySem.W.kitx_str I.mG True.intro e (λz=>nomatch z) h
 | flt y=>obtain ⟨t,q⟩:=(show ∃t,u=Value.float y t from rx);cases q;exact PySem.W.kia_one PySem.W.kitx_float I.mG True.intro e (λz=>nomatch z) h
 | @lst a xs ea =>
  cases (show u=Value.ref a from rx)
  obtain ⟨_,_,n,_,h1⟩:=(show dD X.prog X.w H s.heap a (.lst xs) from I.hok a _ ea)
  exact PySem.W.kia_one PySem.W.kitx_list I.mG ⟨_,h1,rfl⟩ e (λz=>nomatch z) h
 | @n6 a ob xs ea =>
  cases (show u=Value.ref a from rx)
  obtain ⟨_,_,_,n,_,h1⟩:=(show dD X.prog X.w H s.heap a (.n6 ob (.lst xs)) from I.hok a _ ea)
  exact PySem.W.kia_one PySem.W.kitx_list I.mG ⟨_,h1,rfl⟩ e (λz=>nomatch z) h
 | @tup a xs ea =>
  cases (show u=Value.ref a from rx)
  obtain ⟨_,_,_,p⟩:=(show dD X.prog X.w H s.heap a (.tup xs) from I.hok a _ ea)
  obtain ⟨o,h1,h2,_⟩:=p
  exact PySem.W.kia_one PySem.W.kitx_tuple I.mG ⟨o,h1,h2⟩ e (λz=>nomatch z) h
 | @dK a kvs ea =>
  cases (show u=Value.ref a from rx)
  obtain ⟨_,_,vs,_,p⟩:=(show dD X.prog X.w H s.heap a (.dK kvs) from I.hok a _ ea)
  obtain ⟨o,es,ep,h1,h2,_⟩:=p
  exact PySem.W.kia_one PySem.W.kitx_dict I.mG ⟨o,h1,h2.1⟩ e (λz=>nomatch z) h
 | @dE a kvs ep ea =>
  cases (show u=Value.ref a from rx)
  obtain ⟨_,_,vs,_,o,es,h1,h2,_⟩:=(show dD X.prog X.w H s.heap a (.dE kvs ep) from I.hok a _ ea)
  exact PySem.W.kia_one PySem.W.kitx_dict I.mG ⟨o,h1,h2.1⟩ e (λz=>nomatch z) h
 | @ins a C dx fs ea cl ha hn htk hm =>
  cases (show u=Value.ref a from rx)
  obtain ⟨mA,O,_⟩:=pQ I.hok ea
  obtain ⟨od,J,_⟩:=O.look
  exact PySem.W.kia_one (PySem.W.kitx_own (cl.get _) cl.hd ha hn htk hm) I.mG J e (λz=>nomatch z) h
end
end L2
namespace L2
open PySem PySem.Spec PyProof.Rows
structure bC (k:Nat) (A:Around):Prop where
 hd:A.handled=none
 dp:A.depth + 3 * k + 5 < recursionLimit
 un:A.units + 16 * k + 200 < cLine
theorem bC.mono {j k:Nat} {A:Around} (r:bC k A) (h:j≤k):bC j A:=⟨r.hd,by have:=r.dp;omega,by have:=r.un;omega⟩
theorem bC.deeper {k:Nat} {A:Around} (r:bC (k + 1) A) (env:Env):bC k (A.deeper env) :=
 ⟨r.hd,by have:=r.dp;show A.depth + 1 + 3 * k + 5 < _;omega,by have:=r.un;show A.units + 3 + 16 * k + 200 < _;omega⟩
theorem y3 {A:Around} {C:Addr} {us:List Value} {kw:List (Str × Value)}:(A.under (.builtin "type.__call__" ⟨.ref C :: us,kw⟩)).depth=A.depth + 1:=by
 first | rfl | simp [Around.under,Code.weight,Code.isCreation,Code.isGuard,Code.isCaller,Code.frames,Code.isFrame,guardIds]
theorem y4 {A:Around} {C:Addr} {us:List Value} {kw:List (Str × Value)}:(A.under (.builtin "type.__call__" ⟨.ref C :: us,kw⟩)).units=A.units + 1:=by
 first | rfl | simp [Around.under,Code.cUnits,Code.frames,Code.isFrame]
theorem bC.make {k:Nat} {A:Around} (r:bC (k + 1) A) (C:Addr) (us:List Value) (kw:List (Str × Value)):bC k (A.under (.builtin "type.__call__" ⟨.ref C :: us,kw⟩)) :=
 ⟨r.hd,by have:=r.dp;rw [y3];omega,by have:=r.un;rw [y4];omega⟩
theorem bC.depth {k:Nat} {A:Around} (r:bC k A):A.depth < recursionLimit:=by have:=r.dp;omega
theorem bC.K' {k:Nat} {A:Around} (r:bC k A):A.units < cLine:=by have:=r.un;omega
def CB:TA:=λ_ H Q=>Q [] H
def Bu (ta:TE) (tr:TA):TA:=λσ H Q=>ta σ H λx H1=>tr σ H1 λxs H2=>Q (x :: xs) H2
section
variable {X:Cx} {e:Expr} {es:List Expr} {te:TE} {t:TA} {pos:Pos}
theorem zl:PA X [] CB:=λ_ _ _ _ H Q I h=>Calls.spliced_nil ⟨[],H,I,.nil,h⟩
theorem pS (ha:PE X e te) (hr:PA X es t) (hs:starEach (e :: es) X.env=(false,eval e X.env) :: starEach es X.env:=by rfl):PA X (e :: es) (Bu te t):=by
 intro pos pins s σ H Q I h
 rw [hs]
 show wpAny _ _ (spliced ((false,eval e X.env) :: backTo pos (starEach es X.env))) _ _ s
 refine Calls.spliced_cons (cf (ha pins s σ H _ I h) λu s1 ⟨x,H1,I1,r1,q1⟩=>?_)
 exact cf (hr pos pins s1 σ H1 _ I1 q1) λus s2 ⟨xs,H2,I2,r2,q2⟩=>⟨x :: xs,H2,I2,.cons r1 r2,q2⟩
def K3 (t:TA):TE:=λσ H Q=>t σ H λxs H1=>xs.length≤sizeLine∧∀p,H1 p=none→Q (.ref p) (upd H1 p (.tup xs))
def Hs (t:TA):TE:=λσ H Q=>t σ H λxs H1=>xs.length≤sizeLine∧∀p,H1 p=none→Q (.ref p) (upd H1 p (.lst xs))
theorem zt {x1} (h:PA X es t):PE X (.Tuple es x1 pos) (K3 t):=by
 intro pins s σ H Q I hq
 refine wpAny_Tuple_spliced (cf (h pos pins s σ H _ I hq) λus s1 ⟨xs,H1,I1,r,z,q⟩=>⟨by rw [← r.length];exact z,?_⟩)
 have hf:H1 s1.heap.objs.size=none:=I1.hok.fresh (Rz _)
 refine ⟨.ref s1.heap.objs.size,upd H1 s1.heap.objs.size (.tup xs),I1.laid (t':=s1.toks) (λb u e=>Heap.get?_push_of_some _ e) (Rz _) ?_,rfl,q _ hf⟩
 exact ⟨z,us,r,⟨_,Heap.get?_push_size _ rfl,rfl,_,rfl⟩⟩
theorem vO (h:PA X es t):PE X (.List es pos) (Hs t):=by
 intro pins s σ H Q I hq
 refine wpAny_List_spliced (cf (h pos pins s σ H _ I hq) λus s1 ⟨xs,H1,I1,r,z,q⟩=>⟨by rw [← r.length];exact z,?_⟩)
 have hf:H1 s1.heap.objs.size=none:=I1.hok.fresh (Rz _)
 refine ⟨.ref s1.heap.objs.size,upd H1 s1.heap.objs.size (.lst xs),I1.laid (t':=s1.toks) (λb u e=>Heap.get?_push_of_some _ e) (Rz _) ?_,rfl,q _ hf⟩
 exact ⟨z,us,0,r,Heap.get?_push_size _ rfl⟩
end
abbrev Sp:=List V→Hp→VK→XK→Prop
abbrev lZ:=List Env→Hp→Shared→XK→Value→Shared→Prop
structure yz (P:Program) (w:World) (K:PySem.W.Frag) (mg:Str→Option Value) (base:Heap) (A:Around) (outer:List Env) (s:Shared) (H:Hp):Prop where
 frames:A.frames=some outer
 mod:Mod K mg base
 bs:∀b o,base.get? b=some o→s.heap.get? b=some o∧H b=none
 bsz:base.objs.size≤s.heap.objs.size
 n8:s.heap.FunFrames base outer
 frf:∀b∈jl outer,H b=none
 hok:l5 P w H s.heap
 bare:AllBare s.gens
def CE (outer:List Env) (P:Program) (w:World) (H:Hp) (s:Shared) (Q:VK) (u:Value) (s':Shared):Prop :=
 ∃v H',s'.os=s.os∧AllBare s'.gens∧Un (jl outer) [] H H' s.heap s'.heap∧l5 P w H' s'.heap∧RelV v u∧Q v H'
def CR (CX:lZ) (outer:List Env) (P:Program) (w:World) (H:Hp) (s:Shared) (Q:VK) (E:XK) (r:Result) (s':Shared):Prop :=
 match r with
 | .ok (.ret u)=>CE outer P w H s Q u s'
 | .ok _=>False
 | .error e=>CX outer H s E e s'
structure aH (P:Program) (w:World) (K:PySem.W.Frag) (mg:Str→Option Value) (base:Heap) (CX:lZ) (k:Nat) (f:Addr) (fd:FuncData) (ps:List Str) (sp:Sp):Prop where
 len:∀vs H Q E,sp vs H Q E→vs.length=ps.length
 run:∀(A:Around) (outer:List Env) (s:Shared) (H:Hp) (args:Args) (us:List Value) (vs:List V) (Q:VK) (E:XK),bC k A→yz P w K mg base A outer s H→BindsTo s fd args (ps.zip us)→Vals vs us→sp vs H Q E →
  codeAny (model P w) A (.call (.ref f) args) (CR CX outer P w H s Q E) s
theorem aH.imp {P:Program} {w:World} {K:PySem.W.Frag} {mg:Str→Option Value} {base:Heap} {CX:lZ} {k:Nat} {f:Addr} {fd:FuncData} {ps:List Str} {sp sp':Sp} (F:aH P w K mg base CX k f fd ps sp)
  (h:∀vs H Q E,sp' vs H Q E→sp vs H Q E):aH P w K mg base CX k f fd ps sp' :=
 ⟨λvs H Q E q=>F.len vs H Q E (h _ _ _ _ q),λA outer s H args us vs Q E hr he hb hv hs=>F.run A outer s H args us vs Q E hr he hb hv (h _ _ _ _ hs)⟩
theorem yz.make {P:Program} {w:World} {K:PySem.W.Frag} {mg:Str→Option Value} {base:Heap} {A:Around} {outer:List Env} {s:Shared} {H:Hp} (e:yz P w K mg base A outer s H) (C:Addr) (us:List Value) (kw:List (Str × Value)) :
  yz P w K mg base (A.under (.builtin "type.__call__" ⟨.ref C :: us,kw⟩)) outer s H:=⟨by first | exact e.frames | (simpa [Around.under,Code.envs,Code.isFrame,pushEnvs] using e.frames),e.mod,e.bs,e.bsz,e.n8,e.frf,e.hok,e.bare⟩
section
variable {X:Cx} {pins:List (Addr × Obj)} {σ:St} {H:Hp} {s s':Shared}
theorem Inv.LZ (I:Inv X pins σ H s):yz X.prog X.w X.K X.mg X.base X.A X.stack s H :=
 ⟨I.ok.frames,I.ok.mod,I.bs,RN I.ok.bsz I.sz,I.stack,I.wN,I.hok,I.bare⟩
theorem Inv.after {Q:VK} {u:Value} (I:Inv X pins σ H s) (h:CE X.stack X.prog X.w H s Q u s'):EP X pins σ Q u s':=by
 obtain ⟨v,H',os,bare,un,hok,r,q⟩:=h
 obtain ⟨hh,g,d,t,os'⟩:=s'
 obtain rfl:os'=s.os:=os
 exact ⟨v,H',I.call (h':=hh) (g':=g) (d':=d) (t':=t) (ch:=[]) un hok bare (λb z=>absurd z (by simp)),r,q⟩
end
def Bt (sp:Sp) (dvs:List V) (E:XK) (t:TA):TE:=λσ H Q=>t σ H λvs H1=>sp (vs ++ dvs) H1 Q E
def E7 (C:Addr) (m:Str) (sp:Sp) (dvs:List V) (E:XK) (ta:TE) (t:TA):TE:=λσ H Q=>ta σ H λx H1=>∃a dx fs,x=.ref a∧H1 a=some (.ins C dx fs)∧fs.lookup m=none ∧
 t σ H1 λvs H2=>sp (x :: (vs ++ dvs)) H2 Q E
def E6 (C:Addr) (sp:Sp) (dvs:List V) (E:XK) (t:TA):TE:=λσ H Q=>t σ H λvs H1=>∀x dx,H1 x=none→H1 dx=none→dx≠x →
 sp (.ref x :: (vs ++ dvs)) (upd (upd H1 dx (.own x)) x (.ins C dx [])) (λv H2=>v=.non∧Q (.ref x) H2) E
def Binds (K:PySem.W.Frag) (fd:FuncData) (ps:List Str) (ds:List Value):Prop :=
 ∀(s:Shared) (us:List Value),K.In s.heap→(us ++ ds).length=ps.length→BindsTo s fd ⟨us,[]⟩ (ps.zip (us ++ ds))
theorem Binds.all {K:PySem.W.Frag} {fd:FuncData} {ps:List Str} (h:∀us:List Value,us.length=ps.length→bindArgs fd ⟨us,[]⟩=pure (ps.zip us)):Binds K fd ps []:=λs us _ hl=>by
 rw [Sd] at hl ⊢
 exact .of_eq (h us hl)
def Passes (CX:lZ) (X:Cx) (E:XK):Prop:=∀(pins:List (Addr × Obj)) (σ:St) (H:Hp) (s:Shared) (e:Value) (s':Shared),Inv X pins σ H s→CX X.stack H s E e s'→X.xe e s'
section
variable {X:Cx} {CX:lZ} {k:Nat} {f C:Addr} {fd:FuncData} {ps:List Str} {sp:Sp} {dvs:List V} {ds:List Value} {E:XK} {x m:Str} {p pos apos:Pos} {e o:Expr} {es:List Expr} {ta:TE} {t:TA}
theorem zN {pins:List (Addr × Obj)} {σ:St} {H:Hp} {s:Shared} {Q:VK} {us:List Value} {vs:List V} (F:aH X.prog X.w X.K X.mg X.base CX k f fd ps sp) (hr:bC k X.A) (hb:Binds X.K fd ps ds) (hd:Vals dvs ds) (hx:Passes CX X E)
  (I:Inv X pins σ H s) (r:Vals vs us) (h:sp (vs ++ dvs) H Q E):wpAny (model X.prog X.w) X.A (call (.ref f) us) (EP X pins σ Q) X.xe s:=by
 have r2:Vals (vs ++ dvs) (us ++ ds):=r.append hd
 have hl:(us ++ ds).length=ps.length:=by rw [← r2.length];exact F.len _ _ _ _ h
 refine wpAny_call (codeAny_mono (F.run X.A X.stack s H ⟨us,[]⟩ (us ++ ds) (vs ++ dvs) Q E hr I.LZ (hb s us I.mG hl) r2 h) λr s' hq=>?_)
 cases r with
 | error e=>exact hx pins σ H s e s' I hq
 | ok fl =>
  cases fl with
  | ret u=>exact I.after hq
  | next=>exact False.elim hq
  | brk=>exact False.elim hq
  | cont=>exact False.elim hq
theorem GK (F:aH X.prog X.w X.K X.mg X.base CX k f fd ps sp) (hr:bC k X.A) (hg:Gl X x) (hm:X.mg x=some (.ref f)) (hk:PySem.W.keepIn X.K (.ref f)=true) (hb:Binds X.K fd ps ds) (hd:Vals dvs ds) (hx:Passes CX X E)
  (ha:PA X (e :: es) t) (hdb:(x == ("__debug__":Str))=false:=by decide) (he:starEach (e :: es) X.env=(false,eval e X.env) :: starEach es X.env:=by rfl) (hpl:(backTo pos (starEach es X.env)).any (·.1)=false:=by rfl) :
  PE X (.Call (.Name x p) (e :: es) [] pos) (Bt sp dvs E t):=by
 intro pins s σ H Q I h
 refine wpAny_Call_Name_kw (mI I hg hm ?_ hdb)
 refine PySem.W.callWith_K (h₀:=X.base) I.ok.mod.kin hk (cf (ha pos pins s σ H _ I h) λus s1 ⟨vs,H1,I1,r,q⟩=>⟨I1.mG,?_⟩) he hpl
 exact zN F hr hb hd hx I1 r q
theorem GO {pl:Sem Bool} (he:PE X o ta) (c:kH X.K C) (hm:Meth X.K C m f) (F:aH X.prog X.w X.K X.mg X.base CX k f fd ps sp) (hr:bC k X.A) (hb:Binds X.K fd ps ds) (hd:Vals dvs ds) (hx:Passes CX X E) (ha:PA X (e :: es) t)
  (hst:starEach (e :: es) X.env=(false,eval e X.env) :: starEach es X.env:=by rfl) (hpl:(backTo pos (starEach es X.env)).any (·.1)=false:=by rfl)
  (ht:eval (.Call (.Attribute o m apos) (e :: es) [] pos) X.env=(do
   let ov ← eval o X.env
   standAt apos.atName
   let (f,first) ← holding [ov] (getMethod ov m pl)
   callWith pos f first (backTo pos (starEach (e :: es) X.env)) (backToKw pos (keywordEach [] X.env))):=by rfl) :
  PE X (.Call (.Attribute o m apos) (e :: es) [] pos) (E7 C m sp dvs E ta t):=by
 intro pins s σ H Q I h
 refine PySem.W.methodCall_KW (pl:=pl) (cf (he pins s σ H _ I h) λu s1 ⟨x,H1,I1,rx,a,dx,fs,ex,ea,l,q⟩=>?_) ht
 subst ex
 obtain rfl:u=Value.ref a:=rx
 refine ql I1 ea c hm l ?_
 refine PySem.W.callWith_K (first:=[.ref a]) (h₀:=X.base) I.ok.mod.kin hm.kp (cf (ha pos pins s1 σ H1 _ I1 q) λus s2 ⟨vs,H2,I2,r,q2⟩=>⟨I2.mG,?_⟩) hst hpl
 exact zN (us:=.ref a :: us) (vs:=.ref a :: vs) F hr hb hd hx I2 (.cons rfl r) q2
theorem Eh {pl:Sem Bool} (he:PE X o ta) (c:kH X.K C) (hm:Meth X.K C m f) (F:aH X.prog X.w X.K X.mg X.base CX k f fd ps sp) (hr:bC k X.A) (hb:Binds X.K fd ps ds) (hd:Vals dvs ds) (hx:Passes CX X E)
  (ht:eval (.Call (.Attribute o m apos) [] [] pos) X.env=(do
   let ov ← eval o X.env
   standAt apos.atName
   let (f,first) ← holding [ov] (getMethod ov m pl)
   callWith pos f first (backTo pos (starEach [] X.env)) (backToKw pos (keywordEach [] X.env))):=by rfl) :
  PE X (.Call (.Attribute o m apos) [] [] pos) (E7 C m sp dvs E ta CB):=by
 intro pins s σ H Q I h
 refine PySem.W.methodCall_KW (pl:=pl) (cf (he pins s σ H _ I h) λu s1 ⟨x,H1,I1,rx,a,dx,fs,ex,ea,l,q⟩=>?_) ht
 subst ex
 obtain rfl:u=Value.ref a:=rx
 refine ql I1 ea c hm l ?_
 exact PySem.W.callWith_K0 (first:=[.ref a]) I1.mG hm.kp (zN (us:=[.ref a]) (vs:=[.ref a]) F hr hb hd hx I1 (.cons rfl .nil) q)
structure Mk (K:PySem.W.Frag) (C f:Addr):Prop where
 makes:PySem.W.makesIn K C=true
 init:PySem.W.findIn K (.ref C) "__init__"=some (some (.ref f))
 fn:PySem.W.isFn K (.ref f)=true
 kp:PySem.W.keepIn K (.ref C)=true
theorem x4 {pins:List (Addr × Obj)} {σ:St} {H:Hp} {s:Shared} {Q:VK} {us:List Value} {vs:List V} (M:Mk X.K C f) (F:aH X.prog X.w X.K X.mg X.base CX k f fd ps sp) (hr:bC (k + 1) X.A) (hb:Binds X.K fd ps ds) (hd:Vals dvs ds)
  (hx:Passes CX X E) (I:Inv X pins σ H s) (r:Vals vs us)
  (h:∀x dx,H x=none→H dx=none→dx≠x→sp (.ref x :: (vs ++ dvs)) (upd (upd H dx (.own x)) x (.ins C dx [])) (λv H2=>v=.non∧Q (.ref x) H2) E) :
  wpAny (model X.prog X.w) X.A (call (.ref C) us) (EP X pins σ Q) X.xe s:=by
 have hq:=h (s.heap.objs.size + 1) s.heap.objs.size (I.hok.fresh (Nat.le_succ _)) (I.hok.fresh (Rz _)) (R1 (SU _))
 have I2:=Inv.made (C:=C) I
 have r2:Vals (V.ref (s.heap.objs.size + 1) :: (vs ++ dvs)) (Value.ref (s.heap.objs.size + 1) :: (us ++ ds)):=.cons rfl (r.append hd)
 have hl:(Value.ref (s.heap.objs.size + 1) :: us ++ ds).length=ps.length:=by
  have e:=r2.length
  rw [F.len _ _ _ _ hq] at e
  exact e.symm
 refine wpAny_call (DT (f:=f) I.mG M.makes M.init (beq_iff_eq.mp M.fn) (codeAny_mono (F.run _ X.stack _ _ ⟨Value.ref (s.heap.objs.size + 1) :: us,[]⟩ (Value.ref (s.heap.objs.size + 1) :: (us ++ ds)) _ _ E (hr.make C us [])
  (I2.LZ.make C us []) (hb _ (Value.ref (s.heap.objs.size + 1) :: us) I2.mG hl) r2 hq) λr s' hq'=>?_))
 cases r with
 | error e=>exact hx pins σ _ _ e s' I2 hq'
 | ok fl =>
  cases fl with
  | ret u =>
   obtain ⟨v,H',I3,rv,ev,q3⟩:=I2.after hq'
   subst ev
   exact ⟨rv,⟨V.ref (s.heap.objs.size + 1),H',I3,rfl,q3⟩⟩
  | next=>exact False.elim hq'
  | brk=>exact False.elim hq'
  | cont=>exact False.elim hq'
theorem GN (M:Mk X.K C f) (F:aH X.prog X.w X.K X.mg X.base CX k f fd ps sp) (hr:bC (k + 1) X.A) (hg:Gl X x) (hm:X.mg x=some (.ref C)) (hb:Binds X.K fd ps ds) (hd:Vals dvs ds) (hx:Passes CX X E)
  (ha:PA X (e :: es) t) (hdb:(x == ("__debug__":Str))=false:=by decide) (he:starEach (e :: es) X.env=(false,eval e X.env) :: starEach es X.env:=by rfl) (hpl:(backTo pos (starEach es X.env)).any (·.1)=false:=by rfl) :
  PE X (.Call (.Name x p) (e :: es) [] pos) (E6 C sp dvs E t):=by
 intro pins s σ H Q I h
 refine wpAny_Call_Name_kw (mI I hg hm ?_ hdb)
 refine PySem.W.callWith_K (h₀:=X.base) I.ok.mod.kin M.kp (cf (ha pos pins s σ H _ I h) λus s1 ⟨vs,H1,I1,r,q⟩=>⟨I1.mG,?_⟩) he hpl
 exact x4 M F hr hb hd hx I1 r q
theorem Eg (M:Mk X.K C f) (F:aH X.prog X.w X.K X.mg X.base CX k f fd ps sp) (hr:bC (k + 1) X.A) (hg:Gl X x) (hm:X.mg x=some (.ref C)) (hb:Binds X.K fd ps ds) (hd:Vals dvs ds) (hx:Passes CX X E)
  (hdb:(x == ("__debug__":Str))=false:=by decide):PE X (.Call (.Name x p) [] [] pos) (E6 C sp dvs E CB):=by
 intro pins s σ H Q I h
 refine wpAny_Call_Name_kw (mI I hg hm ?_ hdb)
 exact PySem.W.callWith_K0 I.mG M.kp (x4 (us:=[]) M F hr hb hd hx I .nil h)
end
section
variable {X:Cx} {CX:lZ} {k:Nat} {f C:Addr} {fd:FuncData} {ps ks:List Str} {sp:Sp} {E:XK} {x m:Str} {p pos apos kpos:Pos} {e o:Expr} {es:List Expr} {kws:List Keyword} {te ta:TE} {t tk:TA} {nm:Option Str}
variable {g:List Value→List Value→List Value} {gV:List V→List V→List V}
end
structure aw (N P:List Str) (sc:Scope):Prop where
 kind:sc.kind=.function
 co:sc.isCoroutine=false
 gen:sc.isGenerator=false
 nd:N.Nodup
 pre:N.take P.length=P
 par:∀x∈P,sc.names.lookup x=some .local∨sc.names.lookup x=some .cell
 nofree:∀y∈sc.names,y.2≠.free
theorem tW {kindOf:Str→Option NameKind} {x:Str}:∀{binds:List (Str × Value)} {m:Str→Option Value},(∀v,(x,v) ∉ binds)→bindL kindOf binds m x=m x
 | [],_,_=>rfl
 | (n,v) :: r,m,h=>by
  unfold bindL
  rw [tW λw hw=>h w (R3 _ hw)]
  split
  ·have:x≠n:=by rintro rfl;exact h v Sa
   simp [this]
  ·rfl
theorem tU {kindOf:Str→Option NameKind} {x:Str}:∀{binds:List (Str × Value)} {m:Str→Option Value},(∀v,(x,v) ∉ binds)→bindC kindOf binds m x=m x
 | [],_,_=>rfl
 | (n,v) :: r,m,h=>by
  unfold bindC
  rw [tU λw hw=>h w (R3 _ hw)]
  split
  ·rfl
  ·have:x≠n:=by rintro rfl;exact h v Sa
   simp [this]
theorem tV {kindOf:Str→Option NameKind} {x:Str} {v:Value}:∀{P:List Str} {vs:List Value} {i:Nat} {m:Str→Option Value},P.Nodup→P[i]?=some x→vs[i]?=some v→kindOf x=some .local →
  bindL kindOf (P.zip vs) m x=some v
 | [],_,_,_,_,h,_,_=>by simp at h
 | _ :: _,[],_,_,_,_,h,_=>by simp at h
 | p :: P,w :: vs,0,m,nd,h1,h2,hk=>by
  simp at h1 h2;subst h1;subst h2
  show bindL kindOf ((p,w) :: P.zip vs) m p=_
  unfold bindL
  rw [tW λv hv=>(SY.mp nd).1 (Tx hv).1,if_pos hk]
  simp
 | p :: P,w :: vs,i + 1,m,nd,h1,h2,hk=>by
  show bindL kindOf ((p,w) :: P.zip vs) m x=_
  unfold bindL
  exact tV (i:=i) (SY.mp nd).2 (by simpa using h1) (by simpa using h2) hk
theorem tT {kindOf:Str→Option NameKind} {x:Str} {v:Value}:∀{P:List Str} {vs:List Value} {i:Nat} {m:Str→Option Value},P.Nodup→P[i]?=some x→vs[i]?=some v→kindOf x≠some .local →
  bindC kindOf (P.zip vs) m x=some v
 | [],_,_,_,_,h,_,_=>by simp at h
 | _ :: _,[],_,_,_,_,h,_=>by simp at h
 | p :: P,w :: vs,0,m,nd,h1,h2,hk=>by
  simp at h1 h2;subst h1;subst h2
  show bindC kindOf ((p,w) :: P.zip vs) m p=_
  unfold bindC
  rw [tU λv hv=>(SY.mp nd).1 (Tx hv).1,if_neg hk]
  simp
 | p :: P,w :: vs,i + 1,m,nd,h1,h2,hk=>by
  show bindC kindOf ((p,w) :: P.zip vs) m x=_
  unfold bindC
  exact tT (i:=i) (SY.mp nd).2 (by simpa using h1) (by simpa using h2) hk
def start (N:List Str) (vs:List V):St:=vs.map some ++ Sm (N.length - vs.length) none
def yM (CX:lZ) (P:Program) (w:World) (K:PySem.W.Frag) (mg:Str→Option Value) (base:Heap) (N:List Str) (qual:Str) (scope:Scope) (f:Addr) (cd:Value) (A:Around) (outer:List Env) (s:Shared) (H:Hp) (E:XK):Cx where
 prog:=P
 w:=w
 K:=K
 mg:=mg
 base:=base
 A:=A.deeper (envOfC qual scope s.heap.objs.size f cd)
 N:=N
 s₀:=s
 H₀:=H
 env:=envOfC qual scope s.heap.objs.size f cd
 outer:=outer
 stack:=envOfC qual scope s.heap.objs.size f cd :: outer
 ex:=[]
 calm:=true
 fn:=λ_=>true
 pn:=[]
 xe:=λe s'=>wpAny (model P w) (A.deeper (envOfC qual scope s.heap.objs.size f cd)) (leaving (envOfC qual scope s.heap.objs.size f cd) e) (λ_ s''=>CX outer H s E e s'') (λe' s''=>CX outer H s E e' s'') s'
theorem xm {sc:Scope} {n:Nat} {x:Str} (h:sc.names.lookup x=some .cell):∃c,(cellsFrom n sc.names []).lookup x=some c:=by
 have q:=PySem.W.cellsFrom_some sc.names n [] (.inl h)
 exact To.mp q
theorem BW {CX:lZ} {P:Program} {w:World} {K:PySem.W.Frag} {mg:Str→Option Value} {base:Heap} {N ps:List Str} {qual:Str} {scope:Scope} {f:Addr} {cd:Value} {A:Around} {outer:List Env} {s s1:Shared} {H:Hp} {E:XK} {us:List Value} {vs:List V}
  (S:aw N ps scope) (hd:A.handled=none) (e0:yz P w K mg base A outer s H) (hl:vs.length=ps.length) (r:Vals vs us)
  (x:InCallC s s.heap.objs.size (bindL (envOfC qual scope s.heap.objs.size f cd).kindOf (ps.zip us) λ_=>none) (cellsFrom (s.heap.objs.size + 1) scope.names []) (bindC (envOfC qual scope s.heap.objs.size f cd).kindOf (ps.zip us) λ_=>none) s1) :
  Inv (yM CX P w K mg base N qual scope f cd A outer s H E) [] (start N vs) H s1:=by
 have hpl:ps.length≤N.length:=by have:=congrArg Sx S.pre;rw [RX] at this;omega
 obtain ⟨h1,tk,rfl,hk⟩:=x.done
 have noA:∀b:Addr,b ∉ (yM CX P w K mg base N qual scope f cd A outer s H E).ex:=λb z=>absurd (show b∈([]:List Addr) from z) (by simp)
 refine ⟨⟨e0.mod,S.kind,rfl,rfl,Rz _,λy z c h1 h2=>?_,λy hy=>?_,λy c _ h=>?_,λ_=>hd,Around.frames_deeper e0.frames,.inr ⟨rfl,rfl⟩,λb z=>absurd z (noA b),e0.bs,e0.bsz,λb _ _=>noA b,λb z=>absurd z (noA b),e0.n8,e0.frf⟩,
  rfl,e0.bare,Un.kept hk,⟨_,x.toInCall.ns,λi y v h1 h2 h3=>?_⟩,λy c h=>⟨_,x.cell y c h⟩,e0.hok.fresh (Rz _),λy c h=>?_,λp hp=>absurd (show p∈([]:List (Addr × Obj)) from hp) (by simp),e0.hok.kept hk,?_⟩
 ·exact name_of_addr x.apart (PySem.mem_of_lookup h1) (PySem.mem_of_lookup h2)
 ·have hy:scope.names.lookup y=some .cell∨scope.names.lookup y=some .free:=hy
  rcases hy with hy | hy
  ·exact xm hy
  ·exact absurd rfl (S.nofree _ (PySem.mem_of_lookup hy))
 ·exact Tg (x.above y c (PySem.mem_of_lookup h))
 ·have hi:i < vs.length:=by
   unfold start at h2
   by_cases hi:i < vs.length
   ·exact hi
   ·rw [SO (by simpa using hi)] at h2
    rw [List.getElem?_replicate] at h2
    split at h2 <;> cases h2
  have ha:vs[i]?=some v:=by
   unfold start at h2
   rw [Sy (by simpa using hi),Ry] at h2
   cases e:vs[i]? with
   | none=>rw [e] at h2;cases h2
   | some a=>rw [e] at h2;cases h2;rfl
  obtain ⟨u,hu,rv⟩:=r.get ha
  have hp:ps[i]?=some y:=by
   rw [← S.pre,List.getElem?_take_of_lt (by omega)];exact h1
  have ndP:ps.Nodup:=by rw [← S.pre];exact S.nd.sublist (R4 _ _)
  refine ⟨u,rv,?_⟩
  rcases S.par y (RJ hp) with k | k
  ·exact .inl ⟨k,tV ndP hp hu k⟩
  ·obtain ⟨c,e⟩:=xm (n:=s.heap.objs.size + 1) k
   refine .inr ⟨.inl k,c,e,?_⟩
   have q:=x.cell y c e
   rw [tT ndP hp hu (by show scope.names.lookup y≠_;rw [k];decide)] at q
   exact q
 ·exact e0.hok.fresh (Tg (x.above y c (PySem.mem_of_lookup h)))
 ·unfold start
  show _=N.length
  rw [RL,Rr,List.length_replicate]
  omega
theorem Dp {CX:lZ} {P:Program} {w:World} {K:PySem.W.Frag} {mg:Str→Option Value} {base:Heap} {k:Nat} {f:Addr} {name qual:Str} {params:Arguments} {body:List Stmt} {scope:Scope} {dV kV doc pm cdv ct oc:Value} {an od:Option Addr}
  {osl:Array (Option Value)} {N ps:List Str} {sp:Sp} (lk:K.lookup f=some ⟨oc,od,.func (PySem.W.fnOf name qual params body scope dV kV doc pm an cdv ct),osl⟩) (hcd:PySem.W.codeIn K cdv qual=true) (S:aw N ps scope)
  (len:∀vs H Q E,sp vs H Q E→vs.length=ps.length)
  (hbody:∀(A:Around) (outer:List Env) (s:Shared) (H:Hp) (vs:List V) (Q:VK) (E:XK),bC k (A.deeper (envOfC qual scope s.heap.objs.size f cdv))→sp vs H Q E →
   ∃t,xf (yM CX P w K mg base N qual scope f cdv A outer s H E) body t∧t { nx:=λ_ H'=>Q .non H',rt:=Q } (start N vs) H) :
  aH P w K mg base CX (k + 1) f (PySem.W.fnOf name qual params body scope dV kV doc pm an cdv ct) ps sp:=by
 refine ⟨len,λA outer s H args us vs Q E hr e0 hb r hsp=>?_⟩
 have hl:=len _ _ _ _ hsp
 have KX:K.In s.heap:=e0.mod.kin.keeps λb o e=>(e0.bs b o e).1
 have lim:s.heap.NoLimit:=e0.mod.nolimit.keeps λb o e=>(e0.bs b o e).1
 have hkind:∀y∈ps.zip us,scope.names.lookup y.1=some .local∨(scope.names.lookup y.1=some .cell∧((cellsFrom (s.heap.objs.size + 1) scope.names []).lookup y.1).isSome=true):=λ⟨n,v⟩ hy=>by
  rcases S.par n (Tx hy).1 with q | q
  ·exact .inl q
  ·exact .inr ⟨q,PySem.W.cellsFrom_some _ _ _ (.inl q)⟩
 refine codeAny_call_function hr.depth (KX _ _ lk) rfl S.co S.gen rfl (PySem.W.codeRec_of KX hcd) (hb _ _ _ _ ?_)
 refine wpAny_newFunctionEnv_cells S.kind hkind λenv he s1 x=>?_
 subst he
 refine ⟨lim.keeps x.toInCall.keep,codeAny_func ?_⟩
 obtain ⟨t,ht,hq⟩:=hbody A outer s H vs Q E (hr.deeper _) hsp
 have I:Inv (yM CX P w K mg base N qual scope f cdv A outer s H E) [] (start N vs) H s1:=BW S hr.hd e0 hl r x
 refine wpAny_mono (ht [] s1 (start N vs) H _ I hq) (λfl s' hs=>?_) λe s' hs=>hs
 have fin:∀{σ':St} {H':Hp} {v:V} {u:Value},Inv (yM CX P w K mg base N qual scope f cdv A outer s H E) [] σ' H' s'→RelV v u→Q v H'→CE outer P w H s Q u s' :=
  λ{σ' H' v u} J rv q=>⟨v,H',J.os,J.bare,J.base,J.hok,rv,q⟩
 cases fl with
 | ret u =>
  obtain ⟨v,σ',H',J,rv,q⟩:=hs
  exact fin J rv q
 | next =>
  obtain ⟨σ',H',J,q⟩:=hs
  exact fin (v:=V.non) (u:=Value.none) J rfl q
 | brk =>
  obtain ⟨_,_,_,q⟩:=hs
  exact False.elim q
 | cont =>
  obtain ⟨_,_,_,q⟩:=hs
  exact False.elim q
end L2
namespace L2
open PySem PySem.Spec PyProof.Rows
section
variable {X:Cx} {x:Str} {p pos:Pos} {e:Expr} {es:List Expr} {t:TA} {id T:String} {r:List V→Hp→VK→Prop}
def KP (r:List V→Hp→VK→Prop) (t:TA):TE:=λσ H Q=>t σ H λvs H1=>r vs H1 Q
theorem qM (hc:bJ X (.builtin id) r) (hg:Gl X x) (hm:X.mg x=none) (hv:bootBuiltins x=some (.builtin id)) (ha:PA X (e :: es) t) (hn:x≠"__name__":=by decide) (hdb:(x == ("__debug__":Str))=false:=by decide)
  (he:starEach (e :: es) X.env=(false,eval e X.env) :: starEach es X.env:=by rfl) (hpl:(backTo pos (starEach es X.env)).any (·.1)=false:=by rfl):PE X (.Call (.Name x p) (e :: es) [] pos) (KP r t):=by
 intro pins s σ H Q I h
 refine wpAny_Call_Name_kw (oa I hg hm hv ?_ hn hdb)
 exact PyProof.Rows.callWith_builtin1 (cf (ha pos pins s σ H _ I h) λus s1 ⟨vs,H1,I1,r1,q1⟩=>hc pins s1 σ H1 vs us Q I1 r1 q1) he hpl
theorem ox (hc:bJ X (.type T) r) (hg:Gl X x) (hm:X.mg x=none) (hv:bootBuiltins x=some (.type T)) (ha:PA X (e :: es) t) (hn:x≠"__name__":=by decide) (hdb:(x == ("__debug__":Str))=false:=by decide)
  (he:starEach (e :: es) X.env=(false,eval e X.env) :: starEach es X.env:=by rfl) (hpl:(backTo pos (starEach es X.env)).any (·.1)=false:=by rfl):PE X (.Call (.Name x p) (e :: es) [] pos) (KP r t):=by
 intro pins s σ H Q I h
 refine wpAny_Call_Name_kw (oa I hg hm hv ?_ hn hdb)
 exact PyProof.Rows.callWith_type1 (cf (ha pos pins s σ H _ I h) λus s1 ⟨vs,H1,I1,r1,q1⟩=>hc pins s1 σ H1 vs us Q I1 r1 q1) he hpl
end
end L2
namespace HT
open PySem PyProof.Rows
def lexLt:List Int→List Int→Bool
 | [],[]=>false
 | [],_ :: _=>true
 | _ :: _,[]=>false
 | x :: xs,y :: ys=>if x=y then lexLt xs ys else decide (x < y)
section
open PySem.SeqAt
open PySem.AutoSeq1 (wpAny_loadPart')
open PySem.MeetsSeq PySem.MeetsSeq2 PySem.MeetsSeq3
end
section
variable {prog:Program} {w:World} {A:Around} {E:Value→Shared→Prop} {s:Shared}
def d7 (n d:Nat):Option Int→Nat
 | none=>d
 | some v=>if v < 0 then (v + (n:Int)).toNat else min v.toNat n
theorem EL (n d:Nat):d7 n d none=d:=rfl
theorem Hg (n d k:Nat):d7 n d (some (k:Int))=min k n:=by
 show (if (k:Int) < 0 then ((k:Int) + (n:Int)).toNat else min (k:Int).toNat n)=min k n
 rw [if_neg (by omega),Int.toNat_natCast]
theorem Kz (n d:Nat) (hd:d≤n) (o:Option Int):d7 n d o≤n:=by
 cases o with
 | none=>exact hd
 | some v =>
  show (if v < 0 then (v + (n:Int)).toNat else min v.toNat n)≤n
  by_cases hv:v < 0
  ·rw [if_pos hv];omega
  ·rw [if_neg hv];exact Nat.min_le_right _ _
theorem Ah (v:Int) (n d:Nat):(if v < 0 then max (v + (n:Int)) 0 else min v (n:Int))=((d7 n d (some v):Nat):Int):=by
 show (if v < 0 then max (v + (n:Int)) 0 else min v (n:Int))=(((if v < 0 then (v + (n:Int)).toNat else min v.toNat n):Nat):Int)
 by_cases hv:v < 0
 ·simp only [if_pos hv];omega
 ·simp only [if_neg hv];omega
theorem yJ (lo hi:Option Int) (n:Nat):Builtin.Slice.sliceAdjust lo hi 1 (n:Int)=(((d7 n 0 lo:Nat):Int),((d7 n n hi:Nat):Int)):=by
 have h1:¬ ((1:Int) < 0):=by omega
 unfold Builtin.Slice.sliceAdjust
 simp only [h1,if_false]
 refine Prod.ext ?_ ?_
 ·cases lo with
  | none=>rfl
  | some v=>exact Ah v n 0
 ·cases hi with
  | none=>rfl
  | some v=>exact Ah v n n
theorem zx (i j:Nat):Builtin.Slice.slicePlaces (i:Int) (j:Int) 1=j - i:=by
 unfold Builtin.Slice.slicePlaces
 have h1:(1:Int) > 0:=by omega
 simp only [h1,if_true,Int.ediv_one]
 split <;> omega
theorem rD {v:Value} {o:Option Int} {Q:Option Int→Shared→Prop} (p:IsPart v o) (h:Q o s):wpAny (model prog w) A (Builtin.Slice.slicePartIndex v) Q E s:=by
 cases p with
 | none=>exact slicePart_none h
 | int i t=>exact slicePart_int h
theorem oK {sl:Addr} {vl vu:Value} {lo hi:Option Int} {n:Nat} {Q:Int × Int × Nat→Shared→Prop} (hs:s.heap.IsSliceOf sl vl vu .none) (pl:IsPart vl lo) (pu:IsPart vu hi)
  (h:Q (((d7 n 0 lo:Nat):Int),1,d7 n n hi - d7 n 0 lo) s):wpAny (model prog w) A (Builtin.Slice.sliceApplied (.ref sl) (pure (n:Int))) Q E s:=by
 obtain ⟨os,hos,hcs,hds⟩:=id hs
 unfold Builtin.Slice.sliceApplied Builtin.Slice.sliceFields
 refine wpAny_bind (wpAny_bind (wpAny_field hos hds (x:=vl) rfl (wpAny_bind (wpAny_field hos hds (x:=vu) rfl (wpAny_bind (wpAny_field hos hds (x:=.none) rfl (wpAny_pure ?_)))))))
 refine wpAny_bind (slicePart_none ?_)
 show wpAny _ _ (if ((1:Int) == 0)=true then _ else _) _ _ s
 rw [if_neg (by decide)]
 refine wpAny_bind (rD pl (wpAny_bind (rD pu (wpAny_bind (wpAny_pure ?_)))))
 show wpAny _ _ (match Builtin.Slice.sliceAdjust lo hi 1 (n:Int) with | (lo,hi)=>pure (lo,(1:Int),Builtin.Slice.slicePlaces lo hi 1)) _ _ s
 rw [yJ lo hi n]
 show wpAny _ _ (pure (((d7 n 0 lo:Nat):Int),(1:Int),Builtin.Slice.slicePlaces ((d7 n 0 lo:Nat):Int) ((d7 n n hi:Nat):Int) 1)) _ _ s
 rw [zx]
 exact wpAny_pure h
theorem El (xs:Array Value) (i k:Nat):((SJ k).filterMap λ(m:Nat)=>xs[((i:Int) + (m:Int) * 1).toNat]?).toArray=((xs.toList.drop i).take k).toArray:=by
 have e:(λ(m:Nat)=>xs[((i:Int) + (m:Int) * 1).toNat]?)=λm=>xs[i + m]?:=by
  funext m
  have:((i:Int) + (m:Int) * 1).toNat=i + m:=by omega
  rw [this]
 rw [e]
 have:=pick_run xs i k
 rw [List.filterMap_map] at this
 have e2:((λx=>xs[x]?) ∘ λx=>i + x)=λm=>xs[i + m]?:=rfl
 rw [e2] at this
 rw [this]
theorem mE {t sl:Addr} {items:Array Value} {vl vu:Value} {lo hi:Option Int} {Q:Value→Shared→Prop} (ht:IsTup s.heap t items) (hs:s.heap.IsSliceOf sl vl vu .none) (pl:IsPart vl lo) (pu:IsPart vu hi)
  (hw:¬ (d7 items.size 0 lo=0∧d7 items.size items.size hi=items.size))
  (h:Q (.ref s.heap.objs.size) { s with heap:=s.heap.push { cls:=.type "tuple",data:=.seq ((items.toList.drop (d7 items.size 0 lo)).take (d7 items.size items.size hi - d7 items.size 0 lo)).toArray } })
  (hsz:items.size≤sizeLine):wpAny (model prog w) A (getItem (.ref t) (.ref sl)) Q E s:=by
 have htake:sizeOk (.seq ((items.toList.drop (d7 items.size 0 lo)).take (d7 items.size items.size hi - d7 items.size 0 lo)).toArray):=by
  show ((items.toList.drop (d7 items.size 0 lo)).take (d7 items.size items.size hi - d7 items.size 0 lo)).toArray.size≤sizeLine
  rw [Rx,RX,SH,Array.length_toList]
  omega
 have hj:d7 items.size items.size hi≤items.size:=Kz _ _ (Rz _) hi
 obtain ⟨os,hos,hcs,hds⟩:=id hs
 have hTs:s.TypeIs (.ref sl) "slice":=⟨os,hos,hcs⟩
 unfold getItem
 try with_reducible refine wpAny_holding ?_
 first | refine wpAny_bind (wpAny_pure ?_) | skip
 refine wpAny_bind (wpAny_sequenceKey ht.typeIs (by decide) ?_)
 refine wpAny_bind (wpAny_callSpecial?_slot (name:=Str.ofString "__getitem__") ht.typeIs PyProof.Rows.slot_tuple_getitem
  (wpAny_call_entry PyProof.Rows.slot_tuple_getitem ht.typeIs entry_tuple_getitem ?_ (args_tuple_getitem _ _)))
 show wpAny _ _ (Builtin.Tuple.tupleItemsOf (.ref t) >>= _) _ _ s
 refine wpAny_bind (tupleItemsOf_ ht ?_)
 refine wpAny_bind (wpAny_typeOf hTs ?_)
 rw [if_pos (by decide)]
 refine wpAny_bind (oK hs pl pu ?_)
 have hno:¬ ((((d7 items.size 0 lo:Nat):Int) == 0 && (1:Int) == 1 && (d7 items.size items.size hi - d7 items.size 0 lo) == items.size)=true):=by
  intro q
  rw [R7,R7] at q
  have q1:((d7 items.size 0 lo:Nat):Int)=0:=eq_of_beq q.1.1
  have q2:d7 items.size items.size hi - d7 items.size 0 lo=items.size:=eq_of_beq q.2
  exact hw ⟨by omega,by omega⟩
 show wpAny _ _ (if (((d7 items.size 0 lo:Nat):Int) == 0 && (1:Int) == 1 && (d7 items.size items.size hi - d7 items.size 0 lo) == items.size)=true then _ else _) _ _ s
 rw [if_neg hno,El]
 first
  | exact wpAny_bind (m:=Builtin.Tuple.tupleExact _) (wpAny_newObj_type (wpAny_pure ⟨_,rfl,wpAny_pure h⟩) htake)
  | exact wpAny_bind (m:=Builtin.Tuple.tupleExact _) (wpAny_newObj_type (wpAny_bind (wpAny_pure (wpAny_pure ⟨_,rfl,wpAny_pure h⟩))) htake)
  | exact wpAny_bind (wpAny_bind (m:=Builtin.Tuple.tupleExact _) (wpAny_newObj_type (wpAny_pure (wpAny_pure ⟨_,rfl,wpAny_pure h⟩)) htake))
  | exact wpAny_bind (wpAny_bind (m:=Builtin.Tuple.tupleExact _) (wpAny_newObj_type (wpAny_pure ⟨_,rfl,wpAny_pure h⟩) htake))
end
end HT
namespace L2
open PySem PySem.Spec PyProof.Rows
abbrev TO:=St→Hp→(Option Int→Hp→Prop)→Prop
def PO (X:Cx) (e:Option Expr) (t:TO):Prop :=
 ∀(pins:List (Addr × Obj)) (s:Shared) (σ:St) (H:Hp) (Q:Option Int→Hp→Prop),Inv X pins σ H s→t σ H Q →
  wpAny (model X.prog X.w) X.A (evalPart e X.env) (λu s'=>∃o H',Inv X pins σ H' s'∧IsPart u o∧Q o H') X.xe s
def wO:TO:=λ_ H Q=>Q none H
def E_ (t:TE):TO:=λσ H Q=>t σ H λx H1=>∃i,x=.int i∧Q (some i) H1
theorem intsAre_of {ns:List Int}:∀{us:List Value},Vals (ns.map V.int) us→IntsAre us ns:=by
 induction ns with
 | nil=>intro us r;rw [Sq] at r;cases r;exact .nil
 | cons n ns ih =>
  intro us r
  rw [RD] at r
  cases r with
  | cons r1 r2 =>
   obtain ⟨t,e⟩:=r1
   subst e
   exact .cons n t (ih r2)
section
variable {X:Cx} {e:Expr} {te:TE} {lo hi:Option Expr} {tl th:TO} {pos p2:Pos}
theorem vV:PO X none wO:=by
 intro pins s σ H Q I h
 rw [evalPart_none]
 exact wpAny_pure ⟨none,H,I,.none,h⟩
theorem vW (h:PE X e te):PO X (some e) (E_ te):=by
 intro pins s σ H Q I hw
 rw [evalPart_some]
 refine cf (h pins s σ H _ I hw) λu s1 ⟨x,H1,I1,r1,q1⟩=>?_
 obtain ⟨i,rfl,q⟩:=q1
 obtain ⟨t,rfl⟩:=r1
 exact ⟨some i,H1,I1,.int i t,q⟩
def mr (X:Cx) (r:V→Option Int→Option Int→Hp→VK→Prop):Prop :=
 ∀(pins:List (Addr × Obj)) (s:Shared) (σ:St) (H:Hp) (x:V) (v vl vu:Value) (lo hi:Option Int) (sl:Addr) (Q:VK),Inv X pins σ H s→RelV x v→s.heap.IsSliceOf sl vl vu .none→IsPart vl lo→IsPart vu hi→r x lo hi H Q →
  ∃T id,typeLookup (.type T) "__getitem__"=pure (some (.builtin id))∧s.TypeIs v T∧wpAny (model X.prog X.w) X.A (getItem v (.ref sl)) (EP X pins σ Q) X.xe s
theorem mr.or {r r':V→Option Int→Option Int→Hp→VK→Prop} (h:mr X r) (h':mr X r'):mr X (λx lo hi H Q=>r x lo hi H Q∨r' x lo hi H Q):=by
 intro pins s σ H x v vl vu lo hi sl Q I rx hs pl pu q
 rcases q with q | q
 ·exact h pins s σ H x v vl vu lo hi sl Q I rx hs pl pu q
 ·exact h' pins s σ H x v vl vu lo hi sl Q I rx hs pl pu q
def PX (r:V→Option Int→Option Int→Hp→VK→Prop) (te:TE) (tl th:TO):TE:=λσ H Q=>te σ H λx H1=>tl σ H1 λl H2=>th σ H2 λu H3=>r x l u H3 Q
theorem qO {r:V→Option Int→Option Int→Hp→VK→Prop} (hr:mr X r) (he:PE X e te) (hl:PO X lo tl) (hu:PO X hi th):PE X (.Subscript e (.Slice lo hi none p2) pos) (PX r te tl th):=by
 intro pins s σ H Q I h
 refine Subscript_ (cf (he pins s σ H _ I h) λv s1 ⟨x,H1,I1,r1,q1⟩=>?_)
 refine wpAny_Slice (cf (hl pins s1 σ H1 _ I1 q1) λvl s2 ⟨l,H2,I2,pl,q2⟩=>cf (hu pins s2 σ H2 _ I2 q2) λvu s3 ⟨u,H3,I3,pu,q3⟩=>?_)
 rw [evalPart_none]
 refine wpAny_pure ?_
 have I4:Inv X pins σ H3 { s3 with heap:=s3.heap.push { cls:=.type "slice",data:=.fields #[vl,vu,.none] } }:=I3.kept (t':=s3.toks) λb ob q=>Heap.get?_push_of_some _ q
 obtain ⟨T,id,hT,ht,hg⟩:=hr pins { s3 with heap:=s3.heap.push { cls:=.type "slice",data:=.fields #[vl,vu,.none] } } σ H3 x v vl vu l u s3.heap.objs.size Q I4 r1 (Heap.IsSliceOf.new ..) pl pu q3
 show wpAny (model X.prog X.w) X.A (subscriptTail e (.Slice lo hi none p2) v (.ref s3.heap.objs.size)) (EP X pins σ Q) X.xe { s3 with heap:=s3.heap.push { cls:=.type "slice",data:=.fields #[vl,vu,.none] } }
 exact tail_any (ops:=[.ref s3.heap.objs.size,v]) ht hT hg (by with_unfolding_all rfl)
def uV (xs:List V) (lo hi:Option Int):List V:=(xs.drop (HT.d7 xs.length 0 lo)).take (HT.d7 xs.length xs.length hi - HT.d7 xs.length 0 lo)
theorem oU (xs:List V) (lo hi:Option Int):(uV xs lo hi).length≤xs.length:=by
 unfold uV
 rw [RX,SH]
 omega
def PD (K:PySem.W.Frag):V→Option Int→Option Int→Hp→VK→Prop:=λx lo hi H Q=>∃a xs,x=.ref a∧fu K H a xs ∧
 ¬ (HT.d7 xs.length 0 lo=0∧HT.d7 xs.length xs.length hi=xs.length)∧∀p,H p=none→Q (.ref p) (upd H p (.tup (uV xs lo hi)))
theorem KH:mr X (PD X.K):=by
 intro pins s σ H x v vl vu lo hi sl Q I rx hs pl pu h
 obtain ⟨a,xs,rfl,hx,hw,q⟩:=h
 cases rx
 obtain ⟨its,r,ht,hz⟩:=I.tuple hx
 have hlen:its.toArray.size=xs.length:=by rw [Rx];exact r.length.symm
 refine ⟨"tuple",_,PyProof.Rows.slot_tuple_getitem.lookup,ht.typeIs,?_⟩
 refine HT.mE ht hs pl pu (by rw [hlen];exact hw) ?_ (by rw [hlen];exact hz)
 rw [hlen]
 refine ⟨.ref s.heap.objs.size,_,I.laid (t':=s.toks) (o:=.tup (uV xs lo hi)) (λb ob q=>Heap.get?_push_of_some _ q) (Rz _) ?_,rfl,q _ (I.hok.fresh (Rz _))⟩
 exact ⟨RN (oU xs lo hi) hz,_,(r.drop (HT.d7 xs.length 0 lo)).take (HT.d7 xs.length xs.length hi - HT.d7 xs.length 0 lo),IsTup.new _ _⟩
end
end L2
namespace L2
open PySem PySem.Spec PyProof.Rows
def CL (n:Nat) (i:Int):Option Nat:=if 0≤i then (if i < n then some i.toNat else none) else if -(n:Int)≤i then some (i + n).toNat else none
def cZ {α:Type} (xs:List α) (i:Int):Option α:=(CL xs.length i).bind λj=>xs[j]?
theorem Az {n:Nat} {i:Int} {j:Nat} (h:CL n i=some j):seqIndex? i n=some j∧j < n∧-(n:Int)≤i∧i < n:=by
 unfold CL at h
 by_cases h0:0≤i
 ·rw [if_pos h0] at h
  by_cases h1:i < n
  ·rw [if_pos h1] at h
   have e:i.toNat=j:=Option.some.inj h
   exact ⟨by rw [seqIndex_of h0 h1,e],by omega,by omega,h1⟩
  ·rw [if_neg h1] at h;cases h
 ·rw [if_neg h0] at h
  by_cases h1:-(n:Int)≤i
  ·rw [if_pos h1] at h
   have e:(i + n).toNat=j:=Option.some.inj h
   exact ⟨by rw [seqIndex_neg (by omega) h1,e],by omega,h1,by omega⟩
  ·rw [if_neg h1] at h;cases h
theorem uR {α:Type} {xs:List α} {i:Int} {v:α} (h:cZ xs i=some v):∃j,seqIndex? i xs.length=some j∧xs[j]?=some v∧j < xs.length∧-(xs.length:Int)≤i∧i < xs.length:=by
 unfold cZ at h
 cases e:CL xs.length i with
 | none=>rw [e] at h;cases h
 | some j =>
  rw [e] at h
  obtain ⟨h1,h2,h3,h4⟩:=Az e
  exact ⟨j,h1,h,h2,h3,h4⟩
theorem bG {α:Type} {xs:List α} {j:Nat} {v:α} (h:xs[j]?=some v):cZ xs (j:Int)=some v:=by
 have hj:j < xs.length:=(Rv.mp h).1
 have e:CL xs.length (j:Int)=some j:=by
  unfold CL
  rw [if_pos (by omega),if_pos (by omega)];simp
 unfold cZ;rw [e];exact h
def bI (b:Expr):Prop:=∀o i,subscripted b false o i=operate [o,i] (getItem o i)
def lA (X:Cx) (r:R2):Prop :=
 ∀(value slice:Expr) (pins:List (Addr × Obj)) (s:Shared) (σ:St) (H:Hp) (x y:V) (v u:Value) (Q:VK),Inv X pins σ H s→RelV x v→RelV y u→r x y H Q →
  subscripted slice false v u=operate [v,u] (getItem v u)→wpAny (model X.prog X.w) X.A (subscriptTail value slice v u) (EP X pins σ Q) X.xe s
def lD (X:Cx) (id:String) (r:V→List V→Hp→VK→Prop):Prop :=
 ∀(pins:List (Addr × Obj)) (s:Shared) (σ:St) (H:Hp) (x:V) (xs:List V) (v:Value) (us:List Value) (Q:VK),Inv X pins σ H s→RelV x v→Vals xs us→r x xs H Q →
  wpAny (model X.prog X.w) X.A (call (.builtin id) (v :: us)) (EP X pins σ Q) X.xe s
section
variable {X:Cx} {a b:Expr} {ta tb:TE} {pos:Pos}
theorem lA.or {r r':R2} (h:lA X r) (h':lA X r'):lA X (λx y H Q=>r x y H Q∨r' x y H Q):=by
 intro value slice pins s σ H x y v u Q I rx ry q hs
 rcases q with q | q
 ·exact h value slice pins s σ H x y v u Q I rx ry q hs
 ·exact h' value slice pins s σ H x y v u Q I rx ry q hs
theorem lD.or {id:String} {r r':V→List V→Hp→VK→Prop} (h:lD X id r) (h':lD X id r'):lD X id (λx xs H Q=>r x xs H Q∨r' x xs H Q):=by
 intro pins s σ H x xs v us Q I rx rs q
 rcases q with q | q
 ·exact h pins s σ H x xs v us Q I rx rs q
 ·exact h' pins s σ H x xs v us Q I rx rs q
theorem Ef {r:R2} (hr:lA X r) (ha:PE X a ta) (hb:PE X b tb) (hs:bI b):PE X (.Subscript a b pos) (Ft r ta tb):=by
 intro pins s σ H Q I h
 exact Subscript_ (IZ ha hb I h λv u s2 x y H2 I2 rx ry q=>hr a b pins s2 σ H2 x y v u Q I2 rx ry q (hs _ _))
def Pu (K:PySem.W.Frag):R2:=λx y H Q=>∃p xs i v,x=.ref p∧y=.int i∧dM K H p xs∧cZ xs i=some v∧Q v H
def Px (K:PySem.W.Frag):R2:=λx y H Q=>∃p xs i v,x=.ref p∧y=.int i∧fu K H p xs∧cZ xs i=some v∧Q v H
def Pw:R2:=λx y H Q=>∃z i c,x=.str z∧y=.int i∧z.length≤sizeLine∧cZ z.cps.toList i=some c∧Q (.str ⟨#[c]⟩) H
theorem Ga:lA X (Pu X.K):=by
 intro value slice pins s σ H x y v u Q I rx ry h hs
 obtain ⟨p,xs,i,z,rfl,rfl,hq,he,q⟩:=h
 cases rx
 obtain ⟨t,rfl⟩:=ry
 obtain ⟨its,r,pl,hz⟩:=I.list hq
 obtain ⟨j,h1,h2,h3,h4,h5⟩:=uR he
 obtain ⟨w,ew,rw'⟩:=r.get h2
 have hl:=r.length
 have hn:=lJ
 have fin:EP X pins σ Q w s:=⟨z,H,I,rw',q⟩
 by_cases h0:0≤i
 ·have hj:i.toNat=j:=by
   rw [seqIndex_of h0 h5] at h1
   exact Option.some.inj h1
  exact item_listR pl.isList h0 (by omega) (by rw [hj];simpa using ew) fin hs
 ·have hj:(i + (its.toArray.size:Int)).toNat=j:=by
   rw [seqIndex_neg (by omega) h4] at h1
   rw [Rx,← hl]
   exact Option.some.inj h1
  exact subscriptTail_builtinR (x:=w) pl.isList.typeIs slot_list_getitem.lookup
   (wpAny_getItem_list_neg (Q:=λr s'=>r=w∧EP X pins σ Q r s') pl.isList (by omega) (by rw [Rx] <;> omega) (by omega) (by rw [hj];simpa using ew) ⟨rfl,fin⟩) hs
theorem Ju:lA X (Px X.K):=by
 intro value slice pins s σ H x y v u Q I rx ry h hs
 obtain ⟨p,xs,i,z,rfl,rfl,hq,he,q⟩:=h
 cases rx
 obtain ⟨t,rfl⟩:=ry
 obtain ⟨its,r,pl,hz⟩:=I.tuple hq
 obtain ⟨j,h1,h2,h3,h4,h5⟩:=uR he
 obtain ⟨w,ew,rw'⟩:=r.get h2
 have hl:=r.length
 have hn:=lJ
 have fin:EP X pins σ Q w s:=⟨z,H,I,rw',q⟩
 exact subscriptTail_builtinR (x:=w) pl.typeIs slot_tuple_getitem.lookup
  (getItem_tuple (j:=j) (Q:=λr s'=>r=w∧EP X pins σ Q r s') pl (by omega) (by omega) (by rw [Rx,← hl];exact h1) (by simpa using ew) ⟨rfl,fin⟩) hs
theorem Jt:lA X Pw:=by
 intro value slice pins s σ H x y v u Q I rx ry h hs
 obtain ⟨z,i,c,rfl,rfl,hz,he,q⟩:=h
 obtain ⟨t,rfl⟩:=rx
 obtain ⟨t',rfl⟩:=ry
 obtain ⟨j,h1,h2,h3,h4,h5⟩:=uR he
 have hl:z.cps.toList.length=z.length:=by simp [Str.length]
 rw [hl] at h1 h4 h5
 have hn:=lJ
 exact tail_any (typeIs_str s z t) slot_str_getitem.lookup (getItem_str (c:=c) (by
  have e1:decide (i < -(2 ^ 63:Int))=false:=decide_eq_false (by omega)
  have e2:decide (i ≥ 2 ^ 63)=false:=decide_eq_false (by omega)
  rw [e1,e2,Bool.or_false]) (by rw [h1];simpa using h2) ⟨.str ⟨#[c]⟩,H,I.tok _,⟨_,rfl⟩,q⟩) hs
theorem y6 (its:List Value) (n j:Nat) (u:Value):Obj.mapSeq (·.setIfInBounds j u) { cls:=.type "list",data:=.seq its.toArray n }={ cls:=.type "list",data:=.seq (its.set j u).toArray n }:=by
 simp [Obj.mapSeq]
theorem Inv.lst {pins:List (Addr × Obj)} {σ:St} {H:Hp} {s:Shared} {p:Addr} {xs:List V} (I:Inv X pins σ H s) (h:H p=some (.lst xs)) :
  ∃(its:List Value) (n:Nat),Vals xs its∧s.heap.get? p=some { cls:=.type "list",data:=.seq its.toArray n }∧xs.length≤sizeLine:=by
 obtain ⟨z,its,n,r,e⟩:=I.hok p _ h
 exact ⟨its,n,r,e,z⟩
theorem Inv.JH {pins:List (Addr × Obj)} {σ:St} {H:Hp} {s:Shared} {p:Addr} {xs ys:List V} {its its':List Value} {n n':Nat} {f:Obj→Obj} (I:Inv X pins σ H s) (h:H p=some (.lst xs))
  (ho:s.heap.get? p=some { cls:=.type "list",data:=.seq its.toArray n }) (hf:f { cls:=.type "list",data:=.seq its.toArray n }={ cls:=.type "list",data:=.seq its'.toArray n' }) (r:Vals ys its') (hz:ys.length≤sizeLine) (t:Nat) :
  Inv X pins σ (upd H p (.lst ys)) { s with heap:=s.heap.update p f,toks:=t }:=by
 have e:(s.heap.update p f).get? p=some { cls:=.type "list",data:=.seq its'.toArray n' }:=by
  rw [Heap.get?_update_self f ho (by rw [hf] <;> rfl),hf]
 refine I.write (x:=p) (e:=p) (by rw [h];trivial) (.inl rfl) (λb u hb q=>(Heap.get?_update_other _ _ (Ne.symm hb)).trans q) ⟨_,e⟩ ?_
 exact ⟨hz,its',n',r,e⟩
def NB:V→V→V→Hp→(Hp→Prop)→Prop:=λo i v H Q=>∃p xs k j,o=.ref p∧i=.int k∧H p=some (.lst xs)∧CL xs.length k=some j∧Q (upd H p (.lst (xs.set j v)))
theorem set_list:fv X NB:=by
 intro pins s σ H o i v ov iv u Q I ro ri rv h
 obtain ⟨p,xs,k,j,rfl,rfl,hp,hj,q⟩:=h
 cases ro
 obtain ⟨t,rfl⟩:=ri
 obtain ⟨its,n,r,ho,hz⟩:=I.lst hp
 obtain ⟨h1,h2,h3,h4⟩:=Az hj
 have hl:=r.length
 have hn:=lJ
 have I':Inv X pins σ (upd H p (.lst (xs.set j v))) { s with heap:=s.heap.update p (Obj.mapSeq (·.setIfInBounds j u)) } :=
  I.JH hp ho (y6 its n j u) (r.set rv j) (by rw [S0];exact hz) s.toks
 by_cases h0:0≤k
 ·have hk:k.toNat=j:=by
   rw [seqIndex_of h0 h4] at h1
   exact Option.some.inj h1
  exact PySem.W.ki_setAt ho h0 (by omega) (by rw [Rx,← hl];exact h4) (by rw [hk];exact ⟨_,I',q⟩)
 ·have hk:(k + (its.toArray.size:Int)).toNat=j:=by
   rw [seqIndex_neg (by omega) h3] at h1
   rw [Rx,← hl]
   exact Option.some.inj h1
  exact PySem.W.ki_setBack ho (by omega) (by rw [Rx,← hl];exact h3) (by omega) (by rw [hk];exact ⟨_,I',q⟩)
theorem wH (lo hi:Option Int) (n:Nat):(sliceBounds lo hi none n).1=((HT.d7 n 0 lo:Nat):Int)∧(sliceBounds lo hi none n).2.1=((HT.d7 n n hi:Nat):Int)∧(sliceBounds lo hi none n).2.2=1:=by
 refine ⟨?_,?_,rfl⟩
 ·cases lo with
  | none=>simp [sliceBounds,HT.d7]
  | some i =>
   simp only [sliceBounds,HT.d7,T9,show (1:Int) > 0 by decide,if_true]
   by_cases h:i < 0
   ·simp only [h,if_true] <;> omega
   ·simp only [h,if_false] <;> omega
 ·cases hi with
  | none=>simp [sliceBounds,HT.d7]
  | some i =>
   simp only [sliceBounds,HT.d7,T9,show (1:Int) > 0 by decide,if_true]
   by_cases h:i < 0
   ·simp only [h,if_true] <;> omega
   ·simp only [h,if_false] <;> omega
theorem tL (its:List Value) (lo hi:Option Int):slicePick its.toArray lo hi none=((its.drop (HT.d7 its.length 0 lo)).take (HT.d7 its.length its.length hi - HT.d7 its.length 0 lo)).toArray:=by
 obtain ⟨h1,h2,h3⟩:=wH lo hi its.toArray.size
 unfold slicePick
 rw [h1,h2,h3]
 simp only [sliceRange_one,pick_run,Rx] <;> rfl
def PC (K:PySem.W.Frag):V→Option Int→Option Int→Hp→VK→Prop:=λx lo hi H Q=>∃a xs,x=.ref a∧dM K H a xs∧∀p,H p=none→Q (.ref p) (upd H p (.lst (uV xs lo hi)))
theorem A7:mr X (PC X.K):=by
 intro pins s σ H x v vl vu lo hi sl Q I rx hs pl pu h
 obtain ⟨a,xs,rfl,hx,q⟩:=h
 cases rx
 obtain ⟨its,r,ht,hz⟩:=I.list hx
 have hlen:=r.length
 refine ⟨"list",_,slot_list_getitem.lookup,ht.isList.typeIs,?_⟩
 refine wpAny_getItem_list_slice ht.isList hs pl pu .none (by simp) ?_ (by rw [Rx] <;> omega)
 rw [tL,← hlen]
 refine ⟨.ref s.heap.objs.size,_,I.laid (t':=s.toks) (o:=.lst (uV xs lo hi)) (λb ob q=>Heap.get?_push_of_some _ q) (Rz _) ?_,rfl,q _ (I.hok.fresh (Rz _))⟩
 exact ⟨RN (oU xs lo hi) hz,_,0,(r.drop (HT.d7 xs.length 0 lo)).take (HT.d7 xs.length xs.length hi - HT.d7 xs.length 0 lo),Heap.get?_push_size _ rfl⟩
def kM:V→Bool
 | .non=>true
 | .bl _=>true
 | .int _=>true
 | .str _=>true
 | _=>false
def F6:V→V→Bool
 | .non,.non=>true
 | .bl a,.bl b=>a == b
 | .bl a,.int b=>(if a then 1 else 0) == b
 | .int a,.bl b=>a == (if b then 1 else 0)
 | .int a,.int b=>a == b
 | .str a,.str b=>a == b
 | _,_=>false
theorem Jg {A:Around} {s:Shared} {y x:V} {u v:Value} (ry:RelV y u) (rx:RelV x v) (fy:kM y=true) (fx:kM x=true):SeqAt.EqAt A s u v (F6 y x):=by
 cases y with
 | non =>
  cases ry
  cases x with
  | non=>cases rx;exact SeqAt.EqAt.same _
  | bl b=>cases rx;exact SeqAt.EqAt.none_bool b
  | int b=>obtain ⟨t,rfl⟩:=rx;exact SeqAt.EqAt.none_int b t
  | str b=>obtain ⟨t,rfl⟩:=rx;exact SeqAt.EqAt.none_str b t
  | _=>exact absurd (show false=true from fx) R8
 | bl a =>
  cases ry
  cases x with
  | non=>cases rx;exact SeqAt.EqAt.bool_none a
  | bl b=>cases rx;exact SeqAt.EqAt.bool_bool a b
  | int b=>obtain ⟨t,rfl⟩:=rx;exact SeqAt.EqAt.bool_int a b t
  | str b=>obtain ⟨t,rfl⟩:=rx;exact SeqAt.EqAt.bool_str a b t
  | _=>exact absurd (show false=true from fx) R8
 | int a =>
  obtain ⟨t',rfl⟩:=ry
  cases x with
  | non=>cases rx;exact SeqAt.EqAt.int_none a t'
  | bl b=>cases rx;exact SeqAt.EqAt.int_bool a t' b
  | int b=>obtain ⟨t,rfl⟩:=rx;exact SeqAt.EqAt.int_int a t' b t
  | str b=>obtain ⟨t,rfl⟩:=rx;exact SeqAt.EqAt.int_str a t' b t
  | _=>exact absurd (show false=true from fx) R8
 | str a =>
  obtain ⟨t',rfl⟩:=ry
  cases x with
  | non=>cases rx;exact SeqAt.EqAt.str_none a t'
  | bl b=>cases rx;exact SeqAt.EqAt.str_bool a t' b
  | int b=>obtain ⟨t,rfl⟩:=rx;exact SeqAt.EqAt.str_int a t' b t
  | str b=>obtain ⟨t,rfl⟩:=rx;exact SeqAt.EqAt.str_str a t' b t
  | _=>exact absurd (show false=true from fx) R8
 | _=>exact absurd (show false=true from fy) R8
def F5 (x:V) (u:Value):Bool:=match u with
 | .none=>F6 .non x
 | .bool b=>F6 (.bl b) x
 | .int i _=>F6 (.int i) x
 | .str z _=>F6 (.str z) x
 | _=>false
theorem Dl {x y:V} {u:Value} (r:RelV y u) (f:kM y=true):F5 x u=F6 y x:=by
 cases y with
 | non=>cases r;rfl
 | bl b=>cases r;rfl
 | int i=>obtain ⟨t,rfl⟩:=r;rfl
 | str z=>obtain ⟨t,rfl⟩:=r;rfl
 | _=>exact absurd (show false=true from f) R8
theorem uQ {x:V}:∀{xs:List V} {us:List Value},Vals xs us→xs.all kM=true→us.any (F5 x)=xs.any λy=>F6 y x
 | _,_,.nil,_=>rfl
 | y :: xs,u :: us,.cons r t,f=>by
  rw [TX,R7] at f
  rw [Tb,Tb,Dl r f.1,uQ t f.2]
theorem qC {A:Around} {s:Shared} {x:V} {v:Value} (rx:RelV x v) (fx:kM x=true):∀{xs:List V} {us:List Value},Vals xs us→xs.all kM=true→∀u∈us,SeqAt.EqAt A s u v (F5 x u)
 | _,_,.nil,_=>λu hu=>by cases hu
 | y :: xs,u :: us,.cons r t,f=>λu' hu=>by
  rw [TX,R7] at f
  rcases RM.mp hu with rfl | hu
  ·rw [Dl r f.1];exact Jg r rx f.1 fx
  ·exact qC rx fx t f.2 u' hu
def Oi (x:V) (xs:List V):Bool:=xs.any λy=>F6 y x
def Rk (K:PySem.W.Frag) (neg:Bool):R2:=λx y H Q=>∃p xs,y=.ref p∧(dM K H p xs∨fu K H p xs)∧kM x=true∧xs.all kM=true∧Q (.bl (if neg then !Oi x xs else Oi x xs)) H
theorem vJ:eI X (compareOp .NotIn) (Rk X.K true):=by
 intro pins s σ H x y v u Q I rx ry h
 obtain ⟨p,xs,rfl,hq,fx,fs,q⟩:=h
 cases ry
 rcases hq with hq | hq
 ·obtain ⟨its,r,pl,hz⟩:=I.list hq
  refine SeqAt.notIn_listAt (F5 x) pl.isList (λw hw=>qC rx fx r fs w (by simpa using hw)) ⟨.bl _,H,I,rfl,?_⟩
  rw [show its.toArray.any (F5 x)=its.any (F5 x) by simp,uQ r fs]
  exact q
 ·obtain ⟨its,r,pl,hz⟩:=I.tuple hq
  refine SeqAt.notIn_tupleAt (F5 x) pl (λw hw=>qC rx fx r fs w (by simpa using hw)) ⟨.bl _,H,I,rfl,?_⟩
  rw [show its.toArray.any (F5 x)=its.any (F5 x) by simp,uQ r fs]
  exact q
theorem uT:bJ X (.builtin "len") (λxs H Q=>∃p ys,xs=[.ref p]∧(dM X.K H p ys∨fu X.K H p ys)∧Q (.int ys.length) H):=by
 intro pins s σ H xs us Q I r h
 obtain ⟨p,ys,rfl,hq,q⟩:=h
 obtain ⟨u,rfl,rx⟩:=vals1 r
 cases rx
 have hn:=lJ
 rcases hq with hq | hq
 ·obtain ⟨its,r',pl,hz⟩:=I.list hq
  have hlen:=r'.length
  exact Calls.call_len_list pl.isList (by simp only [Rx] <;> omega) ⟨.int ys.length,H,I.tok _,⟨s.toks + 1,by rw [Rx,hlen]⟩,q⟩
 ·obtain ⟨its,r',pl,hz⟩:=I.tuple hq
  have hlen:=r'.length
  exact len_tuple pl (by simp only [Rx] <;> omega) ⟨.int ys.length,H,I.tok _,⟨s.toks + 1,by rw [Rx,hlen]⟩,q⟩
theorem uU:bJ X (.builtin "len") (λxs H Q=>∃z,xs=[.str z]∧z.length≤sizeLine∧Q (.int z.length) H):=by
 intro pins s σ H xs us Q I r h
 obtain ⟨z,rfl,hz,q⟩:=h
 obtain ⟨u,rfl,t,rfl⟩:=vals1 r
 have hn:=lJ
 exact len_str (by omega) ⟨.int z.length,H,I.tok _,⟨_,rfl⟩,q⟩
theorem bJ.or {f:Value} {r r':List V→Hp→VK→Prop} (h:bJ X f r) (h':bJ X f r'):bJ X f (λxs H Q=>r xs H Q∨r' xs H Q):=by
 intro pins s σ H xs us Q I rs q
 rcases q with q | q
 ·exact h pins s σ H xs us Q I rs q
 ·exact h' pins s σ H xs us Q I rs q
theorem my:bJ X (.type "list") (λxs H Q=>∃p ys,xs=[.ref p]∧(dM X.K H p ys∨fu X.K H p ys)∧∀l,H l=none→Q (.ref l) (upd H l (.lst ys))):=by
 intro pins s σ H xs us Q I r h
 obtain ⟨p,ys,rfl,hq,q⟩:=h
 obtain ⟨u,rfl,rx⟩:=vals1 r
 cases rx
 have fin:∀(its:List Value),Vals ys its→ys.length≤sizeLine→∀(h':Heap) (c':Nat),(∀b o',s.heap.get? b=some o'→h'.get? b=some o') →
   h'.get? s.heap.objs.size=some { cls:=.type "list",dict:=none,data:=.seq its.toArray c',slots:=#[] }→EP X pins σ Q (.ref s.heap.objs.size) { s with heap:=h' }:=λits r' hz h' c' kp e =>
  ⟨.ref s.heap.objs.size,_,I.laid (t':=s.toks) kp (Rz _) (show dD X.prog X.w _ h' _ (.lst ys) from ⟨hz,its,c',r',e⟩),rfl,q _ (I.hok.fresh (Rz _))⟩
 rcases hq with hq | hq
 ·obtain ⟨its,r',pl,hz⟩:=I.list hq
  have hlen:=r'.length
  obtain ⟨o,ho,hc,n,hd⟩:=pl.isList
  exact call_list_seq p (.inl rfl) ho hc hd (λh' c' kp e=>fin its r' hz h' c' kp e) (by simp only [Rx] <;> omega)
 ·obtain ⟨its,r',pl,hz⟩:=I.tuple hq
  have hlen:=r'.length
  obtain ⟨o,ho,hc,n,hd⟩:=pl
  exact call_list_seq p (.inr rfl) ho hc hd (λh' c' kp e=>fin its r' hz h' c' kp e) (by simp only [Rx] <;> omega)
def Oz (K:PySem.W.Frag) (T:String) (x:V) (H:Hp):Prop:=match x with
 | .str _=>T="str"
 | .int _=>T="int"
 | .ref p=>(T="list"∧∃xs,dM K H p xs)∨(T="tuple"∧∃o,K.lookup p=some o∧o.cls=.type "tuple"∧o.dict=none) ∨
   (T="dict"∧((∃kvs,H p=some (.dK kvs))∨∃kvs ep,H p=some (.dE kvs ep)))∨(T="set"∧∃S n,H p=some (.set S n))
 | _=>False
theorem Fh {pins:List (Addr × Obj)} {σ:St} {H:Hp} {s:Shared} {T:String} {x:V} {v:Value} (I:Inv X pins σ H s) (r:RelV x v) (ty:Oz X.K T x H) :
  s.TypeIs v T∧∀a,v=.ref a→∃ob,s.heap.get? a=some ob∧ob.dict=none:=by
 cases x with
 | str z =>
  obtain ⟨t,rfl⟩:=r
  cases (show T="str" from ty)
  exact ⟨typeIs_str s z t,λ_ e=>nomatch e⟩
 | int i =>
  obtain ⟨t,rfl⟩:=r
  cases (show T="int" from ty)
  exact ⟨typeIs_int s i t,λ_ e=>nomatch e⟩
 | ref p =>
  cases r
  rcases ty with ⟨rfl,xs,hq⟩ | ⟨rfl,o,hk,hc,hd⟩ | ⟨rfl,hk⟩ | ⟨rfl,S,n,hk⟩
  ·obtain ⟨its,_,pl,_⟩:=I.list hq
   refine ⟨pl.isList.typeIs,λa e=>?_⟩
   cases e
   obtain ⟨o,n,e,c,hd,_⟩:=pl
   exact ⟨o,e,hd⟩
  ·refine ⟨⟨o,I.mG p o hk,hc⟩,λa e=>?_⟩
   cases e
   exact ⟨o,I.mG _ o hk,hd⟩
  ·have z:∃o,s.heap.get? p=some o∧o.ExactDict:=by
    rcases hk with ⟨kvs,hk⟩ | ⟨kvs,ep,hk⟩
    ·obtain ⟨_,_,_,_,o,_,_,e,ex,_⟩:=I.hok p _ hk
     exact ⟨o,e,ex⟩
    ·obtain ⟨_,_,_,_,o,_,e,ex,_⟩:=I.hok p _ hk
     exact ⟨o,e,ex⟩
   obtain ⟨o,e,ex⟩:=z
   refine ⟨⟨o,e,ex.1⟩,λa e2=>?_⟩
   cases e2
   exact ⟨o,e,ex.2.1⟩
  ·obtain ⟨o,_,_,_,e,ex,_⟩:=I.hok p _ hk
   refine ⟨⟨o,e,ex.1⟩,λa e2=>?_⟩
   cases e2
   exact ⟨o,e,ex.2.1⟩
 | _=>exact False.elim ty
def PM (K:PySem.W.Frag) (T:String) (r:V→List V→Hp→VK→Prop) (to:TE):TE:=λσ H Q=>to σ H λx H1=>Oz K T x H1∧r x [] H1 Q
def PL (K:PySem.W.Frag) (T:String) (r:V→List V→Hp→VK→Prop) (to:TE) (t:TA):TE:=λσ H Q=>to σ H λx H1=>Oz K T x H1∧t σ H1 λxs H2=>r x xs H2 Q
variable {o e:Expr} {es:List Expr} {to:TE} {t:TA} {name:Str} {apos cpos:Pos} {T id:String} {r:V→List V→Hp→VK→Prop}
theorem Kc (pa:PlainAttrs T) (slot:Slot T name id) (hty:typeOf (.builtin id)=pure (.type "method_descriptor")) (hm:lD X id r) (ho:PE X o to)
  (hbase:attributeBase o name X.env (eval o X.env)=eval o X.env:=by rfl) (hline:(apos.endLine == cpos.line)=true:=by rfl):PE X (.Call (.Attribute o name apos) [] [] cpos) (PM X.K T r to):=by
 intro pins s σ H Q I h
 refine wpAny_Call_method0_late hbase hline (cf (ho pins s σ H _ I h) λv s1 ⟨x,H1,I1,r1,ty,q1⟩=>?_)
 obtain ⟨h1,h2⟩:=Fh I1 r1 ty
 exact ⟨T,id,pa,slot,hty,h1,h2,Calls.callWith_builtin rfl (PySem.evalArgs_none (hm pins s1 σ H1 x [] v [] Q I1 r1 .nil q1))⟩
theorem Ed (pa:PlainAttrs T) (slot:Slot T name id) (hty:typeOf (.builtin id)=pure (.type "method_descriptor")) (hm:lD X id r) (ho:PE X o to) (ha:PA X (e :: es) t)
  (hbase:attributeBase o name X.env (eval o X.env)=eval o X.env:=by rfl)
  (hfew:((backTo cpos (starEach (e :: es) X.env)).all (λx=>!x.1) && (backToKw cpos (keywordEach [] X.env)).all (λx=>x.1.isSome)
   && decide ((e :: es).length + ([]:List Keyword).length + (if ([]:List Keyword).isEmpty then 0 else 1) < 30))=true:=by rfl)
  (hline:(apos.endLine == cpos.line)=true:=by rfl) (hs:starEach (e :: es) X.env=(false,eval e X.env) :: starEach es X.env:=by rfl) (hplain:(backTo cpos (starEach es X.env)).any (·.1)=false:=by rfl) :
  PE X (.Call (.Attribute o name apos) (e :: es) [] cpos) (PL X.K T r to t):=by
 intro pins s σ H Q I h
 refine wpAny_Call_method_late hbase hfew hline rfl (cf (ho pins s σ H _ I h) λv s1 ⟨x,H1,I1,r1,ty,q1⟩=>?_)
 obtain ⟨h1,h2⟩:=Fh I1 r1 ty
 refine ⟨T,id,pa,slot,hty,h1,h2,?_⟩
 have hA:=ha cpos pins s1 σ H1 _ I1 q1
 rw [hs] at hA ⊢
 refine Calls.callWith_builtin (by show (false || (backTo cpos (starEach es X.env)).any (·.1))=false;rw [hplain] <;> rfl) (Calls.evalArgs_plain ?_)
 exact cf hA λus s2 ⟨vs,H2,I2,r2,q2⟩=>hm pins s2 σ H2 x vs v us Q I2 r1 r2 q2
end
end L2
namespace L2
open PySem PySem.Spec PyProof.Rows
def Qq (X:Cx) (id:String) (r:V→List V→Hp→VK→Prop):Prop :=
 ∀(pins:List (Addr × Obj)) (s:Shared) (σ:St) (H:Hp) (x:V) (xs:List V) (v:Value) (us:List Value) (Q:VK),Inv X pins σ H s→RelV x v→Vals xs us→r x xs H Q →
  wpAny (model X.prog X.w) X.A (call (.builtin id) (v :: us)) (EP X pins σ Q) X.xe s
theorem Vals.one {x:V} {us:List Value} (r:Vals [x] us):∃u,us=[u]∧RelV x u:=vals1 r
theorem Vals.two {x y:V} {us:List Value} (r:Vals [x,y] us):∃u v,us=[u,v]∧RelV x u∧RelV y v:=vals2 r
theorem Vals.zero:∀{us:List Value},Vals [] us→us=[]
 | _,.nil=>rfl
theorem Vals.dropLast {xs:List V} {us:List Value} (h:Vals xs us):Vals xs.dropLast us.dropLast:=by
 induction h with
 | nil=>exact .nil
 | cons r t ih =>
  cases t with
  | nil=>exact .nil
  | cons q t'=>exact .cons r ih
theorem Vals.eraseIdx:∀{xs:List V} {us:List Value} (i:Nat),Vals xs us→Vals (xs.eraseIdx i) (us.eraseIdx i)
 | _,_,_,.nil=>.nil
 | _,_,0,.cons _ t=>t
 | _,_,i + 1,.cons r t=>.cons r (Vals.eraseIdx i t)
theorem yP {α:Type} (l:List α):l.eraseIdx (l.length - 1)=l.dropLast:=by
 induction l with
 | nil=>rfl
 | cons a r ih =>
  cases r with
  | nil=>rfl
  | cons b r =>
   have e:(a :: b :: r).length - 1=((b :: r).length - 1) + 1:=by
    have h1:(a :: b :: r).length=r.length + 2:=rfl
    have h2:(b :: r).length=r.length + 1:=rfl
    omega
   rw [e,List.eraseIdx_cons_succ,ih]
   all_goals rfl
section
variable {X:Cx} {pins:List (Addr × Obj)} {σ:St} {H:Hp} {s:Shared} {l b:Addr} {xs ys zs:List V}
theorem Inv.Gh {its its':List Value} {n:Nat} {f:Array Value→Array Value} {t':Nat} (I:Inv X pins σ H s) (hH:H l=some (.lst xs))
  (e:s.heap.get? l=some { cls:=.type "list",data:=.seq its.toArray n }) (hf:f its.toArray=its'.toArray) (hv:Vals ys its') (hz:ys.length≤sizeLine) :
  Inv X pins σ (upd H l (.lst ys)) { s with heap:=s.heap.update l (Obj.mapSeq f),toks:=t' }:=by
 have q:=PySem.IsL.update e f
 rw [hf] at q
 refine I.write (x:=l) (e:=l) (by rw [hH];exact trivial) (.inl rfl) (λb' u hb hu=>(Heap.get?_update_other s.heap (Obj.mapSeq f) (Ne.symm hb)).trans hu) ⟨_,q⟩ ?_
 exact ⟨hz,its',_,hv,q⟩
theorem Inv.O_ {its:List Value} {t':Nat} (I:Inv X pins σ H s) (hv:Vals ys its) (hz:ys.length≤sizeLine) :
  Inv X pins σ (upd H s.heap.objs.size (.lst ys)) { s with heap:=s.heap.push { cls:=.type "list",data:=.seq its.toArray },toks:=t' } :=
 I.laid (λ_ _ q=>Heap.get?_push_of_some _ q) (Rz _) ⟨hz,its,0,hv,Heap.get?_push_size _ rfl⟩
theorem Inv.fresh (I:Inv X pins σ H s):H s.heap.objs.size=none:=I.hok.fresh (Rz _)
theorem Inv.Gi (I:Inv X pins σ H s) (hH:H l=some (.lst xs)):xs.length≤sizeLine∧∃(its:List Value) (n:Nat),Vals xs its∧xs.length=its.length∧s.heap.get? l=some { cls:=.type "list",data:=.seq its.toArray n }:=by
 obtain ⟨z,its,n,r,e⟩:=I.hok l _ hH
 exact ⟨z,its,n,r,r.length,e⟩
theorem DY {n:Nat} (h:n≤sizeLine):Builtin.List.listTooLong n=false:=by
 unfold Builtin.List.listTooLong
 exact decide_eq_false (by omega)
end
section
variable {X:Cx}
def G5:V→List V→Hp→VK→Prop:=λx vs H Q=>∃l xs y,x=.ref l∧vs=[y]∧H l=some (.lst xs)∧xs.length < sizeLine∧Q .non (upd H l (.lst (xs ++ [y])))
theorem ui:Qq X "list.append" G5:=by
 intro pins s σ H x vs v us Q I rx rv h
 obtain ⟨l,xs,y,rfl,rfl,hH,hz,q⟩:=h
 cases rx
 obtain ⟨u,rfl,ru⟩:=rv.one
 obtain ⟨z,its,n,r,hl,e⟩:=I.Gi hH
 refine call_meets F.slot_list_append ⟨_,e,rfl⟩ F.entry_list_append (F.args_list_append_2 _ _) (PySem.list_append l its.toArray n u (by rw [Rx];omega)) ⟨e,?_⟩
 refine ⟨.non,_,I.Gh (its':=its ++ [u]) hH e (by simp) (r.append (.cons ru .nil)) ?_,rfl,q⟩
 rw [RL,List.length_singleton]
 omega
def PB:V→List V→Hp→VK→Prop:=λx vs H Q=>∃l xs y,x=.ref l∧vs=[]∧H l=some (.lst xs)∧xs[xs.length - 1]?=some y∧Q y (upd H l (.lst xs.dropLast))
theorem JK:Qq X "list.pop" PB:=by
 intro pins s σ H x vs v us Q I rx rv h
 obtain ⟨l,xs,y,rfl,rfl,hH,hy,q⟩:=h
 cases rx
 have hus:=rv.zero
 subst hus
 obtain ⟨z,its,n,r,hl,e⟩:=I.Gi hH
 obtain ⟨u,hu,ru⟩:=r.get hy
 have hy':its.toArray[its.toArray.size - 1]?=some u:=by
  show its.toArray[its.length - 1]?=some u
  rw [← Array.getElem?_toList,← hl]
  exact hu
 refine call_meets F.slot_list_pop ⟨_,e,rfl⟩ F.entry_list_pop (F.args_list_pop_1 _) (MeetsSeq.list_pop_last l its.toArray n u hy' (by rw [Rx];omega)) ⟨e,?_⟩
 refine ⟨y,_,I.Gh (its':=its.dropLast) hH e ?_ r.dropLast ?_,ru,q⟩
 ·show its.toArray.eraseIdxIfInBounds (its.toArray.size - 1)=its.dropLast.toArray
  rw [Rx,List.eraseIdxIfInBounds_toArray,yP]
 ·rw [List.length_dropLast]
  omega
end
section
variable {prog:Program} {w:World} {A:Around} {E:Value→Shared→Prop} {s:Shared}
end
section
variable {X:Cx}
end
end L2
namespace Att
open PySem PySem.W PySem.Calls PyProof.Rows
theorem pD {P:Params} {h:Heap}:∀(ns:List Int) (vs:List Value),WellAll P h vs (ns.map WData.int)→IntsAre vs ns:=by
 intro ns
 induction ns with
 | nil =>
  intro vs w
  rw [Sq] at w
  cases w
  exact .nil
 | cons n ns ih =>
  intro vs w
  rw [RD] at w
  cases w with
  | cons a b =>
   cases a
   exact .cons _ _ (ih _ b)
theorem Cv {l:OpenLaw} {n:Nat} (hn:l.most=some n) {P:Params} {h:Heap} {args:List WData} {vals:List Value}
  (hpre:l.row.toRowW.claim.pre args=true) (hwl:WellAll P h vals args) :
  ∃a vs ns,vals=[Value.ref a]∧args=[WData.list (ns.map WData.int)]∧h.get? a=some { cls:=.type "list",data:=.seq vs.toArray }∧IntsAre vs ns∧ns.length≤n:=by
 have hsh:WShape.hasAll [] args [.list .int]=true:=(pre_splitW hpre).1
 have hc:l.pre.holds [] { args:=args }=true:=(pre_splitW hpre).2
 obtain ⟨d,r,rfl,h1,h2⟩:=hasAllW_cons hsh
 obtain rfl:=hasAllW_nil h2
 obtain ⟨xs,rfl,h3⟩:=hasW_list h1
 obtain ⟨ns,rfl⟩:=items_int h3
 have hlen:ns.length≤n:=by
  unfold OpenLaw.pre at hc
  have h4:(WTm.not (.lt (.lit (.int (n:Int))) (.len (.arg 0)))).holds [] { args:=[.list (ns.map .int)] }=true:=by
   have h4:=(holds_andW hc).1
   rw [hn] at h4
   exact h4
  have h5:=condW_of h4 (w_not (w_lt w_lit (w_len_list (w_arg rfl))))
  rw [Rr] at h5
  refine Nat.le_of_not_lt λq=>?_
  have q':(n:Int) < ((ns.length:Nat):Int):=by omega
  first
   | (rw [decide_eq_true q'] at h5;exact absurd h5 (by decide))
   | (simp at h5;omega)
 cases hwl with
 | cons w1 w2 =>
  cases w2
  cases w1 with
  | list ho hall=>exact ⟨_,_,ns,rfl,rfl,ho,pD ns _ hall,hlen⟩
theorem Cs (l:OpenLaw) (args:List WData):l.row.toRowW.claim.post args (.bool true) args=true :=
 postW_of (r:=l.row.toRowW) (X:=(true == true))
  (show WShape.has [] (.bool true) .bool=true by first | rfl | decide | simp [WShape.has,WShape.arms,WShape.armsAll])
  (show (WTm.eq .res (.lit (.bool true))).value [] { args:=args,res:=some (.bool true),after:=args }=some (.bool (true == true)) from w_eq_bool (w_res rfl) w_lit) rfl
theorem xj {l:OpenLaw} {n:Nat} {q:Program} {loose:List Str} {XP:(Str→Option Value)→Heap→Prop} {YP:World→Heap→Prop} {d:DefRec}
  (hn:l.most=some n) (hdf:d.params.defaults=[])
  (call:∀(w:World) (s₀ s₁:Shared) (mg mb:Str→Option Value) (fa:Addr) (o:Obj) (pm cd doc:Value) (a:Addr) (vs:List Value) (ns:List Int),
   Ground q loose [] XP w s₀ mg mb s₁.heap→YP w s₁.heap →
   s₁.heap.get? fa=some o→o.data=.func (docDef d.name d.params d.body d.scope pm cd doc)→s₁.heap.CodeRec cd d.name→mg d.name=some (.ref fa) →
   s₁.heap.get? a=some { cls:=.type "list",data:=.seq vs.toArray }→IntsAre vs ns→ns.length≤n→s₁.gens=#[] →
   codeAny (model l.prog w) callerA (.call (.ref fa) ⟨[.ref a],[]⟩) (λr s'=>r=.ok (.ret (.bool true))∧OldK s₁.heap s'.heap∧s'.os=s₁.os∧AllBare s'.gens) s₁) :
  WalkO q loose XP YP l.row.toRowW d [] (λf vs=>PySem.call f vs):=by
 intro w s₀ s₁ mg mb G Y fa o pm cd doc dV kV ho hd hcd hD hmg hg args vals as hpre hlay hrd hwl hlo
 obtain rfl:dV=.none:=Dflts.none hD hdf
 obtain rfl:kV=.none:=Dflts.noKw hD
 obtain ⟨a,vs,ns,rfl,rfl,hobj,hints,hlen⟩:=Cv hn hpre hwl
 refine enter_call (codeAny_mono (call w s₀ s₁ mg mb fa o pm cd doc a vs ns G Y ho (fd_plain hd) hcd hmg hobj hints hlen hg) λr s' hq=>?_)
 obtain ⟨rfl,h2,h3,h4⟩:=hq
 exact ⟨.inl ⟨.bool true,.bool true,[],rfl,λ_=>rfl,.bool true,Cs l _,λ_=>⟨List.Pairwise.nil,λ_ hm=>(nomatch hm)⟩⟩,h2,h3,h4⟩
section
variable {prog:Program} {w:World} {A:Around} {E:Value→Shared→Prop} {s:Shared} {K:Frag}
end
end Att
namespace L2
open PySem PySem.Spec PyProof.Rows
theorem uC:∀{vs:List Value} {ns:List Int},IntsAre vs ns→Vals (ns.map V.int) vs
 | _,_,.nil=>.nil
 | _,_,.cons n t h=>.cons ⟨t,rfl⟩ (uC h)
end L2
namespace L2
open PySem PySem.Spec PyProof.Rows
abbrev nL {K:PySem.W.Frag} {h:Heap} (_:K.In h):PySem.W.Frag:=K
end L2
namespace L2
open PySem PySem.Spec PyProof.Rows
def inClass (s:Stmt) (j:Nat):Stmt:=match s with
 | .ClassDef _ _ _ body _ _ _ _ _ _ _=>body.getD j (.Pass ⟨0,0,0,0⟩)
 | _=>.Pass ⟨0,0,0,0⟩
def du (s:Stmt):Arguments:=match s with
 | .FunctionDef _ a _ _ _ _ _ _ _ _=>a
 | _=>{ posonlyargs:=[],args:=[],vararg:=none,kwonlyargs:=[],kw_defaults:=[],kwarg:=none,defaults:=[] }
def bQ (s:Stmt):List Stmt:=match s with
 | .FunctionDef _ _ b _ _ _ _ _ _ _=>b
 | _=>[]
def aq (s:Stmt):Scope:=match s with
 | .FunctionDef _ _ _ _ _ _ sc _ _ _=>sc
 | _=>{ kind:=.function,names:=[],isGenerator:=false,isCoroutine:=false }
abbrev Lh:lZ:=λ_ _ _ _ _ _=>False
abbrev E0:XK:=λ_ _ _=>False
structure bP (K:PySem.W.Frag) (x qual:Str) (st:Stmt) (f:Addr) (fd:FuncData):Prop where
 ex:∃(oc:Value) (od:Option Addr) (kV doc pm:Value) (an:Option Addr) (cdv ct:Value) (osl:Array (Option Value)),
  fd=PySem.W.fnOf x qual (du st) (bQ st) (aq st) .none kV doc pm an cdv ct∧K.lookup f=some ⟨oc,od,.func fd,osl⟩∧PySem.W.codeIn K cdv qual=true
 kp:PySem.W.keepIn K (.ref f)=true
section
variable {P:Program} {w:World} {K:PySem.W.Frag} {mg:Str→Option Value} {base:Heap}
theorem bP.ok {x qual:Str} {st:Stmt} {f:Addr} {fd:FuncData} {N ps:List Str} {k:Nat} {sp:Sp} (F:bP K x qual st f fd) (S:aw N ps (aq st)) (len:∀vs H Q E,sp vs H Q E→vs.length=ps.length)
  (hbody:∀(cdv:Value) (A:Around) (outer:List Env) (s:Shared) (H:Hp) (vs:List V) (Q:VK) (E:XK),bC k (A.deeper (envOfC qual (aq st) s.heap.objs.size f cdv))→sp vs H Q E →
   ∃t,xf (yM Lh P w K mg base N qual (aq st) f cdv A outer s H E).Om (bQ st) t∧t { nx:=λ_ H'=>Q .non H',rt:=Q } (start N vs) H):aH P w K mg base Lh (k + 1) f fd ps sp:=by
 obtain ⟨oc,od,kV,doc,pm,an,cdv,ct,osl,rfl,lk,hcd⟩:=F.ex
 refine Dp lk hcd S len λA outer s H vs Q E hr hsp=>?_
 obtain ⟨t,h,q⟩:=hbody cdv A outer s H vs Q E hr hsp
 exact ⟨t,h.Om,q⟩
theorem bP.binds {x qual:Str} {st:Stmt} {f:Addr} {fd:FuncData} {ps:List Str} (F:bP K x qual st f fd)
  (h:∀(kV doc pm:Value) (an:Option Addr) (cdv ct:Value) (us:List Value),us.length=ps.length→bindArgs (PySem.W.fnOf x qual (du st) (bQ st) (aq st) .none kV doc pm an cdv ct) ⟨us,[]⟩=pure (ps.zip us)):Binds K fd ps []:=by
 obtain ⟨oc,od,kV,doc,pm,an,cdv,ct,osl,rfl,lk,hcd⟩:=F.ex
 exact .all (h kV doc pm an cdv ct)
theorem yR {x qual:Str} {st:Stmt} {f:Addr} {oc:Value} {od an:Option Addr} {osl:Array (Option Value)} {kV doc pm cdv ct:Value} (l:K.lookup f=some ⟨oc,od,.func (PySem.W.fnOf x qual (du st) (bQ st) (aq st) .none kV doc pm an cdv ct),osl⟩)
  (c:PySem.W.codeIn K cdv qual=true) (k:PySem.W.keepIn K (.ref f)=true):bP K x qual st f (PySem.W.fnOf x qual (du st) (bQ st) (aq st) .none kV doc pm an cdv ct):=⟨⟨oc,od,kV,doc,pm,an,cdv,ct,osl,rfl,l,c⟩,k⟩
end
theorem aX {n:Nat} (h:n≤1000):n < sizeLine:=Se h (by decide)
section
variable {X:Cx}
end
def bW (H H':Hp):Prop:=∀b o,H b=some o→H' b=some o
theorem bW.trans {H H1 H2:Hp} (a:bW H H1) (b:bW H1 H2):bW H H2:=λc o h=>b c o (a c o h)
theorem bW.free {H H':Hp} (e:bW H H') {l:Addr} (h:H' l=Option.none):H l=Option.none:=by
 cases q:H l with
 | none=>rfl
 | some o =>
  rw [e l o q] at h
  cases h
theorem bW.seq {K:PySem.W.Frag} {H H':Hp} {a:Addr} {xs:List V} (e:bW H H') (h:dM K H a xs):dM K H' a xs:=by
 rcases h with (h | ⟨o,h⟩) | h
 ·exact .inl (.inl (e _ _ h))
 ·exact .inl (.inr ⟨o,e _ _ h⟩)
 ·exact .inr h
end L2
namespace Ov
theorem xu {a b:Int} (h:b≠0):Int.gcd b (a % b)=Int.gcd a b:=by
 have e:a=b * (a / b) + a % b:=(Int.mul_ediv_add_emod a b).symm
 have d1:((Int.gcd b (a % b):Nat):Int) ∣ a:=by
  rw [e]
  exact Int.dvd_add (Int.dvd_trans (Int.gcd_dvd_left ..) (Int.dvd_mul_right ..)) (by rw [← e];exact Int.gcd_dvd_right ..)
 have d2:((Int.gcd a b:Nat):Int) ∣ a % b:=by
  have e2:a % b=a - b * (a / b):=by omega
  rw [e2]
  exact Int.dvd_sub (Int.gcd_dvd_left ..) (Int.dvd_trans (Int.gcd_dvd_right ..) (Int.dvd_mul_right ..))
 exact Nat.dvd_antisymm (Int.dvd_gcd d1 (Int.gcd_dvd_left ..)) (Int.dvd_gcd (Int.gcd_dvd_right ..) d2)
theorem Ar {a:Int} (h:0≤a):((Int.gcd a 0:Nat):Int)=a:=by
 rw [Int.gcd_zero_right];omega
theorem F7 (a b:Int):Int.gcd (if a < 0 then -a else a) (if b < 0 then -b else b)=Int.gcd a b:=by
 split <;> split <;> simp [Int.gcd_neg,Int.neg_gcd]
theorem Dt (a b:Int):Int.gcd (if a < 0 then -a else a) b=Int.gcd a b:=by
 split <;> simp [Int.gcd_neg,Int.neg_gcd]
theorem As {t b:Int} (h:b≠0):0 < ((Int.gcd t b:Nat):Int):=by
 have:0 < Int.gcd t b:=Int.gcd_pos_of_ne_zero_right t h
 omega
theorem Jm {t b:Int} (h:b≠0):Int.gcd t b≤b.natAbs:=Nat.le_of_dvd (by omega) (Int.ofNat_dvd.mp (by rw [Int.dvd_natAbs];exact Int.gcd_dvd_right ..))
theorem vn {t b:Int} (h:0 < b):t.fdiv ((Int.gcd t b:Nat):Int)=(Rat.divInt t b).num:=by
 rw [Rat.num_divInt,Int.sign_eq_one_of_pos h,Int.one_mul,Int.gcd_comm b t,Int.fdiv_eq_ediv_of_nonneg _ (Int.natCast_nonneg _)]
theorem den_pos {t b:Int} (h:0 < b):b.fdiv ((Int.gcd t b:Nat):Int)=((Rat.divInt t b).den:Int):=by
 rw [Rat.den_divInt,if_neg (by omega),Int.gcd_comm b t,Int.fdiv_eq_ediv_of_nonneg _ (Int.natCast_nonneg _)]
 rw [Int.natCast_ediv]
 congr 1
 omega
theorem AI {t b:Int} (h:b < 0):t.fdiv (-((Int.gcd t b:Nat):Int))=(Rat.divInt t b).num:=by
 have e:t.fdiv (-((Int.gcd t b:Nat):Int))=(-t).fdiv ((Int.gcd t b:Nat):Int):=by
  have:=Int.neg_fdiv_neg (a:=-t) (b:=((Int.gcd t b:Nat):Int))
  rw [← this];simp
 rw [e,Rat.num_divInt,Int.sign_eq_neg_one_of_neg h,Int.gcd_comm b t,Int.fdiv_eq_ediv_of_nonneg _ (Int.natCast_nonneg _)]
 congr 1
 omega
theorem F2 {t b:Int} (h:b < 0):b.fdiv (-((Int.gcd t b:Nat):Int))=((Rat.divInt t b).den:Int):=by
 have e:b.fdiv (-((Int.gcd t b:Nat):Int))=(-b).fdiv ((Int.gcd t b:Nat):Int):=by
  have:=Int.neg_fdiv_neg (a:=-b) (b:=((Int.gcd t b:Nat):Int))
  rw [← this];simp
 rw [e,Rat.den_divInt,if_neg (by omega),Int.gcd_comm b t,Int.fdiv_eq_ediv_of_nonneg _ (Int.natCast_nonneg _)]
 rw [Int.natCast_ediv]
 congr 1
 omega
theorem AH (t b:Int):(Rat.divInt t b).num.natAbs≤t.natAbs:=by
 rcases Int.lt_trichotomy b 0 with h | h | h
 ·rw [← AI h]
  exact Int.natAbs_fdiv_le_natAbs ..
 ·subst h;simp
 ·rw [← vn h,Int.fdiv_eq_ediv_of_nonneg _ (Int.natCast_nonneg _)]
  exact Int.natAbs_ediv_le_natAbs ..
theorem pO {t b:Int} (h:b≠0):(((Rat.divInt t b).den:Int)).natAbs≤b.natAbs:=by
 rw [Rat.den_divInt,if_neg h]
 exact Nat.div_le_self ..
theorem kC (p:Rat):Rat.divInt p.num p.den=p:=Rat.num_divInt_den p
theorem eR (p:Rat):(p.den:Int)≠0:=by have:=p.den_pos;omega
theorem dk (p:Rat):(0:Int) < p.den:=by have:=p.den_pos;omega
theorem add_eq (p q:Rat):Rat.divInt (p.num * q.den + q.num * p.den) (p.den * q.den)=p + q:=by
 rw [← Rat.divInt_add_divInt _ _ (eR p) (eR q),kC,kC]
theorem sub_eq (p q:Rat):Rat.divInt (p.num * q.den - q.num * p.den) (p.den * q.den)=p - q:=by
 rw [← Rat.divInt_sub_divInt _ _ (eR p) (eR q),kC,kC]
theorem mul_eq (p:Rat) (m:Int):Rat.divInt (p.num * m) p.den=p * m:=by
 have:=Rat.divInt_mul_divInt p.num m (d₁:=p.den) (d₂:=1)
 rw [kC,Int.mul_one] at this
 rw [← this,Rat.divInt_eq_div]
 congr 1
 grind
theorem cast_eq (p:Rat):(p.num:Rat)=p * (p.den:Int):=by
 have h:((p.den:Int):Rat)≠0:=by
  intro e
  exact eR p (by exact_mod_cast e)
 have e:=kC p
 rw [Rat.divInt_eq_div] at e
 grind
theorem cv (p:Rat):((p.den:Int):Rat)≠0:=λe=>eR p (by exact_mod_cast e)
theorem LU (b p m:Rat) (v:Int):Rat.divInt (p.num * (m.den * b.den) + v * (m.num * b.den - b.num * m.den) * p.den) (p.den * (m.den * b.den))=p + (m - b) * v:=by
 have h:=cv p
 have g:=cv b
 have k:=cv m
 simp only [Rat.divInt_eq_div,Rat.intCast_add,Rat.intCast_sub,Rat.intCast_mul,cast_eq p,cast_eq b,cast_eq m]
 generalize ((p.den:Int):Rat)=d at h ⊢
 generalize ((b.den:Int):Rat)=e at g ⊢
 generalize ((m.den:Int):Rat)=f at k ⊢
 generalize (v:Rat)=v
 grind
theorem gA {n:Int} (h:n≠0):(n:Rat)≠0:=λe=>h (by exact_mod_cast e)
theorem Ks (g:Rat) (n:Int) (h:n≠0):Rat.divInt g.num (g.den * n)=g / n:=by
 have k:=cv g
 have l:=gA h
 simp only [Rat.divInt_eq_div,Rat.intCast_mul,cast_eq g]
 generalize ((g.den:Int):Rat)=d at k ⊢
 generalize (n:Rat)=n at l ⊢
 grind
end Ov
namespace Ov
open PySem PySem.Spec PyProof.Rows L2
structure Bd (n:Nat) (x:Int):Prop where
 lt:x.natAbs < 2 ^ n
theorem Bd.bits {n:Nat} {x:Int} (h:Bd n x):Builtin.Int.intBits x≤n:=intBits_le_iff.mpr h.lt
theorem Bd.of {n:Nat} {x:Int} (h:Builtin.Int.intBits x≤n):Bd n x:=⟨intBits_le_iff.mp h⟩
theorem Bd.mono {m n:Nat} {x:Int} (h:Bd m x) (hmn:m≤n):Bd n x:=.of (RN h.bits hmn)
theorem Bd.neg {n:Nat} {x:Int} (h:Bd n x):Bd n (-x):=.of (intBits_neg_le h.bits)
theorem Bd.add {m n k:Nat} {x y:Int} (h:Bd m x) (g:Bd n y) (hk:max m n + 1≤k:=by decide):Bd k (x + y):=(Bd.of (intBits_add_le h.bits g.bits)).mono hk
theorem Bd.sub {m n k:Nat} {x y:Int} (h:Bd m x) (g:Bd n y) (hk:max m n + 1≤k:=by decide):Bd k (x - y):=(Bd.of (intBits_sub_le h.bits g.bits)).mono hk
theorem Bd.mul {m n k:Nat} {x y:Int} (h:Bd m x) (g:Bd n y) (hk:m + n≤k:=by decide):Bd k (x * y):=(Bd.of (intBits_mul_le h.bits g.bits)).mono hk
theorem Bd.le {n:Nat} {x y:Int} (g:Bd n y) (h:x.natAbs≤y.natAbs):Bd n x:=⟨Se h g.lt⟩
theorem Bd.small {x:Int} (h1:-(2 ^ 64) < x) (h2:x < 2 ^ 64):Bd 64 x:=.of (intBits_le_64 h1 h2)
theorem Bd.log {n:Nat} {x:Int} (h:Bd n x) (hn:n≤9000) (h0:x≠0):x.natAbs.log2 < 9000 :=
 RP ((Nat.log2_lt (by omega)).mpr h.lt) hn
section
variable {X:Cx}
def CM (i j:Int):Prop:=∃m n,Bd m i∧Bd n j∧m + n≤134217728
theorem CM.of {m n:Nat} {i j:Int} (h:Bd m i) (g:Bd n j) (hk:m + n≤134217728:=by decide):CM i j:=⟨m,n,h,g,hk⟩
theorem GC:eI X (binaryOp .Mult) (rI CM λi j=>.int (i * j)):=Oq λ_ _ _ _ _ _ _ hc q=>by
 obtain ⟨m,n,h,g,hk⟩:=hc
 exact mul_int q (IntMulOk.of_le h.bits g.bits hk)
def CQ (_ j:Int):Prop:=j≠0∧Bd 9000 j
theorem D_:eI X (binaryOp .FloorDiv) (rI CQ λi j=>.int (i.fdiv j)):=Oq λ_ _ _ _ _ _ _ hc q =>
 floordiv_int hc.1 q (.inl (PyProof.noPylong_of_log2 (hc.2.log (Rz _) hc.1)))
end
section
variable {X:Cx}
end
theorem mx {α:Type} (x:α) (xs:List α):cZ (x :: xs) 0=some x:=bG (j:=0) rfl
theorem oT {α:Type} (x y:α) (xs:List α):cZ (x :: y :: xs) 1=some y:=bG (j:=1) rfl
theorem tS {α:Type} (x y z:α) (xs:List α):cZ (x :: y :: z :: xs) 2=some z:=bG (j:=2) rfl
theorem HG {α:Type} (x y z u:α) (xs:List α):cZ (x :: y :: z :: u :: xs) 3=some u:=bG (j:=3) rfl
theorem dI {N P:List Str} {sc:Scope} (a:sc.kind=.function:=by rfl) (b:sc.isCoroutine=false:=by rfl) (c:sc.isGenerator=false:=by rfl) (d:N.Nodup:=by decide +kernel) (e:N.take P.length=P:=by rfl) (f:∀x∈P,sc.names.lookup x=some .local∨sc.names.lookup x=some .cell:=by decide +kernel) (g:∀y∈sc.names,y.2≠.free:=by decide +kernel):aw N P sc:=⟨a,b,c,d,e,f,g⟩
def Def (K:PySem.W.Frag) (mg:Str→Option Value) (x:Str) (st:Stmt):Prop:=∃f fd,bP K x x st f fd∧mg x=some (.ref f)
theorem Je {K:PySem.W.Frag} {h:Heap} {mg:Str→Option Value} {x:Str} {st:Stmt} (X:K.In h) (G:h.Ns mainGlobals mg) {f:Addr} {od an:Option Addr} {sl:Array (Option Value)} {oc kV dc pm cd ct:Value}
  (a:PySem.W.nsIn K mainGlobals x=some (some (.ref f))) (l:K.lookup f=some ⟨oc,od,.func (PySem.W.fnOf x x (du st) (bQ st) (aq st) .none kV dc pm an cd ct),sl⟩) (c:PySem.W.codeIn K cd x=true) (k:PySem.W.keepIn K (.ref f)=true) :
  Def K mg x st:=⟨f,_,yR l c k,PySem.W.mg_of X G a⟩
theorem JA {K:PySem.W.Frag} {mg:Str→Option Value} {st:Stmt} {fa:Addr} {p:Str} (D:Def K mg "law" st) (hfa:mg "law"=some (.ref fa))
  (hb:∀(kV doc pm:Value) (an:Option Addr) (cdv ct:Value) (u:Value),bindArgs (PySem.W.fnOf "law" "law" (du st) (bQ st) (aq st) .none kV doc pm an cdv ct) ⟨[u],[]⟩=pure [(p,u)]) :
  ∃fd,bP K "law" "law" st fa fd∧∀(s:Shared) (u:Value),BindsTo s fd ⟨[u],[]⟩ [(p,u)]:=by
 obtain ⟨f,fd,F,m⟩:=D
 have e:=m.symm.trans hfa
 cases e
 obtain ⟨oc,od,kV,doc,pm,an,cdv,ct,osl,rfl,lk,hcd⟩:=F.ex
 exact ⟨_,F,λs u=>.of_eq (hb kV doc pm an cdv ct u)⟩
structure Qk (mg:Str→Option Value):Prop where
 abs:mg "abs"=none
 len:mg "len"=none
 isinstance:mg "isinstance"=none
 range:mg "range"=none
 int:mg "int"=none
 bool:mg "bool"=none
 tuple:mg "tuple"=none
 list:mg "list"=none
 sorted:mg "sorted"=none
 all:mg "all"=none
theorem _root_.L2.bW.tup {K:PySem.W.Frag} {H H':Hp} {a:Addr} {xs:List V} (e:bW H H') (h:fu K H a xs):fu K H' a xs:=by
 rcases h with (h | ⟨o,h⟩) | h
 ·exact .inl (.inl (e _ _ h))
 ·exact .inl (.inr ⟨o,e _ _ h⟩)
 ·exact .inr h
theorem _root_.L2.bW.new {H:Hp} {p:Addr} (h:H p=none) (o:HO):bW H (upd H p o):=λb u q=>by rw [aK (eY q h)];exact q
def Rq (K:PySem.W.Frag) (H:Hp) (a:Addr) (q:Rat):Prop:=fu K H a [.int q.num,.int q.den]
structure Sz (n:Nat) (q:Rat):Prop where
 num:Bd n q.num
 den:Bd n q.den
theorem Sz.mono {m n:Nat} {q:Rat} (h:Sz m q) (k:m≤n):Sz n q:=⟨h.num.mono k,h.den.mono k⟩
theorem Hb (x y:Rat):(x.num=y.num∧(x.den:Int)=(y.den:Int))=(x=y):=propext
 ⟨λh=>Rat.ext h.1 (by have:=h.2;omega),λh=>by subst h;exact ⟨rfl,rfl⟩⟩
theorem jI (c:Str→NameKind→Bool):∀(names:List (Str × NameKind)) (y:Str),
  (names.map λ(x:Str × NameKind)=>if c x.1 x.2 then (x.1,NameKind.cell) else (x.1,x.2)).lookup y=(names.lookup y).map λk=>if c y k then NameKind.cell else k
 | [],_=>rfl
 | (n,k) :: r,y=>by
  have ih:=jI c r y
  cases hy:y == n with
  | true =>
   have e:y=n:=by simpa using hy
   subst e
   by_cases h:c y k=true <;> simp [R9,h]
  | false =>
   by_cases h:c n k=true <;> simp [R9,h,hy,ih]
theorem jZ (sc:Scope) (env:Env) (y:Str):(relabel sc env).names.lookup y=(sc.names.lookup y).map λk=>if (k == .free && env.scope.kind == .function && env.kindOf y == some .cell) then NameKind.cell else k:=by
 have h:=jI (λn k=>k == .free && env.scope.kind == .function && env.kindOf n == some .cell) sc.names y
 exact h
theorem lG {env:Env}:∀(names:List (Str × NameKind)) (acc:List (Str × Addr)),(∀y∈names,y.2=.free→∃c,env.cells.lookup y.1=some c)→(∀y c,acc.lookup y=some c→env.cells.lookup y=some c) →
  ∃cl,(forIn names acc λ(x:Str × NameKind) (r:List (Str × Addr))=>match x with
   | (name,kind)=>if (kind == NameKind.free)=true then (do let c ← cellOf env name;pure (ForInStep.yield ((name,c) :: r))) else (pure (ForInStep.yield r):Sem (ForInStep (List (Str × Addr)))))=(pure cl:Sem (List (Str × Addr))) ∧
   (∀y c,cl.lookup y=some c→env.cells.lookup y=some c)∧(∀y c,acc.lookup y=some c→∃c,cl.lookup y=some c)∧∀y∈names,y.2=.free→∃c,cl.lookup y.1=some c
 | [],acc,_,ha=>⟨acc,rfl,ha,λy c e=>⟨c,e⟩,λy hy=>by cases hy⟩
 | (n,k) :: r,acc,hn,ha=>by
  by_cases hk:k=.free
  ·subst hk
   obtain ⟨c,hc⟩:=hn (n,.free) Sa rfl
   obtain ⟨cl,e,h1,h2,h3⟩:=lG r ((n,c) :: acc) (λy hy=>hn y (R3 _ hy)) (λy d e=>by
    rw [R9] at e
    cases hy:y == n with
    | true =>
     rw [hy] at e
     have e1:y=n:=by simpa using hy
     subst e1
     rw [hc]
     exact e
    | false=>rw [hy] at e;exact ha y d e)
   have self:∃d,cl.lookup n=some d:=h2 n c (by simp [R9])
   refine ⟨cl,?_,h1,λy d q=>?_,λy hy hf=>?_⟩
   ·rw [Uc]
    have ec:cellOf env n=pure c:=by unfold cellOf;rw [hc]
    simp only [beq_self_eq_true,if_true,ec,pure_bind]
    exact e
   ·by_cases hy:y=n
    ·subst hy;exact self
    ·exact h2 y d (by rw [List.lookup_cons];have:(y == n)=false:=by simpa using hy
                      rw [this];exact q)
   ·rcases RM.mp hy with rfl | hy
    ·exact self
    ·exact h3 y hy hf
  ·obtain ⟨cl,e,h1,h2,h3⟩:=lG r acc (λy hy=>hn y (R3 _ hy)) ha
   refine ⟨cl,?_,h1,h2,λy hy hf=>?_⟩
   ·rw [Uc]
    have hb:(k == NameKind.free)=false:=by simpa using hk
    simp only [hb,RV,if_false,pure_bind]
    exact e
   ·rcases RM.mp hy with rfl | hy
    ·exact absurd hf hk
    ·exact h3 y hy hf
theorem iD {sc:Scope} {env:Env} (h:∀y∈sc.names,y.2=.free→∃c,env.cells.lookup y.1=some c) :
  ∃cl,closureFor sc env=pure cl∧(∀y c,cl.lookup y=some c→env.cells.lookup y=some c)∧∀y∈sc.names,y.2=.free→∃c,cl.lookup y.1=some c:=by
 obtain ⟨cl,e,h1,_,h3⟩:=lG sc.names [] h (λy c z=>by cases z)
 refine ⟨cl,?_,h1,h3⟩
 unfold closureFor
 have e':=congrArg (λm=>m >>= λr=>(pure r:Sem (List (Str × Addr)))) e
 simp only [pure_bind] at e'
 exact e'
abbrev cU (sc osc:Scope) (N:List Str) (x:Str) (ks:List (Str × Nat)):Prop :=
 sc.kind=.function∧(∀y∈sc.names,y.2≠.cell)∧sc.names.lookup x=some .local∧(∀y∈sc.names,y.2=.local→sc.names.lookup y.1=some .local) ∧
 (∀y∈sc.names,y.2=.free→osc.names.lookup y.1=some .cell)∧(∀p∈ks,N[p.2]?=some p.1∧sc.names.lookup p.1=some .free)∧(x :: ks.map (·.1)).Nodup
def fO (X:Cx) (sc:Scope) (cl:List (Str × Addr)) (C:Addr) (x:Str) (ks:List (Str × Nat)) (s₀:Shared) (H₀:Hp) (fp:List Addr) (pins:List (Addr × Obj)):Cx :=
 { X with N:=x :: ks.map (·.1),s₀:=s₀,H₀:=H₀,env:=compEnvC sc cl C X.env,outer:=X.stack,ex:=fp,fn:=λ_=>false,pn:=X.pn ++ pins,xe:=λ_ _=>False }
def ff (ks:List (Str × Nat)) (σ:L2.St):L2.St:=ks.map λp=>(σ[p.2]?).getD none
section
variable {X:Cx} {pins:List (Addr × Obj)} {σ:L2.St} {H:Hp} {s:Shared} {sc:Scope} {cl:List (Str × Addr)} {x:Str} {ks:List (Str × Nat)} {fp:List Addr}
theorem get_map {α β:Type} (f:α→β) (l:List α) (i:Nat):(l.map f)[i]?=(l[i]?).map f:=Ry
theorem xA (I:Inv X pins σ H s) (ok:cU sc X.env.scope X.N x ks) (h1:∀y c,cl.lookup y=some c→X.env.cells.lookup y=some c) (h2:∀y∈sc.names,y.2=.free→∃c,cl.lookup y.1=some c)
  (hfp:∀b∈fp,lz X pins H b∧∃o,s.heap.get? b=some o) {h4:Heap} {m:Str→Option Value} {t':Nat} (hn:h4.Ns s.heap.objs.size m) (kp:∀b o,s.heap.get? b=some o→h4.get? b=some o) :
  Inv (fO X sc cl s.heap.objs.size x ks s H fp pins) [] (none :: ff ks σ) H { s with heap:=h4,toks:=t' }:=by
 obtain ⟨kd,nc,lx,ll,fr,kk,nd⟩:=ok
 have fresh:H s.heap.objs.size=none:=I.hok.fresh (Rz _)
 have lt:∀b o,s.heap.get? b=some o→b≠s.heap.objs.size:=λb o e=>R1 (Heap.lt_size e)
 have cellLt:∀y c,X.env.cells.lookup y=some c→c≠s.heap.objs.size:=λy c e=>by
  obtain ⟨v,o,ho,_⟩:=I.cell y c e
  exact lt c o ho
 have sub:∀b∈jl X.stack,b=X.env.locals∨b∈X.fs:=λb hb=>RM.mp (I.oP b hb)
 have kof:∀y,(compEnvC sc cl s.heap.objs.size X.env).kindOf y=(relabel sc X.env).names.lookup y:=λy=>rfl
 have ok':(fO X sc cl s.heap.objs.size x ks s H fp pins).Ok:={
  mod:=I.ok.mod
  kind:=kd
  glob:=I.ok.glob
  blt:=I.ok.blt
  above:=Rz _
  inj:=λy z c e1 e2=>I.ok.inj y z c (h1 y c e1) (h1 z c e2)
  has:=λy hy=>by
   rw [show (fO X sc cl s.heap.objs.size x ks s H fp pins).env.kindOf y=_ from kof y,jZ] at hy
   cases e:sc.names.lookup y with
   | none=>rw [e] at hy;rcases hy with z | z <;> cases z
   | some k =>
    have hm:(y,k)∈sc.names:=by
     have:=Tq.mp e
     obtain ⟨l1,l2,q,_⟩:=this
     rw [q]
     simp
    by_cases hk:k=.free
    ·subst hk;exact h2 _ hm rfl
    ·have hb:(k == NameKind.free)=false:=by simpa using hk
     rw [e] at hy
     simp only [Tz,hb,S7,RV,if_false] at hy
     rcases hy with z | z
     ·exact absurd (Option.some.inj z) (nc _ hm)
     ·exact absurd (Option.some.inj z) hk
  cab:=λ_ _ z=>by cases z
  hd:=λz=>I.ok.hd z
  frames:=I.ok.frames
  stk:=.inl rfl
  exf:=λb hb=>⟨lt b _ (hfp b hb).2.choose_spec,λy c e=>(hfp b hb).1.2.2.2.2.1 y c (h1 y c e)⟩
  bs:=λb o e=>I.bs b o e
  bsz:=RN I.ok.bsz I.sz
  noex:=λb o e hb=>by
   rcases (hfp b hb).1.2.2.2.1 with z | z
   ·exact I.ok.noex b o e z
   ·exact absurd (RP (Heap.lt_size e) (RN I.ok.bsz z)) (Sv _)
  exfs:=λb hb z=>by
   rcases sub b z with e | e
   ·exact (hfp b hb).1.2.1 e
   ·exact (hfp b hb).1.2.2.1 e
  n8:=I.stack
  frf:=I.wN }
 obtain ⟨mX,hnX,hlX⟩:=I.loc
 refine ⟨ok',rfl,I.bare,Un.kept kp,⟨m,hn,λi y v e1 e2 e3=>?_⟩,λy c e=>?_,fresh,λy c e=>I.freeC y c (h1 y c e),λp hp=>?_,I.hok.kept kp,by simp [fO,ff]⟩
 ·cases i with
  | zero =>
   rw [Tr] at e2
   cases e2
  | succ i =>
   have e1':(ks.map (·.1))[i]?=some y:=by simpa [fO] using e1
   rw [Ts] at e2
   unfold ff at e2
   rw [Ry] at e1' e2
   cases ep:ks[i]? with
   | none=>rw [ep] at e1';cases e1'
   | some p =>
    rw [ep] at e1' e2
    have ey:p.1=y:=Option.some.inj e1'
    have ev:(σ[p.2]?).getD none=some v:=Option.some.inj e2
    obtain ⟨kN,kf⟩:=kk p (RJ ep)
    have es:σ[p.2]?=some (some v):=by
     cases q:σ[p.2]? with
     | none=>rw [q] at ev;cases ev
     | some w=>rw [q] at ev;exact congrArg some ev
    have hm:(p.1,NameKind.free)∈sc.names:=by
     obtain ⟨l1,l2,q,_⟩:=Tq.mp kf
     rw [q]
     simp
    have oc:X.env.scope.names.lookup p.1=some .cell:=fr _ hm rfl
    obtain ⟨u,ru,lu⟩:=hlX p.2 p.1 v kN es (.inr (.inl oc))
    refine ⟨u,ru,.inr ⟨.inl ?_,?_⟩⟩
    ·rw [show (fO X sc cl s.heap.objs.size x ks s H fp pins).env.kindOf y=_ from kof y,jZ,← ey,kf]
     have k1:X.env.kindOf p.1=some .cell:=oc
     simp [I.ok.kind,k1]
    ·obtain ⟨c,hc⟩:=h2 _ hm rfl
     have hc:cl.lookup p.1=some c:=hc
     rcases lu with ⟨z,_⟩ | ⟨_,c',hc',z⟩
     ·have z':X.env.scope.names.lookup p.1=some .local:=z
      rw [oc] at z';cases z'
     ·have:=h1 _ _ hc
      rw [hc'] at this
      cases this
      obtain ⟨o,ho,hd⟩:=z
      exact ⟨_,by rw [← ey];exact hc,o,kp _ _ ho,hd⟩
 ·obtain ⟨v,o,ho,hd⟩:=I.cell y c (h1 y c e)
  exact ⟨v,o,kp _ _ ho,hd⟩
 ·rw [Sd] at hp
  obtain ⟨a1,a2,a3,a4,a5⟩:=I.pin p hp
  refine ⟨kp _ _ a1,a2,lt _ _ a1,λz=>?_,a5⟩
  rcases sub p.1 z with e | e
  ·exact a3 e
  ·exact a4 e
end
def Fp (X:Cx) (ifs:List Expr) (t:TT):Prop :=
 ∀(pins:List (Addr × Obj)) (s:Shared) (σ:L2.St) (H:Hp) (Q:Bool→Hp→Prop),Inv X pins σ H s→t σ H Q →
  wpAny (model X.prog X.w) X.A (forIn ifs true λc r=>if r=true then do let ok ← isTrue c X.env (eval c X.env);pure (ForInStep.yield ok) else pure (ForInStep.yield r)) (TP X pins σ Q) X.xe s
theorem wa {X:Cx}:Fp X [] (λ_ H Q=>Q true H):=λpins s σ H Q I h=>by rw [List.forIn_nil];exact wpAny_pure ⟨H,I,h⟩
theorem AW {X:Cx} {c:Expr} {t:TT} (h:PT X c t):Fp X [c] t:=λpins s σ H Q I q=>wpAny_tests_one (h pins s σ H Q I q)
section
variable {prog:Program} {w:World} {A:Around} {R:Result→Shared→Prop} {s:Shared}
theorem B7 {elt iter:Expr} {ifs:List Expr} {x:Str} {px:Pos} {sc:Scope} {pos:Pos} {it acc:Value} {env:Env} (I:Nat→Shared→Prop)
  (turn:∀n s,I n s→wpAny (model prog w) A (pyNext it) (λr s₁=>match r with
   | none=>R (.ok .next) s₁
   | some v=>wpAny (model prog w) A (letOwnedTupleGo (.Name x px) it v) (λ_ s₂=>wpAny (model prog w) A (assign (.Name x px) env v) (λ_ s₃=>wpAny (model prog w) A (forIn ifs true λc r=>if r=true then do let ok ← isTrue c env (eval c env);pure (ForInStep.yield ok) else pure (ForInStep.yield r)) (λok s₃=>if ok=true then wpAny (model prog w) A (eval elt env) (λy s₄ =>
     wpAny (model prog w) A (call (.builtin "list.append") [acc,y]) (λ_ s₅=>∃m,m < n∧I m s₅) (λ_ _=>False) s₄) (λ_ _=>False) s₃ else ∃m,m < n∧I m s₃) (λ_ _=>False) s₃) (λ_ _=>False) s₂) (λ_ _=>False) s₁) (λ_ _=>False) s)
  (n:Nat) (h:I n s):codeAny (model prog w) A (.compLoop (.ListComp elt [⟨.Name x px,iter,ifs,0⟩] sc pos) 0 it acc env) R s:=by
 refine codeAny_loop rfl I (λn s hI=>?_) n h
 show wpAny _ _ ((compTurn (.ListComp elt [⟨.Name x px,iter,ifs,0⟩] sc pos) 0 it acc env).onRaise (λx=>do noteFrame x env;theTreesLotGoes x)) _ _ s
 refine wpAny_noted ?_
 rw [compTurn_list]
 have no:∀(e:Value) (s':Shared),False→notedBy (model prog w) A env (λe s'=>R (.error e) s') e s':=λ_ _ z=>z.elim
 refine wpAny_bind (wpAny_standAt (wpAny_bind (wpAny_mono (turn n s hI) (λr s₁ h₁=>?_) no)))
 cases r with
 | none=>exact wpAny_pure h₁
 | some v =>
  refine wpAny_bind (wpAny_mono h₁ (λ_ s₂ h₂=>?_) no)
  refine wpAny_bind (wpAny_mono h₂ (λ_ s₃ h₃=>wpAny_bind (wpAny_mono h₃ (λok s₃' h₃'=>?_) no)) no)
  cases ok with
  | false=>exact wpAny_pure ⟨rfl,h₃'⟩
  | true =>
   exact wpAny_bind (wpAny_bind (wpAny_mono h₃' (λy s₄ h₄=>wpAny_bind (wpAny_mono h₄ (λ_ s₅ h₅=>wpAny_pure (wpAny_pure ⟨rfl,h₅⟩)) no)) no))
end
def KS (wi:TI) (ks:List (Str × Nat)) (tc:TT) (te:TE):TE:=λσ H Q=>wi σ H λJ H1=>∀D,H1 D=none→∃W:Nat→Nat→Hp→Prop,(∃m,W 0 m (upd H1 D (.lst []))) ∧
 ∀i m H2,W i m H2→(J.stop i H2∧Q (.ref D) H2)∨(J.go i H2∧∀v H3,J.yld i H2 v H3→tc (some v :: ff ks σ) H3 λb H4=>if b=true then te (some v :: ff ks σ) H4 λy H5=>∃ys,H5 D=some (.lst ys)∧ys.length < sizeLine∧∃m',m' < m∧W (i + 1) m' (upd H5 D (.lst (ys ++ [y]))) else ∃m',m' < m∧W (i + 1) m' H4)
section
variable {X:Cx}
theorem xZ {elt iter:Expr} {ifs:List Expr} {x:Str} {px:Pos} {sc:Scope} {pos:Pos} {te:TE} {tc:TT} {ks:List (Str × Nat)} {cl:List (Str × Addr)} {pins:List (Addr × Obj)} {σ:L2.St} {H:Hp} {s:Shared} {it:Addr} {fp:List Addr} {tn:Nat→Heap→Prop} {J:It} {Q:VK}
  {RR:Value→Addr→Result→Shared→Prop} {E:Value→Shared→Prop}
  (hc:X.calm=true) (ok:cU sc X.env.scope X.N x ks) (h1:∀y c,cl.lookup y=some c→X.env.cells.lookup y=some c) (h2:∀y∈sc.names,y.2=.free→∃c,cl.lookup y.1=some c)
  (he:∀cl C s₀ H₀ fp pins,PE (fO X sc cl C x ks s₀ H₀ fp pins) elt te) (hcn:∀cl C s₀ H₀ fp pins,Fp (fO X sc cl C x ks s₀ H₀ fp pins) ifs tc)
  (I:Inv X pins σ H s) (T:Turn X.prog X.w X.K (.Name x px) J fp it tn) (st:tn 0 s.heap) (f:∀b∈fp,lz X pins H b)
  (hw:∀D,H D=none→∃W:Nat→Nat→Hp→Prop,(∃m,W 0 m (upd H D (.lst [])))∧∀i m H2,W i m H2→(J.stop i H2∧Q (.ref D) H2) ∨
   (J.go i H2∧∀v H3,J.yld i H2 v H3→tc (some v :: ff ks σ) H3 λb H4=>if b=true then te (some v :: ff ks σ) H4 λy H5=>∃ys,H5 D=some (.lst ys)∧ys.length < sizeLine∧∃m',m' < m∧W (i + 1) m' (upd H5 D (.lst (ys ++ [y]))) else ∃m',m' < m∧W (i + 1) m' H4))
  (hR:∀(D C:Addr) (s':Shared) (H':Hp) (m:Str→Option Value),Inv X pins σ H' s'→Q (.ref D) H'→s'.heap.Ns C m→H' C=none→C≠X.env.locals→X.s₀.heap.objs.size≤C→(∀y c,X.env.cells.lookup y=some c→c≠C)→(∀p∈X.pn ++ pins,p.1≠C)→RR (.ref D) C (.ok .next) s') :
  wpAny (model X.prog X.w) X.A (newList []) (λacc s₃=>wpAny (model X.prog X.w) X.A (newFunctionEnv sc X.env.globals cl [] X.env.qual none .none (some X.env)) (λcenv s₄ =>
   codeAny (model X.prog X.w) X.A (.compStart (.ListComp elt [⟨.Name x px,iter,ifs,0⟩] sc pos) 0 (.ref it) acc { cenv with scope:=relabel sc X.env }) (RR acc cenv.locals) s₄) E s₃) E s:=by
 have okk:=ok
 obtain ⟨kd,nc,lx,ll,fr,kk,nd⟩:=okk
 have hD0:H s.heap.objs.size=none:=I.hok.fresh (Rz _)
 obtain ⟨W,⟨m0,w0⟩,turn⟩:=hw s.heap.objs.size hD0
 refine wpAny_newObj_type ?_
 have I3:Inv X pins σ (upd H s.heap.objs.size (.lst [])) { s with heap:=s.heap.push { cls:=.type "list",dict:=none,data:=.seq ([]:List Value).toArray } } :=
  I.laid (t':=s.toks) (λb u e=>Heap.get?_push_of_some _ e) (Rz _) (show dD X.prog X.w _ _ _ (.lst []) from ⟨Sb _,[],0,.nil,Heap.get?_push_size _ rfl⟩)
 have st3:tn 0 (s.heap.push { cls:=.type "list",dict:=none,data:=.seq ([]:List Value).toArray }):=T.keep 0 _ _ st λb hb o e=>Heap.get?_push_of_some _ e
 generalize hD:s.heap.objs.size=D at *
 generalize hH:upd H D (.lst [])=H3 at *
 generalize hs3:({ s with heap:=s.heap.push { cls:=.type "list",dict:=none,data:=.seq ([]:List Value).toArray } }:Shared)=s3 at *
 have e3:s.heap.push { cls:=.type "list",dict:=none,data:=.seq ([]:List Value).toArray }=s3.heap:=by rw [← hs3]
 rw [e3] at st3
 have fD:∀b∈fp,b≠D:=λb hb z=>by
  obtain ⟨o,ho,_⟩:=T.obj 0 _ st b hb
  have:=Heap.lt_size ho
  rw [z,← hD] at this
  exact Sv _ this
 have f3:∀b∈fp,lz X pins H3 b:=λb hb=>⟨by rw [← hH,aK (fD b hb)];exact (f b hb).1,(f b hb).2⟩
 have g3:∀b∈fp,∃o,s3.heap.get? b=some o:=λb hb=>by
  obtain ⟨o,ho,_⟩:=T.obj 0 _ st3 b hb
  exact ⟨o,ho⟩
 refine wpAny_newFunctionEnv nc (by intro y hy;simp at hy) (λh₁ hns hsb=>?_) kd
 have kp:∀b o,s3.heap.get? b=some o→h₁.get? b=some o:=λb o e=>hsb.extBut b o (R1 (Heap.lt_size e)) (Heap.get?_push_of_some _ e)
 have J0:=xA (fp:=fp) (cl:=cl) (t':=s3.toks + ([]:List (Str × Value)).length) I3 ok h1 h2 (λb hb=>⟨f3 b hb,g3 b hb⟩) hns kp
 have st4:tn 0 h₁:=T.keep 0 _ _ st3 λb hb o e=>kp b o e
 have ltC:∀b o,s3.heap.get? b=some o→b≠s3.heap.objs.size:=λb o e=>R1 (Heap.lt_size e)
 have cC:∀y c,X.env.cells.lookup y=some c→c≠s3.heap.objs.size:=λy c e=>by
  obtain ⟨v,o,ho,_⟩:=I3.cell y c e
  exact ltC c o ho
 have pC:∀p∈X.pn ++ pins,p.1≠s3.heap.objs.size:=λp hp=>ltC _ _ (I3.pin p hp).1
 have lC:s3.heap.objs.size≠X.env.locals:=Tw I3.lt
 have fX:∀{H':Hp},(∀b∈fp,H' b=none)→∀b∈fp,lz (fO X sc cl s3.heap.objs.size x ks s3 H3 fp pins) [] H' b:=λhn b hb=>by
  obtain ⟨o,ho⟩:=g3 b hb
  obtain ⟨_,q1,q2,q3,q4,q5⟩:=f b hb
  refine ⟨hn b hb,ltC b o ho,λz=>?_,.inl hb,λy c e=>q4 y c (h1 y c e),λp hp=>q5 p (by simpa [fO] using hp)⟩
  rcases RM.mp (I3.oP b z) with e | e
  ·exact q1 e
  ·exact q2 e
 have back:∀{o:Option V} {H':Hp} {s':Shared},Inv (fO X sc cl s3.heap.objs.size x ks s3 H3 fp pins) [] (o :: ff ks σ) H' s'→Inv X pins σ H' s':=λ{o H' s'} J=>by
  obtain ⟨hh,g,d,t,os'⟩:=s'
  obtain rfl:os'=s3.os:=J.os
  exact I3.call (h':=hh) (g':=g) (d':=d) (t':=t) (ch:=fp) J.base J.hok J.bare λb hb=>⟨(f b hb).2.2.2.1,(f b hb).2.1,(f b hb).2.2.2.2.1,(f b hb).2.2.2.2.2⟩
 have lookX:(relabel sc X.env).names.lookup x=some .local:=lookup_relabel_local lx
 have loop:∀s',(∃(i:Nat) (o:Option V) (H':Hp),Inv (fO X sc cl s3.heap.objs.size x ks s3 H3 fp pins) [] (o :: ff ks σ) H' s'∧tn i s'.heap∧(∀b∈fp,H' b=none)∧W i m0 H') →
   codeAny (model X.prog X.w) X.A (.compLoop (.ListComp elt [⟨.Name x px,iter,ifs,0⟩] sc pos) 0 (.ref it) (.ref D) (compEnvC sc cl s3.heap.objs.size X.env)) (RR (.ref D) s3.heap.objs.size) s':=by
  intro s' hs'
  refine B7 (λn s'=>∃(i:Nat) (o:Option V) (H':Hp),Inv (fO X sc cl s3.heap.objs.size x ks s3 H3 fp pins) [] (o :: ff ks σ) H' s'∧tn i s'.heap∧(∀b∈fp,H' b=none)∧W i n H') ?_ m0 hs'
  rintro n s5 ⟨i,o,H5,J5,t5,n5,w5⟩
  rcases turn i n H5 w5 with ⟨stop,hq⟩ | ⟨go,step⟩
  ·refine cf (T.done (fO X sc cl s3.heap.objs.size x ks s3 H3 fp pins) rfl rfl rfl hc i [] s5 _ H5 _ J5 (fX n5) t5 stop) λr s6 ⟨hr,J6⟩=>?_
   subst hr
   obtain ⟨m,hm,_⟩:=J6.loc
   exact hR D _ s6 H5 m (back J6) hq hm J6.free lC I3.sz cC pC
  ·refine cf (T.item (fO X sc cl s3.heap.objs.size x ks s3 H3 fp pins) rfl rfl rfl hc i [] s5 _ H5 _ J5 (fX n5) t5 go) λr s6 ⟨u,hr,h6⟩=>?_
   subst hr
   refine cf h6 λ_ s7 ⟨v,H7,J7,r7,y7,t7,n7⟩=>?_
   have J7':=J7.pinned (fX n7) (T.obj _ _ t7)
   refine wpAny_assign_Name (gq (X:=fO X sc cl s3.heap.objs.size x ks s3 H3 fp pins) (i:=0) J7' nd rfl (.inl lookX) r7 (λs8 J8=>?_) (.inr lookX))
   refine cf (hcn cl s3.heap.objs.size s3 H3 fp pins _ s8 _ H7 _ J8 (step v H7 y7)) λok s8' ⟨H8,J8',q8⟩=>?_
   cases ok with
   | false =>
    simp only [RV,if_false] at q8 ⊢
    obtain ⟨m',hm,w'⟩:=q8
    refine ⟨m',hm,i + 1,_,_,J8'.gr,?_,?_,w'⟩
    ·exact T.keep _ _ _ t7 λb hb o e=>(J8'.pin (b,o) (RH _ (RH _ (cE hb e)))).1
    ·intro b hb
     obtain ⟨o,e,d⟩:=T.obj _ _ t7 b hb
     exact (J8'.pin (b,o) (RH _ (RH _ (cE hb e)))).2.1
   | true =>
    simp only [if_true] at q8 ⊢
    refine cf (he cl s3.heap.objs.size s3 H3 fp pins _ s8' _ H8 _ J8' q8) λy s9 ⟨vy,H9,J9,r9,ys,hys,hz,m',hm,w'⟩=>?_
    refine cf (ui (X:=fO X sc cl s3.heap.objs.size x ks s3 H3 fp pins) _ s9 _ H9 (.ref D) [vy] (.ref D) [y] (λ_ H'=>H'=upd H9 D (.lst (ys ++ [vy]))) J9 rfl (.cons r9 .nil) ⟨D,ys,vy,rfl,rfl,hys,hz,rfl⟩) λ_ s10 ⟨_,H10,J10,_,eH⟩=>?_
    subst eH
    refine ⟨m',hm,i + 1,_,_,J10.gr,?_,?_,w'⟩
    ·exact T.keep _ _ _ t7 λb hb o e=>(J10.pin (b,o) (RH _ (RH _ (cE hb e)))).1
    ·intro b hb
     obtain ⟨o,e,d⟩:=T.obj _ _ t7 b hb
     exact (J10.pin (b,o) (RH _ (RH _ (cE hb e)))).2.1
 have l0:=loop _ ⟨0,none,H3,J0,st4,λb hb=>(f3 b hb).1,w0⟩
 exact codeAny_compStart_list l0 (T.self _ 0 _ _ _ st4 l0)
theorem mT {sc osc:Scope} {N:List Str} {x:Str} {ks:List (Str × Nat)} (ok:cU sc osc N x ks) {pins:List (Addr × Obj)} {σ:L2.St} {H:Hp} {s:Shared} (I:Inv X pins σ H s) (ho:X.env.scope=osc):∀y∈sc.names,y.2=.free→∃c,X.env.cells.lookup y.1=some c:=λy hy hf =>
 I.ok.has y.1 (.inl (by show X.env.scope.names.lookup y.1=some .cell;rw [ho];exact ok.2.2.2.2.1 y hy hf))
theorem Ke {elt iter:Expr} {ifs:List Expr} {x:Str} {px:Pos} {sc:Scope} {pos:Pos} {wi:TI} {te:TE} {tc:TT} (osc:Scope) (N:List Str) (ks:List (Str × Nat)) (hc:X.calm=true) (ho:X.env.scope=osc) (hN:X.N=N) (hi:PI X (.Name x px) iter wi)
  (he:∀cl C s₀ H₀ fp pins,PE (fO X sc cl C x ks s₀ H₀ fp pins) elt te) (hcn:∀cl C s₀ H₀ fp pins,Fp (fO X sc cl C x ks s₀ H₀ fp pins) ifs tc) (ok:cU sc osc N x ks:=by decide +kernel) (hs:∀x,foldedSetIterable iter X.env x=pure x:=by intro _;rfl) :
  PE X (.ListComp elt [⟨.Name x px,iter,ifs,0⟩] sc pos) (KS wi ks tc te):=by
 intro pins s σ H Q I hw
 obtain ⟨cl,hcl,h1,h2⟩:=iD (mT ok I ho)
 have ok':cU sc X.env.scope X.N x ks:=by rw [ho,hN];exact ok
 rw [eval_ListComp]
 refine wpAny_comprehension_free (use:=none) rfl hs hcl ok.1 ok.2.2.2.1 (cf (hi pins s σ H _ I hw) λv s1 h3=>cf h3 λitv s2 h4=>?_)
 obtain ⟨it,fp,tn,J,H2,rfl,I2,T,st2,f2,hR⟩:=h4
 refine xZ (RR:=λacc C=>compPost (model X.prog X.w) X.A X.xe none (EP X pins σ Q) acc C) hc ok' h1 h2 he hcn I2 T st2 f2 hR ?_
 intro D C s' H' m J' q hn hC cl' cs cc cp
 refine ⟨m,hn,λh' hsb=>⟨.ref D,H',?_,rfl,q⟩⟩
 exact J'.turned (t':=s'.toks) (it:=C) (λb o ne e=>hsb.extBut b o ne e) hC cl' (.inr cs) cc cp
def NR (wi:TI) (ks:List (Str × Nat)) (tc:TT) (te:TE) (i:Nat):TS:=λD σ H=>KS wi ks tc te σ H λv H1=>D.nx (σ.set i (some v)) H1
theorem Ep {elt iter:Expr} {ifs:List Expr} {x y:Str} {px py:Pos} {sc:Scope} {pos spos:Pos} {wi:TI} {te:TE} {tc:TT} {i:Nat} (osc:Scope) (N:List Str) (ks:List (Str × Nat)) (hc:X.calm=true) (ho:X.env.scope=osc) (hN:X.N=N) (hnd:X.N.Nodup) (hy:X.N[i]?=some y) (hl:Loc X.env.scope y)
  (hi:PI X (.Name x px) iter wi) (he:∀cl C s₀ H₀ fp pins,PE (fO X sc cl C x ks s₀ H₀ fp pins) elt te) (hcn:∀cl C s₀ H₀ fp pins,Fp (fO X sc cl C x ks s₀ H₀ fp pins) ifs tc) (ok:cU sc osc N x ks:=by decide +kernel) (hs:∀x,foldedSetIterable iter X.env x=pure x:=by intro _;rfl)
  (hsw:swapsWith (.ListComp elt [⟨.Name x px,iter,ifs,0⟩] sc pos) (some (.Name y py)) spos.line X.env=pure true:=by rfl) (hf:X.fn y=true∨X.env.scope.names.lookup y=some .local:=by first | exact .inl rfl | exact .inr rfl | assumption) :
  PS X (.Assign [.Name y py] (.ListComp elt [⟨.Name x px,iter,ifs,0⟩] sc pos) spos) (NR wi ks tc te i):=by
 intro pins s σ H Dn I hw
 obtain ⟨cl,hcl,h1,h2⟩:=iD (mT ok I ho)
 have ok':cU sc X.env.scope X.N x ks:=by rw [ho,hN];exact ok
 rw [exec_Assign_Name_used _ _ _ _ hsw]
 refine wpAny_bind (wpAny_standAt (wpAny_bind ?_))
 show wpAny _ X.A (do let _ ← comprehension (.ListComp elt [⟨.Name x px,iter,ifs,0⟩] sc pos) sc X.env _ (newList []) false (eval iter X.env) (some (assign (.Name y py) X.env))) _ _ s
 refine wpAny_bind (wpAny_mono (wpAny_comprehension_free (use:=some (assign (.Name y py) X.env)) (Q:=λ_ s'=>SP X pins Dn .next s') rfl hs hcl ok.1 ok.2.2.2.1
  (cf (hi pins s σ H _ I hw) λv s1 h3=>cf h3 λitv s2 h4=>?_)) (λ_ s' hq=>wpAny_pure (wpAny_pure hq)) λ_ _ e=>e)
 obtain ⟨it,fp,tn,J,H2,rfl,I2,T,st2,f2,hR⟩:=h4
 refine xZ (Q:=λv H1=>Dn.nx (σ.set i (some v)) H1) (RR:=λacc C=>compPost (model X.prog X.w) X.A X.xe (some (assign (.Name y py) X.env)) (λ_ s'=>SP X pins Dn .next s') acc C) hc ok' h1 h2 he hcn I2 T st2 f2 hR ?_
 intro D C s' H' m J' q hn hC cl' cs cc cp
 show wpAny _ X.A (assign (.Name y py) X.env (.ref D)) _ _ _
 refine wpAny_assign_Name (oQ J' hnd hy hl (v:=.ref D) rfl (λs'' J'' ⟨a,hsb,ha⟩=>?_) hf)
 refine ⟨m,hn.sameBut hsb (λz=>?_),λh' hsb'=>⟨_,H',?_,q⟩⟩
 ·rcases ha with e | e
  ·exact cl' (z.trans e)
  ·exact cc _ _ e z.symm
 ·exact J''.turned (t':=s''.toks) (it:=C) (λb o ne e=>hsb'.extBut b o ne e) hC cl' (.inr cs) cc cp
def Ow (wi:TI) (ks:List (Str × Nat)) (te:TE):TE:=λσ H Q=>wi σ H λJ H1=>∀D,H1 D=none→∃W:Nat→Nat→Hp→Prop,(∃m,W 0 m (upd H1 D (.lst []))) ∧
 ∀i m H2,W i m H2→(J.stop i H2∧Q (.ref D) H2)∨(J.go i H2∧∀v H3,J.yld i H2 v H3→te (some v :: ff ks σ) H3 λy H4=>∃ys,H4 D=some (.lst ys)∧ys.length < sizeLine∧∃m',m' < m∧W (i + 1) m' (upd H4 D (.lst (ys ++ [y]))))
theorem M4 {elt iter:Expr} {x:Str} {px:Pos} {sc:Scope} {pos:Pos} {wi:TI} {te:TE} (osc:Scope) (N:List Str) (ks:List (Str × Nat)) (hc:X.calm=true) (ho:X.env.scope=osc) (hN:X.N=N) (hi:PI X (.Name x px) iter wi)
  (he:∀cl C s₀ H₀ fp pins,PE (fO X sc cl C x ks s₀ H₀ fp pins) elt te) (ok:cU sc osc N x ks:=by decide +kernel) (hs:∀x,foldedSetIterable iter X.env x=pure x:=by intro _;rfl) :
  PE X (.ListComp elt [⟨.Name x px,iter,[],0⟩] sc pos) (Ow wi ks te):=λpins s σ H Q I hw=>Ke osc N ks hc ho hN hi he (λ_ _ _ _ _ _=>wa) ok hs pins s σ H Q I hw
def PU (wi:TI) (ks:List (Str × Nat)) (te:TE) (i:Nat):TS:=λD σ H=>Ow wi ks te σ H λv H1=>D.nx (σ.set i (some v)) H1
theorem M9 {elt iter:Expr} {x y:Str} {px py:Pos} {sc:Scope} {pos spos:Pos} {wi:TI} {te:TE} {i:Nat} (osc:Scope) (N:List Str) (ks:List (Str × Nat)) (hc:X.calm=true) (ho:X.env.scope=osc) (hN:X.N=N) (hnd:X.N.Nodup) (hy:X.N[i]?=some y) (hl:Loc X.env.scope y)
  (hi:PI X (.Name x px) iter wi) (he:∀cl C s₀ H₀ fp pins,PE (fO X sc cl C x ks s₀ H₀ fp pins) elt te) (ok:cU sc osc N x ks:=by decide +kernel) (hs:∀x,foldedSetIterable iter X.env x=pure x:=by intro _;rfl)
  (hsw:swapsWith (.ListComp elt [⟨.Name x px,iter,[],0⟩] sc pos) (some (.Name y py)) spos.line X.env=pure true:=by rfl) (hf:X.fn y=true∨X.env.scope.names.lookup y=some .local:=by first | exact .inl rfl | exact .inr rfl | assumption) :
  PS X (.Assign [.Name y py] (.ListComp elt [⟨.Name x px,iter,[],0⟩] sc pos) spos) (PU wi ks te i):=λpins s σ H D I hw=>Ep osc N ks hc ho hN hnd hy hl hi he (λ_ _ _ _ _ _=>wa) ok hs hsw hf pins s σ H D I hw
end
def one (c:Nat):Str:=⟨#[c]⟩
theorem ud:∀(cs:List Nat) (acc:Array Nat),(cs.map one).foldl (λacc (p:Str)=>acc ++ (Str.ofString "").cps ++ p.cps) acc=acc ++ cs.toArray
 | [],acc=>by simp
 | c :: cs,acc=>by
  have e:(Str.ofString "").cps=#[]:=by decide +kernel
  rw [RD,List.foldl_cons,ud cs]
  rw [e]
  show (acc ++ #[] ++ #[c]) ++ cs.toArray=_
  simp
theorem join_ones (cs:List Nat):Txt.join (Str.ofString "") (cs.map one)=⟨cs.toArray⟩:=by
 unfold Txt.join Builtin.Str.glued
 cases cs with
 | nil=>rfl
 | cons c cs =>
  simp only [RD,List.drop_succ_cons,Tj,List.headD_cons]
  rw [ud]
  show (⟨#[c] ++ cs.toArray⟩:Str)=_
  simp
theorem je:∀{ys:List Str} {us:List Value},Vals (ys.map V.str) us→StrsAre us ys
 | [],_,.nil=>.nil
 | y :: ys,_,.cons r rr=>by
  obtain ⟨t,rfl⟩:=r
  exact .cons y t (je rr)
section
variable {X:Cx}
def rJoin (K:PySem.W.Frag):V→List V→Hp→VK→Prop:=λx vs H Q=>∃z p ys,x=.str z∧vs=[.ref p]∧dM K H p (ys.map V.str)∧(ys.map (·.length)).sum + ys.length * z.length≤16777216∧Q (.str (Txt.join z ys)) H
theorem Gq:lD X "str.join" (rJoin X.K):=by
 intro pins s σ H x vs v us Q I rx rv h
 obtain ⟨z,p,ys,rfl,rfl,hp,hz,q⟩:=h
 obtain ⟨t,rfl⟩:=rx
 obtain ⟨u,rfl,ru⟩:=vals1 rv
 cases ru
 obtain ⟨its,r,pl,_⟩:=I.list hp
 exact join_list pl.isList (by simpa using je r) hz λt' k=>⟨.str _,H,I.tok _,⟨_,rfl⟩,q⟩
end
def yL:Expr→Option V
 | .Constant (.int i) _ _=>some (.int i)
 | .Constant (.str x) _ _=>some (.str x)
 | .Constant (.bool b) _ _=>some (.bl b)
 | _=>none
theorem xS {X:Cx}:∀{es:List Expr} (vs:List V),es.map yL=vs.map some→PA X es (λ_ H Q=>Q vs H)
 | [],[],_=>λ_ _ _ _ H Q I h=>Calls.spliced_nil ⟨[],H,I,.nil,h⟩
 | [],_ :: _,h=>by cases h
 | _ :: _,[],h=>by cases h
 | e :: es,v :: vs,h=>by
  rw [RD,RD] at h
  injection h with h1 h2
  have ih:=xS (X:=X) (es:=es) vs h2
  have hs:starEach (e :: es) X.env=(false,eval e X.env) :: starEach es X.env:=by
   cases e <;> first | rfl | cases h1
  have he:PE X e (tC v):=by
   cases e with
   | Constant c j pos =>
    cases c with
    | int i=>cases h1;exact vN
    | str x=>cases h1;exact vQ
    | bool b=>cases h1;exact AQ
    | _=>cases h1
   | _=>cases h1
  exact λpos pins s σ H Q I hq=>pS he ih hs pos pins s σ H Q I hq
end Ov
namespace Ov
open PySem PySem.Spec PyProof.Rows
open L2 (V HO Hp Inv Cx St VK TE TT TA TS TG kL TI TO fw Ends pM Loc Gl Rd RelV Vals eI pA bJ lA mr lD fv R2 K4 tC Ft PY Fc tB Hr Ox KW E3 KY E9 PR K3 Hs CB Bu KP Bt PL CA KZ ub Jj Ds Jl Jk KR zX KQ Dz OP DA Mb K1 Fb E5 NQ KO E8 K2 KU wO E_ PX upd E0 bC bI)
structure QE (X:Cx) (e:Expr) (t:TE):Prop where
 run:L2.PE X e t
structure QT (X:Cx) (e:Expr) (t:TT):Prop where
 run:L2.PT X e t
structure QW (X:Cx) (e:Expr) (t:TT):Prop where
 run:L2.PW X e t
structure QA (X:Cx) (es:List Expr) (t:TA):Prop where
 run:L2.PA X es t
structure QS (X:Cx) (st:Stmt) (t:TS):Prop where
 run:L2.PS X st t
structure QB (X:Cx) (st:List Stmt) (t:TS):Prop where
 run:L2.xf X st t
structure QG (X:Cx) (e:Expr) (t:TG):Prop where
 run:L2.PG X e t
structure N' (X:Cx) (es:List Expr) (t:kL):Prop where
 run:L2.HE X es t
structure QI (X:Cx) (tg e:Expr) (t:TI):Prop where
 run:L2.PI X tg e t
structure QO (X:Cx) (e:Option Expr) (t:TO):Prop where
 run:L2.PO X e t
section
variable {X:Cx} {a b c e o:Expr} {es rest:List Expr} {ta tb te tc to:TE} {tA tB':TT} {t:TA} {pos px p p2 apos cpos:Pos} {x:Str} {i j:Nat}
theorem vN {i:Int} {j pos}:QE X (.Constant (.int i) j pos) (tC (.int i)):=⟨L2.vN⟩
theorem AQ {b:Bool} {j pos}:QE X (.Constant (.bool b) j pos) (tC (.bl b)):=⟨L2.AQ⟩
theorem zp {j pos}:QE X (.Constant .none j pos) (tC .non):=⟨L2.zp⟩
theorem vQ {x:Str} {j pos}:QE X (.Constant (.str x) j pos) (tC (.str x)):=⟨L2.vQ⟩
theorem vM {v:V} {u:Value} (hg:Gl X x) (hm:X.mg x=some u) (r:RelV v u) (hd:(x == ("__debug__":Str))=false:=by decide):QE X (.Name x pos) (tC v):=⟨L2.vM hg hm r hd⟩
theorem vK {v:V} {u:Value} (hg:Gl X x) (hm:X.mg x=none) (hv:bootBuiltins x=some u) (r:RelV v u) (hn:x≠"__name__":=by decide) (hd:(x == ("__debug__":Str))=false:=by decide):QE X (.Name x pos) (tC v):=⟨L2.vK hg hm hv r hn hd⟩
theorem Ei {op:Operator} {r:R2} (ho:eI X (binaryOp op) r) (ha:QE X a ta) (hb:QE X b tb):QE X (.BinOp a op b pos) (Ft r ta tb):=⟨L2.Ei ho ha.run hb.run⟩
theorem Ek {op:UnaryOp} {r:V→Hp→VK→Prop} (ho:pA X (unaryOp op) r) (ha:QE X a ta):QE X (.UnaryOp op a pos) (PY r ta):=⟨L2.Ek ho ha.run⟩
theorem vL {op:CmpOp} {r:R2} (ho:eI X (compareOp op) r) (ha:QE X a ta) (hb:QE X b tb) (hm:behindInMarks op b=false):QE X (.Compare a [op] [b] pos) (Ft r ta tb):=⟨L2.vL ho ha.run hb.run hm⟩
theorem v_ {op:CmpOp} {r:R2} (ho:eI X (compareOp op) r) (ha:QE X a ta) (hb:QE X b tb) (hm:behindInMarks op b=false):QT X (.Compare a [op] [b] pos) (Fc (Ft r ta tb)):=⟨L2.v_ ho ha.run hb.run hm⟩
theorem zr {op} (h:QE X a ta):QE X (.BoolOp op [a] pos) ta:=⟨L2.zr h.run⟩
theorem zo (ha:QE X a ta) (hb:QE X (.BoolOp .And (b :: rest) pos) tb):QE X (.BoolOp .And (a :: b :: rest) pos) (E3 ta tb):=⟨L2.zo ha.run hb.run⟩
theorem Ej (ha:QE X a ta) (hb:QE X (.BoolOp .Or (b :: rest) pos) tb):QE X (.BoolOp .Or (a :: b :: rest) pos) (KY ta tb):=⟨L2.Ej ha.run hb.run⟩
theorem zq (ha:QE X a ta):QE X (.UnaryOp .Not a pos) (E9 ta):=⟨L2.zq ha.run⟩
theorem zF (ha:QT X a tA):QT X (.UnaryOp .Not a pos) (KW tA):=⟨L2.zF ha.run⟩
theorem wc (ha:QT X a tA):QW X (.BoolOp .And [a] pos) tA:=⟨L2.wc ha.run⟩
theorem zJ (ha:QT X a tA):QW X (.BoolOp .Or [a] pos) tA:=⟨L2.zJ ha.run⟩
theorem zI (ha:QT X a tA) (hb:QW X (.BoolOp .And (b :: rest) pos) tB'):QW X (.BoolOp .And (a :: b :: rest) pos) (Hr tA tB'):=⟨L2.zI ha.run hb.run⟩
theorem Ew (ha:QT X a tA) (hb:QW X (.BoolOp .Or (b :: rest) pos) tB'):QW X (.BoolOp .Or (a :: b :: rest) pos) (Ox tA tB'):=⟨L2.Ew ha.run hb.run⟩
theorem zG (h:QE X e te) (he:∀whole,isTrue e X.env whole=(do let v ← whole;standAt e.pos;holding [v] (truthy v)):=by intro _;rfl):QT X e (tB te):=⟨L2.zG h.run he⟩
theorem qN (hc:QT X c tA) (ha:QE X a ta) (hb:QE X b tb):QE X (.IfExp c a b pos) (PR tA ta tb):=⟨L2.qN hc.run ha.run hb.run⟩
theorem zl:QA X [] CB:=⟨L2.zl⟩
theorem pS (ha:QE X e te) (hr:QA X es t) (hs:starEach (e :: es) X.env=(false,eval e X.env) :: starEach es X.env:=by rfl):QA X (e :: es) (Bu te t):=⟨L2.pS ha.run hr.run hs⟩
theorem zt {x1} (h:QA X es t):QE X (.Tuple es x1 pos) (K3 t):=⟨L2.zt h.run⟩
theorem vO (h:QA X es t):QE X (.List es pos) (Hs t):=⟨L2.vO h.run⟩
theorem Ef {r:R2} (hr:lA X r) (ha:QE X a ta) (hb:QE X b tb) (hs:bI b):QE X (.Subscript a b pos) (Ft r ta tb):=⟨L2.Ef hr ha.run hb.run hs⟩
theorem vV:QO X none wO:=⟨L2.vV⟩
theorem vW (h:QE X e te):QO X (some e) (E_ te):=⟨L2.vW h.run⟩
theorem qO {lo hi:Option Expr} {tl th:TO} {r:V→Option Int→Option Int→Hp→VK→Prop} (hr:mr X r) (he:QE X e te) (hl:QO X lo tl) (hu:QO X hi th):QE X (.Subscript e (.Slice lo hi none p2) pos) (PX r te tl th):=⟨L2.qO hr he.run hl.run hu.run⟩
theorem qM {id:String} {r:List V→Hp→VK→Prop} (hc:bJ X (.builtin id) r) (hg:Gl X x) (hm:X.mg x=none) (hv:bootBuiltins x=some (.builtin id)) (ha:QA X (e :: es) t) (hn:x≠"__name__":=by decide) (hdb:(x == ("__debug__":Str))=false:=by decide)
  (he:starEach (e :: es) X.env=(false,eval e X.env) :: starEach es X.env:=by rfl) (hpl:(backTo pos (starEach es X.env)).any (·.1)=false:=by rfl):QE X (.Call (.Name x p) (e :: es) [] pos) (KP r t):=⟨L2.qM hc hg hm hv ha.run hn hdb he hpl⟩
theorem ox {T:String} {r:List V→Hp→VK→Prop} (hc:bJ X (.type T) r) (hg:Gl X x) (hm:X.mg x=none) (hv:bootBuiltins x=some (.type T)) (ha:QA X (e :: es) t) (hn:x≠"__name__":=by decide) (hdb:(x == ("__debug__":Str))=false:=by decide)
  (he:starEach (e :: es) X.env=(false,eval e X.env) :: starEach es X.env:=by rfl) (hpl:(backTo pos (starEach es X.env)).any (·.1)=false:=by rfl):QE X (.Call (.Name x p) (e :: es) [] pos) (KP r t):=⟨L2.ox hc hg hm hv ha.run hn hdb he hpl⟩
theorem Ed {name:Str} {T id:String} {r:V→List V→Hp→VK→Prop} (pa:PlainAttrs T) (slot:Slot T name id) (hty:typeOf (.builtin id)=pure (.type "method_descriptor")) (hm:lD X id r) (ho:QE X o to) (ha:QA X (e :: es) t)
  (hbase:attributeBase o name X.env (eval o X.env)=eval o X.env:=by rfl)
  (hfew:((backTo cpos (starEach (e :: es) X.env)).all (λx=>!x.1) && (backToKw cpos (keywordEach [] X.env)).all (λx=>x.1.isSome)
   && decide ((e :: es).length + ([]:List Keyword).length + (if ([]:List Keyword).isEmpty then 0 else 1) < 30))=true:=by rfl)
  (hline:(apos.endLine == cpos.line)=true:=by rfl) (hs:starEach (e :: es) X.env=(false,eval e X.env) :: starEach es X.env:=by rfl) (hplain:(backTo cpos (starEach es X.env)).any (·.1)=false:=by rfl) :
  QE X (.Call (.Attribute o name apos) (e :: es) [] cpos) (PL X.K T r to t):=⟨L2.Ed pa slot hty hm ho.run ha.run hbase hfew hline hs hplain⟩
end
section
variable {X:Cx} {st:Stmt} {rest:List Stmt} {t u:TS} {e tg:Expr} {es:List Expr} {te:TE} {pos:Pos} {g:TG}
theorem vZ:QB X [] E8:=⟨L2.vZ⟩
theorem m6 (h1:QS X st t) (h2:QB X rest u):QB X (st :: rest) (K2 t u):=⟨L2.m6 h1.run h2.run⟩
theorem v3 (h1:QS X st t):QB X [st] t:=⟨L2.v3 h1.run⟩
theorem vX (he:QE X e te) (hs:swapsWith e none pos.line X.env=pure false:=by rfl):QS X (.Expr e pos) (E5 te):=⟨L2.vX he.run hs⟩
theorem zD (he:QE X e te):QS X (.Return (some e) pos) (K1 te):=⟨L2.zD he.run⟩
theorem vY:QS X (.Return none pos) Fb:=⟨L2.vY⟩
theorem Eo {c:Expr} {a b:List Stmt} {tc:TT} (hc:QT X c tc) (ha:QB X a t) (hb:QB X b u):QS X (.If c a b pos) (KR tc t u):=⟨L2.Eo hc.run ha.run hb.run⟩
theorem qV {c:Expr} {body:List Stmt} {tc:TT} {tb:TS} (hp:PassesOwn (model X.prog X.w) X.A X.env X.xe) (hc:QT X c tc) (hb:QB X body tb):QS X (.While c body [] pos) (zX tc tb):=⟨L2.qV hp hc.run hb.run⟩
theorem vR {i:Nat} {x:Str} (hN:X.N.Nodup) (hi:X.N[i]?=some x) (hx:Loc X.env.scope x) (hf:X.fn x=true∨X.env.scope.names.lookup x=some .local:=by first | exact .inl rfl | exact .inr rfl | assumption):QG X (.Name x pos) (ub i):=⟨L2.vR hN hi hx hf⟩
theorem vS:N' X [] Jj:=⟨L2.vS⟩
theorem qP {e:Expr} {es:List Expr} {t:TG} {u:kL} (h1:QG X e t) (h2:N' X es u)
  (hs:(assignEach (e :: es) X.env).map (·.2)=assign e X.env :: (assignEach es X.env).map (·.2):=by rfl):N' X (e :: es) (Ds t u):=⟨L2.qP h1.run h2.run hs⟩
theorem zw {k:Nat} {t:kL} {n:Nat} (hc:X.calm=true) (h:N' X es t)
  (hn:(assignEach es X.env).length=n:=by rfl) (hst:(assignEach es X.env).findIdx? (·.1)=none:=by rfl):QG X (.Tuple es k pos) (Jl X.K n t):=⟨L2.zw hc h.run hn hst⟩
theorem zu {o i:Expr} {to ti:TE} {t:fw} (ho:QE X o to) (hi:QE X i ti) (hs:fv X t)
  (ha:∀v,assign (.Subscript o i pos) X.env v=(do
   let ov ← holding [v] (eval o X.env)
   let iv ← holding [v,ov] (eval i X.env)
   standAt pos
   holding [v,ov,iv] (setItem ov iv v)
   release [v,ov,iv] []):=by intro _;rfl):QG X (.Subscript o i pos) (Jk to ti t):=⟨L2.zu ho.run hi.run hs ha⟩
theorem zA {tg e:Expr} (he:QE X e te) (hg:QG X tg g) (hs:swapsWithSole [tg] e pos.line X.env=pure false:=by rfl) (hw:swappedStores [tg] e X.env=pure none:=by rfl)
  (h1:(assignEach [tg] X.env).map (·.2)=[assign tg X.env]:=by rfl):QS X (.Assign [tg] e pos) (CA te g):=⟨L2.zA he.run hg.run hs hw h1⟩
theorem zE {i:Nat} {x:Str} {pos':Pos} (hN:X.N.Nodup) (hi:X.N[i]?=some x) (hx:Loc X.env.scope x) (he:QE X e te) (hs:swapsWith e (some (.Name x pos')) pos.line X.env=pure false:=by rfl) (hf:X.fn x=true∨X.env.scope.names.lookup x=some .local:=by first | exact .inl rfl | exact .inr rfl | assumption) :
  QS X (.Assign [.Name x pos'] e pos) (CA te (ub i)):=⟨L2.zE hN hi hx he.run hs hf⟩
theorem zC {i j:Nat} {x y:Str} {a b:Expr} {ta:TA} {px py pt:Pos} {kt k2 pt2} (hc:X.calm=true) (hN:X.N.Nodup) (hi:X.N[i]?=some x) (hj:X.N[j]?=some y) (hij:i≠j)
  (hx:X.env.scope.names.lookup x=some .local) (hy:X.env.scope.names.lookup y=some .local) (ha:QA X [a,b] ta)
  (hw:swappedStores [.Tuple [.Name x px,.Name y py] kt pt] (.Tuple [a,b] k2 pt2) X.env=pure (some [x,y]))
  (hs:swapsWithSole [.Tuple [.Name x px,.Name y py] kt pt] (.Tuple [a,b] k2 pt2) pos.line X.env=pure false:=by rfl) :
  QS X (.Assign [.Tuple [.Name x px,.Name y py] kt pt] (.Tuple [a,b] k2 pt2) pos) (KZ i j ta):=⟨L2.zC hc hN hi hj hij hx hy ha.run hw hs⟩
theorem vT {l:Expr} {tl:TE} (hl:QE X l tl):QI X tg l (Dz X.K tl):=⟨L2.vT hl.run⟩
theorem oy {a:Expr} {ta:TA} {p pos:Pos} (hg:Gl X "range") (hm:X.mg "range"=none) (ha:QA X [a] ta) (hs:starEach [a] X.env=[(false,eval a X.env)]:=by rfl):QI X tg (.Call (.Name "range" p) [a] [] pos) (DA ta):=⟨L2.oy hg hm ha.run hs⟩
theorem zB {iter:Expr} {body:List Stmt} {wi:TI} {g:TG} {tb:TS} {pos:Pos} (hp:PassesOwn (model X.prog X.w) X.A X.env X.xe) (hc:X.calm=true) (hi:QI X tg iter wi) (hg:QG X tg g) (hb:QB X body tb)
  (hs:∀x,foldedSetIterable iter X.env x=pure x:=by intro _;rfl):QS X (.For tg iter body [] pos) (KQ wi g tb):=⟨L2.zB hp hc hi.run hg.run hb.run hs⟩
end
end Ov
namespace Ov
open PySem PySem.Spec PyProof.Rows
open L2 (V HO Hp Inv Cx VK TE TA Vals RelV eI bJ dM R2 upd EP vals1 intsAre_of Gl)
section
variable {X:Cx}
end
end Ov
namespace Ov
open PySem PySem.Spec PyProof.Rows
open L2 (V HO Hp Inv Cx VK TE TA Vals RelV eI bJ dM fu R2 upd bW)
inductive Py where
 | non | bl (b:Bool) | int (i:Int) | str (x:Str) | tup (xs:List Py) | lst (xs:List Py)
mutual
def At (K:PySem.W.Frag) (H:Hp):Py→V→Prop
 | .non,v=>v=.non
 | .bl b,v=>v=.bl b
 | .int i,v=>v=.int i
 | .str x,v=>v=.str x
 | .tup xs,v=>∃a vs,v=.ref a∧fu K H a vs∧rT K H xs vs
 | .lst xs,v=>∃a vs,v=.ref a∧dM K H a vs∧rT K H xs vs
def rT (K:PySem.W.Frag) (H:Hp):List Py→List V→Prop
 | [],vs=>vs=[]
 | x :: xs,vs=>∃v us,vs=v :: us∧At K H x v∧rT K H xs us
end
mutual
def kr:Py→Py→Bool
 | .non,.non=>true
 | .bl a,.bl b=>a == b
 | .int a,.int b=>a == b
 | .bl a,.int b=>(if a then 1 else 0) == b
 | .int a,.bl b=>a == (if b then 1 else 0)
 | .str a,.str b=>a == b
 | .tup xs,.tup ys=>jC xs ys
 | .lst xs,.lst ys=>jC xs ys
 | _,_=>false
def jC:List Py→List Py→Bool
 | [],[]=>true
 | x :: xs,y :: ys=>kr x y && jC xs ys
 | _,_=>false
end
mutual
def dep:Py→Nat
 | .tup xs=>dY xs + 1
 | .lst xs=>dY xs + 1
 | _=>0
def dY:List Py→Nat
 | []=>0
 | x :: xs=>max (dep x) (dY xs)
end
mutual
theorem xt:∀x:Py,kr x x=true
 | .non=>rfl
 | .bl b=>by simp [kr]
 | .int b=>by simp [kr]
 | .str b=>by simp [kr]
 | .tup xs=>by simpa [kr] using nZ xs
 | .lst xs=>by simpa [kr] using nZ xs
theorem nZ:∀xs:List Py,jC xs xs=true
 | []=>rfl
 | x :: xs=>by simp [jC,xt x,nZ xs]
end
mutual
theorem At.same {K:PySem.W.Frag} {H H':Hp} (e:bW H H'):∀{x:Py} {v:V},At K H x v→At K H' x v
 | .non,_,h=>h
 | .bl _,_,h=>h
 | .int _,_,h=>h
 | .str _,_,h=>h
 | .tup xs,_,⟨a,vs,e1,h,k⟩=>⟨a,vs,e1,e.tup h,rT.same e k⟩
 | .lst xs,_,⟨a,vs,e1,h,k⟩=>⟨a,vs,e1,e.seq h,rT.same e k⟩
theorem rT.same {K:PySem.W.Frag} {H H':Hp} (e:bW H H'):∀{xs:List Py} {vs:List V},rT K H xs vs→rT K H' xs vs
 | [],_,h=>h
 | _ :: _,_,⟨v,us,e1,h,k⟩=>⟨v,us,e1,At.same e h,rT.same e k⟩
end
theorem rT.length {K:PySem.W.Frag} {H:Hp}:∀{xs:List Py} {vs:List V},rT K H xs vs→xs.length=vs.length
 | [],_,h=>by cases h;rfl
 | _ :: xs,_,⟨v,us,e1,_,k⟩=>by subst e1;simp [rT.length k]
def BQ (xs ys:List Py) (j:Nat):Bool:=match xs[j]?,ys[j]? with
 | some x,some y=>kr x y
 | _,_=>false
theorem iC:∀(xs ys:List Py),((SJ (min xs.length ys.length)).all (BQ xs ys) && (xs.length == ys.length))=jC xs ys
 | [],[]=>rfl
 | [],_ :: _=>by simp [jC]
 | _ :: _,[]=>by simp [jC]
 | x :: xs,y :: ys=>by
  have ih:=iC xs ys
  rw [R0,R0,Nat.succ_min_succ,List.range_succ_eq_map,TX,List.all_map]
  have e1:(BQ (x :: xs) (y :: ys) ∘ Nat.succ)=BQ xs ys:=by
   funext j
   simp [BQ]
  have e2:(xs.length + 1 == ys.length + 1)=(xs.length == ys.length):=by
   rw [Ud]
   simp
  rw [e1,e2,Bool.and_assoc,ih]
  simp [BQ,jC]
section
variable {X:Cx} {pins:List (Addr × Obj)} {σ:L2.St} {H:Hp} {s:Shared}
mutual
theorem At.one (I:Inv X pins σ H s):∀{x y:Py} {v:V},At X.K H x v→At X.K H y v→kr x y=true
 | .non,y,v,h,k=>by cases h;cases y <;> simp_all [At,kr]
 | .bl b,y,v,h,k=>by cases h;cases y <;> simp_all [At,kr]
 | .int b,y,v,h,k=>by cases h;cases y <;> simp_all [At,kr]
 | .str b,y,v,h,k=>by cases h;cases y <;> simp_all [At,kr]
 | .tup xs,y,v,h,k=>by
  obtain ⟨a,vs,rfl,h1,h2⟩:=h
  cases y with
  | tup ys =>
   obtain ⟨b,us,e,k1,k2⟩:=k
   cases e
   cases I.CC h1 k1
   simpa [kr] using rT.one I h2 k2
  | lst ys =>
   obtain ⟨b,us,e,k1,k2⟩:=k
   cases e
   obtain ⟨_,_,⟨o,e1,c1,_⟩,_⟩:=I.tuple h1
   obtain ⟨_,_,⟨o',n,e2,c2,_⟩,_⟩:=I.list k1
   rw [e1] at e2;cases e2;exact absurd (Value.type.inj (c1.symm.trans c2)) (by decide)
  | _=>cases k
 | .lst xs,y,v,h,k=>by
  obtain ⟨a,vs,rfl,h1,h2⟩:=h
  cases y with
  | lst ys =>
   obtain ⟨b,us,e,k1,k2⟩:=k
   cases e
   cases I.qz h1 k1
   simpa [kr] using rT.one I h2 k2
  | tup ys =>
   obtain ⟨b,us,e,k1,k2⟩:=k
   cases e
   obtain ⟨_,_,⟨o,e1,c1,_⟩,_⟩:=I.tuple k1
   obtain ⟨_,_,⟨o',n,e2,c2,_⟩,_⟩:=I.list h1
   rw [e1] at e2;cases e2;exact absurd (Value.type.inj (c1.symm.trans c2)) (by decide)
  | _=>cases k
theorem rT.one (I:Inv X pins σ H s):∀{xs ys:List Py} {vs:List V},rT X.K H xs vs→rT X.K H ys vs→jC xs ys=true
 | [],ys,vs,h,k=>by
  cases h
  cases ys with
  | nil=>rfl
  | cons y ys=>obtain ⟨_,_,e,_⟩:=k;cases e
 | x :: xs,ys,vs,h,k=>by
  obtain ⟨v,us,rfl,h1,h2⟩:=h
  cases ys with
  | nil=>cases k
  | cons y ys =>
   obtain ⟨v',us',e,k1,k2⟩:=k
   cases e
   simp [jC,At.one I h1 k1,rT.one I h2 k2]
end
mutual
theorem OL (I:Inv X pins σ H s):∀(x y:Py) {v v':V} {u u':Value} {A:Around},At X.K H x v→At X.K H y v'→RelV v u→RelV v' u'→A.units + dep x < cLine→SeqAt.EqAt A s u u' (kr x y)
 | .non,y,v,v',u,u',A,h,k,r,r',hu=>by
  cases h;cases r
  cases y with
  | non=>cases k;cases r';exact SeqAt.EqAt.same _
  | bl b=>cases k;cases r';exact SeqAt.EqAt.none_bool _
  | int b=>cases k;obtain ⟨t,rfl⟩:=r';exact SeqAt.EqAt.none_int _ _
  | str b=>cases k;obtain ⟨t,rfl⟩:=r';exact SeqAt.EqAt.none_str _ _
  | tup ys=>obtain ⟨a,vs,rfl,h1,h2⟩:=k;cases r';obtain ⟨_,_,p,_⟩:=I.tuple h1;exact SeqAt.EqAt.none_tuple p (by simpa [dep] using hu)
  | lst ys=>obtain ⟨a,vs,rfl,h1,h2⟩:=k;cases r';obtain ⟨_,_,p,_⟩:=I.list h1;exact SeqAt.EqAt.none_list p.isList (by simpa [dep] using hu)
 | .bl x,y,v,v',u,u',A,h,k,r,r',hu=>by
  cases h;cases r
  cases y with
  | non=>cases k;cases r';exact SeqAt.EqAt.bool_none _
  | bl b=>cases k;cases r';exact SeqAt.EqAt.bool_bool _ _
  | int b=>cases k;obtain ⟨t,rfl⟩:=r';exact SeqAt.EqAt.bool_int _ _ _
  | str b=>cases k;obtain ⟨t,rfl⟩:=r';exact SeqAt.EqAt.bool_str _ _ _
  | tup ys=>obtain ⟨a,vs,rfl,h1,h2⟩:=k;cases r';obtain ⟨_,_,p,_⟩:=I.tuple h1;exact SeqAt.EqAt.bool_tuple _ p (by simpa [dep] using hu)
  | lst ys=>obtain ⟨a,vs,rfl,h1,h2⟩:=k;cases r';obtain ⟨_,_,p,_⟩:=I.list h1;exact SeqAt.EqAt.bool_list _ p.isList (by simpa [dep] using hu)
 | .int x,y,v,v',u,u',A,h,k,r,r',hu=>by
  cases h;obtain ⟨t0,rfl⟩:=r
  cases y with
  | non=>cases k;cases r';exact SeqAt.EqAt.int_none _ _
  | bl b=>cases k;cases r';exact SeqAt.EqAt.int_bool _ _ _
  | int b=>cases k;obtain ⟨t,rfl⟩:=r';exact SeqAt.EqAt.int_int _ _ _ _
  | str b=>cases k;obtain ⟨t,rfl⟩:=r';exact SeqAt.EqAt.int_str _ _ _ _
  | tup ys=>obtain ⟨a,vs,rfl,h1,h2⟩:=k;cases r';obtain ⟨_,_,p,_⟩:=I.tuple h1;exact SeqAt.EqAt.int_tuple _ _ p (by simpa [dep] using hu)
  | lst ys=>obtain ⟨a,vs,rfl,h1,h2⟩:=k;cases r';obtain ⟨_,_,p,_⟩:=I.list h1;exact SeqAt.EqAt.int_list _ _ p.isList (by simpa [dep] using hu)
 | .str x,y,v,v',u,u',A,h,k,r,r',hu=>by
  cases h;obtain ⟨t0,rfl⟩:=r
  cases y with
  | non=>cases k;cases r';exact SeqAt.EqAt.str_none _ _
  | bl b=>cases k;cases r';exact SeqAt.EqAt.str_bool _ _ _
  | int b=>cases k;obtain ⟨t,rfl⟩:=r';exact SeqAt.EqAt.str_int _ _ _ _
  | str b=>cases k;obtain ⟨t,rfl⟩:=r';exact SeqAt.EqAt.str_str _ _ _ _
  | tup ys=>obtain ⟨a,vs,rfl,h1,h2⟩:=k;cases r';obtain ⟨_,_,p,_⟩:=I.tuple h1;exact SeqAt.EqAt.str_tuple _ _ p (by simpa [dep] using hu)
  | lst ys=>obtain ⟨a,vs,rfl,h1,h2⟩:=k;cases r';obtain ⟨_,_,p,_⟩:=I.list h1;exact SeqAt.EqAt.str_list _ _ p.isList (by simpa [dep] using hu)
 | .tup xs,y,v,v',u,u',A,h,k,r,r',hu=>by
  have h0:=h
  obtain ⟨a,vs,rfl,h1,h2⟩:=h
  cases r
  obtain ⟨is,r1,p1,_⟩:=I.tuple h1
  have hu0:A.units < cLine:=by omega
  have hu1:A.in1.units + dY xs < cLine:=by
   have e:dep (.tup xs)=dY xs + 1:=by rw [dep]
   rw [e] at hu
   show A.units + 1 + dY xs < cLine
   omega
  cases y with
  | non=>cases k;cases r';exact SeqAt.EqAt.tuple_none p1 hu0
  | bl b=>cases k;cases r';exact SeqAt.EqAt.tuple_bool _ p1 hu0
  | int b=>cases k;obtain ⟨t,rfl⟩:=r';exact SeqAt.EqAt.tuple_int _ _ p1 hu0
  | str b=>cases k;obtain ⟨t,rfl⟩:=r';exact SeqAt.EqAt.tuple_str _ _ p1 hu0
  | lst ys=>obtain ⟨b,us,rfl,k1,k2⟩:=k;cases r';obtain ⟨_,_,p,_⟩:=I.list k1;exact SeqAt.EqAt.tuple_list p1 p.isList hu0
  | tup ys =>
   have k0:=k
   obtain ⟨b,us,rfl,k1,k2⟩:=k
   cases r'
   by_cases hab:a=b
   ·subst hab
    rw [At.one I h0 k0]
    exact SeqAt.EqAt.same _
   ·obtain ⟨js,r2,p2,_⟩:=I.tuple k1
    refine SeqAt.EqAt.of_refs hab ?_
    have key:=SeqAt.RcAt.tuples (e:=BQ xs ys) p1 p2 hu0 λj q1 q2=>qj I xs ys h2 k2 r1 r2 hu1 j (by simpa using q1) (by simpa using q2)
    have e1:is.length=xs.length:=by rw [← r1.length,h2.length]
    have e2:js.length=ys.length:=by rw [← r2.length,k2.length]
    simp only [Rx] at key
    rw [e1,e2,iC] at key
    simpa [kr] using key
 | .lst xs,y,v,v',u,u',A,h,k,r,r',hu=>by
  have h0:=h
  obtain ⟨a,vs,rfl,h1,h2⟩:=h
  cases r
  obtain ⟨is,r1,p1,_⟩:=I.list h1
  have hu0:A.units < cLine:=by omega
  have hu1:A.in1.units + dY xs < cLine:=by
   have e:dep (.lst xs)=dY xs + 1:=by rw [dep]
   rw [e] at hu
   show A.units + 1 + dY xs < cLine
   omega
  cases y with
  | non=>cases k;cases r';exact SeqAt.EqAt.list_none p1.isList hu0
  | bl b=>cases k;cases r';exact SeqAt.EqAt.list_bool _ p1.isList hu0
  | int b=>cases k;obtain ⟨t,rfl⟩:=r';exact SeqAt.EqAt.list_int _ _ p1.isList hu0
  | str b=>cases k;obtain ⟨t,rfl⟩:=r';exact SeqAt.EqAt.list_str _ _ p1.isList hu0
  | tup ys=>obtain ⟨b,us,rfl,k1,k2⟩:=k;cases r';obtain ⟨_,_,p,_⟩:=I.tuple k1;exact SeqAt.EqAt.list_tuple p1.isList p hu0
  | lst ys =>
   have k0:=k
   obtain ⟨b,us,rfl,k1,k2⟩:=k
   cases r'
   by_cases hab:a=b
   ·subst hab
    rw [At.one I h0 k0]
    exact SeqAt.EqAt.same _
   ·obtain ⟨js,r2,p2,_⟩:=I.list k1
    refine SeqAt.EqAt.of_refs hab ?_
    have e1:is.length=xs.length:=by rw [← r1.length,h2.length]
    have e2:js.length=ys.length:=by rw [← r2.length,k2.length]
    have ae:=iC xs ys
    by_cases hl:xs.length=ys.length
    ·have key:=SeqAt.RcAt.lists (e:=BQ xs ys) p1.isList p2.isList (by simp only [Rx];omega) hu0 λj q1 q2=>qj I xs ys h2 k2 r1 r2 hu1 j (by simpa using q1) (by simpa using q2)
     simp only [Rx] at key
     rw [hl,T7] at ae
     have e3:(ys.length == ys.length)=true:=by simp
     rw [e3,SN] at ae
     rw [e1,hl,ae] at key
     simpa [kr] using key
    ·have key:=SeqAt.RcAt.lists_lengths p1.isList p2.isList (A:=A) (by simp only [Rx];rw [e1,e2];simpa using hl) hu0
     have e3:jC xs ys=false:=by
      rw [← ae]
      have:(xs.length == ys.length)=false:=by simpa using hl
      rw [this,S8]
     simpa [kr,e3] using key
theorem qj (I:Inv X pins σ H s):∀(xs ys:List Py) {vs us:List V} {is js:List Value} {A:Around},rT X.K H xs vs→rT X.K H ys us→Vals vs is→Vals us js→A.units + dY xs < cLine→∀j (h1:j < is.length) (h2:j < js.length),SeqAt.EqAt A s is[j] js[j] (BQ xs ys j)
 | [],ys,vs,us,is,js,A,h,k,r,r',hu,j,h1,h2=>by
  cases h;cases r;exact absurd h1 (Tc _)
 | x :: xs,[],vs,us,is,js,A,h,k,r,r',hu,j,h1,h2=>by
  cases k;cases r';exact absurd h2 (Tc _)
 | x :: xs,y :: ys,vs,us,is,js,A,h,k,r,r',hu,j,h1,h2=>by
  obtain ⟨v,vs',rfl,a1,a2⟩:=h
  obtain ⟨v',us',rfl,b1,b2⟩:=k
  cases r with
  | cons q1 q2 =>
   cases r' with
   | cons z1 z2 =>
    have e:dY (x :: xs)=max (dep x) (dY xs):=by rw [dY]
    rw [e] at hu
    cases j with
    | zero=>exact OL I x y a1 b1 q1 z1 (by omega)
    | succ j =>
     have:=qj I xs ys a2 b2 q2 z2 (A:=A) (by omega) j (by simpa using h1) (by simpa using h2)
     simpa [BQ] using this
end
theorem PH (I:Inv X pins σ H s) (x y:Py) {v v':V} {u u':Value} {A:Around} (h:At X.K H x v) (k:At X.K H y v') (r:RelV v u) (r':RelV v' u') (hu:A.units + dep x < cLine):SeqAt.RcAt A s u u' (kr x y):=by
 have hu0:A.units < cLine:=by omega
 cases x with
 | non =>
  cases h;cases r
  cases y with
  | non=>cases k;cases r';exact SeqAt.RcAt.none_none
  | bl b=>cases k;cases r';exact SeqAt.RcAt.none_bool _
  | int b=>cases k;obtain ⟨t,rfl⟩:=r';exact SeqAt.RcAt.none_int _ _
  | str b=>cases k;obtain ⟨t,rfl⟩:=r';exact SeqAt.RcAt.none_str _ _
  | tup ys=>obtain ⟨b,us,rfl,k1,k2⟩:=k;cases r';obtain ⟨js,r2,p2,_⟩:=I.tuple k1;exact SeqAt.RcAt.none_tuple p2 hu0
  | lst ys=>obtain ⟨b,us,rfl,k1,k2⟩:=k;cases r';obtain ⟨js,r2,p2,_⟩:=I.list k1;exact SeqAt.RcAt.none_list p2.isList hu0
 | bl i =>
  cases h;cases r
  cases y with
  | non=>cases k;cases r';exact SeqAt.RcAt.bool_none _
  | bl b=>cases k;cases r';exact SeqAt.RcAt.bool_bool _ _
  | int b=>cases k;obtain ⟨t,rfl⟩:=r';exact SeqAt.RcAt.bool_int _ _ _
  | str b=>cases k;obtain ⟨t,rfl⟩:=r';exact SeqAt.RcAt.bool_str _ _ _
  | tup ys=>obtain ⟨b,us,rfl,k1,k2⟩:=k;cases r';obtain ⟨js,r2,p2,_⟩:=I.tuple k1;exact SeqAt.RcAt.bool_tuple _ p2 hu0
  | lst ys=>obtain ⟨b,us,rfl,k1,k2⟩:=k;cases r';obtain ⟨js,r2,p2,_⟩:=I.list k1;exact SeqAt.RcAt.bool_list _ p2.isList hu0
 | int i =>
  cases h;obtain ⟨t0,rfl⟩:=r
  cases y with
  | non=>cases k;cases r';exact SeqAt.RcAt.int_none _ _
  | bl b=>cases k;cases r';exact SeqAt.RcAt.int_bool _ _ _
  | int b=>cases k;obtain ⟨t,rfl⟩:=r';exact SeqAt.RcAt.int_int _ _ _ _
  | str b=>cases k;obtain ⟨t,rfl⟩:=r';exact SeqAt.RcAt.int_str _ _ _ _
  | tup ys=>obtain ⟨b,us,rfl,k1,k2⟩:=k;cases r';obtain ⟨js,r2,p2,_⟩:=I.tuple k1;exact SeqAt.RcAt.int_tuple _ _ p2 hu0
  | lst ys=>obtain ⟨b,us,rfl,k1,k2⟩:=k;cases r';obtain ⟨js,r2,p2,_⟩:=I.list k1;exact SeqAt.RcAt.int_list _ _ p2.isList hu0
 | str i =>
  cases h;obtain ⟨t0,rfl⟩:=r
  cases y with
  | non=>cases k;cases r';exact SeqAt.RcAt.str_none _ _
  | bl b=>cases k;cases r';exact SeqAt.RcAt.str_bool _ _ _
  | int b=>cases k;obtain ⟨t,rfl⟩:=r';exact SeqAt.RcAt.str_int _ _ _ _
  | str b=>cases k;obtain ⟨t,rfl⟩:=r';exact SeqAt.RcAt.str_str _ _ _ _
  | tup ys=>obtain ⟨b,us,rfl,k1,k2⟩:=k;cases r';obtain ⟨js,r2,p2,_⟩:=I.tuple k1;exact SeqAt.RcAt.str_tuple _ _ p2 hu0
  | lst ys=>obtain ⟨b,us,rfl,k1,k2⟩:=k;cases r';obtain ⟨js,r2,p2,_⟩:=I.list k1;exact SeqAt.RcAt.str_list _ _ p2.isList hu0
 | tup xs =>
  obtain ⟨a,vs,rfl,h1,h2⟩:=h
  cases r
  obtain ⟨is,r1,p1,_⟩:=I.tuple h1
  have hu1:A.in1.units + dY xs < cLine:=by
   have e:dep (.tup xs)=dY xs + 1:=by rw [dep]
   rw [e] at hu
   show A.units + 1 + dY xs < cLine
   omega
  cases y with
  | non=>cases k;cases r';exact SeqAt.RcAt.tuple_none p1 hu0
  | bl b=>cases k;cases r';exact SeqAt.RcAt.tuple_bool _ p1 hu0
  | int b=>cases k;obtain ⟨t,rfl⟩:=r';exact SeqAt.RcAt.tuple_int _ _ p1 hu0
  | str b=>cases k;obtain ⟨t,rfl⟩:=r';exact SeqAt.RcAt.tuple_str _ _ p1 hu0
  | tup ys =>
   obtain ⟨b,us,rfl,k1,k2⟩:=k;cases r';obtain ⟨js,r2,p2,_⟩:=I.tuple k1
   have e1:is.length=xs.length:=by rw [← r1.length,h2.length]
   have e2:js.length=ys.length:=by rw [← r2.length,k2.length]
   have ae:=iC xs ys
   have key:=SeqAt.RcAt.tuples (e:=BQ xs ys) p1 p2 hu0 λj q1 q2=>qj I xs ys h2 k2 r1 r2 hu1 j (by simpa using q1) (by simpa using q2)
   simp only [Rx] at key
   rw [e1,e2,ae] at key
   simpa [kr] using key
  | lst ys=>obtain ⟨b,us,rfl,k1,k2⟩:=k;cases r';obtain ⟨js,r2,p2,_⟩:=I.list k1;exact SeqAt.RcAt.tuple_list p1 p2.isList hu0
 | lst xs =>
  obtain ⟨a,vs,rfl,h1,h2⟩:=h
  cases r
  obtain ⟨is,r1,p1,_⟩:=I.list h1
  have hu1:A.in1.units + dY xs < cLine:=by
   have e:dep (.lst xs)=dY xs + 1:=by rw [dep]
   rw [e] at hu
   show A.units + 1 + dY xs < cLine
   omega
  cases y with
  | non=>cases k;cases r';exact SeqAt.RcAt.list_none p1.isList hu0
  | bl b=>cases k;cases r';exact SeqAt.RcAt.list_bool _ p1.isList hu0
  | int b=>cases k;obtain ⟨t,rfl⟩:=r';exact SeqAt.RcAt.list_int _ _ p1.isList hu0
  | str b=>cases k;obtain ⟨t,rfl⟩:=r';exact SeqAt.RcAt.list_str _ _ p1.isList hu0
  | tup ys=>obtain ⟨b,us,rfl,k1,k2⟩:=k;cases r';obtain ⟨js,r2,p2,_⟩:=I.tuple k1;exact SeqAt.RcAt.list_tuple p1.isList p2 hu0
  | lst ys =>
   obtain ⟨b,us,rfl,k1,k2⟩:=k;cases r';obtain ⟨js,r2,p2,_⟩:=I.list k1
   have e1:is.length=xs.length:=by rw [← r1.length,h2.length]
   have e2:js.length=ys.length:=by rw [← r2.length,k2.length]
   have ae:=iC xs ys
   by_cases hl:xs.length=ys.length
   ·have key:=SeqAt.RcAt.lists (e:=BQ xs ys) p1.isList p2.isList (by simp only [Rx];omega) hu0 λj q1 q2=>qj I xs ys h2 k2 r1 r2 hu1 j (by simpa using q1) (by simpa using q2)
    simp only [Rx] at key
    rw [hl,T7] at ae
    have e3:(ys.length == ys.length)=true:=by simp
    rw [e3,SN] at ae
    rw [e1,hl,ae] at key
    simpa [kr] using key
   ·have key:=SeqAt.RcAt.lists_lengths p1.isList p2.isList (A:=A) (by simp only [Rx];rw [e1,e2];simpa using hl) hu0
    have e3:jC xs ys=false:=by
     rw [← ae]
     have:(xs.length == ys.length)=false:=by simpa using hl
     rw [this,S8]
    simpa [kr,e3] using key
theorem NH (I:Inv X pins σ H s) (x y:Py) {v v':V} {u u':Value} {A:Around} (h:At X.K H x v) (k:At X.K H y v') (r:RelV v u) (r':RelV v' u') (hu:A.units + dep x < cLine):SeqAt.RcNeAt A s u u' (!kr x y):=by
 have hu0:A.units < cLine:=by omega
 cases x with
 | non =>
  cases h;cases r
  cases y with
  | non=>cases k;cases r';exact SeqAt.RcNeAt.none_none
  | bl b=>cases k;cases r';exact SeqAt.RcNeAt.none_bool _
  | int b=>cases k;obtain ⟨t,rfl⟩:=r';exact SeqAt.RcNeAt.none_int _ _
  | str b=>cases k;obtain ⟨t,rfl⟩:=r';exact SeqAt.RcNeAt.none_str _ _
  | tup ys=>obtain ⟨b,us,rfl,k1,k2⟩:=k;cases r';obtain ⟨js,r2,p2,_⟩:=I.tuple k1;exact SeqAt.RcNeAt.none_tuple p2 hu0
  | lst ys=>obtain ⟨b,us,rfl,k1,k2⟩:=k;cases r';obtain ⟨js,r2,p2,_⟩:=I.list k1;exact SeqAt.RcNeAt.none_list p2.isList hu0
 | bl i =>
  cases h;cases r
  cases y with
  | non=>cases k;cases r';exact SeqAt.RcNeAt.bool_none _
  | bl b=>cases k;cases r';exact SeqAt.RcNeAt.bool_bool _ _
  | int b=>cases k;obtain ⟨t,rfl⟩:=r';exact SeqAt.RcNeAt.bool_int _ _ _
  | str b=>cases k;obtain ⟨t,rfl⟩:=r';exact SeqAt.RcNeAt.bool_str _ _ _
  | tup ys=>obtain ⟨b,us,rfl,k1,k2⟩:=k;cases r';obtain ⟨js,r2,p2,_⟩:=I.tuple k1;exact SeqAt.RcNeAt.bool_tuple _ p2 hu0
  | lst ys=>obtain ⟨b,us,rfl,k1,k2⟩:=k;cases r';obtain ⟨js,r2,p2,_⟩:=I.list k1;exact SeqAt.RcNeAt.bool_list _ p2.isList hu0
 | int i =>
  cases h;obtain ⟨t0,rfl⟩:=r
  cases y with
  | non=>cases k;cases r';exact SeqAt.RcNeAt.int_none _ _
  | bl b=>cases k;cases r';exact SeqAt.RcNeAt.int_bool _ _ _
  | int b=>cases k;obtain ⟨t,rfl⟩:=r';exact SeqAt.RcNeAt.int_int _ _ _ _
  | str b=>cases k;obtain ⟨t,rfl⟩:=r';exact SeqAt.RcNeAt.int_str _ _ _ _
  | tup ys=>obtain ⟨b,us,rfl,k1,k2⟩:=k;cases r';obtain ⟨js,r2,p2,_⟩:=I.tuple k1;exact SeqAt.RcNeAt.int_tuple _ _ p2 hu0
  | lst ys=>obtain ⟨b,us,rfl,k1,k2⟩:=k;cases r';obtain ⟨js,r2,p2,_⟩:=I.list k1;exact SeqAt.RcNeAt.int_list _ _ p2.isList hu0
 | str i =>
  cases h;obtain ⟨t0,rfl⟩:=r
  cases y with
  | non=>cases k;cases r';exact SeqAt.RcNeAt.str_none _ _
  | bl b=>cases k;cases r';exact SeqAt.RcNeAt.str_bool _ _ _
  | int b=>cases k;obtain ⟨t,rfl⟩:=r';exact SeqAt.RcNeAt.str_int _ _ _ _
  | str b=>cases k;obtain ⟨t,rfl⟩:=r';exact SeqAt.RcNeAt.str_str _ _ _ _
  | tup ys=>obtain ⟨b,us,rfl,k1,k2⟩:=k;cases r';obtain ⟨js,r2,p2,_⟩:=I.tuple k1;exact SeqAt.RcNeAt.str_tuple _ _ p2 hu0
  | lst ys=>obtain ⟨b,us,rfl,k1,k2⟩:=k;cases r';obtain ⟨js,r2,p2,_⟩:=I.list k1;exact SeqAt.RcNeAt.str_list _ _ p2.isList hu0
 | tup xs =>
  obtain ⟨a,vs,rfl,h1,h2⟩:=h
  cases r
  obtain ⟨is,r1,p1,_⟩:=I.tuple h1
  have hu1:A.in1.units + dY xs < cLine:=by
   have e:dep (.tup xs)=dY xs + 1:=by rw [dep]
   rw [e] at hu
   show A.units + 1 + dY xs < cLine
   omega
  cases y with
  | non=>cases k;cases r';exact SeqAt.RcNeAt.tuple_none p1 hu0
  | bl b=>cases k;cases r';exact SeqAt.RcNeAt.tuple_bool _ p1 hu0
  | int b=>cases k;obtain ⟨t,rfl⟩:=r';exact SeqAt.RcNeAt.tuple_int _ _ p1 hu0
  | str b=>cases k;obtain ⟨t,rfl⟩:=r';exact SeqAt.RcNeAt.tuple_str _ _ p1 hu0
  | tup ys =>
   obtain ⟨b,us,rfl,k1,k2⟩:=k;cases r';obtain ⟨js,r2,p2,_⟩:=I.tuple k1
   have e1:is.length=xs.length:=by rw [← r1.length,h2.length]
   have e2:js.length=ys.length:=by rw [← r2.length,k2.length]
   have ae:=iC xs ys
   have key:=SeqAt.RcNeAt.tuples (e:=BQ xs ys) p1 p2 hu0 λj q1 q2=>qj I xs ys h2 k2 r1 r2 hu1 j (by simpa using q1) (by simpa using q2)
   simp only [Rx] at key
   rw [e1,e2,ae] at key
   simpa [kr] using key
  | lst ys=>obtain ⟨b,us,rfl,k1,k2⟩:=k;cases r';obtain ⟨js,r2,p2,_⟩:=I.list k1;exact SeqAt.RcNeAt.tuple_list p1 p2.isList hu0
 | lst xs =>
  obtain ⟨a,vs,rfl,h1,h2⟩:=h
  cases r
  obtain ⟨is,r1,p1,_⟩:=I.list h1
  have hu1:A.in1.units + dY xs < cLine:=by
   have e:dep (.lst xs)=dY xs + 1:=by rw [dep]
   rw [e] at hu
   show A.units + 1 + dY xs < cLine
   omega
  cases y with
  | non=>cases k;cases r';exact SeqAt.RcNeAt.list_none p1.isList hu0
  | bl b=>cases k;cases r';exact SeqAt.RcNeAt.list_bool _ p1.isList hu0
  | int b=>cases k;obtain ⟨t,rfl⟩:=r';exact SeqAt.RcNeAt.list_int _ _ p1.isList hu0
  | str b=>cases k;obtain ⟨t,rfl⟩:=r';exact SeqAt.RcNeAt.list_str _ _ p1.isList hu0
  | tup ys=>obtain ⟨b,us,rfl,k1,k2⟩:=k;cases r';obtain ⟨js,r2,p2,_⟩:=I.tuple k1;exact SeqAt.RcNeAt.list_tuple p1.isList p2 hu0
  | lst ys =>
   obtain ⟨b,us,rfl,k1,k2⟩:=k;cases r';obtain ⟨js,r2,p2,_⟩:=I.list k1
   have e1:is.length=xs.length:=by rw [← r1.length,h2.length]
   have e2:js.length=ys.length:=by rw [← r2.length,k2.length]
   have ae:=iC xs ys
   by_cases hl:xs.length=ys.length
   ·have key:=SeqAt.RcNeAt.lists (e:=BQ xs ys) p1.isList p2.isList (by simp only [Rx];omega) hu0 λj q1 q2=>qj I xs ys h2 k2 r1 r2 hu1 j (by simpa using q1) (by simpa using q2)
    simp only [Rx] at key
    rw [hl,T7] at ae
    have e3:(ys.length == ys.length)=true:=by simp
    rw [e3,SN] at ae
    rw [e1,hl,ae] at key
    simpa [kr] using key
   ·have key:=SeqAt.RcNeAt.lists_lengths p1.isList p2.isList (A:=A) (by simp only [Rx];rw [e1,e2];simpa using hl) hu0
    have e3:jC xs ys=false:=by
     rw [← ae]
     have:(xs.length == ys.length)=false:=by simpa using hl
     rw [this,S8]
    simpa [kr,e3] using key
def rP (K:PySem.W.Frag) (f:Bool→Bool):R2:=λv v' H Q=>∃x y:Py,At K H x v∧At K H y v'∧dep x≤60∧Q (.bl (f (kr x y))) H
theorem JV (hu:X.A.units + 61 < cLine):eI X (compareOp .Eq) (rP X.K id):=by
 intro pins s σ H x y v u Q I rx ry h
 obtain ⟨a,b,h1,h2,d,q⟩:=h
 exact PH I a b h1 h2 rx ry (by omega) X.prog X.w X.xe _ ⟨.bl _,H,I,rfl,q⟩
theorem JZ (hu:X.A.units + 61 < cLine):eI X (compareOp .NotEq) (rP X.K not):=by
 intro pins s σ H x y v u Q I rx ry h
 obtain ⟨a,b,h1,h2,d,q⟩:=h
 exact NH I a b h1 h2 rx ry (by omega) X.prog X.w X.xe _ ⟨.bl _,H,I,rfl,q⟩
end
end Ov
namespace Ov
open PySem PySem.Spec PySem.Calls PyProof.Rows PySem.W Builtin.Getset_descriptor
section
variable {prog:Program} {w:World} {A:Around} {E:Value→Shared→Prop} {s:Shared} {K:Frag} {x D:Addr}
structure FV (K:Frag) (D:Addr):Prop where
 cls:(clsIn K D).isSome=true
 ga:findIn K (.ref D) "__getattribute__"=some (some (.builtin "BaseException.__getattribute__"))
 gt:findIn K (.ref D) "__getattr__"=some none
 ca:findIn K (.ref D) "__class__"=some (some (.builtin "object.__class__"))
 get:specialIn K (.builtin "object.__class__") "__get__"=some (some (.builtin "getset_descriptor.__get__"))
 tk:takesIn K (.builtin "object.__class__")=some true
 obj:mroIn K D (.type "object")=some true
 bex:subIn K (.ref D) (.type "BaseException")=some true
theorem FV.at {h:Heap} (Z:FV K D) (X:K.In h):∃c d cd sl,h.get? D=some ⟨c,d,.cls cd,sl⟩:=by
 obtain ⟨cd,q⟩:=To.mp Z.cls
 unfold clsIn at q
 split at q
 ·exact ⟨_,_,_,_,X _ _ (by assumption)⟩
 ·cases q
end
end Ov
namespace Ov
open PySem PySem.Spec PyProof.Rows L2
structure Ab (P:Program) (w:World) (outer:List Env) (H:Hp) (s:Shared) (ea:Addr) (cls:Value) (H':Hp) (s':Shared):Prop where
 os:s'.os=s.os
 bare:AllBare s'.gens
 un:Un (jl outer) [] H H' s.heap s'.heap
 hok:l5 P w H' s'.heap
 fl:∃B t,Heap.FlyingW B outer ea cls (.ref t) s'.heap∧∀b o,s'.heap.get? b=some o→(H' b≠none∨∃o₀,s.heap.get? b=some o₀)→b ∉ jl outer→B.get? b=some o
def cg (P:Program) (w:World):lZ:=λouter H s E e s'=>∃ea cls H',e=.ref ea∧Ab P w outer H s ea cls H' s'∧E cls none H'
theorem Gs {P:Program} {w:World} {H:Hp} {h:Heap} {a:Addr} {o:HO} (x:dD P w H h a o):∃ob,h.get? a=Sf ob:=by
 have lt:=x.lt
 cases o with
 | lst xs=>obtain ⟨_,_,_,_,e⟩:=x;exact ⟨_,e⟩
 | tup xs=>obtain ⟨_,_,_,ob,e,_⟩:=x;exact ⟨_,e⟩
 | dK kvs=>obtain ⟨_,_,_,_,o,_,_,e,_⟩:=x;exact ⟨_,e⟩
 | dE kvs ep=>obtain ⟨_,_,_,_,o,_,e,_⟩:=x;exact ⟨_,e⟩
 | set S n=>obtain ⟨o,_,_,_,e,_⟩:=x;exact ⟨_,e⟩
 | ins C dx fs=>obtain ⟨_,_,_,e,_⟩:=x;exact ⟨_,e⟩
 | own y=>exact x
 | xd fs=>obtain ⟨_,⟨_,_,_,e,_⟩,_⟩:=x;exact ⟨_,e⟩
 | Lq lo hi=>obtain ⟨_,_,_,e⟩:=x;exact ⟨_,e⟩
 | n6 ob u=>obtain ⟨e,_⟩:=x;exact ⟨_,e⟩
 | tbl ps=>exact ⟨_,x⟩
 | met f y=>exact ⟨_,x⟩
 | ext φ=>obtain ⟨_,e,_⟩:=x;exact e
section
variable {X:Cx} {pins:List (Addr × Obj)} {σ:L2.St} {H H':Hp} {s:Shared} {ea t:Addr} {cls:Value} {B h1 h2:Heap}
theorem jE (I:Inv X pins σ H s) (un:Un (jl X.stack) [] H H' s.heap h1) {b:Addr} (hb:b∈jl X.stack):H' b=none∧∃o,h1.get? b=some o∧∀vs,o.data≠.fields vs:=by
 obtain ⟨_,o,ho,hn⟩:=I.stack.mem hb
 have n:=I.wN b hb
 obtain ⟨sl,e⟩:=un.any ho n (by simp)
 exact ⟨un.free b o ho n (by simp),_,e,hn⟩
theorem Aw (I:Inv X pins σ H s) (un:Un (jl X.stack) [] H H' s.heap h1) (cov:∀b o,h1.get? b=some o→(H' b≠none∨∃o₀,s.heap.get? b=some o₀)→b ∉ jl X.stack→B.get? b=some o)
  (hB:B.StaysIn h2) (up:h1.UpToSlots h2):Un (jl X.stack) [] H H' s.heap h2 where
 keep:=λb o e n hb hx=>hB b o (cov b o (un.keep b o e n hb hx) (.inr ⟨o,e⟩) hb)
 slot:=λb o e n hb hx=>by
  obtain ⟨sl,e1⟩:=un.slot b o e n hb hx
  obtain ⟨_,o',e2,hn⟩:=jE I un hb
  rw [e1] at e2;cases e2
  obtain ⟨sl',e3⟩:=up b _ e1 hn
  exact ⟨sl',e3⟩
 free:=un.free
 there:=λb o e hx=>by
  obtain ⟨o',e1⟩:=un.there b o e hx
  by_cases hb:b∈jl X.stack
  ·obtain ⟨_,o2,e2,hn⟩:=jE I un hb
   obtain ⟨sl',e3⟩:=up b _ e2 hn
   exact ⟨_,e3⟩
  ·exact ⟨o',hB b o' (cov b o' e1 (.inr ⟨o,e⟩) hb)⟩
 tups:=un.tups
 frzs:=un.frzs
 tbls:=un.tbls
theorem Av (I:Inv X pins σ H s) (un:Un (jl X.stack) [] H H' s.heap h1) (cov:∀b o,h1.get? b=some o→(H' b≠none∨∃o₀,s.heap.get? b=some o₀)→b ∉ jl X.stack→B.get? b=some o)
  (hB:B.StaysIn h2) (ok:l5 X.prog X.w H' h1):l5 X.prog X.w H' h2:=λa o e=>by
 have nf:∀b u,H' b=some u→b ∉ jl X.stack:=λb u q hb=>by
  have:=(jE I un hb).1
  rw [q] at this;cases this
 refine (ok a o e).lX (λb u hb q=>?_) (λ_ q=>q) λ_ _ q=>q
 rcases hb with rfl | hb
 ·exact hB _ _ (cov _ _ q (.inl (by rw [e];exact λz=>nomatch z)) (nf _ _ e))
 ·exact hB _ _ (cov _ _ q (.inl (by rw [hb];exact λz=>nomatch z)) (nf _ _ hb))
theorem C9 (un:Un (jl X.stack) [] H H' s.heap h1) (ok:l5 X.prog X.w H' h1) (cov:∀b o,h1.get? b=some o→(H' b≠none∨∃o₀,s.heap.get? b=some o₀)→b ∉ jl X.stack→B.get? b=some o) (hB:B.StaysIn h2) :
  ∀b o,h2.get? b=some o→(H' b≠none∨∃o₀,s.heap.get? b=some o₀)→b ∉ jl X.stack→B.get? b=some o:=λb o e hb nb=>by
 have:∃o1,h1.get? b=some o1:=by
  rcases hb with z | ⟨o₀,z⟩
  ·cases q:H' b with
   | none=>exact absurd q z
   | some u=>exact Gs (ok b u q)
  ·exact un.there b o₀ z (by simp)
 obtain ⟨o1,e1⟩:=this
 have c:=cov b o1 e1 hb nb
 have:=hB b o1 c
 rw [e] at this;cases this
 exact c
theorem Ao {s2:Shared} (I:Inv X pins σ H s) (hst:X.stack=X.env :: X.outer) (hfr:X.env.frame=some X.env.locals) (hex:X.ex=[]) (os:s2.os=s.os) (bare:AllBare s2.gens) (un:Un (jl X.stack) [] H H' s.heap s2.heap)
  (ok:l5 X.prog X.w H' s2.heap) (cov:∀b o,s2.heap.get? b=some o→(H' b≠none∨∃o₀,s.heap.get? b=some o₀)→b ∉ jl X.stack→B.get? b=some o) (fl:Heap.FlyingW B X.outer ea cls (.ref t) s2.heap) :
  Ab X.prog X.w X.outer X.H₀ X.s₀ ea cls H' s2:=by
 have nst:∀b o,X.s₀.heap.get? b=some o→b ∉ X.fs→b ∉ jl X.stack:=λb o e nb hb=>by
  rcases RM.mp (I.oP b hb) with z | z
  ·have:=RP (Heap.lt_size e) I.ok.above
   rw [z] at this
   exact Sv _ this
  ·exact nb z
 have sub:∀b,b∈X.fs→b∈jl X.stack:=λb hb=>by rw [hst];unfold jl;rw [Su,hfr];exact R3 _ hb
 have nx:∀b:Addr,b ∉ X.ex:=λb=>by rw [hex];simp
 refine ⟨os.trans I.os,bare,⟨λb o e n hb _=>?_,λb o e n hb _=>?_,λb o e n _=>?_,λb o e _=>?_,λb xs q=>un.tups b xs (I.base.tups b xs q),λb o xs q=>un.frzs b o xs (I.base.frzs b o xs q),λb ps q=>?_⟩,ok,B,t,fl,λb o e hb nb=>?_⟩
 ·exact un.keep b o (I.base.keep b o e n hb (nx b)) (I.base.free b o e n (nx b)) (nst b o e hb) (by simp)
 ·obtain ⟨sl,e1⟩:=I.base.slot b o e n hb (nx b)
  obtain ⟨sl',e2⟩:=un.slot b _ e1 (I.base.free b o e n (nx b)) (sub b hb) (by simp)
  exact ⟨sl',e2⟩
 ·obtain ⟨o',e1⟩:=I.base.there b o e (nx b)
  exact un.free b o' e1 (I.base.free b o e n (nx b)) (by simp)
 ·obtain ⟨o',e1⟩:=I.base.there b o e (nx b)
  exact un.there b o' e1 (by simp)
 ·obtain ⟨m1,e1⟩:=I.base.tbls b ps q
  obtain ⟨m2,e2⟩:=un.tbls b _ e1
  exact ⟨m1 ++ m2,by rw [e2,Array.append_assoc]⟩
 ·rcases hb with z | ⟨o₀,z⟩
  ·exact cov b o e (.inl z) λhb=>z (jE I un hb).1
  ·obtain ⟨o1,e1⟩:=I.base.there b o₀ z (nx b)
   exact cov b o e (.inr ⟨o1,e1⟩) (nst b o₀ z nb)
theorem B2 {E:XK} {e:Value} {s':Shared} {R:Value→Shared→Prop} (I:Inv X pins σ H s) (hst:X.stack=X.env :: X.outer) (hfr:X.env.frame=some X.env.locals) (hex:X.ex=[]) (h:cg X.prog X.w X.stack H s E e s') :
  wpAny (model X.prog X.w) X.A (leaving X.env e) (λ_ s''=>cg X.prog X.w X.outer X.H₀ X.s₀ E e s'') R s':=by
 obtain ⟨ea,cls,H',rfl,F,q⟩:=h
 obtain ⟨B,t,fl,cov⟩:=F.fl
 refine wpAny_leaves_onW (by rw [I.ok.frames,hst]) hfr (hst ▸ fl) λh2 fl2 up=>?_
 exact ⟨ea,cls,H',rfl,Ao (s2:={ s' with heap:=h2 }) I hst hfr hex F.os F.bare (Aw I F.un cov fl2.1 up) (Av I F.un cov fl2.1 F.hok) (C9 F.un F.hok cov fl2.1) fl2,q⟩
theorem leave_new {E:XK} {e C:Addr} {args:List Value} {h':Heap} {R:Value→Shared→Prop} (I:Inv X pins σ H s) (hst:X.stack=X.env :: X.outer) (hfr:X.env.frame=some X.env.locals) (hex:X.ex=[])
  (hx:Heap.MadeExcOf s.heap h' e (.ref C) args) (q:E (.ref C) none H) :
  wpAny (model X.prog X.w) X.A (leaving X.env (.ref e)) (λ_ s''=>cg X.prog X.w X.outer X.H₀ X.s₀ E (.ref e) s'') R { s with heap:=h' }:=by
 have hin:∀env∈X.env :: X.outer,∀a,env.frame=some a→a∈jl X.stack:=λenv he a ha=>by rw [hst];exact SX.mpr ⟨env,he,ha⟩
 have cov:∀b o,s.heap.get? b=some o→(H b≠none∨∃o₀,s.heap.get? b=some o₀)→b ∉ jl X.stack→(PySem.W.hideAll s.heap (jl X.stack)).get? b=some o:=λb o e _ nb=>PySem.W.hideAll_get _ e nb
 refine wpAny_leaves_madeW (base:=PySem.W.hideAll s.heap (jl X.stack)) (by rw [I.ok.frames,hst]) hfr (λb o z=>PySem.W.of_hideAll _ z) (PySem.W.funFrames_hide (hst ▸ I.stack) hin) hx λh2 t fl _ _ up=>?_
 have up2:s.heap.UpToSlots h2:=(Heap.UpToSlots.of_keeps hx.keeps).trans up
 exact ⟨e,.ref C,H,rfl,Ao (s2:={ s with heap:=h2 }) I hst hfr hex rfl I.bare (Aw I Un.refl cov fl.1 up2) (Av I Un.refl cov fl.1 I.hok) (C9 Un.refl I.hok cov fl.1) fl,q⟩
end
abbrev OH:List Value:=[.type "ValueError",.type "Exception",.type "BaseException",.type "object"]
structure Own (K:PySem.W.Frag) (mg:Str→Option Value) (x:Str) (C:Addr):Prop where
 mg:mg x=some (.ref C)
 own:PySem.W.excIn K C OH "ValueError.__new__"=true
 xc:FV K C
theorem GJ {K:PySem.W.Frag} {h:Heap} {C:Addr} {bmB:List Value} {newId:String} (X:K.In h) (q:PySem.W.excIn K C bmB newId=true) :
  ∃bm N nm qn bs hd sn sub ab col dd k0 k1 k2 k3 k5 mN,h.get? C=some (excClassObj nm qn C N bs bm hd sn sub ab col dd k0 k1 k2 k3 k5 newId)∧h.Ns N mN∧mN "__init__"=none∧OwnTail h bmB bm:=by
 unfold PySem.W.excIn at q
 split at q
 ·next dd cd sl ho =>
  split at q
  ·next C' bm k0 k1 k2 k3 n k5 hm hs =>
   simp only [beq_iff_eq,R7,T2] at q
   obtain ⟨⟨⟨⟨⟨rfl,rfl⟩,e3⟩,e4⟩,e5⟩,e6⟩:=q
   cases cd with
   | mk nm bs mro ns qn hd sn sub ab col del =>
    have hm:mro=.ref C' :: bm:=hm
    have e3:del=false:=e3
    subst hm;subst e3
    have hsl:sl=#[k0,k1,k2,k3,some (.builtin n),k5]:=Array.toList_inj.mp hs
    subst hsl
    exact ⟨bm,ns,nm,qn,bs,hd,sn,sub,ab,col,dd,k0,k1,k2,k3,k5,_,X _ _ ho,.of_isNs (PySem.W.isNs_of_in X e5),PySem.W.nsMap_none_of_in X e5 e6,PySem.W.tail_of_in X e4⟩
  ·cases q
 ·cases q
def K0 (C:Addr) (E:XK) (t:TA):TS:=λ_ σ H=>t σ H λvs H1=>vs.length≤sizeLine∧E (.ref C) none H1
def Throws (X:Cx) (E:XK):Prop:=∀(pins:List (Addr × Obj)) (σ:L2.St) (H:Hp) (s:Shared) (e C:Addr) (args:List Value) (h':Heap),Inv X pins σ H s→Heap.MadeExcOf s.heap h' e (.ref C) args→E (.ref C) none H→X.xe (.ref e) { s with heap:=h' }
theorem Ct {X:Cx} {E:XK} {x:Str} {C:Addr} {e:Expr} {es:List Expr} {np cpos pos:Pos} {t:TA} (O:Own X.K X.mg x C) (hc:X.calm=true) (hx:Throws X E) (hg:Gl X x) (ha:PA X (e :: es) t)
  (hd:(x == ("__debug__":Str))=false:=by decide) (he:starEach (e :: es) X.env=(false,eval e X.env) :: starEach es X.env:=by rfl) (hpl:(backTo cpos (starEach es X.env)).any (·.1)=false:=by rfl) :
  PS X (.Raise (some (.Call (.Name x np) (e :: es) [] cpos)) none pos) (K0 C E t):=by
 intro pins s σ H D I h
 obtain ⟨bm,N,nm,qn,bs,hd',sn,sub,ab,col,dd,k0,k1,k2,k3,k5,mN,hC,hN,hni,T⟩:=GJ I.mod.kin O.own
 have hplain:(backTo cpos (starEach (e :: es) X.env)).any (·.1)=false:=by
  rw [he]
  show (false || (backTo cpos (starEach es X.env)).any (·.1))=false
  rw [hpl];rfl
 refine wpAny_Raise_call_subT (C:=C) (N:=N) (nm:=nm) (q:=qn) (bs:=bs) (hdct:=hd') (sn:=sn) (sub:=sub) (ab:=ab) (col:=col) (dd:=dd) (k0:=k0) (k1:=k1) (k2:=k2) (k3:=k3) (k5:=k5) PySem.F.excBase_ValueError (T.hasType (by decide +kernel)) (I.ok.hd hc) hplain hni ?_
 refine mI I hg O.mg ⟨rfl,?_⟩ hd
 have key:=cf (ha cpos pins s σ H _ I h) (Q':=λus s1=>us.length≤sizeLine∧s1.heap.get? C=some (excClassObj nm qn C N bs bm hd' sn sub ab col dd k0 k1 k2 k3 k5 "ValueError.__new__")∧s1.heap.Ns N mN∧OwnTail s1.heap OH bm ∧
  ∀h' e,Heap.MadeExcOf s1.heap h' e (.ref C) us→X.xe (.ref e) { s1 with heap:=h' }) λus s1 ⟨vs,H1,I1,r,z,q⟩ =>
   ⟨by rw [← r.length];exact z,I1.bk _ _ hC,hN.keeps I1.bk,T.keeps I1.bk,λh' ea hm=>hx pins σ H1 s1 ea C us h' I1 hm q⟩
 rw [he] at key ⊢
 exact PySem.Calls.evalArgs_plain (cf key λ_ _ z=>⟨rfl,z⟩)
section
variable {P:Program} {w:World} {K:PySem.W.Frag} {mg:Str→Option Value} {base:Heap} {N:List Str} {qual:Str} {scope:Scope} {f:Addr} {cd:Value} {A:Around} {outer:List Env} {s:Shared} {H:Hp} {E:XK}
abbrev wV (P:Program) (w:World) (K:PySem.W.Frag) (mg:Str→Option Value) (base:Heap) (N:List Str) (qual:Str) (scope:Scope) (f:Addr) (cd:Value) (A:Around) (outer:List Env) (s:Shared) (H:Hp) (E:XK):Cx:=yM (cg P w) P w K mg base N qual scope f cd A outer s H E
theorem cA:Throws (wV P w K mg base N qual scope f cd A outer s H E) E:=λpins σ H1 s1 e C args h' I hm q =>
 leave_new (X:=wV P w K mg base N qual scope f cd A outer s H E) I rfl rfl rfl hm q
theorem qg:Passes (cg P w) (wV P w K mg base N qual scope f cd A outer s H E) E:=λpins σ H1 s1 e s' I h =>
 B2 (X:=wV P w K mg base N qual scope f cd A outer s H E) I rfl rfl rfl h
theorem bq:PassesOwn (model P w) (wV P w K mg base N qual scope f cd A outer s H E).A (wV P w K mg base N qual scope f cd A outer s H E).env (wV P w K mg base N qual scope f cd A outer s H E).xe:=PassesOwn.leaving
theorem Ri {x qual:Str} {st:Stmt} {f:Addr} {fd:FuncData} {N ps:List Str} {k:Nat} {sp:Sp} (F:bP K x qual st f fd) (S:aw N ps (aq st)) (len:∀vs H Q E,sp vs H Q E→vs.length=ps.length)
  (hbody:∀(cdv:Value) (A:Around) (outer:List Env) (s:Shared) (H:Hp) (vs:List V) (Q:VK) (E:XK),bC k (A.deeper (envOfC qual (aq st) s.heap.objs.size f cdv))→sp vs H Q E →
   ∃t,QB (wV P w K mg base N qual (aq st) f cdv A outer s H E) (bQ st) t∧t { nx:=λ_ H'=>Q .non H',rt:=Q } (start N vs) H):aH P w K mg base (cg P w) (k + 1) f fd ps sp:=by
 obtain ⟨oc,od,kV,doc,pm,an,cdv,ct,osl,rfl,lk,hcd⟩:=F.ex
 refine Dp lk hcd S len λA outer s H vs Q E hr hsp=>?_
 obtain ⟨t,h,q⟩:=hbody cdv A outer s H vs Q E hr hsp
 exact ⟨t,h.run,q⟩
end
def IK (P:Program) (w:World) (K:PySem.W.Frag) (mg:Str→Option Value) (base:Heap) (k:Nat) (x:Str) (ps:List Str) (sp:Sp):Prop :=
 ∃f fd,aH P w K mg base (cg P w) k f fd ps sp∧Binds K fd ps []∧PySem.W.keepIn K (.ref f)=true∧mg x=some (.ref f)
theorem GL {X:Cx} {k k':Nat} {x:Str} {ps:List Str} {sp:Sp} {p pos:Pos} {e:Expr} {es:List Expr} {t:TA} {E:XK} (C:IK X.prog X.w X.K X.mg X.base k x ps sp) (hx:Passes (cg X.prog X.w) X E) (hr:bC k' X.A) (hk:k≤k') (hg:Gl X x) (ha:PA X (e :: es) t)
  (hdb:(x == ("__debug__":Str))=false:=by decide) (he:starEach (e :: es) X.env=(false,eval e X.env) :: starEach es X.env:=by rfl) (hpl:(backTo pos (starEach es X.env)).any (·.1)=false:=by rfl) :
  PE X (.Call (.Name x p) (e :: es) [] pos) (Bt sp [] E t):=by
 obtain ⟨f,fd,F,b,kp,m⟩:=C
 exact GK F (hr.mono hk) hg m kp b .nil hx ha hdb he hpl
theorem Def.OJ {P:Program} {w:World} {K:PySem.W.Frag} {mg:Str→Option Value} {base:Heap} {x:Str} {st:Stmt} {k:Nat} {ps:List Str} {sp:Sp} (D:Def K mg x st)
  (h:∀f fd,bP K x x st f fd→aH P w K mg base (cg P w) k f fd ps sp)
  (hb:∀(kV doc pm:Value) (an:Option Addr) (cdv ct:Value) (us:List Value),us.length=ps.length→bindArgs (PySem.W.fnOf x x (du st) (bQ st) (aq st) .none kV doc pm an cdv ct) ⟨us,[]⟩=pure (ps.zip us)) :
  IK P w K mg base k x ps sp:=by
 obtain ⟨f,fd,F,m⟩:=D
 exact ⟨f,fd,h f fd F,F.binds hb,F.kp,m⟩
section
variable {X:Cx} {pins pn:List (Addr × Obj)} {σ:L2.St} {H H':Hp} {s:Shared}
theorem Ab.new {ea:Addr} {cls:Value} {s':Shared} (I:Inv X pins σ H s) (F:Ab X.prog X.w X.stack H s ea cls H' s'):H' ea=none∧s.heap.get? ea=none:=by
 obtain ⟨B,t,fl,cov⟩:=F.fl
 obtain ⟨oe,vs,he,_,hd,_⟩:=fl.first
 have nf:ea ∉ jl X.stack:=λhb=>by
  obtain ⟨_,o,ho,hn⟩:=jE I F.un hb
  rw [he] at ho;cases ho
  exact hn vs hd
 have no:¬ (H' ea≠none∨∃o₀,s.heap.get? ea=some o₀):=λz=>by
  have:=cov ea oe he z nf
  rw [fl.2.1] at this;cases this
 refine ⟨?_,?_⟩
 ·cases q:H' ea with
  | none=>rfl
  | some u=>exact absurd (.inl (by rw [q];exact λz=>nomatch z)) no
 ·cases q:s.heap.get? ea with
  | none=>rfl
  | some u=>exact absurd (.inr ⟨u,q⟩) no
end
end Ov
namespace Ov
open PySem PySem.Spec PyProof.Rows
open L2 (V HO Hp Inv Cx St VK TE TT TA TS Ends Loc Gl RelV Vals eI bJ Bt upd E0 bC XK Passes)
section
variable {X:Cx} {e:Expr} {es:List Expr} {t:TA} {x:Str} {np cpos pos p:Pos}
end
open PySem.W in
def Fn (K:Frag) (D:Addr):Bool:=(clsIn K D).isSome && findIn K (.ref D) "__getattribute__" == some (some (.builtin "BaseException.__getattribute__")) && findIn K (.ref D) "__getattr__" == some none &&
 findIn K (.ref D) "__class__" == some (some (.builtin "object.__class__")) && specialIn K (.builtin "object.__class__") "__get__" == some (some (.builtin "getset_descriptor.__get__")) && takesIn K (.builtin "object.__class__") == some true &&
 mroIn K D (.type "object") == some true && subIn K (.ref D) (.type "BaseException") == some true
theorem HC {K:PySem.W.Frag} {D:Addr} (h:Fn K D=true):FV K D:=by
 simp only [Fn,R7,beq_iff_eq] at h
 obtain ⟨⟨⟨⟨⟨⟨⟨a,b⟩,c⟩,d⟩,e⟩,f⟩,g⟩,i⟩:=h
 exact ⟨a,b,c,d,e,f,g,i⟩
open L2 (CA Hs Bu CB K4 tC KP ub)
theorem _root_.L2.bC.aV {k:Nat} {A:Around} (r:bC k A):A.units + 61 < cLine:=by have:=r.un;omega
end Ov
namespace Ov
open PySem PySem.Spec PyProof.Rows L2
def eJ (P:Addr) (h:Heap):Prop:=∃ps:Array Value,h.get? P=some { cls:=.none,data:=.fields ps }∧TriplesOk ps.toList
def tP (K:PySem.W.Frag) (c P:Addr):Prop:=c≠P∧∃(o:Obj) (vs:Array Value) (file:Str) (tf:Tok) (flags:Int) (tg:Tok) (inF:Bool) (text:Int) (tt:Tok),
 K.lookup c=some o∧o.cls=.type "code"∧o.data=.fields vs∧vs[11]?=some (.ref P)∧vs.getD 18 .none=.str file tf∧vs.getD 7 .none=.int flags tg∧vs.getD 9 .none=.bool inF∧vs.getD 10 .none=.int text tt
def BMain (mg:Str→Option Value) (h:Heap):Prop:=∃bm ob,mg "__builtins__"=some (.ref bm)∧bm≠builtinsNs∧h.get? bm=some ob∧ob.cls=.type "module"∧ob.dict=some builtinsNs∧ob.data=.plain
theorem tP.at {K:PySem.W.Frag} {h:Heap} {c P:Addr} {ps:Array Value} (Z:tP K c P) (X:K.In h) (hp:h.get? P=some { cls:=.none,data:=.fields ps }) (tr:TriplesOk ps.toList):h.IsCode c P ps∧h.TableAt c P ps:=by
 obtain ⟨ne,o,vs,file,tf,flags,tg,inF,text,tt,lk,hc,hd,h11,h18,h7,h9,h10⟩:=Z
 have e11:vs.getD 11 .none=.ref P:=by
  rw [Array.getD_eq_getD_getElem?,h11];rfl
 exact ⟨⟨o,vs,file,tf,flags,tg,inF,text,tt,_,X _ _ lk,hd,e11,h18,h7,h9,h10,hp,rfl,tr,ne⟩,⟨o,vs,X _ _ lk,hc,hd,h11⟩,hp⟩
section
variable {X:Cx} {pins:List (Addr × Obj)} {σ:L2.St} {H:Hp} {s:Shared} {c P:Addr}
theorem F_ {s':Shared} (I:Inv X pins σ H s) (hP:H P=some (.ext (eJ P))) (os:s'.os=s.os) (bare:AllBare s'.gens) (k:∀b o,b≠P→s.heap.get? b=some o→s'.heap.get? b=some o) (t:eJ P s'.heap):Inv X pins σ H s':=by
 have nP:∀b,H b=none→b≠P:=λb n z=>by rw [z,hP] at n;cases n
 have hok:l5 X.prog X.w H s'.heap:=λb u e=>by
  by_cases hb:b=P
  ·subst hb
   rw [hP] at e;cases e
   obtain ⟨ps,hp,_⟩:=id t
   exact ⟨t,⟨_,hp⟩,((I.hok b _ hP)).2.2⟩
  ·refine (I.hok b u e).lX (λd v hd q=>k d v ?_ q) (λ_ q=>q) λ_ _ q=>q
   rcases hd with rfl | hd
   ·exact hb
   ·intro z
    rw [z,hP] at hd;cases hd
 have un:Un (jl X.stack) [] H H s.heap s'.heap:=⟨λb o e n _ _=>k b o (nP b n) e,λb o e n _ _=>⟨o.slots,k b o (nP b n) e⟩,λ_ _ _ n _=>n,λb o e _=>by
  by_cases hb:b=P
  ·subst hb
   obtain ⟨ps,hp,_⟩:=t
   exact ⟨_,hp⟩
  ·exact ⟨o,k b o hb e⟩,λ_ _ q=>q,λ_ _ _ q=>q,λ_ ps q=>⟨#[],by rw [q];simp⟩⟩
 exact I.LW os un hok bare λb z=>absurd z (by simp)
theorem Dv {M:Model} {A:Around} {E:Value→Shared→Prop} {env:Env} {pos:Pos} {q:Str} {sc:Scope} {Q:Value→Shared→Prop} {s:Shared} (hc:env.code=.ref c) (Z:tP X.K c P) (kin:X.K.In s.heap) (t:eJ P s.heap)
  (h:∀code h' tk,(∀b o,b≠P→s.heap.get? b=some o→h'.get? b=some o)→s.heap.objs.size≤h'.objs.size→eJ P h'→Q code { s with heap:=h',toks:=tk }):wpAny M A (genexprCode env pos q sc) Q E s:=by
 obtain ⟨ps,hp,tr⟩:=t
 obtain ⟨ic,ta⟩:=Z.at kin hp tr
 cases hf:codeAmong pos ps.toList with
 | some c'=>exact wpAny_genexprCode_hit hc ic hf (h c' s.heap s.toks (λ_ _ _ e=>e) (Rz _) ⟨ps,hp,tr⟩)
 | none =>
  refine wpAny_genexprCodeX hc ic ta hf λc' h' tk ext l1 l2 ic' _ ta' _=>h _ h' tk (λb o nb e=>ext b o nb e) (Tg (Se l1 l2)) ⟨_,ta'.2,?_⟩
  obtain ⟨_,_,_,_,_,_,_,_,_,_,_,_,_,_,_,_,_,hop,hpd,tr',_⟩:=ic'
  exact tr'
theorem C4 {α:Type} (B:List α) (q:α→Bool):((SJ B.length).all λj=>(B[j]?).elim true q)=B.all q:=by
 rw [Ud,S_,S_]
 refine ⟨λh b hb=>?_,λh j hj=>?_⟩
 ·obtain ⟨j,hj,rfl⟩:=Sk hb
  have:=h j (S6.mpr hj)
  rwa [Rt hj] at this
 ·have hj:=S6.mp hj
  rw [Rt hj]
  exact h _ (RZ hj)
def eG (tx:Str) (ch:Nat):Bool:=!(Builtin.Str.occurrences tx ⟨#[ch]⟩ 0 tx.length 1).isEmpty
def KN (P:Addr) (tx:Str) (ti:TE):TE:=λσ H Q=>ti σ H λv H1=>∃y:Str,v=.str y∧H1 P=some (.ext (eJ P))∧Q (.bl (y.cps.toList.all (eG tx))) H1
theorem EB {prog:Program} {w:World} {env:Env} {scope:Scope} {x g:Str} {tx y:Str} {tt:Tok} {C:Addr} {code:Value} {fp wr:List Addr} {href:Heap} {D U:Nat} {p1 p2 p3:Pos} {mg:Str→Option Value} (sck:scope.kind=.function) (hx:scope.names.lookup x=some .local) (hg:scope.names.lookup g=some .globalImplicit)
  (ns:href.Ns env.globals mg) (hm:mg g=some (.str tx tt)) (h1:env.globals∈fp) (h2:env.globals ∉ wr) (hmk:behindInMarks .In (.Name g p2)=false) (hdx:(x == ("__debug__":Str))=false) (hdg:(g == ("__debug__":Str))=false) :
  QuietGenD prog w (genEnv scope [] C code builtinsNs env) x [] (.Compare (.Name x p1) [.In] [.Name g p2] p3) fp wr (SignAt y) (λ_=>true) (λi v=>∃ch,y.cps[i]?=some ch∧v=.bool (eG tx ch)) href D U where
 tests:=λA' E' i v s₂ m₂ _ _ _ _ _ _ _=>wpAny_pure ⟨rfl,_,_,rfl,λ_ _ e=>e⟩
 elt:=λA' E' i v s₂ m₂ _ _ _ hP _ hn hmx hk=>by
  obtain ⟨ch,u,hch,rfl⟩:=hP
  refine wpAny_Compare1 (wpAny_Name (wpAny_loadName_local (show (genEnv scope [] C code builtinsNs env).scope.kind=.function from sck) (show (genEnv scope [] C code builtinsNs env).kindOf x=some .local from hx) hn hmx ?_) hdx) hmk
  refine Calls.Name_function_global (show (genEnv scope [] C code builtinsNs env).scope.kind=.function from sck) (show (genEnv scope [] C code builtinsNs env).kindOf g=some .globalImplicit from hg) (Calls.loadGlobal_global (ns.at' λo e=>hk _ h1 h2 o e) hm ?_) hdg
  exact in_str ⟨⟨ch,hch,rfl⟩,_,_,rfl,λ_ _ e=>e⟩
theorem Cq {x g:Str} {p px p1 p2 p3 gpos cpos:Pos} {iter:Expr} {ti:TE} {scope:Scope} {tx:Str} {tt:Tok} (hcalm:X.calm=true) (Bm:BMain X.mg X.base) (hcode:X.env.code=.ref c) (Z:tP X.K c P) (hdep:X.A.depth < recursionLimit)
  (hgl:Gl X "all") (hma:X.mg "all"=none) (hsg:X.mg g=some (.str tx tt)) (hi:PE X iter ti) (sck:scope.kind=.function) (hco:scope.isCoroutine=false) (hclos:closureFor scope X.env=pure []) (hcell:∀y∈scope.names,y.2≠.cell)
  (h0:scope.names.lookup (".0":Str)=some NameKind.local) (hx:scope.names.lookup x=some .local) (hsc:scope.names.lookup g=some .globalImplicit) (hmk:behindInMarks .In (.Name g p2)=false) (hs:∀x,genFold iter X.env x=pure x)
  (hst:starEach [.GeneratorExp (.Compare (.Name x p1) [.In] [.Name g p2] p3) [⟨.Name x px,iter,[],0⟩] scope gpos] X.env=[(false,eval (.GeneratorExp (.Compare (.Name x p1) [.In] [.Name g p2] p3) [⟨.Name x px,iter,[],0⟩] scope gpos) X.env)])
  (hdx:(x == ("__debug__":Str))=false) (hdg:(g == ("__debug__":Str))=false) :
  PE X (.Call (.Name "all" p) [.GeneratorExp (.Compare (.Name x p1) [.In] [.Name g p2] p3) [⟨.Name x px,iter,[],0⟩] scope gpos] [] cpos) (KN P tx ti):=by
 intro pins s σ H Q I h
 refine wpAny_Call_Name_kw (oa I hgl hma PyProof.Rows.Boot.«all» ?_)
 refine PyProof.Rows.callWith_builtin1 ?_ hst rfl
 rw [hst]
 show wpAny _ _ (spliced ((false,eval (.GeneratorExp (.Compare (.Name x p1) [.In] [.Name g p2] p3) [⟨.Name x px,iter,[],0⟩] scope gpos) X.env) :: [])) _ _ s
 refine Calls.spliced_cons ?_
 refine wpAny_GeneratorExp_walksQD (I.ok.hd hcalm) hco hclos hcell h0 hx sck hdep ?_ hs
 refine cf (hi pins s σ H _ I h) λxv s1 ⟨v,H1,I1,r1,y,ev,hP,q⟩=>?_
 subst ev
 obtain ⟨ty,rfl⟩:=r1
 have t1:eJ P s1.heap:=(I1.hok P _ hP).1
 have ltP:P < s1.heap.objs.size:=I1.hok.lt hP
 refine wpAny_pyIter_str λo St W st0=>?_
 have k1:∀b ob,s1.heap.get? b=some ob→(s1.heap.push o).get? b=some ob:=λb ob e=>Heap.get?_push_of_some _ e
 refine ⟨I1.nolimit.keeps k1,?_⟩
 have t2:eJ P (s1.heap.push o):=let ⟨ps,hp,tr⟩:=t1;⟨ps,k1 _ _ hp,tr⟩
 refine Dv (X:=X) (s:={ s1 with heap:=s1.heap.push o }) hcode Z (I1.mG.keeps k1) t2 λcode h' tk k sz t'=>?_
 have kk:∀b ob,b≠P→s1.heap.get? b=some ob→h'.get? b=some ob:=λb ob nb e=>k b ob nb (k1 b ob e)
 have nsP:∀(b:Addr) (m:Str→Option Value),s1.heap.Ns b m→b≠P:=λb m hn z=>by
  obtain ⟨ob,es,ep,ho,hd,_⟩:=hn
  obtain ⟨ps,hp,_⟩:=t1
  rw [z,hp] at ho;cases ho;cases hd
 have nsK:∀(b:Addr) (m:Str→Option Value),s1.heap.Ns b m→h'.Ns b m:=λb m hn=>hn.at' λob e=>kk b ob (nsP b m hn) e
 have nsG:s1.heap.Ns X.env.globals X.mg:=by rw [I1.ok.glob];exact I1.mod.glob.keeps I1.bk
 have nl:h'.NoLimit:=let ⟨mc,h1,h2⟩:=I1.nolimit;⟨mc,nsK _ _ h1,h2⟩
 have ltC:cStatics < s1.heap.objs.size:=let ⟨mc,h1,_⟩:=I1.nolimit;h1.lt
 have szI:s1.heap.objs.size < h'.objs.size:=RP (by rw [Heap.size_push];exact SU _) sz
 obtain ⟨bm,ob,b1,b2,b3,b4,b5,b6⟩:=Bm
 have b3':=I1.bk _ _ b3
 have nbm:bm≠P:=λz=>by
  obtain ⟨ps,hp,_⟩:=t1
  rw [z,hp] at b3'
  rw [← Option.some.inj b3'] at b6;cases b6
 refine wpAny_builtinsFor (nsK _ _ nsG) b1 b2 (kk _ _ nbm b3') b4 b5 b6 ?_
 refine ⟨s1.heap.objs.size,[s1.heap.objs.size],[s1.heap.objs.size],y.cps.size,SignAt y,St,λ_=>true,λi v=>∃ch,y.cps[i]?=some ch∧v=.bool (eG tx ch),rfl,W,
  (W X.A (I.ok.hd hcalm)).frame _ _ _ st0 λb hb o' e=>k b o' (by rw [RF.mp hb];exact Tw ltP) e,λb hb=>by rw [RF.mp hb];exact szI,nl,
  λhb=>R1 ltC (RF.mp hb),λhref kh=>EB sck hx hsc ((nsK _ _ nsG).keeps kh) hsg (S6.mpr (nsK _ _ nsG).lt) (λhb=>R1 nsG.lt (RF.mp hb)) hmk hdx hdg,λa h5 tk5 gs hgs ltA szA k5 WS G=>?_⟩
 refine Calls.spliced_nil ?_
 have pall:passing (λ_=>true) y.cps.size 0=SJ y.cps.size:=by simp [passing]
 have WS:=WS.in4_1
 refine call_all_walkS (WS.self 0 _ _ _ G ⟨a,_,_,_,_,_,_,(λj=>(y.cps.toList[j]?).elim true (eG tx)),rfl,WS,G,λj v s Q E hv hQ=>?_,λs' hm=>?_⟩)
 ·obtain ⟨i,hi,ch,hch,rfl⟩:=hv
  rw [pall] at hi
  have hji:i=j:=by
   obtain ⟨hj,e⟩:=Rv.mp hi
   simpa using e.symm
  subst hji
  have e:y.cps.toList[i]?=some ch:=by simpa using hch
  simp only [e,Option.elim] at hQ
  exact wpAny_truthy_bool hQ
 ·have nwr:∀b,b < s1.heap.objs.size→b ∉ h'.objs.size :: [s1.heap.objs.size]:=λb hb hm=>by
   rcases RM.mp hm with z | z
   ·omega
   ·have:=RF.mp z
    omega
  refine ⟨.bl _,H1,F_ I1 hP hm.os ((I1.bare.push hgs).movedS hm) (λb o' nb e=>hm.heap b o' (nwr b (Heap.lt_size e)) (k5 b o' (kk b o' nb e))) ?_,rfl,?_⟩
  ·obtain ⟨ps,hp,tr⟩:=t'
   exact ⟨ps,hm.heap P _ (nwr P ltP) (k5 P _ hp),tr⟩
  ·rw [pall]
   have e:y.cps.size=y.cps.toList.length:=by simp
   have z:=C4 y.cps.toList (eG tx)
   rw [T3,e,z]
   exact q
end
section
variable {X:Cx} {c P:Addr}
end
structure FL (K:PySem.W.Frag) (mg:Str→Option Value) (x:Str) (st:Stmt) (P:Addr) (f:Addr) (fd:FuncData) (c:Addr):Prop where
 fn:bP K x x st f fd
 mg:mg x=some (.ref f)
 code:fd.code=.ref c
 tab:tP K c P
 out:K.lookup P=none
def yy (K:PySem.W.Frag) (mg:Str→Option Value) (x:Str) (st:Stmt) (P:Addr):Prop:=∃f fd c,FL K mg x st P f fd c
section
variable {P:Program} {w:World} {K:PySem.W.Frag} {mg:Str→Option Value} {base:Heap}
end
def codeB (vs:Array Value):Bool:=(match vs.getD 18 .none with | .str _ _=>true | _=>false) && (match vs.getD 7 .none with | .int _ _=>true | _=>false) && (match vs.getD 9 .none with | .bool _=>true | _=>false) && (match vs.getD 10 .none with | .int _ _=>true | _=>false)
theorem F0 {K:PySem.W.Frag} {h:Heap} {mg:Str→Option Value} {x:Str} {st:Stmt} (X:K.In h) (G:h.Ns mainGlobals mg) {f c T:Addr} {od an od':Option Addr} {sl sl':Array (Option Value)} {vs:Array Value} {oc kV dc pm ct:Value}
  (a:PySem.W.nsIn K mainGlobals x=some (some (.ref f))) (l:K.lookup f=some ⟨oc,od,.func (PySem.W.fnOf x x (du st) (bQ st) (aq st) .none kV dc pm an (.ref c) ct),sl⟩) (cc:PySem.W.codeIn K (.ref c) x=true) (k:PySem.W.keepIn K (.ref f)=true)
  (t:K.lookup c=some ⟨.type "code",od',.fields vs,sl'⟩) (p:vs[11]?=some (.ref T)) (b:codeB vs=true) (ne:c≠T) (out:K.lookup T=none):yy K mg x st T:=by
 refine ⟨f,_,c,yR l cc k,PySem.W.mg_of X G a,rfl,⟨ne,?_⟩,out⟩
 simp only [codeB,R7] at b
 obtain ⟨⟨⟨b1,b2⟩,b3⟩,b4⟩:=b
 cases e1:vs.getD 18 .none with
 | str file tf =>
  cases e2:vs.getD 7 .none with
  | int fl tg =>
   cases e3:vs.getD 9 .none with
   | bool inF =>
    cases e4:vs.getD 10 .none with
    | int text tt=>exact ⟨_,vs,file,tf,fl,tg,inF,text,tt,t,rfl,rfl,p,e1,e2,e3,e4⟩
    | _=>rw [e4] at b4;cases b4
   | _=>rw [e3] at b3;cases b3
  | _=>rw [e2] at b2;cases b2
 | _=>rw [e1] at b1;cases b1
def LD (K:PySem.W.Frag) (mg:Str→Option Value) (names:List Str) (T:Addr):Prop:=∃x∈names,∃st,yy K mg x st T
theorem BZ {P:Program} {w:World} {K:PySem.W.Frag} {mg mb:Str→Option Value} {k:Nat} {fa a:Addr} {fd:FuncData} {x:Str} {sp:Sp} {s₁:Shared} {vs:List Value} {ns:List Int} {tabs:List Addr}
  (KX:K.In s₁.heap) (hns:s₁.heap.Ns mainGlobals mg) (hb:s₁.heap.Ns builtinsNs mb) (hbb:∀x:Str,x≠"__name__"→mb x=bootBuiltins x) (hlim:s₁.heap.NoLimit) (hg:s₁.gens=#[])
  (ha:s₁.heap.get? a=some { cls:=.type "list",data:=.seq vs.toArray }) (hi:IntsAre vs ns) (hl:ns.length≤sizeLine) (hr:bC k callerA) (hbm:BMain mg s₁.heap)
  (htab:∀T∈tabs,isCodeTable s₁.heap T∧s₁.heap.get? T=some { cls:=.none,data:=.fields #[] }∧K.lookup T=none)
  (F:∀base:Heap,K.In base→base.Ns mainGlobals mg→BMain mg base→aH P w K mg base Lh k fa fd [x] sp) (hbind:∀(s:Shared) (u:Value),BindsTo s fd ⟨[u],[]⟩ [(x,u)])
  (hsp:∀H:Hp,(∀T∈tabs,H T=some (.ext (eJ T)))→dM K H a (ns.map V.int)→(∀b,H b≠none→b=a∨b∈tabs)→(∀u,H a=some u→∃o xs,u=.n6 o (.lst xs))→sp [.ref a] H (λv H'=>v=.bl true∧bW H H') λ_ _ _=>False) :
  codeAny (model P w) callerA (.call (.ref fa) ⟨[.ref a],[]⟩) (λr s'=>r=.ok (.ret (.bool true))∧OldK s₁.heap s'.heap∧s'.os=s₁.os∧AllBare s'.gens) s₁:=by
 have rv:=uC hi
 have lenV:=hi.length
 have naT:∀T∈tabs,T≠a:=λT hT z=>by
  have:=(htab T hT).2.1
  rw [z,ha] at this
  have h1:=congrArg Obj.cls (Option.some.inj this)
  cases h1
 have core:∀H:Hp,(∀T∈tabs,H T=some (.ext (eJ T)))→dM K H a (ns.map V.int)→l5 P w H s₁.heap→(∀b,H b≠none→b=a∨b∈tabs)→(∀u,H a=some u→K.lookup a=none∧∃o xs,u=.n6 o (.lst xs)) →
   codeAny (model P w) callerA (.call (.ref fa) ⟨[.ref a],[]⟩) (λr s'=>r=.ok (.ret (.bool true))∧OldK s₁.heap s'.heap∧s'.os=s₁.os∧AllBare s'.gens) s₁:=by
  intro H hT hS hok hA hK
  have base_of:∀{b:Addr} {o:Obj},s₁.heap.get? b=some o→H b=none→(sL s₁.heap H).get? b=some o:=λe n=>Dy e n
  have no:∀{b:Addr} {o:Obj},s₁.heap.get? b=some o→(∀xs n,o.data≠.seq xs n)→(∀xs,o.data≠.fields xs)→H b=none:=λ{b o} e d1 d2=>by
   cases q:H b with
   | none=>rfl
   | some u =>
    rcases hA b (by rw [q];simp) with rfl | hb
    ·rw [ha] at e;cases e;exact absurd rfl (d1 _ _)
    ·rw [(htab b hb).2.1] at e;cases e;exact absurd rfl (d2 _)
  have nsK:∀{b:Addr} {m:Str→Option Value},s₁.heap.Ns b m→(sL s₁.heap H).Ns b m:=λ{b m} ⟨o,es,ep,e,d,r⟩=>⟨o,es,ep,base_of e (no e (λ_ _ z=>by rw [d] at z;cases z) λ_ z=>by rw [d] at z;cases z),d,r⟩
  have hKb:K.In (sL s₁.heap H):=λb o e=>base_of (KX b o e) (by
   cases q:H b with
   | none=>rfl
   | some u =>
    rcases hA b (by rw [q];simp) with rfl | hb
    ·have:=(hK u q).1
     exact absurd (this.symm.trans e) (λz=>nomatch z)
    ·have:=(htab b hb).2.2
     exact absurd (this.symm.trans e) (λz=>nomatch z))
  have hM:Mod K mg (sL s₁.heap H):=⟨hKb,nsK hns,⟨mb,nsK hb,hbb⟩,let ⟨mc,h1,h2⟩:=hlim;⟨mc,nsK h1,h2⟩⟩
  have hbm':BMain mg (sL s₁.heap H):=by
   obtain ⟨bm,ob,b1,b2,b3,b4,b5,b6⟩:=hbm
   exact ⟨bm,ob,b1,b2,base_of b3 (no b3 (λ_ _ z=>by rw [b6] at z;cases z) λ_ z=>by rw [b6] at z;cases z),b4,b5,b6⟩
  have e0:yz P w K mg (sL s₁.heap H) callerA [] s₁ H:=⟨rfl,hM,λb o e=>Gu e,Nat.le_of_eq (BV _ _),trivial,λb hb=>absurd (show b∈([]:List Addr) from hb) (by simp),hok,.of_eq hg⟩
  refine codeAny_mono ((F _ hKb (nsK hns) hbm').run callerA [] s₁ H ⟨[.ref a],[]⟩ [.ref a] [.ref a] _ _ hr e0 (hbind s₁ (.ref a)) (.cons rfl .nil) (hsp H hT hS hA λu z=>(hK u z).2)) λr s' h=>?_
  cases r with
  | error e=>exact False.elim h
  | ok fl =>
   cases fl with
   | next=>exact False.elim h
   | brk=>exact False.elim h
   | cont=>exact False.elim h
   | ret u =>
    obtain ⟨v,H',os,bare,un,hok',r',rfl,same⟩:=h
    obtain rfl:u=Value.bool true:=r'
    refine ⟨rfl,⟨λb o e=>?_,λb o e=>?_⟩,os,bare⟩
    ·cases q:H b with
     | none=>exact .inl (un.keep b o e q (by intro z;exact absurd (show b∈([]:List Addr) from z) (by simp)) (by simp))
     | some u =>
      have q':=same b u q
      rcases hA b (by rw [q];simp) with rfl | hb'
      ·obtain ⟨_,ob,xs,rfl⟩:=hK u q
       obtain ⟨e1,_⟩:=hok _ _ q
       obtain ⟨e2,_⟩:=hok' _ _ q'
       rw [e] at e1;cases e1
       exact .inl e2
      ·have hz:=hT b hb'
       rw [q] at hz;cases hz
       obtain ⟨⟨ps,hp,_⟩,_⟩:=hok' _ _ q'
       obtain ⟨t1,t2,_⟩:=htab b hb'
       rw [t2] at e;cases e
       exact .inr (.inl ⟨t1,rfl,#[],ps,rfl,by rw [hp];simp⟩)
    ·exact un.there b o e (by simp)
 have hTt:∀T∈tabs,∀H:Hp,dD P w H s₁.heap T (.ext (eJ T)):=λT hT H=>by
  have:=(htab T hT).2.1
  exact ⟨⟨#[],this,trivial⟩,⟨_,this⟩,λh1 h2 ⟨ps,hp,tr⟩ kk=>⟨ps,kk _ hp,tr⟩⟩
 cases hk:K.lookup a with
 | some o =>
  have e:=KX a o hk
  rw [ha] at e
  cases e
  refine core (λb=>if b∈tabs then some (.ext (eJ b)) else none) (λT hT=>if_pos hT) (.inr ⟨_,vs.toArray,_,hk,rfl,rfl,rfl,by rw [Rx,lenV];exact hl,by simpa using rv⟩) (λb u z=>?_) (λb z=>?_) λu z=>?_
  ·by_cases hb:b∈tabs
   ·have z':=(if_pos hb).symm.trans z
    cases z'
    exact hTt b hb _
   ·have z':=(if_neg hb).symm.trans z
    cases z'
  ·by_cases hb:b∈tabs
   ·exact .inr hb
   ·exact absurd (if_neg hb) z
  ·have hb:a ∉ tabs:=λhb=>naT a hb rfl
   have z':=(if_neg hb).symm.trans z
   cases z'
 | none =>
  refine core (λb=>if b=a then some (.n6 { cls:=.type "list",data:=.seq vs.toArray } (.lst (ns.map V.int))) else if b∈tabs then some (.ext (eJ b)) else none) (λT hT=>?_) (.inl (.inr ⟨{ cls:=.type "list",data:=.seq vs.toArray },if_pos rfl⟩)) (λb u z=>?_) (λb z=>?_) λu z=>?_
  ·show (if T=a then _ else _)=_
   rw [if_neg (naT T hT),if_pos hT]
  ·by_cases hb:b=a
   ·have z':=(if_pos hb).symm.trans z
    cases z'
    subst hb
    exact ⟨ha,by rw [Rr];exact hl,vs,_,rv,ha⟩
   ·have z:=(if_neg hb).symm.trans z
    by_cases hb:b∈tabs
    ·have z':=(if_pos hb).symm.trans z
     cases z'
     exact hTt b hb _
    ·have z':=(if_neg hb).symm.trans z
     cases z'
  ·by_cases hb:b=a
   ·exact .inl hb
   ·by_cases hb':b∈tabs
    ·exact .inr hb'
    ·exact absurd ((if_neg hb).trans (if_neg hb')) z
  ·have z':=(if_pos rfl).symm.trans z
   cases z'
   exact ⟨hk,_,_,rfl⟩
theorem K5 {p:Program} {loose:List Str} {mean:ExcName→Option Value} {mg mb:Str→Option Value} {h:Heap} {K:PySem.W.Frag} {x:Str} {st:Stmt} {T:Addr} (Tp:Top p loose mean mg mb h) (KX:K.In h) (hx:∃d∈recsOf p,d.name=x) (D:yy K mg x st T) :
  isCodeTable h T∧h.get? T=some { cls:=.none,data:=.fields #[] }∧K.lookup T=none:=by
 obtain ⟨f,fd,c,F⟩:=D
 obtain ⟨d,hd,rfl⟩:=hx
 obtain ⟨a',o',fd',c',P',h1,h2,h3,h4,h5,h6⟩:=Tp.tab d hd
 rw [F.mg] at h1;cases h1
 obtain ⟨oc,od,kV,doc,pm,an,cdv,ct,osl,rfl,lk,_⟩:=F.fn.ex
 have:=KX _ _ lk
 rw [h2] at this;cases this
 have e3:fd'=_:=(Data.func.inj h3).symm
 subst e3
 have e4:=F.code.symm.trans h4
 cases e4
 obtain ⟨_,oo,vs,_,_,_,_,_,_,_,lk',_,hd',h11,_⟩:=F.tab
 obtain ⟨⟨o2,vs2,g1,g2,g3,g4⟩,g5⟩:=id h6
 rw [KX _ _ lk'] at g1;cases g1
 rw [hd'] at g3;cases g3
 rw [h11] at g4;cases g4
 exact ⟨h6.isCodeTable,g5,F.out⟩
theorem Fi {l:PySem.W.OpenLaw} {n k:Nat} {q:Program} {loose:List Str} {XP:(Str→Option Value)→Heap→Prop} {YP:World→Heap→Prop} {d:DefRec} {K:Params→PySem.W.Frag} {sp:List Addr→PySem.W.Frag→Sp} {x:Str} (names:List Str)
  (hn:l.most=some n) (hn2:n≤sizeLine) (hdf:d.params.defaults=[]) (hr:bC k callerA) (hY:∀(w:World) (h:Heap),YP w h→(K w.params).In h) (hnm:∀x∈names,∃d∈recsOf q,d.name=x)
  (F:∀(w:World) (mg:Str→Option Value) (fa:Addr) (h:Heap),(K w.params).In h→h.Ns mainGlobals mg→mg d.name=some (.ref fa) →
   ∃(fd:FuncData) (tabs:List Addr),(∀(s:Shared) (u:Value),BindsTo s fd ⟨[u],[]⟩ [(x,u)])∧(∀T∈tabs,LD (K w.params) mg names T) ∧
    ∀base:Heap,(K w.params).In base→base.Ns mainGlobals mg→BMain mg base→aH l.prog w (K w.params) mg base Lh k fa fd [x] (sp tabs (K w.params)))
  (hsp:∀(tabs:List Addr) (K:PySem.W.Frag) (H:Hp) (a:Addr) (ns:List Int),ns.length≤n→(∀T∈tabs,H T=some (.ext (eJ T)))→dM K H a (ns.map V.int)→(∀b,H b≠none→b=a∨b∈tabs)→(∀u,H a=some u→∃o xs,u=.n6 o (.lst xs))→sp tabs K [.ref a] H (λv H'=>v=.bl true∧bW H H') λ_ _ _=>False) :
  PySem.W.WalkO q loose XP YP l.row.toRowW d [] (λf vs=>PySem.call f vs):=by
 refine Att.xj hn hdf λw s₀ s₁ mg mb fa o pm cd doc a vs ns G Y ho hd hcd hmg hobj hints hlen hg=>?_
 have KX:=hY w _ Y
 obtain ⟨fd,tabs,hb,ht,hF⟩:=F w mg fa _ KX G.T.g hmg
 refine BZ KX G.T.g G.T.b G.T.builtins G.T.nolimit hg hobj hints (RN hlen hn2) hr G.T.bmain (λT hT=>?_) hF hb (λH hT hS hA hK=>hsp tabs _ H a ns hlen hT hS hA hK)
 obtain ⟨x,hx,st,D⟩:=ht T hT
 exact K5 G.T KX (hnm x hx) D
def DI (s:Str):Value→Bool
 | .str y _=>y == s
 | _=>false
def DG (i:Int):Value→Bool
 | .int j _=>j == i
 | _=>false
theorem BP {K:PySem.W.Frag} {h:Heap} {mg:Str→Option Value} {x s:Str} {u:Value} (X:K.In h) (G:h.Ns mainGlobals mg) (e:PySem.W.nsIn K mainGlobals x=some (some u)) (hu:DI s u=true):∃t,mg x=some (.str s t):=by
 cases u with
 | str y t =>
  have:y=s:=by simpa [DI] using hu
  subst this
  exact ⟨t,PySem.W.mg_of X G e⟩
 | _=>cases hu
theorem const_int {K:PySem.W.Frag} {h:Heap} {mg:Str→Option Value} {x:Str} {i:Int} {u:Value} (X:K.In h) (G:h.Ns mainGlobals mg) (e:PySem.W.nsIn K mainGlobals x=some (some u)) (hu:DG i u=true):∃t,mg x=some (.int i t):=by
 cases u with
 | int y t =>
  have:y=i:=by simpa [DG] using hu
  subst this
  exact ⟨t,PySem.W.mg_of X G e⟩
 | _=>cases hu
def sgn (ch:Nat):Str:=⟨#[ch]⟩
section
variable {X:Cx} {tg:Expr}
end
end Ov
namespace Ov
open PySem PySem.Spec PyProof.Rows
open L2 (V HO Hp Inv Cx VK XK TE TT TA TS TG kL TI TO fw Ends pM Loc Gl Rd RelV Vals eI pA bJ lA mr lD fv R2 upd aR aK dM fu Sp lZ It bW)
inductive PV where
 | non | bl (b:Bool) | int (i:Int) | str (x:Str) | ref (a:Addr) | ty (n:String) | tup (xs:List PV) | fl (xs:List PV)
inductive HQ where
 | lst (xs:List PV) | ins (C:Addr) (fs:List (Str × PV)) | dct (kvs:List (Str × PV)) (ep:Nat) | tab | dtp (hs:List Str→Int) (ks:List (List Str))
def OB (hs:List Str→Int) (a:Addr) (xs:List (List Str × Addr × Value)) (h:Heap):Prop:=(a == sysModules)=false∧xs.length≤sizeLine∧(xs.map (·.1)).Nodup∧∃o es ep,h.get? a=some o∧o.ExactDict∧o.data=.dict es ep∧es.toList=xs.map λx=>(⟨hs x.1,.ref x.2.1,x.2.2⟩:DictEntry)
abbrev Hq:=Addr→Option HQ
def put (J:Hq) (a:Addr) (o:HQ):Hq:=λb=>if b=a then some o else J b
theorem ak {J:Hq} {a:Addr} {o:HQ}:put J a o a=some o:=by unfold put;rw [if_pos rfl]
theorem aj {J:Hq} {a b:Addr} {o:HQ} (h:b≠a):put J a o b=J b:=by unfold put;rw [if_neg h]
theorem bU {J:Hq} {a:Addr} {o u:HQ}:put (put J a o) a u=put J a u:=by
 funext b;unfold put;split <;> rfl
theorem Eu {J:Hq} {a b:Addr} {o u:HQ} (h:a≠b):put (put J a o) b u=put (put J b u) a o:=by
 funext c;unfold put
 by_cases h1:c=b <;> by_cases h2:c=a <;> simp [h1,h2]
 ·exact absurd (h2.symm.trans h1) h
 ·intro z;exact absurd z.symm h
 ·intro z;exact absurd z h
theorem Kk {J:Hq} {a:Addr} {o:HQ} (h:J a=some o):put J a o=J:=by
 funext b;unfold put
 by_cases e:b=a
 ·subst e;rw [if_pos rfl,h]
 ·rw [if_neg e]
def CV (K:PySem.W.Frag) (J:Hq) (H:Hp) (a:Addr) (vs:List V):Prop:=(J a=none∧Rd H a (.lst vs))∨∃(o:Obj) (its:Array Value) (n:Nat),K.lookup a=some o∧o.cls=.type "list"∧o.dict=none∧o.data=.seq its n∧its.size≤sizeLine∧Vals vs its.toList
theorem CV.sq {K:PySem.W.Frag} {J:Hq} {H:Hp} {a:Addr} {vs:List V} (h:CV K J H a vs):dM K H a vs:=by
 rcases h with h | h
 ·exact .inl h.2
 ·exact .inr h
section
variable (K:PySem.W.Frag)
mutual
def cu (J:Hq) (H:Hp):PV→V→Prop
 | .non,v=>v=.non
 | .bl b,v=>v=.bl b
 | .int i,v=>v=.int i
 | .str x,v=>v=.str x
 | .ref a,v=>v=.ref a
 | .ty n,v=>v=.ty n
 | .tup xs,v=>∃a vs,v=.ref a∧fu K H a vs∧aS J H xs vs
 | .fl xs,v=>∃a vs,v=.ref a∧CV K J H a vs∧aS J H xs vs
def aS (J:Hq) (H:Hp):List PV→List V→Prop
 | [],vs=>vs=[]
 | x :: xs,vs=>∃v us,vs=v :: us∧cu J H x v∧aS J H xs us
end
def lE {κ:Type} (J:Hq) (H:Hp) (fs:List (κ × PV)) (gs:List (κ × V)):Prop:=fs.map (·.1)=gs.map (·.1)∧aS K J H (fs.map (·.2)) (gs.map (·.2))
def C0 (J:Hq) (H:Hp) (a:Addr):HQ→Prop
 | .lst xs=>∃vs,H a=some (.lst vs)∧aS K J H xs vs
 | .ins C fs=>∃dx gs,H a=some (.ins C dx gs)∧lE K J H fs gs
 | .dct kvs ep=>∃gs,H a=some (.dE gs ep)∧lE K J H kvs gs
 | .tab=>H a=some (.ext (eJ a))
 | .dtp hs ks=>∃xs:List (List Str × Addr × Value),xs.map (·.1)=ks∧H a=some (.ext (OB hs a xs))∧∀x∈xs,fu K H x.2.1 (x.1.map V.str)
def Rep (J:Hq) (H:Hp):Prop:=∀a o,J a=some o→C0 K J H a o
structure Ext (J:Hq) (H:Hp) (J':Hq) (H':Hp):Prop where
 tup:∀a vs,fu K H a vs→fu K H' a vs
 ll:∀a o,J a=none→H a=some o→((∃vs,o=.lst vs)∨∃ob vs,o=.n6 ob (.lst vs))→J' a=none∧H' a=some o
end
section
variable {K:PySem.W.Frag} {J J' J'':Hq} {H H' H'':Hp}
theorem Ext.fl (e:Ext K J H J' H') (a:Addr) (vs:List V) (n:J a=none) (h:Rd H a (.lst vs)):J' a=none∧Rd H' a (.lst vs):=by
 rcases h with h | ⟨o,h⟩
 ·obtain ⟨a,b⟩:=e.ll a _ n h (.inl ⟨_,rfl⟩);exact ⟨a,.inl b⟩
 ·obtain ⟨a,b⟩:=e.ll a _ n h (.inr ⟨_,_,rfl⟩);exact ⟨a,.inr ⟨o,b⟩⟩
theorem Ext.flat (e:Ext K J H J' H') {a:Addr} {vs:List V} (h:CV K J H a vs):CV K J' H' a vs:=by
 rcases h with h | h
 ·exact .inl (e.fl a vs h.1 h.2)
 ·exact .inr h
mutual
theorem Ext.rep (e:Ext K J H J' H'):∀{x:PV} {v:V},cu K J H x v→cu K J' H' x v
 | .non,_,h=>h
 | .bl _,_,h=>h
 | .int _,_,h=>h
 | .str _,_,h=>h
 | .ref _,_,h=>h
 | .ty _,_,h=>h
 | .tup xs,_,⟨a,vs,e1,h,k⟩=>⟨a,vs,e1,e.tup _ _ h,Ext.jq e k⟩
 | .fl xs,_,⟨a,vs,e1,h,k⟩=>⟨a,vs,e1,e.flat h,Ext.jq e k⟩
theorem Ext.jq (e:Ext K J H J' H'):∀{xs:List PV} {vs:List V},aS K J H xs vs→aS K J' H' xs vs
 | [],_,h=>h
 | _ :: _,_,⟨v,us,e1,h,k⟩=>⟨v,us,e1,Ext.rep e h,Ext.jq e k⟩
end
theorem Ext.refl:Ext K J H J H:=⟨λ_ _ h=>h,λ_ _ n h _=>⟨n,h⟩⟩
theorem Ext.trans (a:Ext K J H J' H') (b:Ext K J' H' J'' H''):Ext K J H J'' H'' :=
 ⟨λc vs h=>b.tup c vs (a.tup c vs h),λc o n h z=>b.ll c o (a.ll c o n h z).1 (a.ll c o n h z).2 z⟩
theorem Ext.xY {κ:Type} (e:Ext K J H J' H') {fs:List (κ × PV)} {gs:List (κ × V)} (h:lE K J H fs gs):lE K J' H' fs gs:=⟨h.1,e.jq h.2⟩
theorem Ext.same (s:bW H H'):Ext K J H J H':=⟨λa vs h=>s.tup h,λa o n h _=>⟨n,s _ _ h⟩⟩
theorem C0.same (s:bW H H') {a:Addr} {o:HQ} (h:C0 K J H a o):C0 K J H' a o:=by
 have e:=Ext.same (K:=K) (J:=J) s
 cases o with
 | lst xs=>obtain ⟨vs,h1,h2⟩:=h;exact ⟨vs,s _ _ h1,e.jq h2⟩
 | ins C fs=>obtain ⟨dx,gs,h1,h2⟩:=h;exact ⟨dx,gs,s _ _ h1,e.xY h2⟩
 | dct kvs ep=>obtain ⟨gs,h1,h2⟩:=h;exact ⟨gs,s _ _ h1,e.xY h2⟩
 | tab=>exact s _ _ (show H a=some (.ext (eJ a)) from h)
 | dtp hs ks=>obtain ⟨xs,h0,h1,h2⟩:=h;exact ⟨xs,h0,s _ _ h1,λx hx=>s.tup (h2 x hx)⟩
theorem Rep.same (s:bW H H') (h:Rep K J H):Rep K J H':=λa o q=>(h a o q).same s
theorem Ext.less (h:∀a,J' a=J a∨J' a=none):Ext K J H J' H:=⟨λ_ _ h=>h,λa o n z _=>⟨(h a).elim (λe=>e.trans n) (λe=>e),z⟩⟩
theorem Rep.less (h:∀a,J' a=J a∨J' a=none) (r:Rep K J H):Rep K J' H:=λa o q=>by
 have e:J a=some o:=by
  rcases h a with e | e
  ·rw [← e];exact q
  ·rw [e] at q;cases q
 have x:=Ext.less (K:=K) (H:=H) h
 have z:=r a o e
 cases o with
 | lst xs=>obtain ⟨vs,h1,h2⟩:=z;exact ⟨vs,h1,x.jq h2⟩
 | ins C fs=>obtain ⟨dx,gs,h1,h2⟩:=z;exact ⟨dx,gs,h1,x.xY h2⟩
 | dct kvs ep=>obtain ⟨gs,h1,h2⟩:=z;exact ⟨gs,h1,x.xY h2⟩
 | tab=>exact z
 | dtp hs ks=>exact z
theorem aS.length:∀{xs:List PV} {vs:List V},aS K J H xs vs→xs.length=vs.length
 | [],_,h=>by cases h;rfl
 | _ :: xs,_,⟨v,us,e1,_,k⟩=>by subst e1;simp [aS.length k]
theorem aS.get:∀{xs:List PV} {vs:List V} {i:Nat} {x:PV},aS K J H xs vs→xs[i]?=some x→∃v,vs[i]?=some v∧cu K J H x v
 | [],_,i,x,h,e=>by simp at e
 | y :: xs,_,0,x,⟨v,us,e1,h,k⟩,e=>by subst e1;simp at e;subst e;exact ⟨v,rfl,h⟩
 | y :: xs,_,i + 1,x,⟨v,us,e1,h,k⟩,e=>by
  subst e1
  obtain ⟨w,h1,h2⟩:=aS.get (i:=i) (x:=x) k (by simpa using e)
  exact ⟨w,by simpa using h1,h2⟩
theorem aS.get':∀{xs:List PV} {vs:List V} {i:Nat} {v:V},aS K J H xs vs→vs[i]?=some v→∃x,xs[i]?=some x∧cu K J H x v
 | [],_,i,x,h,e=>by cases h;simp at e
 | y :: xs,_,0,x,⟨v,us,e1,h,k⟩,e=>by subst e1;simp at e;subst e;exact ⟨y,rfl,h⟩
 | y :: xs,_,i + 1,x,⟨v,us,e1,h,k⟩,e=>by
  subst e1
  obtain ⟨w,h1,h2⟩:=aS.get' (i:=i) (v:=x) k (by simpa using e)
  exact ⟨w,by simpa using h1,h2⟩
theorem aS.append:∀{xs ys:List PV} {vs us:List V},aS K J H xs vs→aS K J H ys us→aS K J H (xs ++ ys) (vs ++ us)
 | [],_,_,_,h,k=>by cases h;exact k
 | x :: xs,ys,_,us,⟨v,ws,e1,h,h'⟩,k=>by subst e1;exact ⟨v,ws ++ us,rfl,h,aS.append h' k⟩
theorem aS.drop:∀(n:Nat) {xs:List PV} {vs:List V},aS K J H xs vs→aS K J H (xs.drop n) (vs.drop n)
 | 0,_,_,h=>h
 | n + 1,[],_,h=>by cases h;rfl
 | n + 1,x :: xs,_,⟨v,ws,e1,h,h'⟩=>by subst e1;exact aS.drop n h'
theorem aS.take:∀(n:Nat) {xs:List PV} {vs:List V},aS K J H xs vs→aS K J H (xs.take n) (vs.take n)
 | 0,_,_,h=>rfl
 | n + 1,[],_,h=>by cases h;rfl
 | n + 1,x :: xs,_,⟨v,ws,e1,h,h'⟩=>by subst e1;exact ⟨v,_,rfl,h,aS.take n h'⟩
theorem aS.set {x:PV} {v:V} (r:cu K J H x v):∀(n:Nat) {xs:List PV} {vs:List V},aS K J H xs vs→aS K J H (xs.set n x) (vs.set n v)
 | n,[],_,h=>by cases h;rfl
 | 0,y :: xs,_,⟨w,ws,e1,h,h'⟩=>by subst e1;exact ⟨v,ws,rfl,r,h'⟩
 | n + 1,y :: xs,_,⟨w,ws,e1,h,h'⟩=>by subst e1;exact ⟨w,_,rfl,h,aS.set r n h'⟩
theorem lE.look {κ:Type} [BEq κ] [LawfulBEq κ] {f:κ}:∀{fs:List (κ × PV)} {gs:List (κ × V)} {x:PV},lE K J H fs gs→fs.lookup f=some x→∃v,gs.lookup f=some v∧cu K J H x v
 | [],_,_,_,e=>by cases e
 | (k,y) :: fs,[],x,h,e=>by cases h.1
 | (k,y) :: fs,(k',w) :: gs,x,h,e=>by
  obtain ⟨h1,v,us,h2,h3,h4⟩:=h
  simp only [RD,List.cons.injEq] at h1 h2
  obtain ⟨rfl,h1⟩:=h1
  obtain ⟨rfl,rfl⟩:=h2
  rw [R9] at e ⊢
  cases hk:f == k with
  | true=>rw [hk] at e;cases e;exact ⟨w,rfl,h3⟩
  | false=>rw [hk] at e;exact lE.look ⟨h1,h4⟩ e
theorem lE.none {κ:Type} [BEq κ] [LawfulBEq κ] {f:κ}:∀{fs:List (κ × PV)} {gs:List (κ × V)},lE K J H fs gs→fs.lookup f=none→gs.lookup f=none
 | [],[],_,_=>rfl
 | [],_ :: _,h,e=>by cases h.1
 | (k,y) :: fs,[],h,e=>by cases h.1
 | (k,y) :: fs,(k',w) :: gs,h,e=>by
  obtain ⟨h1,v,us,h2,h3,h4⟩:=h
  simp only [RD,List.cons.injEq] at h1 h2
  obtain ⟨rfl,h1⟩:=h1
  obtain ⟨rfl,rfl⟩:=h2
  rw [R9] at e ⊢
  cases hk:f == k with
  | true=>rw [hk] at e;cases e
  | false=>rw [hk] at e;exact lE.none ⟨h1,h4⟩ e
end
section
variable {K:PySem.W.Frag} {J J':Hq} {H H':Hp} {p:Addr}
theorem Gr {a p:Addr} {o:HQ} (r:Rep K J H) (h:J a=some o) (n:H p=none):a≠p:=by
 intro e;subst e
 have:=r _ _ h
 cases o with
 | lst xs=>obtain ⟨vs,h1,_⟩:=this;rw [n] at h1;cases h1
 | ins C fs=>obtain ⟨dx,gs,h1,_⟩:=this;rw [n] at h1;cases h1
 | dct kvs ep=>obtain ⟨gs,h1,_⟩:=this;rw [n] at h1;cases h1
 | tab=>have h1:H a=some (.ext (eJ a)):=this;rw [n] at h1;cases h1
 | dtp hs ks=>obtain ⟨xs,_,h1,_⟩:=this;rw [n] at h1;cases h1
theorem Rep.free (r:Rep K J H) (n:H p=none):J p=none:=by
 cases e:J p with
 | none=>rfl
 | some o=>exact absurd rfl (Gr r e n)
theorem Ext.laid {o:HO} {u:HQ} (n:H p=none):Ext K J H (put J p u) (upd H p o):=by
 refine ⟨λa vs h=>(bW.new n o).tup h,λa o' z h _=>⟨?_,bW.new n o _ _ h⟩⟩
 have ne:a≠p:=by intro e;subst e;rw [n] at h;cases h
 rw [aj ne];exact z
theorem Rep.CI {J':Hq} {H':Hp} (e:Ext K J H J' H') (r:Rep K J H) (p:Addr) (q:∀a,a≠p→J' a=J a) (s:∀a o,a≠p→J a≠none→H a=some o→H' a=some o) (h:∀u,J' p=some u→C0 K J' H' p u):Rep K J' H':=λa o z=>by
 by_cases ep:a=p
 ·subst ep;exact h o z
 ·rw [q a ep] at z
  have t:=r a o z
  have jn:J a≠none:=by rw [z];exact λy=>nomatch y
  cases o with
  | lst xs=>obtain ⟨vs,h1,h2⟩:=t;exact ⟨vs,s _ _ ep jn h1,e.jq h2⟩
  | ins C fs=>obtain ⟨dx,gs,h1,h2⟩:=t;exact ⟨dx,gs,s _ _ ep jn h1,e.xY h2⟩
  | dct kvs eq=>obtain ⟨gs,h1,h2⟩:=t;exact ⟨gs,s _ _ ep jn h1,e.xY h2⟩
  | tab=>exact s _ _ ep jn (show H a=some (.ext (eJ a)) from t)
  | dtp hs ks=>obtain ⟨xs,h0,h1,h2⟩:=t;exact ⟨xs,h0,s _ _ ep jn h1,λx hx=>e.tup _ _ (h2 x hx)⟩
theorem Rep.AE {xs:List PV} {vs:List V} (r:Rep K J H) (n:H p=none) (h:aS K J H xs vs):Rep K (put J p (.lst xs)) (upd H p (.lst vs)):=by
 have e:=Ext.laid (K:=K) (J:=J) (o:=.lst vs) (u:=.lst xs) n
 refine r.CI e p (λa ne=>aj ne) (λa o ne _ z=>by rw [aK ne];exact z) λu z=>?_
 rw [ak] at z;cases z
 exact ⟨vs,aR,e.jq h⟩
theorem Ext.wrote {xs ys:List PV} {ws vs:List V} (h:J p=some (.lst xs)) (k:H p=some (.lst ws)):Ext K J H (put J p (.lst ys)) (upd H p (.lst vs)):=by
 have sm:∀a u,(∀l,u≠HO.lst l)∨a≠p→Rd H a u→Rd (upd H p (.lst vs)) a u:=λa u d z=>by
  have ne:a≠p:=by
   rcases d with d | d
   ·intro e;subst e
    rcases z with z | ⟨o,z⟩
    ·rw [k] at z;cases z;exact d _ rfl
    ·rw [k] at z;cases z
   ·exact d
  rcases z with z | ⟨o,z⟩
  ·exact .inl (by rw [aK ne];exact z)
  ·exact .inr ⟨o,by rw [aK ne];exact z⟩
 refine ⟨λa vs' z=>?_,λa o z q _=>?_⟩
 ·rcases z with z | z
  ·exact .inl (sm a _ (.inl λl e=>nomatch e) z)
  ·exact .inr z
 ·have ne:a≠p:=by intro e;subst e;rw [h] at z;cases z
  exact ⟨by rw [aj ne];exact z,by rw [aK ne];exact q⟩
theorem Rep.wrote {xs ys:List PV} {ws vs:List V} (r:Rep K J H) (h:J p=some (.lst xs)) (k:H p=some (.lst ws)) (q:aS K J H ys vs):Rep K (put J p (.lst ys)) (upd H p (.lst vs)):=by
 have e:=Ext.wrote (K:=K) (ys:=ys) (vs:=vs) h k
 refine r.CI e p (λa ne=>aj ne) (λa o ne _ z=>by rw [aK ne];exact z) λu z=>?_
 rw [ak] at z;cases z
 exact ⟨vs,aR,e.jq q⟩
end
abbrev Sr:=List (Option PV)
abbrev cY:=Sr→Hq→(PV→Hq→Prop)→Prop
abbrev nJ:=Sr→Hq→(Bool→Hq→Prop)→Prop
abbrev pL:=Sr→Hq→(List PV→Hq→Prop)→Prop
structure En where
 nx:Sr→Hq→Prop
 rt:PV→Hq→Prop
 bk:Sr→Hq→Prop:=λ_ _=>False
 ct:Sr→Hq→Prop:=λ_ _=>False
abbrev jv:=En→Sr→Hq→Prop
structure lF (K:PySem.W.Frag) (J:Hq) (H:Hp) (τ:Sr) (σ:L2.St):Prop where
 len:τ.length=σ.length
 get:∀(i:Nat) (x:PV),τ[i]?=some (some x)→∃v,σ[i]?=some (some v)∧cu K J H x v
theorem lF.ext {K:PySem.W.Frag} {J J':Hq} {H H':Hp} {τ:Sr} {σ:L2.St} (r:lF K J H τ σ) (e:Ext K J H J' H'):lF K J' H' τ σ :=
 ⟨r.len,λi x h=>let ⟨v,a,b⟩:=r.get i x h;⟨v,a,e.rep b⟩⟩
theorem lF.set {K:PySem.W.Frag} {J:Hq} {H:Hp} {τ:Sr} {σ:L2.St} (r:lF K J H τ σ) {x:PV} {v:V} (i:Nat) (h:cu K J H x v):lF K J H (τ.set i (some x)) (σ.set i (some v)):=by
 refine ⟨by rw [S0,S0,r.len],λj y e=>?_⟩
 by_cases hj:i=j
 ·subst hj
  by_cases hl:i < τ.length
  ·rw [Sj hl] at e
   cases e
   exact ⟨v,Sj (by rw [← r.len];exact hl),h⟩
  ·rw [Sw (by rw [S0];omega)] at e
   cases e
 ·rw [SD hj] at e ⊢
  exact r.get j y e
abbrev G2:=Hq × Hp
structure wU (K:PySem.W.Frag) (G:G2) (τ:Sr) (J:Hq) (σ:L2.St) (H:Hp):Prop where
 sl:lF K J H τ σ
 hp:Rep K J H
 ext:Ext K G.1 G.2 J H
section
variable (K:PySem.W.Frag) (G:G2)
def LE (t:cY):TE:=λσ H Q=>∃τ J Q2,wU K G τ J σ H∧t τ J Q2∧∀x J' v H',cu K J' H' x v→Rep K J' H'→Ext K J H J' H'→Q2 x J'→Q v H'
def LT (t:nJ):TT:=λσ H Q=>∃τ J Q2,wU K G τ J σ H∧t τ J Q2∧∀b J' H',Rep K J' H'→Ext K J H J' H'→Q2 b J'→Q b H'
def LA (t:pL):TA:=λσ H Q=>∃τ J Q2,wU K G τ J σ H∧t τ J Q2∧∀xs J' vs H',aS K J' H' xs vs→Rep K J' H'→Ext K J H J' H'→Q2 xs J'→Q vs H'
structure Goes (J:Hq) (H:Hp) (D2:En) (D:Ends):Prop where
 nx:∀τ J' σ H',lF K J' H' τ σ→Rep K J' H'→Ext K J H J' H'→D2.nx τ J'→D.nx σ H'
 rt:∀x J' v H',cu K J' H' x v→Rep K J' H'→Ext K J H J' H'→D2.rt x J'→D.rt v H'
 bk:∀τ J' σ H',lF K J' H' τ σ→Rep K J' H'→Ext K J H J' H'→D2.bk τ J'→D.bk σ H'
 ct:∀τ J' σ H',lF K J' H' τ σ→Rep K J' H'→Ext K J H J' H'→D2.ct τ J'→D.ct σ H'
def LS (t:jv):TS:=λD σ H=>∃τ J D2,wU K G τ J σ H∧t D2 τ J∧Goes K J H D2 D
end
theorem Goes.ext {K:PySem.W.Frag} {J J':Hq} {H H':Hp} {D2:En} {D:Ends} (g:Goes K J H D2 D) (e:Ext K J H J' H'):Goes K J' H' D2 D :=
 ⟨λτ J1 σ H1 a b c=>g.nx τ J1 σ H1 a b (e.trans c),λx J1 v H1 a b c=>g.rt x J1 v H1 a b (e.trans c),λτ J1 σ H1 a b c=>g.bk τ J1 σ H1 a b (e.trans c),λτ J1 σ H1 a b c=>g.ct τ J1 σ H1 a b (e.trans c)⟩
theorem wU.go {K:PySem.W.Frag} {G:G2} {τ:Sr} {J J':Hq} {σ:L2.St} {H H':Hp} (a:wU K G τ J σ H) (r:Rep K J' H') (e:Ext K J H J' H'):wU K G τ J' σ H':=⟨a.sl.ext e,r,a.ext.trans e⟩
structure RE (X:Cx) (G:G2) (e:Expr) (t:cY):Prop where
 run:L2.PE X e (LE X.K G t)
structure RT (X:Cx) (G:G2) (e:Expr) (t:nJ):Prop where
 run:L2.PT X e (LT X.K G t)
structure RW (X:Cx) (G:G2) (e:Expr) (t:nJ):Prop where
 run:L2.PW X e (LT X.K G t)
structure RA (X:Cx) (G:G2) (es:List Expr) (t:pL):Prop where
 run:L2.PA X es (LA X.K G t)
structure RS (X:Cx) (G:G2) (st:Stmt) (t:jv):Prop where
 run:L2.PS X st (LS X.K G t)
structure RB (X:Cx) (G:G2) (st:List Stmt) (t:jv):Prop where
 run:L2.xf X st (LS X.K G t)
theorem kB {X:Cx} {e:Expr} {t t':TE} (h:L2.PE X e t) (k:∀σ H Q,t' σ H Q→t σ H Q):L2.PE X e t':=λpins s σ H Q I q=>h pins s σ H Q I (k _ _ _ q)
theorem Ot {X:Cx} {e:Expr} {t t':TT} (h:L2.PT X e t) (k:∀σ H Q,t' σ H Q→t σ H Q):L2.PT X e t':=λpins s σ H Q I q=>h pins s σ H Q I (k _ _ _ q)
theorem QQ {X:Cx} {e:Expr} {t t':TT} (h:L2.PW X e t) (k:∀σ H Q,t' σ H Q→t σ H Q):L2.PW X e t':=λwh pins s σ H Q I q=>h wh pins s σ H Q I (k _ _ _ q)
theorem Ph {X:Cx} {e:List Expr} {t t':TA} (h:L2.PA X e t) (k:∀σ H Q,t' σ H Q→t σ H Q):L2.PA X e t':=λpos pins s σ H Q I q=>h pos pins s σ H Q I (k _ _ _ q)
theorem zy {X:Cx} {e:Stmt} {t t':TS} (h:L2.PS X e t) (k:∀D σ H,t' D σ H→t D σ H):L2.PS X e t':=λpins s σ H D I q=>h pins s σ H D I (k _ _ _ q)
theorem Pj {X:Cx} {e:List Stmt} {t t':TS} (h:L2.xf X e t) (k:∀D σ H,t' D σ H→t D σ H):L2.xf X e t':=λpins s σ H D I q=>h pins s σ H D I (k _ _ _ q)
end Ov
namespace Ov
open PySem PySem.Spec PyProof.Rows
open L2 (V HO Hp Inv Cx VK XK TE TT TA TS TG kL TI TO fw Ends pM Loc Gl Rd RelV Vals eI pA bJ lA mr lD fv R2 upd aR aK dM fu Sp lZ It bW bI bC Passes kH aA Meth Mk Binds aH bP aw cZ dW)
def gw {α:Sort _} (_:α):Type:=Unit
def dp {α:Sort _} {k:α}:gw k:=()
def wW {α:Type} (o:Option α) (k:α→Prop) (_:gw k:=dp):Prop:=match o with | some x=>k x | none=>False
def MI (o:Option (Option PV)) (k:PV→Prop) (_:gw k:=dp):Prop:=match o with | some (some x)=>k x | _=>False
def Cn (x:PV) (k:Int→Prop) (_:gw k:=dp):Prop:=match x with | .int i=>k i | _=>False
def Ic (x:PV) (k:Bool→Prop) (_:gw k:=dp):Prop:=match x with | .bl i=>k i | _=>False
def D7 (x:PV) (k:Str→Prop) (_:gw k:=dp):Prop:=match x with | .str i=>k i | _=>False
def AK (x:PV) (k:Addr→Prop) (_:gw k:=dp):Prop:=match x with | .ref a=>k a | _=>False
def Lo (x:PV) (k:List PV→Prop) (_:gw k:=dp):Prop:=match x with | .tup a=>k a | _=>False
def AJ (xs:List PV) (k:PV→Prop) (_:gw k:=dp):Prop:=match xs with | [x]=>k x | _=>False
def Oo (o:Option HQ) (k:List PV→Prop) (_:gw k:=dp):Prop:=match o with | some (.lst xs)=>k xs | _=>False
def D5 (o:Option HQ) (k:List (Str × PV)→Nat→Prop) (_:gw k:=dp):Prop:=match o with | some (.dct xs e)=>k xs e | _=>False
def JO (C:Addr) (o:Option HQ) (k:List (Str × PV)→Prop) (_:gw k:=dp):Prop:=match o with | some (.ins C' fs)=>if C'=C then k fs else False | _=>False
def Pf (xs:List PV) (k:Prop) (_:gw k:=dp):Prop:=match xs with | []=>k | _=>False
def JP (xs:List PV) (k:PV→List PV→Prop) (_:gw k:=dp):Prop:=match xs with | x :: r=>k x r | []=>False
def Lm (xs:List PV) (k:PV→PV→Prop) (_:gw k:=dp):Prop:=match xs with | [x,y]=>k x y | _=>False
theorem MP {k:Prop} {d:gw k}:Pf [] k d=k:=rfl
theorem JQ {x:PV} {r:List PV} {k:PV→List PV→Prop} {d:gw k}:JP (x :: r) k d=k x r:=rfl
theorem MQ {x y:PV} {k:PV→PV→Prop} {d:gw k}:Lm [x,y] k d=k x y:=rfl
theorem JS {xs:List PV} {k:Prop} {d:gw k} (h:Pf xs k d):xs=[]∧k:=by cases xs with | nil=>exact ⟨rfl,h⟩ | cons x r=>exact h.elim
theorem Gy {xs:List PV} {k:PV→List PV→Prop} {d:gw k} (h:JP xs k d):∃x r,xs=x :: r∧k x r:=by cases xs with | nil=>exact h.elim | cons x r=>exact ⟨_,_,rfl,h⟩
theorem D6 {xs:List PV} {k:PV→PV→Prop} {d:gw k} (h:Lm xs k d):∃x y,xs=[x,y]∧k x y:=by
 unfold Lm at h
 split at h
 ·exact ⟨_,_,rfl,h⟩
 ·exact h.elim
theorem MS {α:Type} {x:α} {k:α→Prop} {d:gw k}:wW (some x) k d=k x:=rfl
theorem MJ {x:PV} {k:PV→Prop} {d:gw k}:MI (some (some x)) k d=k x:=rfl
theorem MN {x:Int} {k:Int→Prop} {d:gw k}:Cn (.int x) k d=k x:=rfl
theorem MK {x:Bool} {k:Bool→Prop} {d:gw k}:Ic (.bl x) k d=k x:=rfl
theorem MT {x:Str} {k:Str→Prop} {d:gw k}:D7 (.str x) k d=k x:=rfl
theorem MR {x:Addr} {k:Addr→Prop} {d:gw k}:AK (.ref x) k d=k x:=rfl
theorem MU {x:List PV} {k:List PV→Prop} {d:gw k}:Lo (.tup x) k d=k x:=rfl
theorem MH {x:PV} {k:PV→Prop} {d:gw k}:AJ [x] k d=k x:=rfl
theorem MO {x:List PV} {k:List PV→Prop} {d:gw k}:Oo (some (.lst x)) k d=k x:=rfl
theorem ML {x:List (Str × PV)} {e:Nat} {k:List (Str × PV)→Nat→Prop} {d:gw k}:D5 (some (.dct x e)) k d=k x e:=rfl
theorem Ie {C:Addr} {x:List (Str × PV)} {k:List (Str × PV)→Prop} {d:gw k}:JO C (some (.ins C x)) k d=k x:=if_pos rfl
theorem d_ {α:Type} {o:Option α} {k:α→Prop} {d:gw k} (h:wW o k d):∃x,o=some x∧k x:=by cases o with | none=>exact h.elim | some x=>exact ⟨x,rfl,h⟩
theorem eZ {α:Type} {o:Option α} {x:α} {k:α→Prop} (e:o=some x) (h:k x):wW o k:=by rw [e];exact h
theorem D4 {o:Option (Option PV)} {k:PV→Prop} {d:gw k} (h:MI o k d):∃x,o=some (some x)∧k x:=by
 unfold MI at h
 split at h
 ·exact ⟨_,rfl,h⟩
 ·exact h.elim
theorem fZ {x:PV} {k:Int→Prop} {d:gw k} (h:Cn x k d):∃i,x=.int i∧k i:=by cases x <;> first | exact ⟨_,rfl,h⟩ | exact False.elim h
theorem ot {x:PV} {k:Bool→Prop} {d:gw k} (h:Ic x k d):∃i,x=.bl i∧k i:=by cases x <;> first | exact ⟨_,rfl,h⟩ | exact False.elim h
theorem jS {x:PV} {k:Str→Prop} {d:gw k} (h:D7 x k d):∃i,x=.str i∧k i:=by cases x <;> first | exact ⟨_,rfl,h⟩ | exact False.elim h
theorem iS {x:PV} {k:Addr→Prop} {d:gw k} (h:AK x k d):∃i,x=.ref i∧k i:=by cases x <;> first | exact ⟨_,rfl,h⟩ | exact False.elim h
theorem D8 {x:PV} {k:List PV→Prop} {d:gw k} (h:Lo x k d):∃i,x=.tup i∧k i:=by cases x <;> first | exact ⟨_,rfl,h⟩ | exact False.elim h
theorem jR {xs:List PV} {k:PV→Prop} {d:gw k} (h:AJ xs k d):∃x,xs=[x]∧k x:=by
 unfold AJ at h
 split at h
 ·exact ⟨_,rfl,h⟩
 ·exact h.elim
theorem JR {o:Option HQ} {k:List PV→Prop} {d:gw k} (h:Oo o k d):∃x,o=some (.lst x)∧k x:=by
 unfold Oo at h
 split at h
 ·exact ⟨_,rfl,h⟩
 ·exact h.elim
theorem qH {o:Option HQ} {k:List (Str × PV)→Nat→Prop} {d:gw k} (h:D5 o k d):∃x e,o=some (.dct x e)∧k x e:=by
 unfold D5 at h
 split at h
 ·exact ⟨_,_,rfl,h⟩
 ·exact h.elim
theorem zi {C:Addr} {o:Option HQ} {k:List (Str × PV)→Prop} {d:gw k} (h:JO C o k d):∃x,o=some (.ins C x)∧k x:=by
 unfold JO at h
 split at h
 ·split at h
  ·rename_i e;subst e;exact ⟨_,rfl,h⟩
  ·exact h.elim
 ·exact h.elim
theorem zj {x:PV} {xs:List PV} {k:List PV→Prop} (e:x=.tup xs) (h:k xs):Lo x k:=by rw [e];exact h
theorem JN {x:PV} {b:Bool} {k:Bool→Prop} (e:x=.bl b) (h:k b):Ic x k:=by rw [e];exact h
theorem dJ {C:Addr} {o:Option HQ} {x:List (Str × PV)} {k:List (Str × PV)→Prop} (e:o=some (.ins C x)) (h:k x):JO C o k:=by rw [e,Ie];exact h
section
variable {X:Cx} {G:G2} {a b c e o:Expr} {es rest:List Expr} {ta tb te tc to:cY} {tA tB':nJ} {t:pL} {pos px p p2 apos cpos:Pos} {x:Str} {i j:Nat}
def xX (i:Nat):cY:=λτ J Q=>MI τ[i]? λx=>Q x J
theorem rv (i:Nat) {x:Str} {pos:Pos} (hN:X.N[i]?=some x:=by rfl) (hv:pM X.env.scope x:=by first | exact Or.inl rfl | exact Or.inr (Or.inl rfl) | exact Or.inr (Or.inr rfl)) (hd:(x == ("__debug__":Str))=false:=by decide)
  (hcd:(x == ("__classdict__":Str))=false:=by decide):RE X G (.Name x pos) (xX i) :=
 ⟨kB (L2.Kf hN hv hd hcd) λσ H Q ⟨τ,J,Q2,a2,hq,k⟩=>let ⟨y,ey,q⟩:=D4 hq;let ⟨v,e1,r⟩:=a2.sl.get i y ey;⟨v,e1,k y J v H r a2.hp .refl q⟩⟩
def rC (x:PV):cY:=λ_ J Q=>Q x J
theorem ag {i:Int} {j pos}:RE X G (.Constant (.int i) j pos) (rC (.int i)):=⟨kB L2.vN λσ H Q ⟨τ,J,Q2,a2,q,k⟩=>k (.int i) J _ H rfl a2.hp .refl q⟩
theorem eL {b:Bool} {j pos}:RE X G (.Constant (.bool b) j pos) (rC (.bl b)):=⟨kB L2.AQ λσ H Q ⟨τ,J,Q2,a2,q,k⟩=>k (.bl b) J _ H rfl a2.hp .refl q⟩
theorem oA {j pos}:RE X G (.Constant .none j pos) (rC .non):=⟨kB L2.zp λσ H Q ⟨τ,J,Q2,a2,q,k⟩=>k .non J _ H rfl a2.hp .refl q⟩
theorem b_ {x:Str} {j pos}:RE X G (.Constant (.str x) j pos) (rC (.str x)):=⟨kB L2.vQ λσ H Q ⟨τ,J,Q2,a2,q,k⟩=>k (.str x) J _ H rfl a2.hp .refl q⟩
theorem fg {v:V} {u:Value} (y:PV) (hg:Gl X x) (hm:X.mg x=some u) (r:RelV v u) (hr:∀J H,cu X.K J H y v) (hd:(x == ("__debug__":Str))=false:=by decide):RE X G (.Name x pos) (rC y) :=
 ⟨kB (L2.vM hg hm r hd) λσ H Q ⟨τ,J,Q2,a2,q,k⟩=>k y J v H (hr J H) a2.hp .refl q⟩
theorem nh {n:String} (hg:Gl X x) (hm:X.mg x=none) (hv:bootBuiltins x=some (.type n)) (hn:x≠"__name__":=by decide) (hd:(x == ("__debug__":Str))=false:=by decide):RE X G (.Name x pos) (rC (.ty n)) :=
 ⟨kB (L2.vK (v:=.ty n) hg hm hv rfl hn hd) λσ H Q ⟨τ,J,Q2,a2,q,k⟩=>k (.ty n) J _ H rfl a2.hp .refl q⟩
abbrev mn:=PV→PV→Hq→(PV→Hq→Prop)→Prop
abbrev LB:=PV→Hq→(PV→Hq→Prop)→Prop
abbrev yH:=List PV→Hq→(PV→Hq→Prop)→Prop
def Kn (K:PySem.W.Frag) (J:Hq) (H:Hp) (Q2:PV→Hq→Prop) (Q:VK):Prop:=∀z J' u H',cu K J' H' z u→Rep K J' H'→Ext K J H J' H'→Q2 z J'→Q u H'
def LR (K:PySem.W.Frag) (r:R2) (q:mn):Prop:=∀J H x y v w Q2 Q,cu K J H x v→cu K J H y w→Rep K J H→q x y J Q2→Kn K J H Q2 Q→r v w H Q
def Q5 (K:PySem.W.Frag) (r:V→Hp→VK→Prop) (q:LB):Prop:=∀J H x v Q2 Q,cu K J H x v→Rep K J H→q x J Q2→Kn K J H Q2 Q→r v H Q
def Qp (K:PySem.W.Frag) (r:List V→Hp→VK→Prop) (q:yH):Prop:=∀J H xs vs Q2 Q,aS K J H xs vs→Rep K J H→q xs J Q2→Kn K J H Q2 Q→r vs H Q
def ml (X:Cx) (f:Value→Value→Sem Value) (q:mn):Prop:=∃r,eI X f r∧LR X.K r q
def Qs (X:Cx) (f:Value→Sem Value) (q:LB):Prop:=∃r,pA X f r∧Q5 X.K r q
def N9 (X:Cx) (q:mn):Prop:=∃r,lA X r∧LR X.K r q
def HD (X:Cx) (f:Value) (q:yH):Prop:=∃r,bJ X f r∧Qp X.K r q
def Ha (q:mn) (ta tb:cY):cY:=λτ J Q=>ta τ J λx J1=>tb τ J1 λy J2=>q x y J2 Q
def QZ (q:LB) (ta:cY):cY:=λτ J Q=>ta τ J λx J1=>q x J1 Q
theorem pR {r:R2} {q:mn} (lr:LR X.K r q):∀σ H Q,LE X.K G (Ha q ta tb) σ H Q→L2.Ft r (LE X.K G ta) (LE X.K G tb) σ H Q:=λσ H Q ⟨τ,J,Q2,a2,h,k⟩ =>
 ⟨τ,J,_,a2,h,λx J1 v H1 rx r1 e1 q1=>⟨τ,J1,_,a2.go r1 e1,q1,λy J2 w H2 ry r2 e2 q2 =>
  lr J2 H2 x y v w Q2 Q (e2.rep rx) ry r2 q2 λz J' u H' rz rr ee qq=>k z J' u H' rz rr ((e1.trans e2).trans ee) qq⟩⟩
theorem az {op:Operator} {q:mn} (ho:ml X (binaryOp op) q) (ha:RE X G a ta) (hb:RE X G b tb):RE X G (.BinOp a op b pos) (Ha q ta tb):=by
 obtain ⟨r,h,lr⟩:=ho
 exact ⟨kB (L2.Ei h ha.run hb.run) (pR lr)⟩
theorem uu {op:UnaryOp} {q:LB} (ho:Qs X (unaryOp op) q) (ha:RE X G a ta):RE X G (.UnaryOp op a pos) (QZ q ta):=by
 obtain ⟨r,h,lr⟩:=ho
 exact ⟨kB (L2.Ek h ha.run) λσ H Q ⟨τ,J,Q2,a2,h,k⟩=>⟨τ,J,_,a2,h,λx J1 v H1 rx r1 e1 q1 =>
  lr J1 H1 x v Q2 Q rx r1 q1 λz J' u H' rz rr ee qq=>k z J' u H' rz rr (e1.trans ee) qq⟩⟩
theorem au {q:mn} (hr:N9 X q) (ha:RE X G a ta) (hb:RE X G b tb) (hs:bI b:=by exact λ_ _=>rfl):RE X G (.Subscript a b pos) (Ha q ta tb):=by
 obtain ⟨r,h,lr⟩:=hr
 exact ⟨kB (L2.Ef h ha.run hb.run hs) (pR lr)⟩
theorem er {op:CmpOp} {q:mn} (ho:ml X (compareOp op) q) (ha:RE X G a ta) (hb:RE X G b tb) (hm:behindInMarks op b=false:=by first | exact L2.DX _ | with_unfolding_all rfl):RE X G (.Compare a [op] [b] pos) (Ha q ta tb):=by
 obtain ⟨r,h,lr⟩:=ho
 exact ⟨kB (L2.vL h ha.run hb.run hm) (pR lr)⟩
def rB (t:cY):nJ:=λτ J Q=>t τ J λx J1=>Ic x λk=>Q k J1
theorem aJ {op:CmpOp} {q:mn} (ho:ml X (compareOp op) q) (ha:RE X G a ta) (hb:RE X G b tb) (hm:behindInMarks op b=false:=by first | exact L2.DX _ | with_unfolding_all rfl):RT X G (.Compare a [op] [b] pos) (rB (Ha q ta tb)):=by
 obtain ⟨r,h,lr⟩:=ho
 refine ⟨Ot (L2.v_ h ha.run hb.run hm) λσ H Q ⟨τ,J,Q2,a2,h,k⟩=>?_⟩
 refine pR lr σ H _ ⟨τ,J,_,a2,h,λz J' u H' rz rr ee qq=>?_⟩
 obtain ⟨b,rfl,q⟩:=ot qq
 exact ⟨b,rz,k b J' H' rr ee q⟩
theorem bz (h:RE X G e te) (he:∀whole,isTrue e X.env whole=(do let v ← whole;standAt e.pos;holding [v] (truthy v)):=by intro _;rfl):RT X G e (rB te) :=
 ⟨Ot (L2.zG h.run he) λσ H Q ⟨τ,J,Q2,a2,h,k⟩=>⟨τ,J,_,a2,h,λz J' u H' rz rr ee qq=>by obtain ⟨b,eb,q⟩:=ot qq;subst eb;exact ⟨b,rz,k b J' H' rr ee q⟩⟩⟩
def wR (J:Hq):PV→Option Bool
 | .non=>some false
 | .bl b=>some b
 | .int i=>some (i != 0)
 | .tup xs=>some (!xs.isEmpty)
 | .fl xs=>some (!xs.isEmpty)
 | .ref a=>match J a with
  | some (.lst xs)=>some (!xs.isEmpty)
  | some (.dct kvs _)=>some (!kvs.isEmpty)
  | _=>none
 | _=>none
theorem gB {α β:Type} {xs:List α} {ys:List β} (h:xs.length=ys.length):xs.isEmpty=ys.isEmpty:=by cases xs <;> cases ys <;> simp_all
theorem Ht {K:PySem.W.Frag} {J:Hq} {H:Hp} {x:PV} {v:V} {k:Bool} (r:cu K J H x v) (hp:Rep K J H) (h:wR J x=some k):L2.IV K v H k:=by
 cases x with
 | non=>cases r;cases h;rfl
 | bl b=>cases r;cases h;rfl
 | int i=>cases r;cases h;rfl
 | str s=>cases h
 | ty n=>cases h
 | tup xs=>obtain ⟨a,vs,rfl,h1,h2⟩:=r;cases h;exact .inr (.inl ⟨vs,h1,by rw [gB h2.length]⟩)
 | fl xs=>obtain ⟨a,vs,rfl,h1,h2⟩:=r;cases h;exact .inl ⟨vs,h1.sq,by rw [gB h2.length]⟩
 | ref a =>
  cases r
  unfold wR at h
  dsimp only at h
  cases e:J a with
  | none=>rw [e] at h;cases h
  | some o =>
   rw [e] at h
   have z:=hp a o e
   cases o with
   | lst xs=>obtain ⟨vs,h1,h2⟩:=z;cases h;exact .inl ⟨vs,.inl (.inl h1),by rw [gB h2.length]⟩
   | ins C fs=>cases h
   | tab=>cases h
   | dtp hs ks=>cases h
   | dct kvs ep =>
    obtain ⟨gs,h1,h2⟩:=z;cases h
    refine .inr (.inr ⟨gs,ep,h1,?_⟩)
    have:=congrArg Sx h2.1
    simp only [Rr] at this
    rw [gB this]
def NC (te:cY):nJ:=λτ J Q=>te τ J λx J1=>wW (wR J1 x) λk=>Q k J1
theorem Kx (h:RE X G e te) (he:∀whole,isTrue e X.env whole=(do let v ← whole;standAt e.pos;holding [v] (truthy v)):=by intro _;rfl):RT X G e (NC te) :=
 ⟨Ot (L2.Er h.run he) λσ H Q ⟨τ,J,Q2,a2,h,k⟩=>⟨τ,J,_,a2,h,λz J' u H' rz rr ee qq=>let ⟨b,eb,q⟩:=d_ qq;⟨b,Ht rz rr eb,k b J' H' rr ee q⟩⟩⟩
def G4 (t u:nJ):nJ:=λτ J Q=>t τ J λc J1=>if c=true then u τ J1 Q else Q false J1
def Pz (t u:nJ):nJ:=λτ J Q=>t τ J λc J1=>if c=true then Q true J1 else u τ J1 Q
def Nw (t:nJ):nJ:=λτ J Q=>t τ J λc J1=>Q (!c) J1
theorem cW (ha:RT X G a tA):RT X G (.UnaryOp .Not a pos) (Nw tA):=⟨Ot (L2.zF ha.run) λσ H Q ⟨τ,J,Q2,a2,h,k⟩=>⟨τ,J,_,a2,h,λb J' H' rr ee q=>k _ J' H' rr ee q⟩⟩
theorem eu (ha:RT X G a tA):RW X G (.BoolOp .And [a] pos) tA:=⟨L2.wc ha.run⟩
theorem f' (ha:RT X G a tA):RW X G (.BoolOp .Or [a] pos) tA:=⟨L2.zJ ha.run⟩
theorem C6 {σ:L2.St} {H:Hp} {Q:Bool→Hp→Prop}:LT X.K G (G4 tA tB') σ H Q→L2.Hr (LT X.K G tA) (LT X.K G tB') σ H Q:=λ⟨τ,J,Q2,a2,h,k⟩ =>
 ⟨τ,J,_,a2,h,λb J' H' rr ee q=>by
  cases b with
  | true=>simp only [if_true] at q ⊢;exact ⟨τ,J',Q2,a2.go rr ee,q,λb J2 H2 r2 e2 q2=>k b J2 H2 r2 (ee.trans e2) q2⟩
  | false=>simp only [RV,if_false] at q ⊢;exact k _ J' H' rr ee q⟩
theorem GI {σ:L2.St} {H:Hp} {Q:Bool→Hp→Prop}:LT X.K G (Pz tA tB') σ H Q→L2.Ox (LT X.K G tA) (LT X.K G tB') σ H Q:=λ⟨τ,J,Q2,a2,h,k⟩ =>
 ⟨τ,J,_,a2,h,λb J' H' rr ee q=>by
  cases b with
  | false=>simp only [RV,if_false] at q ⊢;exact ⟨τ,J',Q2,a2.go rr ee,q,λb J2 H2 r2 e2 q2=>k b J2 H2 r2 (ee.trans e2) q2⟩
  | true=>simp only [if_true] at q ⊢;exact k _ J' H' rr ee q⟩
theorem f_ (ha:RT X G a tA) (hb:RW X G (.BoolOp .And (b :: rest) pos) tB'):RW X G (.BoolOp .And (a :: b :: rest) pos) (G4 tA tB'):=⟨QQ (L2.zI ha.run hb.run) λσ H Q h=>C6 h⟩
theorem j0 (ha:RT X G a tA) (hb:RW X G (.BoolOp .Or (b :: rest) pos) tB'):RW X G (.BoolOp .Or (a :: b :: rest) pos) (Pz tA tB'):=⟨QQ (L2.Ew ha.run hb.run) λσ H Q h=>GI h⟩
theorem dF (h:RW X G e tA):RT X G e tA:=⟨h.run.pt⟩
def Io (ta tb:cY):cY:=λτ J Q=>ta τ J λx J1=>Ic x λc=>if c=true then tb τ J1 Q else Q (.bl false) J1
def Nx (ta tb:cY):cY:=λτ J Q=>ta τ J λx J1=>Ic x λc=>if c=true then Q (.bl true) J1 else tb τ J1 Q
def Iv (ta:cY):cY:=λτ J Q=>ta τ J λx J1=>Ic x λc=>Q (.bl (!c)) J1
theorem wj {op} (h:RE X G a ta):RE X G (.BoolOp op [a] pos) ta:=⟨L2.zr h.run⟩
theorem zM (ha:RE X G a ta) (hb:RE X G (.BoolOp .And (b :: rest) pos) tb):RE X G (.BoolOp .And (a :: b :: rest) pos) (Io ta tb):=⟨kB (L2.zo ha.run hb.run) λσ H Q ⟨τ,J,Q2,a2,h,k⟩ =>
 ⟨τ,J,_,a2,h,λx J' v H' rx rr ee qq=>by
  obtain ⟨c,ec,q⟩:=ot qq
  subst ec
  refine ⟨c,rx,?_⟩
  cases c with
  | true=>simp only [if_true] at q ⊢;exact ⟨τ,J',Q2,a2.go rr ee,q,λz J2 u H2 rz r2 e2 q2=>k z J2 u H2 rz r2 (ee.trans e2) q2⟩
  | false=>simp only [RV,if_false] at q ⊢;exact k (.bl false) J' _ H' rfl rr ee q⟩⟩
theorem NG (ha:RE X G a ta) (hb:RE X G (.BoolOp .Or (b :: rest) pos) tb):RE X G (.BoolOp .Or (a :: b :: rest) pos) (Nx ta tb):=⟨kB (L2.Ej ha.run hb.run) λσ H Q ⟨τ,J,Q2,a2,h,k⟩ =>
 ⟨τ,J,_,a2,h,λx J' v H' rx rr ee qq=>by
  obtain ⟨c,ec,q⟩:=ot qq
  subst ec
  refine ⟨c,rx,?_⟩
  cases c with
  | false=>simp only [RV,if_false] at q ⊢;exact ⟨τ,J',Q2,a2.go rr ee,q,λz J2 u H2 rz r2 e2 q2=>k z J2 u H2 rz r2 (ee.trans e2) q2⟩
  | true=>simp only [if_true] at q ⊢;exact k (.bl true) J' _ H' rfl rr ee q⟩⟩
theorem Ku (ha:RE X G a ta):RE X G (.UnaryOp .Not a pos) (Iv ta):=⟨kB (L2.zq ha.run) λσ H Q ⟨τ,J,Q2,a2,h,k⟩ =>
 ⟨τ,J,_,a2,h,λx J' v H' rx rr ee qq=>by obtain ⟨c,ec,q⟩:=ot qq;subst ec;exact ⟨c,rx,k (.bl (!c)) J' _ H' rfl rr ee q⟩⟩⟩
def QX (t:nJ) (ta tb:cY):cY:=λτ J Q=>t τ J λc J1=>if c=true then ta τ J1 Q else tb τ J1 Q
theorem NF (hc:RT X G c tA) (ha:RE X G a ta) (hb:RE X G b tb):RE X G (.IfExp c a b pos) (QX tA ta tb):=⟨kB (L2.qN hc.run ha.run hb.run) λσ H Q ⟨τ,J,Q2,a2,h,k⟩ =>
 ⟨τ,J,_,a2,h,λc J' H' rr ee q=>by
  cases c with
  | true=>simp only [if_true] at q ⊢;exact ⟨τ,J',Q2,a2.go rr ee,q,λz J2 u H2 rz r2 e2 q2=>k z J2 u H2 rz r2 (ee.trans e2) q2⟩
  | false=>simp only [RV,if_false] at q ⊢;exact ⟨τ,J',Q2,a2.go rr ee,q,λz J2 u H2 rz r2 e2 q2=>k z J2 u H2 rz r2 (ee.trans e2) q2⟩⟩⟩
def zL:pL:=λ_ J Q=>Q [] J
def xW (ta:cY) (tr:pL):pL:=λτ J Q=>ta τ J λx J1=>tr τ J1 λxs J2=>Q (x :: xs) J2
theorem ah:RA X G [] zL:=⟨Ph L2.zl λσ H Q ⟨τ,J,Q2,a2,h,k⟩=>k [] J [] H rfl a2.hp .refl h⟩
theorem af (ha:RE X G e te) (hr:RA X G es t) (hs:starEach (e :: es) X.env=(false,eval e X.env) :: starEach es X.env:=by rfl):RA X G (e :: es) (xW te t) :=
 ⟨Ph (L2.pS ha.run hr.run hs) λσ H Q ⟨τ,J,Q2,a2,h,k⟩=>⟨τ,J,_,a2,h,λx J' v H' rx rr ee q=>⟨τ,J',_,a2.go rr ee,q,λxs J2 vs H2 rs r2 e2 q2=>k (x :: xs) J2 (v :: vs) H2 ⟨v,vs,rfl,e2.rep rx,rs⟩ r2 (ee.trans e2) q2⟩⟩⟩
def vP:V→PV
 | .non=>.non | .bl b=>.bl b | .int i=>.int i | .str x=>.str x | _=>.non
theorem qY {K:PySem.W.Frag} {J:Hq} {H:Hp}:∀{es:List Expr} {vs:List V},es.map yL=vs.map some→aS K J H (vs.map vP) vs
 | [],[],_=>rfl
 | [],_ :: _,h=>by cases h
 | _ :: _,[],h=>by cases h
 | e :: es,v :: vs,h=>by
  rw [RD,RD] at h
  injection h with h1 h2
  refine ⟨v,vs,rfl,?_,qY h2⟩
  cases e with
  | Constant c j pos =>
   cases c with
   | int i=>cases h1;rfl
   | str x=>cases h1;rfl
   | bool b=>cases h1;rfl
   | _=>cases h1
  | _=>cases h1
theorem wg {es:List Expr} (vs:List V) (h:es.map yL=vs.map some) (xs:List PV) (hx:vs.map vP=xs):RA X G es (λ_ J Q=>Q xs J) :=
 ⟨Ph (xS vs h) λσ H Q ⟨τ,J,Q2,a2,q,k⟩=>k _ J _ H (by rw [← hx];exact qY h) a2.hp .refl q⟩
def ND (t:pL):cY:=λτ J Q=>t τ J λxs J1=>xs.length≤sizeLine∧Q (.tup xs) J1
theorem bR {x1} (h:RA X G es t):RE X G (.Tuple es x1 pos) (ND t):=⟨kB (L2.zt h.run) λσ H Q ⟨τ,J,Q2,a2,h,k⟩=>⟨τ,J,_,a2,h,λxs J' vs H' rs rr ee ⟨hl,q⟩ =>
 ⟨by rw [← rs.length];exact hl,λp hp=>by
  have sm:=bW.new hp (.tup vs)
  have e2:=Ext.same (K:=X.K) (J:=J') sm
  exact k (.tup xs) J' (.ref p) _ ⟨p,vs,rfl,.inl (.inl aR),e2.jq rs⟩ (rr.same sm) (ee.trans e2) q⟩⟩⟩
def Nv (t:pL):cY:=λτ J Q=>t τ J λxs J1=>xs.length≤sizeLine∧∀p,J1 p=none→Q (.ref p) (put J1 p (.lst xs))
theorem fF (h:RA X G es t):RE X G (.List es pos) (Nv t):=⟨kB (L2.vO h.run) λσ H Q ⟨τ,J,Q2,a2,h,k⟩=>⟨τ,J,_,a2,h,λxs J' vs H' rs rr ee ⟨hl,q⟩ =>
 ⟨by rw [← rs.length];exact hl,λp hp=>k (.ref p) _ (.ref p) _ rfl (rr.AE hp rs) (ee.trans (.laid hp)) (q p (rr.free hp))⟩⟩⟩
def QV (t:pL):cY:=λτ J Q=>t τ J λxs J1=>xs.length≤sizeLine∧Q (.fl xs) J1
theorem vm {K:PySem.W.Frag} {J:Hq} {H:Hp} {xs:List PV} {vs:List V} {p:Addr} (rr:Rep K J H) (rs:aS K J H xs vs) (hp:H p=none):cu K J (upd H p (.lst vs)) (.fl xs) (.ref p)∧Rep K J (upd H p (.lst vs))∧Ext K J H J (upd H p (.lst vs)):=by
 have sm:=bW.new hp (.lst vs)
 have e2:=Ext.same (K:=K) (J:=J) sm
 exact ⟨⟨p,vs,rfl,.inl ⟨rr.free hp,.inl aR⟩,e2.jq rs⟩,rr.same sm,e2⟩
theorem m9 (h:RA X G es t):RE X G (.List es pos) (QV t):=⟨kB (L2.vO h.run) λσ H Q ⟨τ,J,Q2,a2,h,k⟩=>⟨τ,J,_,a2,h,λxs J' vs H' rs rr ee ⟨hl,q⟩ =>
 ⟨by rw [← rs.length];exact hl,λp hp=>let ⟨x1,x2,x3⟩:=vm rr rs hp;k (.fl xs) _ (.ref p) _ x1 x2 (ee.trans x3) q⟩⟩⟩
abbrev Lj:=Sr→Hq→(Option Int→Hq→Prop)→Prop
def LO (K:PySem.W.Frag) (G:G2) (t:Lj):TO:=λσ H Q=>∃τ J Q2,wU K G τ J σ H∧t τ J Q2∧∀b J' H',Rep K J' H'→Ext K J H J' H'→Q2 b J'→Q b H'
structure RO (X:Cx) (G:G2) (e:Option Expr) (t:Lj):Prop where
 run:L2.PO X e (LO X.K G t)
theorem QP {X:Cx} {e:Option Expr} {t t':TO} (h:L2.PO X e t) (k:∀σ H Q,t' σ H Q→t σ H Q):L2.PO X e t':=λpins s σ H Q I q=>h pins s σ H Q I (k _ _ _ q)
def A2:Lj:=λ_ J Q=>Q none J
def Iw (t:cY):Lj:=λτ J Q=>t τ J λx J1=>Cn x λi=>Q (some i) J1
theorem nj:RO X G none A2:=⟨QP L2.vV λσ H Q ⟨τ,J,Q2,a2,h,k⟩=>k none J H a2.hp .refl h⟩
theorem iW (h:RE X G e te):RO X G (some e) (Iw te):=⟨QP (L2.vW h.run) λσ H Q ⟨τ,J,Q2,a2,h,k⟩=>⟨τ,J,_,a2,h,λx J' v H' rx rr ee qq=>by obtain ⟨i,ei,q⟩:=fZ qq;subst ei;exact ⟨i,rx,k _ J' H' rr ee q⟩⟩⟩
abbrev BM:=PV→Option Int→Option Int→Hq→(PV→Hq→Prop)→Prop
def Ob (X:Cx) (q:BM):Prop:=∃r,mr X r∧∀J H x lo hi v Q2 Q,cu X.K J H x v→Rep X.K J H→q x lo hi J Q2→Kn X.K J H Q2 Q→r v lo hi H Q
def QY (q:BM) (te:cY) (tl th:Lj):cY:=λτ J Q=>te τ J λx J1=>tl τ J1 λl J2=>th τ J2 λu J3=>q x l u J3 Q
theorem iq {lo hi:Option Expr} {tl th:Lj} {q:BM} (hr:Ob X q) (he:RE X G e te) (hl:RO X G lo tl) (hu:RO X G hi th):RE X G (.Subscript e (.Slice lo hi none p2) pos) (QY q te tl th):=by
 obtain ⟨r,h,lr⟩:=hr
 exact ⟨kB (L2.qO h he.run hl.run hu.run) λσ H Q ⟨τ,J,Q2,a2,h,k⟩=>⟨τ,J,_,a2,h,λx J' v H' rx rr ee q1=>⟨τ,J',_,a2.go rr ee,q1,λl J2 H2 r2 e2 q2 =>
  ⟨τ,J2,_,a2.go r2 (ee.trans e2),q2,λu J3 H3 r3 e3 q3=>lr J3 H3 x l u v Q2 Q ((e2.trans e3).rep rx) r3 q3 λz J4 w H4 rz r4 e4 q4=>k z J4 w H4 rz r4 (((ee.trans e2).trans e3).trans e4) q4⟩⟩⟩⟩
def Nn (q:yH) (t:pL):cY:=λτ J Q=>t τ J λxs J1=>q xs J1 Q
theorem Ag {r:List V→Hp→VK→Prop} {q:yH} (lr:Qp X.K r q):∀σ H Q,LE X.K G (Nn q t) σ H Q→L2.KP r (LA X.K G t) σ H Q:=λσ H Q ⟨τ,J,Q2,a2,h,k⟩ =>
 ⟨τ,J,_,a2,h,λxs J1 vs H1 rs r1 e1 q1=>lr J1 H1 xs vs Q2 Q rs r1 q1 λz J' u H' rz rr ee qq=>k z J' u H' rz rr (e1.trans ee) qq⟩
theorem aL {id:String} {q:yH} (hc:HD X (.builtin id) q) (hg:Gl X x) (hm:X.mg x=none) (hv:bootBuiltins x=some (.builtin id)) (ha:RA X G (e :: es) t) (hn:x≠"__name__":=by decide) (hdb:(x == ("__debug__":Str))=false:=by decide)
  (he:starEach (e :: es) X.env=(false,eval e X.env) :: starEach es X.env:=by rfl) (hpl:(backTo pos (starEach es X.env)).any (·.1)=false:=by rfl):RE X G (.Call (.Name x p) (e :: es) [] pos) (Nn q t):=by
 obtain ⟨r,h,lr⟩:=hc
 exact ⟨kB (L2.qM h hg hm hv ha.run hn hdb he hpl) (Ag lr)⟩
theorem ip {T:String} {q:yH} (hc:HD X (.type T) q) (hg:Gl X x) (hm:X.mg x=none) (hv:bootBuiltins x=some (.type T)) (ha:RA X G (e :: es) t) (hn:x≠"__name__":=by decide) (hdb:(x == ("__debug__":Str))=false:=by decide)
  (he:starEach (e :: es) X.env=(false,eval e X.env) :: starEach es X.env:=by rfl) (hpl:(backTo pos (starEach es X.env)).any (·.1)=false:=by rfl):RE X G (.Call (.Name x p) (e :: es) [] pos) (Nn q t):=by
 obtain ⟨r,h,lr⟩:=hc
 exact ⟨kB (L2.ox h hg hm hv ha.run hn hdb he hpl) (Ag lr)⟩
abbrev Ad:=PV→List PV→Hq→(PV→Hq→Prop)→Prop
def IU (X:Cx) (T id:String) (q:Ad):Prop:=∃r,lD X id r∧∀J H x xs v vs Q2 Q,cu X.K J H x v→aS X.K J H xs vs→Rep X.K J H→q x xs J Q2→Kn X.K J H Q2 Q→r v vs H Q
def Lr (T:String) (J:Hq):PV→Prop
 | .str _=>T="str"
 | .fl _=>T="list"
 | .ref a=>(T="list"∧∃xs,J a=some (.lst xs))∨(T="dict"∧∃kvs ep,J a=some (.dct kvs ep))
 | _=>False
theorem Bz {K:PySem.W.Frag} {T:String} {J:Hq} {H:Hp} {x:PV} {v:V} (r:cu K J H x v) (hp:Rep K J H) (h:Lr T J x):L2.Oz K T v H:=by
 cases x with
 | str s=>cases r;exact h
 | fl xs=>obtain ⟨a,vs,rfl,h1,h2⟩:=r;exact .inl ⟨h,vs,h1.sq⟩
 | ref a =>
  cases r
  rcases h with ⟨h,xs,e⟩ | ⟨h,kvs,ep,e⟩
  ·obtain ⟨vs,h1,_⟩:=hp _ _ e;exact .inl ⟨h,vs,.inl (.inl h1)⟩
  ·obtain ⟨gs,h1,_⟩:=hp _ _ e;exact .inr (.inr (.inl ⟨h,.inr ⟨gs,ep,h1⟩⟩))
 | _=>cases h
def QU (T:String) (q:Ad) (to:cY) (t:pL):cY:=λτ J Q=>to τ J λx J1=>Lr T J1 x∧t τ J1 λxs J2=>q x xs J2 Q
def Nl (T:String) (q:Ad) (to:cY):cY:=λτ J Q=>to τ J λx J1=>Lr T J1 x∧q x [] J1 Q
theorem fL {name:Str} {T id:String} {q:Ad} (pa:PlainAttrs T) (slot:Slot T name id) (hty:typeOf (.builtin id)=pure (.type "method_descriptor")) (hm:IU X T id q) (ho:RE X G o to) (ha:RA X G (e :: es) t)
  (hbase:attributeBase o name X.env (eval o X.env)=eval o X.env:=by rfl)
  (hfew:((backTo cpos (starEach (e :: es) X.env)).all (λx=>!x.1) && (backToKw cpos (keywordEach [] X.env)).all (λx=>x.1.isSome)
   && decide ((e :: es).length + ([]:List Keyword).length + (if ([]:List Keyword).isEmpty then 0 else 1) < 30))=true:=by rfl)
  (hline:(apos.endLine == cpos.line)=true:=by rfl) (hs:starEach (e :: es) X.env=(false,eval e X.env) :: starEach es X.env:=by rfl) (hplain:(backTo cpos (starEach es X.env)).any (·.1)=false:=by rfl) :
  RE X G (.Call (.Attribute o name apos) (e :: es) [] cpos) (QU T q to t):=by
 obtain ⟨r,h,lr⟩:=hm
 exact ⟨kB (L2.Ed pa slot hty h ho.run ha.run hbase hfew hline hs hplain) λσ H Q ⟨τ,J,Q2,a2,h,k⟩=>⟨τ,J,_,a2,h,λx J1 v H1 rx r1 e1 ⟨ty,q1⟩=>⟨Bz rx r1 ty,τ,J1,_,a2.go r1 e1,q1,λxs J2 vs H2 rs r2 e2 q2 =>
  lr J2 H2 x xs v vs Q2 Q (e2.rep rx) rs r2 q2 λz J' u H' rz rr ee qq=>k z J' u H' rz rr ((e1.trans e2).trans ee) qq⟩⟩⟩
theorem Kt {name:Str} {T id:String} {q:Ad} (pa:PlainAttrs T) (slot:Slot T name id) (hty:typeOf (.builtin id)=pure (.type "method_descriptor")) (hm:IU X T id q) (ho:RE X G o to)
  (hbase:attributeBase o name X.env (eval o X.env)=eval o X.env:=by rfl) (hline:(apos.endLine == cpos.line)=true:=by rfl):RE X G (.Call (.Attribute o name apos) [] [] cpos) (Nl T q to):=by
 obtain ⟨r,h,lr⟩:=hm
 exact ⟨kB (L2.Kc pa slot hty h ho.run hbase hline) λσ H Q ⟨τ,J,Q2,a2,h,k⟩=>⟨τ,J,_,a2,h,λx J1 v H1 rx r1 e1 ⟨ty,q1⟩=>⟨Bz rx r1 ty,
  lr J1 H1 x [] v [] Q2 Q rx rfl r1 q1 λz J' u H' rz rr ee qq=>k z J' u H' rz rr (e1.trans ee) qq⟩⟩⟩
end
end Ov
namespace Ov
open PySem PySem.Spec PyProof.Rows
open L2 (V HO Hp Inv Cx VK XK TE TT TA TS TG kL TI TO fw Ends pM Loc Gl Rd RelV Vals eI pA bJ lA mr lD fv R2 upd aR aK dM fu Sp lZ It bW bI bC Passes kH aA Meth Mk Binds aH bP aw cZ dW dg)
abbrev cG:=List PV→Hq→(PV→Hq→Prop)→(Addr→Hq→Prop)→Prop
def Li (K:PySem.W.Frag) (J:Hq) (H:Hp) (E2:Addr→Hq→Prop) (E:XK):Prop:=∀c J' H',Rep K J' H'→Ext K J H J' H'→E2 c J'→E (.ref c) none H'
def cH (K:PySem.W.Frag) (sp:cG):Sp:=λvs H Q E=>∃xs J Q2 E2,aS K J H xs vs∧Rep K J H∧sp xs J Q2 E2∧Kn K J H Q2 Q∧Li K J H E2 E
theorem Li.ext {K:PySem.W.Frag} {J J':Hq} {H H':Hp} {E2:Addr→Hq→Prop} {E:XK} (k:Li K J H E2 E) (e:Ext K J H J' H'):Li K J' H' E2 E:=λc J1 H1 r x q=>k c J1 H1 r (e.trans x) q
theorem _root_.L2.aH.N6 {P:Program} {w:World} {K:PySem.W.Frag} {mg:Str→Option Value} {base:Heap} {k:Nat} {f:Addr} {fd:FuncData} {ps:List Str} {sp:Sp} (F:aH P w K mg base (cg P w) k f fd ps sp):aH P w K mg base L2.Lh k f fd ps (λvs H Q _=>sp vs H Q L2.E0) :=
 ⟨λvs H Q E q=>F.len vs H Q _ q,λA outer s H args us vs Q E hr he hb hv hs=>codeAny_mono (F.run A outer s H args us vs Q _ hr he hb hv hs) λr s' q=>by
  cases r with
  | error e=>obtain ⟨_,_,_,_,_,z⟩:=q;exact z.elim
  | ok fl=>cases fl <;> exact q⟩
def bF (P:Program) (w:World) (K:PySem.W.Frag) (mg:Str→Option Value) (base:Heap) (k:Nat) (x:Str) (ps:List Str) (sp:cG):Prop:=IK P w K mg base k x ps (cH K sp)
section
variable {X:Cx} {G:G2} {a b c e o value:Expr} {es rest:List Expr} {ta tb te tc to tv:cY} {tA tB':nJ} {t:pL} {pos px p p2 apos cpos pos':Pos} {x:Str} {i j:Nat} {E:XK} {E2:Addr→Hq→Prop}
structure BI (X:Cx) (G:G2) (E2:Addr→Hq→Prop) (E:XK):Prop where
 pass:Passes (cg X.prog X.w) X E
 kn:Li X.K G.1 G.2 E2 E
def ED (sp:cG) (E2:Addr→Hq→Prop) (t:pL):cY:=λτ J Q=>t τ J λxs J1=>sp xs J1 Q E2
theorem aQ {k k':Nat} {ps:List Str} {sp:cG} (C:bF X.prog X.w X.K X.mg X.base k x ps sp) (B:BI X G E2 E) (hr:bC k' X.A) (ha:RA X G (e :: es) t) (hk:k≤k':=by decide) (hg:Gl X x:=by rfl)
  (hdb:(x == ("__debug__":Str))=false:=by decide) (he:starEach (e :: es) X.env=(false,eval e X.env) :: starEach es X.env:=by rfl) (hpl:(backTo pos (starEach es X.env)).any (·.1)=false:=by rfl) :
  RE X G (.Call (.Name x p) (e :: es) [] pos) (ED sp E2 t) :=
 ⟨kB (GL C B.pass hr hk hg ha.run hdb he hpl) λσ H Q ⟨τ,J,Q2,a2,h,k⟩=>⟨τ,J,_,a2,h,λxs J1 vs H1 rs r1 e1 q1=>by
  simp only [Sd]
  exact ⟨xs,J1,Q2,E2,rs,r1,q1,λz J' u H' rz rr ee qq=>k z J' u H' rz rr (e1.trans ee) qq,B.kn.ext (a2.ext.trans e1)⟩⟩⟩
def Np (C:Addr) (ta:cY) (f:Str):cY:=λτ J Q=>ta τ J λx J1=>AK x λa=>JO C (J1 a) λfs=>wW (fs.lookup f) λv=>Q v J1
theorem aG {C:Addr} {f:Str} (cl:kH X.K C) (na:aA X.K C f) (he:RE X G e ta) (hb:attributeBase e f X.env (eval e X.env)=eval e X.env:=by rfl):RE X G (.Attribute e f pos) (Np C ta f) :=
 ⟨kB (L2.Kd he.run hb) λσ H Q ⟨τ,J,Q2,a2,h,k⟩=>⟨τ,J,_,a2,h,λx J1 v H1 rx r1 e1 hh=>by
  obtain ⟨a,ex,hh⟩:=iS hh;obtain ⟨fs,ja,hh⟩:=zi hh;obtain ⟨y,lk,q⟩:=d_ hh
  subst ex;cases rx
  obtain ⟨dx,gs,ha,rf⟩:=r1 _ _ ja
  obtain ⟨w,lw,rw'⟩:=rf.look lk
  exact ⟨a,C,dx,gs,w,rfl,ha,cl,na,lw,k y J1 w H1 rw' r1 e1 q⟩⟩⟩
structure cq (P:Program) (w:World) (K:PySem.W.Frag) (mg:Str→Option Value) (base:Heap) (C:Addr) (k:Nat) (m:Str) (ps:List Str) (sp:cG):Prop where
 cl:kH K C
 ex:∃f fd,Meth K C m f∧aH P w K mg base (cg P w) k f fd ps (cH K sp)∧Binds K fd ps []
theorem cq.imp {P:Program} {w:World} {K:PySem.W.Frag} {mg:Str→Option Value} {base:Heap} {C:Addr} {k:Nat} {m:Str} {ps:List Str} {sp sp':cG} (M:cq P w K mg base C k m ps sp) (h:∀xs J Q E,sp' xs J Q E→sp xs J Q E):cq P w K mg base C k m ps sp':=by
 obtain ⟨cl,f,fd,hm,F,r⟩:=M
 exact ⟨cl,f,fd,hm,F.imp λvs H Q E ⟨xs,J,Q2,E2,a,b,c,d⟩=>⟨xs,J,Q2,E2,a,b,h _ _ _ _ c,d⟩,r⟩
def G' (C:Addr) (m:Str) (sp:cG) (E2:Addr→Hq→Prop) (ta:cY) (t:pL):cY:=λτ J Q=>ta τ J λx J1=>AK x λa=>JO C (J1 a) λfs=>fs.lookup m=none∧t τ J1 λxs J2=>sp (x :: xs) J2 Q E2
theorem xG {C:Addr} {m:Str} {sp:cG} (B:BI X G E2 E):∀σ H Q,LE X.K G (G' C m sp E2 to t) σ H Q→L2.E7 C m (cH X.K sp) [] E (LE X.K G to) (LA X.K G t) σ H Q:=λσ H Q ⟨τ,J,Q2,a2,h,k⟩ =>
 ⟨τ,J,_,a2,h,λx J1 v H1 rx r1 e1 hh=>by
  obtain ⟨a,ex,hh⟩:=iS hh;obtain ⟨fs,ja,lk,q⟩:=zi hh
  subst ex;cases rx
  obtain ⟨dx,gs,ha,rf⟩:=r1 _ _ ja
  refine ⟨a,dx,gs,rfl,ha,rf.none lk,τ,J1,_,a2.go r1 e1,q,λxs J2 vs H2 rs r2 e2 q2=>?_⟩
  simp only [Sd]
  exact ⟨.ref a :: xs,J2,Q2,E2,⟨.ref a,vs,rfl,rfl,rs⟩,r2,q2,λz J' u H' rz rr ee qq=>k z J' u H' rz rr ((e1.trans e2).trans ee) qq,B.kn.ext ((a2.ext.trans e1).trans e2)⟩⟩
theorem a9 {C:Addr} {m:Str} {k k':Nat} {ps:List Str} {sp:cG} {pl:Sem Bool} (M:cq X.prog X.w X.K X.mg X.base C k m ps sp) (B:BI X G E2 E) (hr:bC k' X.A) (ho:RE X G o to) (ha:RA X G (e :: es) t) (hk:k≤k':=by decide)
  (hst:starEach (e :: es) X.env=(false,eval e X.env) :: starEach es X.env:=by rfl) (hpl:(backTo pos (starEach es X.env)).any (·.1)=false:=by rfl)
  (ht:eval (.Call (.Attribute o m apos) (e :: es) [] pos) X.env=(do
   let ov ← eval o X.env
   standAt apos.atName
   let (f,first) ← holding [ov] (getMethod ov m pl)
   callWith pos f first (backTo pos (starEach (e :: es) X.env)) (backToKw pos (keywordEach [] X.env))):=by rfl) :
  RE X G (.Call (.Attribute o m apos) (e :: es) [] pos) (G' C m sp E2 to t):=by
 obtain ⟨cl,f,fd,hm,F,b⟩:=M
 exact ⟨kB (L2.GO (pl:=pl) ho.run cl hm F (hr.mono hk) b .nil B.pass ha.run hst hpl ht) (xG B)⟩
theorem c4 {C:Addr} {m:Str} {k k':Nat} {ps:List Str} {sp:cG} {pl:Sem Bool} (M:cq X.prog X.w X.K X.mg X.base C k m ps sp) (B:BI X G E2 E) (hr:bC k' X.A) (ho:RE X G o to) (hk:k≤k':=by decide)
  (ht:eval (.Call (.Attribute o m apos) [] [] pos) X.env=(do
   let ov ← eval o X.env
   standAt apos.atName
   let (f,first) ← holding [ov] (getMethod ov m pl)
   callWith pos f first (backTo pos (starEach [] X.env)) (backToKw pos (keywordEach [] X.env))):=by rfl) :
  RE X G (.Call (.Attribute o m apos) [] [] pos) (G' C m sp E2 to zL):=by
 obtain ⟨cl,f,fd,hm,F,b⟩:=M
 refine ⟨kB (L2.Eh (pl:=pl) ho.run cl hm F (hr.mono hk) b .nil B.pass ht) λσ H Q h=>?_⟩
 have z:=xG B σ H Q h
 obtain ⟨τ,J,Q2,a2,h1,k1⟩:=z
 refine ⟨τ,J,Q2,a2,h1,λx J1 v H1 rx r1 e1 q1=>?_⟩
 obtain ⟨a,dx,fs,h2,h3,h4,τ',J',Q',a2',h5,k5⟩:=k1 x J1 v H1 rx r1 e1 q1
 exact ⟨a,dx,fs,h2,h3,h4,k5 [] J' [] H1 rfl a2'.hp .refl h5⟩
structure uN (P:Program) (w:World) (K:PySem.W.Frag) (mg:Str→Option Value) (base:Heap) (C:Addr) (k:Nat) (x:Str) (ps:List Str) (sp:cG):Prop where
 m:mg x=some (.ref C)
 ex:∃f fd,Mk K C f∧aH P w K mg base (cg P w) k f fd ps (cH K sp)∧Binds K fd ps []
def G_ (C:Addr) (sp:cG) (E2:Addr→Hq→Prop) (t:pL):cY:=λτ J Q=>t τ J λxs J1=>∀a,J1 a=none→sp (.ref a :: xs) (put J1 a (.ins C [])) (λv J2=>v=.non∧Q (.ref a) J2) E2
theorem xC {C:Addr} {sp:cG} (B:BI X G E2 E):∀σ H Q,LE X.K G (G_ C sp E2 t) σ H Q→L2.E6 C (cH X.K sp) [] E (LA X.K G t) σ H Q:=λσ H Q ⟨τ,J,Q2,a2,h,k⟩ =>
 ⟨τ,J,_,a2,h,λxs J1 vs H1 rs r1 e1 q1 x dx hx hdx ne=>by
  have s1:=bW.new hdx (.own x)
  have hx':upd H1 dx (.own x) x=none:=by rw [aK (Ne.symm ne)];exact hx
  have r2:=r1.same s1
  have e2:Ext X.K J1 H1 (put J1 x (.ins C [])) (upd (upd H1 dx (.own x)) x (.ins C dx [])):=(Ext.same s1).trans (.laid hx')
  have r3:Rep X.K (put J1 x (.ins C [])) (upd (upd H1 dx (.own x)) x (.ins C dx [])):=r2.CI (.laid hx') x (λa ne=>aj ne) (λa o ne _ z=>by rw [aK ne];exact z) λu z=>by
   rw [ak] at z;cases z
   exact ⟨dx,[],aR,rfl,rfl⟩
  simp only [Sd]
  refine ⟨.ref x :: xs,_,_,E2,⟨.ref x,vs,rfl,rfl,e2.jq rs⟩,r3,q1 x (r1.free hx),λz J' u H' rz rr ee ⟨ez,qq⟩=>?_,B.kn.ext ((a2.ext.trans e1).trans e2)⟩
  subst ez
  exact ⟨rz,k (.ref x) J' (.ref x) H' rfl rr ((e1.trans e2).trans ee) qq⟩⟩
theorem A3 {C:Addr} {k k':Nat} {ps:List Str} {sp:cG} (M:uN X.prog X.w X.K X.mg X.base C k x ps sp) (B:BI X G E2 E) (hr:bC k' X.A) (ha:RA X G (e :: es) t) (hk:k + 1≤k':=by decide) (hg:Gl X x:=by rfl)
  (hdb:(x == ("__debug__":Str))=false:=by decide) (he:starEach (e :: es) X.env=(false,eval e X.env) :: starEach es X.env:=by rfl) (hpl:(backTo pos (starEach es X.env)).any (·.1)=false:=by rfl) :
  RE X G (.Call (.Name x p) (e :: es) [] pos) (G_ C sp E2 t):=by
 obtain ⟨hm,f,fd,mk,F,b⟩:=M
 exact ⟨kB (L2.GN mk F (hr.mono hk) hg hm b .nil B.pass ha.run hdb he hpl) (xC B)⟩
theorem m_ {C:Addr} {k k':Nat} {ps:List Str} {sp:cG} (M:uN X.prog X.w X.K X.mg X.base C k x ps sp) (B:BI X G E2 E) (hr:bC k' X.A) (hk:k + 1≤k':=by decide) (hg:Gl X x:=by rfl)
  (hdb:(x == ("__debug__":Str))=false:=by decide):RE X G (.Call (.Name x p) [] [] pos) (G_ C sp E2 zL):=by
 obtain ⟨hm,f,fd,mk,F,b⟩:=M
 refine ⟨kB (L2.Eg mk F (hr.mono hk) hg hm b .nil B.pass hdb) λσ H Q h=>?_⟩
 obtain ⟨τ,J,Q2,a2,h1,k1⟩:=xC (t:=zL) B σ H Q h
 exact k1 [] J [] H rfl a2.hp .refl h1
end
section
variable {X:Cx} {G:G2} {st:Stmt} {rest:List Stmt} {t u:jv} {e tg o value:Expr} {es:List Expr} {te ta tv:cY} {tc:nJ} {pos pos':Pos}
def Iu:jv:=λD τ J=>D.nx τ J
def bE (t u:jv):jv:=λD τ J=>t { D with nx:=u D } τ J
theorem aO:RB X G [] Iu:=⟨Pj L2.vZ λD σ H ⟨τ,J,D2,a2,h,g⟩=>g.nx τ J σ H a2.sl a2.hp .refl h⟩
theorem ai (h1:RS X G st t) (h2:RB X G rest u):RB X G (st :: rest) (bE t u):=⟨Pj (L2.m6 h1.run h2.run) λD σ H ⟨τ,J,D2,a2,h,g⟩=>⟨τ,J,{ D2 with nx:=u D2 },a2,h,
 { nx:=λτ' J' σ' H' rs rr ee q=>⟨τ',J',D2,⟨rs,rr,a2.ext.trans ee⟩,q,g.ext ee⟩,rt:=g.rt,bk:=g.bk,ct:=g.ct }⟩⟩
theorem ar (h1:RS X G st t):RB X G [st] t:=⟨L2.v3 h1.run⟩
def Pr (t u:jv):jv:=λD τ J=>∃M:Sr→Hq→Prop,t { D with nx:=M } τ J∧∀τ' J',M τ' J'→u D τ' J'
theorem m8 (h1:RS X G st t) (h2:RB X G rest u):RB X G (st :: rest) (Pr t u):=⟨Pj (L2.m6 h1.run h2.run) λD σ H ⟨τ,J,D2,a2,⟨M,h,hm⟩,g⟩=>⟨τ,J,{ D2 with nx:=M },a2,h,
 { nx:=λτ' J' σ' H' rs rr ee q=>⟨τ',J',D2,⟨rs,rr,a2.ext.trans ee⟩,hm _ _ q,g.ext ee⟩,rt:=g.rt,bk:=g.bk,ct:=g.ct }⟩⟩
def Pp:jv:=λD τ J=>D.bk τ J
def Pq:jv:=λD τ J=>D.ct τ J
def Ip (te:cY):jv:=λD τ J=>te τ J λ_ J1=>D.nx τ J1
theorem a_ (he:RE X G e te) (hs:swapsWith e none pos.line X.env=pure false:=by rfl):RS X G (.Expr e pos) (Ip te):=⟨zy (L2.vX he.run hs) λD σ H ⟨τ,J,D2,a2,h,g⟩ =>
 ⟨τ,J,_,a2,h,λx J' v H' rx rr ee q=>g.nx τ J' σ H' (a2.sl.ext ee) rr ee q⟩⟩
def Nz (te:cY):jv:=λD τ J=>te τ J D.rt
theorem aD (he:RE X G e te):RS X G (.Return (some e) pos) (Nz te):=⟨zy (L2.zD he.run) λD σ H ⟨τ,J,D2,a2,h,g⟩=>⟨τ,J,_,a2,h,λx J' v H' rx rr ee q=>g.rt x J' v H' rx rr ee q⟩⟩
def Iy:jv:=λD _ J=>D.rt .non J
theorem Hf:RS X G (.Return none pos) Iy:=⟨zy L2.vY λD σ H ⟨τ,J,D2,a2,h,g⟩=>g.rt .non J .non H rfl a2.hp .refl h⟩
def Nt (c:nJ) (t u:jv):jv:=λD τ J=>c τ J λb J1=>if b=true then t D τ J1 else u D τ J1
theorem aY {c:Expr} {a b:List Stmt} (hc:RT X G c tc) (ha:RB X G a t) (hb:RB X G b u):RS X G (.If c a b pos) (Nt tc t u):=⟨zy (L2.Eo hc.run ha.run hb.run) λD σ H ⟨τ,J,D2,a2,h,g⟩ =>
 ⟨τ,J,_,a2,h,λc J' H' rr ee q=>by
  cases c with
  | true=>simp only [if_true] at q ⊢;exact ⟨τ,J',D2,a2.go rr ee,q,g.ext ee⟩
  | false=>simp only [RV,if_false] at q ⊢;exact ⟨τ,J',D2,a2.go rr ee,q,g.ext ee⟩⟩⟩
abbrev yI:=PV→Sr→Hq→(Sr→Hq→Prop)→Prop
abbrev xg:=List PV→Sr→Hq→(Sr→Hq→Prop)→Prop
def LG (K:PySem.W.Frag) (G:G2) (t:yI):TG:=λv σ H Q=>∃x τ J Q2,cu K J H x v∧wU K G τ J σ H∧t x τ J Q2∧∀τ' J' σ' H',lF K J' H' τ' σ'→Rep K J' H'→Ext K J H J' H'→Q2 τ' J'→Q σ' H'
def Q3 (K:PySem.W.Frag) (G:G2) (t:xg):kL:=λvs σ H Q=>∃xs τ J Q2,aS K J H xs vs∧wU K G τ J σ H∧t xs τ J Q2∧∀τ' J' σ' H',lF K J' H' τ' σ'→Rep K J' H'→Ext K J H J' H'→Q2 τ' J'→Q σ' H'
structure RG (X:Cx) (G:G2) (e:Expr) (t:yI):Prop where
 run:L2.PG X e (LG X.K G t)
structure Oa (X:Cx) (G:G2) (es:List Expr) (t:xg):Prop where
 run:L2.HE X es (Q3 X.K G t)
theorem Pk {X:Cx} {e:Expr} {t t':TG} (h:L2.PG X e t) (k:∀v σ H Q,t' v σ H Q→t v σ H Q):L2.PG X e t':=λpins s σ H v u Q I r q=>h pins s σ H v u Q I r (k _ _ _ _ q)
theorem M5 {X:Cx} {e:List Expr} {t t':kL} (h:L2.HE X e t) (k:∀v σ H Q,t' v σ H Q→t v σ H Q):L2.HE X e t':=λpins s σ H v u Q I r q=>h pins s σ H v u Q I r (k _ _ _ _ q)
def HM (i:Nat):yI:=λx τ J Q=>Q (τ.set i (some x)) J
theorem ba {i:Nat} {x:Str} (hN:X.N.Nodup) (hi:X.N[i]?=some x:=by rfl) (hx:Loc X.env.scope x:=by first | exact .inl rfl | exact .inr rfl) (hf:X.fn x=true∨X.env.scope.names.lookup x=some .local:=by first | exact .inl rfl | exact .inr rfl | assumption):RG X G (.Name x pos) (HM i) :=
 ⟨Pk (L2.vR hN hi hx hf) λv σ H Q ⟨x,τ,J,Q2,rx,a2,q,k⟩=>k _ J _ H (a2.sl.set i rx) a2.hp .refl q⟩
def Qw:xg:=λvs τ J Q=>Pf vs (Q τ J)
def Qv (t:yI) (u:xg):xg:=λvs τ J Q=>JP vs λv r=>t v τ J λτ' J'=>u r τ' J' Q
theorem ni:Oa X G [] Qw:=⟨M5 L2.vS λvs σ H Q ⟨xs,τ,J,Q2,rs,a2,hh,k⟩=>by obtain ⟨e,q⟩:=JS hh;subst e;exact ⟨rs,k τ J σ H a2.sl a2.hp .refl q⟩⟩
theorem c5 {e:Expr} {es:List Expr} {t:yI} {u:xg} (h1:RG X G e t) (h2:Oa X G es u)
  (hs:(assignEach (e :: es) X.env).map (·.2)=assign e X.env :: (assignEach es X.env).map (·.2):=by rfl):Oa X G (e :: es) (Qv t u):=⟨M5 (L2.qP h1.run h2.run hs) λvs σ H Q ⟨xs,τ,J,Q2,rs,a2,hh,k⟩=>by
 obtain ⟨y,r,e,q⟩:=Gy hh
 subst e
 obtain ⟨v,us,rfl,rv,ru⟩:=rs
 exact ⟨v,us,rfl,y,τ,J,_,rv,a2,q,λτ' J' σ' H' rs' rr ee q'=>⟨r,τ',J',Q2,ee.jq ru,⟨rs',rr,a2.ext.trans ee⟩,q',λτ2 J2 σ2 H2 rs2 rr2 ee2 q2=>k τ2 J2 σ2 H2 rs2 rr2 (ee.trans ee2) q2⟩⟩⟩
def Qx (n:Nat) (t:xg):yI:=λx τ J Q=>Lo x λxs=>xs.length=n∧t xs τ J Q
theorem qZ {k:Nat} {t:xg} {n:Nat} (hc:X.calm=true) (h:Oa X G es t)
  (hn:(assignEach es X.env).length=n:=by rfl) (hst:(assignEach es X.env).findIdx? (·.1)=none:=by rfl):RG X G (.Tuple es k pos) (Qx n t):=⟨Pk (L2.zw hc h.run hn hst) λv σ H Q ⟨x,τ,J,Q2,rx,a2,hh,k⟩=>by
 obtain ⟨xs,e,l,q⟩:=D8 hh
 subst e
 obtain ⟨a,vs,rfl,h1,h2⟩:=rx
 exact ⟨a,vs,rfl,h1,by rw [← h2.length];exact l,xs,τ,J,Q2,h2,a2,q,k⟩⟩
def wd (te:cY) (g:yI):jv:=λD τ J=>te τ J λx J1=>g x τ J1 D.nx
theorem wk {tg e:Expr} {g:yI} (he:RE X G e te) (hg:RG X G tg g) (hs:swapsWithSole [tg] e pos.line X.env=pure false:=by rfl) (hw:swappedStores [tg] e X.env=pure none:=by rfl)
  (h1:(assignEach [tg] X.env).map (·.2)=[assign tg X.env]:=by rfl):RS X G (.Assign [tg] e pos) (wd te g):=⟨zy (L2.zA he.run hg.run hs hw h1) λD σ H ⟨τ,J,D2,a2,h,g⟩ =>
 ⟨τ,J,_,a2,h,λx J' v H' rx rr ee q=>⟨x,τ,J',_,rx,a2.go rr ee,q,λτ' J2 σ' H2 rs r2 e2 q2=>g.nx τ' J2 σ' H2 rs r2 (ee.trans e2) q2⟩⟩⟩
theorem aE {i:Nat} {x:Str} {pos':Pos} (hN:X.N.Nodup) (he:RE X G e te) (hi:X.N[i]?=some x:=by rfl) (hx:Loc X.env.scope x:=by first | exact .inl rfl | exact .inr rfl) (hs:swapsWith e (some (.Name x pos')) pos.line X.env=pure false:=by rfl) (hf:X.fn x=true∨X.env.scope.names.lookup x=some .local:=by first | exact .inl rfl | exact .inr rfl | assumption) :
  RS X G (.Assign [.Name x pos'] e pos) (wd te (HM i)):=⟨zy (L2.zE hN hi hx he.run hs hf) λD σ H ⟨τ,J,D2,a2,h,g⟩ =>
 ⟨τ,J,_,a2,h,λx J' v H' rx rr ee q=>g.nx _ J' _ H' ((a2.sl.ext ee).set i rx) rr ee q⟩⟩
def Ny (i j:Nat) (ta:pL):jv:=λD τ J=>ta τ J λvs J1=>Lm vs λv w=>D.nx ((τ.set i (some v)).set j (some w)) J1
theorem wm {i j:Nat} {x y:Str} {a b:Expr} {ta:pL} {px py pt:Pos} {kt k2 pt2} (hc:X.calm=true) (hN:X.N.Nodup) (hi:X.N[i]?=some x) (hj:X.N[j]?=some y) (hij:i≠j)
  (hx:X.env.scope.names.lookup x=some .local) (hy:X.env.scope.names.lookup y=some .local) (ha:RA X G [a,b] ta)
  (hw:swappedStores [.Tuple [.Name x px,.Name y py] kt pt] (.Tuple [a,b] k2 pt2) X.env=pure (some [x,y]))
  (hs:swapsWithSole [.Tuple [.Name x px,.Name y py] kt pt] (.Tuple [a,b] k2 pt2) pos.line X.env=pure false:=by rfl) :
  RS X G (.Assign [.Tuple [.Name x px,.Name y py] kt pt] (.Tuple [a,b] k2 pt2) pos) (Ny i j ta):=⟨zy (L2.zC hc hN hi hj hij hx hy ha.run hw hs) λD σ H ⟨τ,J,D2,a2,h,g⟩ =>
 ⟨τ,J,_,a2,h,λxs J' vs H' rs rr ee hh=>by
  obtain ⟨v,w,e,q⟩:=D6 hh
  subst e
  obtain ⟨v',us,rfl,rv,w',us',rfl,rw',e'⟩:=rs
  cases e'
  exact ⟨v',w',rfl,g.nx _ J' _ H' (((a2.sl.ext ee).set i rv).set j rw') rr ee q⟩⟩⟩
def il (f:Str) (v:PV):List (Str × PV)→List (Str × PV)
 | []=>[(f,v)]
 | (g,w) :: r=>if g=f then (g,v) :: r else (g,w) :: il f v r
theorem xV {K:PySem.W.Frag} {J:Hq} {H:Hp} {f:Str} {y:PV} {v:V} (r:cu K J H y v):∀{fs:List (Str × PV)} {gs:List (Str × V)},lE K J H fs gs→lE K J H (il f y fs) (dg f v gs)
 | [],[],_=>⟨rfl,v,[],rfl,r,rfl⟩
 | [],_ :: _,h=>by cases h.1
 | _ :: _,[],h=>by cases h.1
 | (k,y') :: fs,(k',w) :: gs,h=>by
  obtain ⟨h1,v',us,h2,h3,h4⟩:=h
  simp only [RD,List.cons.injEq] at h1 h2
  obtain ⟨rfl,h1⟩:=h1
  obtain ⟨rfl,rfl⟩:=h2
  unfold il L2.dg
  by_cases hk:k=f
  ·rw [if_pos hk,if_pos hk]
   exact ⟨by simp only [RD,h1],v,_,rfl,r,h4⟩
  ·rw [if_neg hk,if_neg hk]
   obtain ⟨z1,z2⟩:=xV (f:=f) r (⟨h1,h4⟩:lE K J H fs gs)
   exact ⟨by simp only [RD,z1],w,_,rfl,h3,z2⟩
def Iq (C:Addr) (ta tv:cY) (f:Str):jv:=λD τ J=>tv τ J λy J1=>ta τ J1 λx J2=>AK x λa=>JO C (J2 a) λfs=>fs.length < 1000∧D.nx τ (put J2 a (.ins C (il f y fs)))
theorem Ext.La {K:PySem.W.Frag} {J:Hq} {H:Hp} {p C dx:Addr} {fs gs:List (Str × PV)} {fs' gs':List (Str × V)} (h:J p=some (.ins C fs)) (k:H p=some (.ins C dx fs')):Ext K J H (put J p (.ins C gs)) (upd H p (.ins C dx gs')):=by
 have sm:∀a u,a≠p→Rd H a u→Rd (upd H p (.ins C dx gs')) a u:=λa u ne z=>by
  rcases z with z | ⟨o,z⟩
  ·exact .inl (by rw [aK ne];exact z)
  ·exact .inr ⟨o,by rw [aK ne];exact z⟩
 have nn:∀a u,(∀c d l,u≠HO.ins c d l)→Rd H a u→a≠p:=λa u d z e=>by
  subst e
  rcases z with z | ⟨o,z⟩
  ·rw [k] at z;cases z;exact d _ _ _ rfl
  ·rw [k] at z;cases z
 refine ⟨λa vs' z=>?_,λa o z q _=>?_⟩
 ·rcases z with z | z
  ·exact .inl (sm a _ (nn a (.tup vs') (λ_ _ _ e=>nomatch e) z) z)
  ·exact .inr z
 ·have ne:a≠p:=by intro e;subst e;rw [h] at z;cases z
  exact ⟨by rw [aj ne];exact z,by rw [aK ne];exact q⟩
theorem c9 {C:Addr} {f:Str} (cl:kH X.K C) (na:aA X.K C f) (ha:RE X G o ta) (hv:RE X G value tv) (hs:swapsWith value (some (.Attribute o f pos')) pos.line X.env=pure false:=by rfl):RS X G (.Assign [.Attribute o f pos'] value pos) (Iq C ta tv f) :=
 ⟨zy (L2.Kh ha.run hv.run hs) λD σ H ⟨τ,J,D2,a2,h,g⟩=>⟨τ,J,_,a2,h,λy J1 v H1 ry r1 e1 q1=>⟨τ,J1,_,a2.go r1 e1,q1,λx J2 w H2 rx r2 e2 hh=>by
  obtain ⟨a,ex,hh⟩:=iS hh;obtain ⟨fs,ja,hl,q2⟩:=zi hh
  subst ex;cases rx
  obtain ⟨dx,gs,h2,rf⟩:=r2 _ _ ja
  have ll:gs.length=fs.length:=by have:=congrArg Sx rf.1;simpa using this.symm
  have e3:=Ext.La (K:=X.K) (gs:=il f y fs) (gs':=dg f v gs) ja h2
  refine ⟨a,C,dx,gs,rfl,h2,cl,na,by omega,g.nx τ _ σ _ (((a2.sl.ext e1).ext e2).ext e3) ?_ ((e1.trans e2).trans e3) q2⟩
  refine r2.CI e3 a (λb ne=>aj ne) (λb o ne _ z=>by rw [aK ne];exact z) λu z=>?_
  rw [ak] at z;cases z
  exact ⟨dx,_,aR,e3.xY (xV (e2.rep ry) rf)⟩⟩⟩⟩
def EE (c:nJ) (tb:jv):jv:=λD τ J=>∃W:Nat→Sr→Hq→Prop,(∃m,W m τ J)∧∀m τ J,W m τ J →
 c τ J λb J1=>if b=true then ∃N:Sr→Hq→Prop,(∀τ' J',N τ' J'→∃m',m' < m∧W m' τ' J')∧tb { D with nx:=N,ct:=N,bk:=D.nx } τ J1 else D.nx τ J1
theorem fk {c:Expr} {body:List Stmt} {tb:jv} (hp:PassesOwn (model X.prog X.w) X.A X.env X.xe) (hc:RT X G c tc) (hb:RB X G body tb):RS X G (.While c body [] pos) (EE tc tb):=⟨zy (L2.qV hp hc.run hb.run) λD σ H ⟨τ,J,D2,a2,⟨W,⟨m0,w0⟩,h⟩,g⟩=>by
 refine ⟨λm σ' H'=>∃τ' J',wU X.K G τ' J' σ' H'∧Ext X.K J H J' H'∧W m τ' J',⟨m0,τ,J,a2,.refl,w0⟩,λm σ1 H1 ⟨τ1,J1,a1,e1,w1⟩=>?_⟩
 refine ⟨τ1,J1,_,a1,h m τ1 J1 w1,λb J2 H2 r2 e2 q=>?_⟩
 cases b with
 | false=>simp only [RV,if_false] at q ⊢;exact g.nx τ1 J2 σ1 H2 (a1.sl.ext e2) r2 (e1.trans e2) q
 | true =>
  simp only [if_true] at q ⊢
  obtain ⟨N,hN,q⟩:=q
  refine ⟨λσ' H'=>∃τ' J',wU X.K G τ' J' σ' H'∧Ext X.K J H J' H'∧N τ' J',λσ' H' ⟨τ',J',a',e',n'⟩=>let ⟨m',lt,w'⟩:=hN τ' J' n';⟨m',lt,τ',J',a',e',w'⟩,τ1,J2,{ D2 with nx:=N,ct:=N,bk:=D2.nx },a1.go r2 e2,q,?_⟩
  have ge:=g.ext (e1.trans e2)
  exact { nx:=λτ' J' σ' H' rs rr ee q=>⟨τ',J',⟨rs,rr,(a1.ext.trans e2).trans ee⟩,(e1.trans e2).trans ee,q⟩,rt:=ge.rt,bk:=ge.nx,ct:=λτ' J' σ' H' rs rr ee q=>⟨τ',J',⟨rs,rr,(a1.ext.trans e2).trans ee⟩,(e1.trans e2).trans ee,q⟩ }⟩
structure yA where
 xs:List PV
 ok:Hq→Prop
structure tQ (K:PySem.W.Frag) (it:yA) (I:It) (J:Hq) (H:Hp):Prop where
 go:∀J' H',Ext K J H J' H'→Rep K J' H'→it.ok J'→∀i,i < it.xs.length→I.go i H'
 yl:∀J' H',Ext K J H J' H'→Rep K J' H'→it.ok J'→∀i,i < it.xs.length→∀v H2,I.yld i H' v H2→∃x,it.xs[i]?=some x∧cu K J' H2 x v∧Rep K J' H2∧Ext K J' H' J' H2
 stop:∀J' H',Ext K J H J' H'→Rep K J' H'→it.ok J'→I.stop it.xs.length H'
abbrev rS:=Sr→Hq→(yA→Hq→Prop)→Prop
def LI (K:PySem.W.Frag) (G:G2) (t:rS):TI:=λσ H R=>∃τ J R2,wU K G τ J σ H∧t τ J R2∧∀it J' I H',tQ K it I J' H'→Rep K J' H'→Ext K J H J' H'→R2 it J'→R I H'
structure RI (X:Cx) (G:G2) (tg e:Expr) (t:rS):Prop where
 run:L2.PI X tg e (LI X.K G t)
theorem M6 {X:Cx} {tg e:Expr} {t t':TI} (h:L2.PI X tg e t) (k:∀σ H Q,t' σ H Q→t σ H Q):L2.PI X tg e t':=λpins s σ H Q I q=>h pins s σ H Q I (k _ _ _ q)
def Nr (wi:rS) (g:yI) (tb:jv):jv:=λD τ J=>wi τ J λit J1=>∃Pv:Nat→Sr→Hq→Prop,Pv 0 τ J1∧(∀i τ J,Pv i τ J→it.ok J) ∧
 (∀i x τ J,it.xs[i]?=some x→Pv i τ J→g x τ J λτ2 J2=>tb { D with nx:=Pv (i + 1),ct:=Pv (i + 1),bk:=D.nx } τ2 J2)∧∀τ J,Pv it.xs.length τ J→D.nx τ J
theorem cQ {iter:Expr} {body:List Stmt} {wi:rS} {g:yI} {tb:jv} {pos:Pos} (hp:PassesOwn (model X.prog X.w) X.A X.env X.xe) (hc:X.calm=true) (hi:RI X G tg iter wi) (hg:RG X G tg g) (hb:RB X G body tb)
  (hs:∀x,foldedSetIterable iter X.env x=pure x:=by intro _;rfl):RS X G (.For tg iter body [] pos) (Nr wi g tb):=⟨zy (L2.zB hp hc hi.run hg.run hb.run hs) λD σ H ⟨τ,J,D2,a2,h,g⟩=>by
 refine ⟨τ,J,_,a2,h,λit J1 I H1 ir r1 e1 ⟨Pv,p0,pok,step,fin⟩=>?_⟩
 refine ⟨λi m σ' H'=>m=it.xs.length - i∧i≤it.xs.length∧∃τ' J',wU X.K G τ' J' σ' H'∧Ext X.K J1 H1 J' H'∧Pv i τ' J',⟨_,rfl,Sb _,τ,J1,a2.go r1 e1,.refl,p0⟩,?_⟩
 rintro i m σ2 H2 ⟨rfl,hil,τ2,J2,a3,e3,p3⟩
 by_cases hlt:i < it.xs.length
 ·refine .inr ⟨ir.go J2 H2 e3 a3.hp (pok _ _ _ p3) i hlt,λσ' H'=>∃τ' J',wU X.K G τ' J' σ' H'∧Ext X.K J1 H1 J' H'∧Pv (i + 1) τ' J',λσ' H' z=>⟨_,by omega,rfl,hlt,z⟩,λv H4 y=>?_⟩
  obtain ⟨x,ex,rx,r4,e4⟩:=ir.yl J2 H2 e3 a3.hp (pok _ _ _ p3) i hlt v H4 y
  refine ⟨x,τ2,J2,_,rx,a3.go r4 e4,step i x τ2 J2 ex p3,λτ5 J5 σ5 H5 rs5 r5 e5 q5=>?_⟩
  have ae:=(a3.ext.trans e4).trans e5
  have ge:=g.ext (((e1.trans e3).trans e4).trans e5)
  refine ⟨τ5,J5,{ D2 with nx:=Pv (i + 1),ct:=Pv (i + 1),bk:=D2.nx },⟨rs5,r5,ae⟩,q5,?_⟩
  exact { nx:=λτ' J' σ' H' rs rr ee q=>⟨τ',J',⟨rs,rr,ae.trans ee⟩,((e3.trans e4).trans e5).trans ee,q⟩,rt:=ge.rt,bk:=ge.nx,ct:=λτ' J' σ' H' rs rr ee q=>⟨τ',J',⟨rs,rr,ae.trans ee⟩,((e3.trans e4).trans e5).trans ee,q⟩ }
 ·have ei:i=it.xs.length:=by omega
  subst ei
  exact .inl ⟨ir.stop J2 H2 e3 a3.hp (pok _ _ _ p3),g.nx τ2 J2 σ2 H2 a3.sl a3.hp (e1.trans e3) (fin _ _ p3)⟩⟩
def Oj (J:Hq):PV→Option yA
 | .fl xs=>some ⟨xs,λ_=>True⟩
 | .ref a=>match J a with
  | some (.lst xs)=>some ⟨xs,λJ'=>J' a=some (.lst xs)⟩
  | _=>none
 | _=>none
def QC (te:cY):rS:=λτ J R=>te τ J λx J1=>wW (Oj J1 x) λit=>R it J1
theorem tQ.list {K:PySem.W.Frag} {it:yA} {a:Addr} {J:Hq} {H:Hp} (h:∀J' H',Ext K J H J' H'→Rep K J' H'→it.ok J'→∃vs,dM K H' a vs∧aS K J' H' it.xs vs):tQ K it (L2.OC K a) J H where
 go:=λJ' H' e r o i hi=>by
  obtain ⟨vs,s,rs⟩:=h J' H' e r o
  exact ⟨vs,vs[i]'(by rw [← rs.length];exact hi),s,by simp⟩
 yl:=λJ' H' e r o i hi v H2 y=>by
  obtain ⟨vs,s,rs⟩:=h J' H' e r o
  obtain ⟨e1,y⟩:=y
  subst e1
  obtain ⟨x,ex,rx⟩:=rs.get' (y vs s)
  exact ⟨x,ex,rx,r,.refl⟩
 stop:=λJ' H' e r o=>by
  obtain ⟨vs,s,rs⟩:=h J' H' e r o
  exact ⟨vs,s,by rw [rs.length];exact Rz _⟩
theorem dR {l:Expr} {tl:cY} (hl:RE X G l tl):RI X G tg l (QC tl):=⟨M6 (L2.vT hl.run) λσ H R ⟨τ,J,R2,a2,h,k⟩=>⟨τ,J,_,a2,h,λx J1 v H1 rx r1 e1 hh=>by
 obtain ⟨it,ei,q⟩:=d_ hh
 cases x with
 | fl xs =>
  obtain ⟨a,vs,rfl,h1,h2⟩:=rx
  cases ei
  refine ⟨a,rfl,⟨vs,h1.sq⟩,k _ J1 _ H1 (.list λJ' H' e r _=>⟨vs,(e.flat h1).sq,e.jq h2⟩) r1 e1 q⟩
 | ref a =>
  cases rx
  unfold Oj at ei
  dsimp only at ei
  cases ej:J1 a with
  | none=>rw [ej] at ei;cases ei
  | some o =>
   rw [ej] at ei
   cases o with
   | lst xs =>
    cases ei
    obtain ⟨vs,h1,h2⟩:=r1 _ _ ej
    refine ⟨a,rfl,⟨vs,.inl (.inl h1)⟩,k _ J1 _ H1 (.list λJ' H' e r o=>?_) r1 e1 q⟩
    obtain ⟨vs',h1',h2'⟩:=r _ _ o
    exact ⟨vs',.inl (.inl h1'),h2'⟩
   | _=>cases ei
 | _=>cases ei⟩⟩
def Q9 (te:cY):rS:=λτ J R=>te τ J λx J1=>Lo x λxs=>R ⟨xs,λ_=>True⟩ J1
def qp (lo:Int) (n:Nat):List PV:=(SJ n).map λ(i:Nat)=>PV.int (lo + (i:Int))
theorem jH (lo:Int) (n:Nat):(qp lo n).length=n:=by simp [qp]
theorem qr (lo:Int) (n i:Nat) (x:PV):(qp lo n)[i]?=some x↔i < n∧x=.int (lo + i):=by
 unfold qp
 rw [Ry]
 by_cases h:i < n
 ·rw [TR h];simp [h,eq_comm]
 ·rw [Sw (by simpa using h)];simp [h]
theorem tQ.Lq {K:PySem.W.Frag} {J:Hq} {H:Hp} (lo:Int) (n:Nat):tQ K ⟨qp lo n,λ_=>True⟩ (L2.Lx lo n) J H where
 go:=λJ' H' e r o i hi=>by
  show i < n
  simpa [jH] using hi
 yl:=λJ' H' e r o i hi v H2 y=>by
  obtain ⟨e1,y⟩:=y
  subst e1 y
  exact ⟨.int (lo + i),(qr lo n i _).mpr ⟨by simpa [jH] using hi,rfl⟩,rfl,r,.refl⟩
 stop:=λJ' H' e r o=>by
  show n≤(qp lo n).length
  rw [jH];exact Rz _
def QD (ta:pL):rS:=λτ J R=>ta τ J λvs J1=>AJ vs λx=>Cn x λj=>-(2 ^ 62)≤j∧j < 2 ^ 62∧R ⟨qp 0 j.toNat,λ_=>True⟩ J1
def Q8 (ta:pL):rS:=λτ J R=>ta τ J λvs J1=>Lm vs λx y=>Cn x λi=>Cn y λj=>(-(2 ^ 62)≤i∧i < 2 ^ 62∧-(2 ^ 62)≤j∧j < 2 ^ 62)∧R ⟨qp i (j - i).toNat,λ_=>True⟩ J1
theorem iu {a:Expr} {ta:pL} {p pos:Pos} (hg:Gl X "range") (hm:X.mg "range"=none) (ha:RA X G [a] ta) (hs:starEach [a] X.env=[(false,eval a X.env)]:=by rfl):RI X G tg (.Call (.Name "range" p) [a] [] pos) (QD ta) :=
 ⟨M6 (L2.oy hg hm ha.run hs) λσ H R ⟨τ,J,R2,a2,h,k⟩=>⟨τ,J,_,a2,h,λxs J1 vs H1 rs r1 e1 hh=>by
  obtain ⟨x,ex,hh⟩:=jR hh;obtain ⟨j,ej,l1,l2,q⟩:=fZ hh;subst ej ex
  obtain ⟨v,us,rfl,rv,e'⟩:=rs
  cases rv;cases e'
  exact ⟨j,rfl,l1,l2,k _ J1 _ H1 (.Lq 0 _) r1 e1 q⟩⟩⟩
def fE (C:Addr) (E2:Addr→Hq→Prop) (t:pL):jv:=λ_ τ J=>t τ J λxs J1=>xs.length≤sizeLine∧E2 C J1
theorem dP {E:XK} {E2:Addr→Hq→Prop} {C:Addr} {x:Str} {t:pL} {np cpos:Pos} (O:Own X.K X.mg x C) (hc:X.calm=true) (hx:Throws X E) (kn:Li X.K G.1 G.2 E2 E) (hg:Gl X x) (ha:RA X G (e :: es) t)
  (hd:(x == ("__debug__":Str))=false:=by decide) (he:starEach (e :: es) X.env=(false,eval e X.env) :: starEach es X.env:=by rfl) (hpl:(backTo cpos (starEach es X.env)).any (·.1)=false:=by rfl) :
  RS X G (.Raise (some (.Call (.Name x np) (e :: es) [] cpos)) none pos) (fE C E2 t):=⟨zy (Ct O hc hx hg ha.run hd he hpl) λD σ H ⟨τ,J,D2,a2,h,g⟩ =>
 ⟨τ,J,_,a2,h,λxs J1 vs H1 rs r1 e1 ⟨hl,q⟩=>⟨by rw [← rs.length];exact hl,kn C J1 H1 r1 (a2.ext.trans e1) q⟩⟩⟩
end
section
variable {P:Program} {w:World} {K:PySem.W.Frag} {mg:Str→Option Value} {base:Heap}
section
variable {α β:Type} {a b:α} {l m:List α} {i:Nat} {f:α→β} {c:Bool}
theorem Lf:TY f (a :: l)=f a :: TY f l:=rfl
theorem Lg:TY f []=[]:=rfl
theorem Ld:(a :: l).length=l.length + 1:=rfl
theorem Le:([]:List α).length=0:=rfl
theorem Lb:(a :: l) ++ m=a :: (l ++ m):=rfl
theorem Lc:[] ++ m=m:=rfl
theorem P_:(a :: l)[0]?=some a:=rfl
theorem Qa:(a :: l)[i + 1]?=l[i]?:=rfl
theorem Qh:(a :: l).set 0 b=b :: l:=rfl
theorem Qi:(a :: l).set (i + 1) b=a :: l.set i b:=rfl
theorem Qe:Option.map f (some a)=some (f a):=rfl
theorem Qd:(some a).getD b=a:=rfl
theorem Qc:(!true)=false:=rfl
theorem Qb:(!false)=true:=rfl
theorem Qj:(true && c)=c:=rfl
theorem P9:(false && c)=false:=rfl
theorem Qf:Sm 0 a=[]:=rfl
theorem Qg:Sm (i + 1) a=a :: Sm i a:=rfl
theorem N7:(a :: l).isEmpty=false:=rfl
theorem N8:([]:List α).isEmpty=true:=rfl
end
def rR (N:List Str) (xs:List PV):Sr:=xs.map some ++ Sm (N.length - xs.length) none
theorem yi {J:Hq} {H:Hp} {N:List Str} {xs:List PV} {vs:List V} (r:aS K J H xs vs):lF K J H (rR N xs) (L2.start N vs):=by
 refine ⟨by simp [rR,L2.start,r.length],λi x e=>?_⟩
 unfold rR at e
 unfold L2.start
 by_cases hi:i < xs.length
 ·rw [Sy (by simpa using hi),Ry] at e
  cases ex:xs[i]? with
  | none=>rw [ex] at e;cases e
  | some y =>
   rw [ex] at e
   cases e
   obtain ⟨v,h1,h2⟩:=r.get ex
   exact ⟨v,by rw [Sy (by rw [Rr,← r.length];exact hi),Ry,h1];rfl,h2⟩
 ·rw [SO (by simpa using hi)] at e
  have:=RJ e
  rw [List.mem_replicate] at this
  cases this.2
theorem Ib {x qual:Str} {st:Stmt} {f:Addr} {fd:FuncData} {N ps:List Str} {k:Nat} {sp:cG} (F:bP K x qual st f fd) (S:aw N ps (L2.aq st)) (len:∀xs J Q E,sp xs J Q E→xs.length=ps.length)
  (hbody:∀(cdv:Value) (A:Around) (outer:List Env) (s:Shared) (H:Hp) (E:XK) (G:G2) (xs:List PV) (J:Hq) (Q:PV→Hq→Prop) (E2:Addr→Hq→Prop),bC k (A.deeper (envOfC qual (L2.aq st) s.heap.objs.size f cdv))→sp xs J Q E2 →
   BI (wV P w K mg base N qual (L2.aq st) f cdv A outer s H E) G E2 E →
   ∃t,RB (wV P w K mg base N qual (L2.aq st) f cdv A outer s H E) G (L2.bQ st) t∧t { nx:=λ_ J'=>Q .non J',rt:=Q } (rR N xs) J):aH P w K mg base (cg P w) (k + 1) f fd ps (cH K sp):=by
 refine Ri F S (λvs H Q E ⟨xs,J,Q2,E2,a,_,b,_⟩=>by rw [← a.length];exact len _ _ _ _ b) λcdv A outer s H vs Q E hr ⟨xs,J,Q2,E2,rs,rr,hs,kn,ke⟩=>?_
 obtain ⟨t,hb,q⟩:=hbody cdv A outer s H E (J,H) xs J Q2 E2 hr hs ⟨qg,ke⟩
 refine ⟨_,⟨hb.run⟩,rR N xs,J,_,⟨yi rs,rr,.refl⟩,q,?_⟩
 exact { nx:=λτ J' σ H' _ r e q=>kn .non J' .non H' rfl r e q,rt:=λx J' v H' rx r e q=>kn x J' v H' rx r e q,bk:=λ_ _ _ _ _ _ _ q=>q.elim,ct:=λ_ _ _ _ _ _ _ q=>q.elim }
theorem Rh {x qual:Str} {st:Stmt} {f:Addr} {fd:FuncData} {N ps:List Str} {k:Nat} {sp:cG} {t:(Addr→Hq→Prop)→jv} (F:bP K x qual st f fd) (S:aw N ps (L2.aq st)) (len:∀xs J Q E,sp xs J Q E→xs.length=ps.length)
  (rd:∀(cdv:Value) (A:Around) (outer:List Env) (s:Shared) (H:Hp) (E:XK) (G:G2) (E2:Addr→Hq→Prop),bC k (A.deeper (envOfC qual (L2.aq st) s.heap.objs.size f cdv)) →
   BI (wV P w K mg base N qual (L2.aq st) f cdv A outer s H E) G E2 E→RB (wV P w K mg base N qual (L2.aq st) f cdv A outer s H E) G (L2.bQ st) (t E2))
  (run:∀(xs:List PV) (J:Hq) (Q:PV→Hq→Prop) (E2:Addr→Hq→Prop),sp xs J Q E2→∀X:Prop,(t E2 { nx:=λ_ J'=>Q .non J',rt:=Q } (rR N xs) J→X)→X):aH P w K mg base (cg P w) (k + 1) f fd ps (cH K sp) :=
 Ib F S len λcdv A outer s H E G xs J Q E2 hr h B=>⟨_,rd cdv A outer s H E G E2 hr B,run xs J Q E2 h _ id⟩
theorem _root_.Ov.Def.dH {x:Str} {st:Stmt} {k:Nat} {ps:List Str} {sp:cG} (D:Def K mg x st)
  (h:∀f fd,bP K x x st f fd→aH P w K mg base (cg P w) k f fd ps (cH K sp))
  (hb:∀(kV doc pm:Value) (an:Option Addr) (cdv ct:Value) (us:List Value),us.length=ps.length→bindArgs (PySem.W.fnOf x x (L2.du st) (L2.bQ st) (L2.aq st) .none kV doc pm an cdv ct) ⟨us,[]⟩=pure (ps.zip us)) :
  bF P w K mg base k x ps sp:=D.OJ h hb
end
section
variable {X:Cx} {K:PySem.W.Frag}
def Ez (g:Int→Int→PV):mn:=λx y J Q=>Cn x λi=>Cn y λj=>Q (g i j) J
def qI (C:Int→Int→Prop) (g:Int→Int→PV):mn:=λx y J Q=>Cn x λi=>Cn y λj=>C i j∧Q (g i j) J
theorem uh {g:Int→Int→V} {g':Int→Int→PV} (hg:∀J H i j,cu K J H (g' i j) (g i j)):LR K (L2.G7 g) (Ez g'):=λJ H x y v w Q2 Q rx ry r h k=>by
 obtain ⟨i,ex,h⟩:=fZ h;obtain ⟨j,ey,q⟩:=fZ h
 subst ex ey;exact ⟨i,j,rx,ry,k _ J _ H (hg _ _ _ _) r .refl q⟩
theorem Gg {C:Int→Int→Prop} {g:Int→Int→V} {g':Int→Int→PV} (hg:∀J H i j,cu K J H (g' i j) (g i j)):LR K (L2.rI C g) (qI C g'):=λJ H x y v w Q2 Q rx ry r h k=>by
 obtain ⟨i,ex,h⟩:=fZ h;obtain ⟨j,ey,c,q⟩:=fZ h
 subst ex ey;exact ⟨i,j,rx,ry,c,k _ J _ H (hg _ _ _ _) r .refl q⟩
theorem bO:ml X (binaryOp .Add) (Ez λi j=>.int (i + j)):=⟨_,L2.JU,uh λ_ _ _ _=>rfl⟩
theorem c8:ml X (binaryOp .Sub) (Ez λi j=>.int (i - j)):=⟨_,L2.Ka,uh λ_ _ _ _=>rfl⟩
theorem aT:ml X (binaryOp .Mult) (qI CM λi j=>.int (i * j)):=⟨_,GC,Gg λ_ _ _ _=>rfl⟩
theorem ed:ml X (binaryOp .FloorDiv) (qI CQ λi j=>.int (i.fdiv j)):=⟨_,D_,Gg λ_ _ _ _=>rfl⟩
theorem cP:ml X (binaryOp .Mod) (qI (λ_ j=>0 < j) λi j=>.int (i % j)):=⟨_,L2.JY,Gg λ_ _ _ _=>rfl⟩
theorem D':ml X (binaryOp .Pow) (qI L2.II λi j=>.int (i ^ j.toNat)):=⟨_,L2.J_,Gg λ_ _ _ _=>rfl⟩
theorem gC:ml X (compareOp .Lt) (Ez λi j=>.bl (decide (i < j))):=⟨_,L2.M0,uh λ_ _ _ _=>rfl⟩
theorem AM:ml X (compareOp .LtE) (Ez λi j=>.bl (decide (i≤j))):=⟨_,L2.MZ,uh λ_ _ _ _=>rfl⟩
theorem o6:ml X (compareOp .Gt) (Ez λi j=>.bl (decide (j < i))):=⟨_,L2.MY,uh λ_ _ _ _=>rfl⟩
theorem AL:ml X (compareOp .GtE) (Ez λi j=>.bl (decide (j≤i))):=⟨_,L2.MX,uh λ_ _ _ _=>rfl⟩
def qU (g:Int→PV):LB:=λx J Q=>Cn x λi=>Q (g i) J
theorem oR:Qs X (unaryOp .USub) (qU λi=>.int (-i)):=⟨_,L2.K_,λJ H x v Q2 Q rx r h k=>by obtain ⟨i,ex,q⟩:=fZ h;subst ex;exact ⟨i,rx,k (.int (-i)) J _ H rfl r .refl q⟩⟩
def Nd:mn:=λx y J Q=>D7 x λi=>D7 y λj=>Q (.bl (decide (i.cps.toList < j.cps.toList))) J
theorem zk:ml X (compareOp .Lt) Nd:=⟨_,L2.Co,λJ H x y v w Q2 Q rx ry r h k=>by obtain ⟨i,ex,h⟩:=jS h;obtain ⟨j,ey,q⟩:=jS h;subst ex ey;exact ⟨i,j,rx,ry,k (.bl _) J _ H rfl r .refl q⟩⟩
def DH:PV→Bool
 | .non=>true
 | _=>false
theorem Ay {J:Hq} {H:Hp} {x:PV} {v:V} (r:cu K J H x v):decide (v=.non)=DH x:=by
 cases x with
 | non=>cases r;rfl
 | tup xs=>obtain ⟨a,vs,rfl,_⟩:=r;rfl
 | fl xs=>obtain ⟨a,vs,rfl,_⟩:=r;rfl
 | _=>cases r;rfl
def QR:mn:=λx y J Q=>y=.non∧Q (.bl (DH x)) J
def EA:mn:=λx y J Q=>y=.non∧Q (.bl (!DH x)) J
theorem M1:ml X (compareOp .Is) QR:=⟨_,L2.JX,λJ H x y v w Q2 Q rx ry r ⟨ey,q⟩ k=>by subst ey;cases ry;exact ⟨rfl,by rw [Ay rx];exact k (.bl _) J _ H rfl r .refl q⟩⟩
theorem xP:ml X (compareOp .IsNot) EA:=⟨_,L2.GD,λJ H x y v w Q2 Q rx ry r ⟨ey,q⟩ k=>by subst ey;cases ry;exact ⟨rfl,by rw [Ay rx];exact k (.bl _) J _ H rfl r .refl q⟩⟩
mutual
def gQ:PV→Py
 | .non=>.non | .bl b=>.bl b | .int i=>.int i | .str x=>.str x | .ref _=>.non | .ty _=>.non | .tup xs=>.tup (gG xs) | .fl xs=>.lst (gG xs)
def gG:List PV→List Py
 | []=>[]
 | x :: xs=>gQ x :: gG xs
end
mutual
def m7:PV→Bool
 | .ref _=>false | .ty _=>false | .tup xs=>kJ xs | .fl xs=>kJ xs | _=>true
def kJ:List PV→Bool
 | []=>true
 | x :: xs=>m7 x && kJ xs
end
mutual
theorem uS {J:Hq} {H:Hp}:∀{x:PV} {v:V},m7 x=true→cu K J H x v→At K H (gQ x) v
 | .non,_,_,h=>h
 | .bl _,_,_,h=>h
 | .int _,_,_,h=>h
 | .str _,_,_,h=>h
 | .tup xs,_,p,⟨a,vs,e,h,k⟩=>⟨a,vs,e,h,qc (by simpa [m7] using p) k⟩
 | .fl xs,_,p,⟨a,vs,e,h,k⟩=>⟨a,vs,e,h.sq,qc (by simpa [m7] using p) k⟩
theorem qc {J:Hq} {H:Hp}:∀{xs:List PV} {vs:List V},kJ xs=true→aS K J H xs vs→rT K H (gG xs) vs
 | [],_,_,h=>h
 | x :: xs,_,p,⟨v,us,e,h,k⟩=>by
  have p':m7 x=true∧kJ xs=true:=by simpa [kJ] using p
  exact ⟨v,us,e,uS p'.1 h,qc p'.2 k⟩
end
def eqQ (x y:PV):Bool:=kr (gQ x) (gQ y)
def FZ (x:PV):Prop:=m7 x=true∧dep (gQ x)≤60
def Ou (f:Bool→Bool):mn:=λx y J Q=>FZ x∧m7 y=true∧Q (.bl (f (eqQ x y))) J
theorem HW (f:Bool→Bool):LR K (rP K f) (Ou f):=λJ H x y v w Q2 Q rx ry r ⟨⟨px,d⟩,py,q⟩ k=>⟨gQ x,gQ y,uS px rx,uS py ry,d,k (.bl _) J _ H rfl r .refl q⟩
theorem dN (hu:X.A.units + 61 < cLine):ml X (compareOp .Eq) (Ou id):=⟨_,JV hu,HW id⟩
theorem fK (hu:X.A.units + 61 < cLine):ml X (compareOp .NotEq) (Ou not):=⟨_,JZ hu,HW not⟩
def pE (J:Hq):PV→PV→Option PV
 | .tup xs,.int i=>cZ xs i
 | .fl xs,.int i=>cZ xs i
 | .ref a,.int i=>match J a with
  | some (.lst xs)=>cZ xs i
  | _=>none
 | _,_=>none
theorem aS.cZ {J:Hq} {H:Hp} {xs:List PV} {vs:List V} {i:Int} {x:PV} (r:aS K J H xs vs) (h:L2.cZ xs i=some x):∃v,L2.cZ vs i=some v∧cu K J H x v:=by
 unfold L2.cZ at h ⊢
 rw [← r.length]
 cases e:L2.CL xs.length i with
 | none=>rw [e] at h;cases h
 | some j =>
  rw [e] at h
  obtain ⟨v,h1,h2⟩:=r.get h
  exact ⟨v,h1,h2⟩
def Pn:mn:=λx y J Q=>wW (pE J x y) λv=>Q v J
theorem av:N9 X Pn:=⟨_,L2.Ga.or L2.Ju,λJ H x y v w Q2 Q rx ry r h k=>by
 obtain ⟨z,ez,q⟩:=d_ h
 cases y with
 | int i =>
  cases ry
  cases x with
  | tup xs =>
   obtain ⟨a,vs,rfl,h1,h2⟩:=rx
   obtain ⟨u,e1,e2⟩:=h2.cZ (show L2.cZ xs i=some z from ez)
   exact .inr ⟨a,vs,i,u,rfl,rfl,h1,e1,k z J u H e2 r .refl q⟩
  | fl xs =>
   obtain ⟨a,vs,rfl,h1,h2⟩:=rx
   obtain ⟨u,e1,e2⟩:=h2.cZ (show L2.cZ xs i=some z from ez)
   exact .inl ⟨a,vs,i,u,rfl,rfl,h1.sq,e1,k z J u H e2 r .refl q⟩
  | ref a =>
   cases rx
   unfold pE at ez
   dsimp only at ez
   cases ej:J a with
   | none=>rw [ej] at ez;cases ez
   | some o =>
    rw [ej] at ez
    cases o with
    | lst xs =>
     obtain ⟨vs,h1,h2⟩:=r _ _ ej
     obtain ⟨u,e1,e2⟩:=h2.cZ (show L2.cZ xs i=some z from ez)
     exact .inl ⟨a,vs,i,u,rfl,rfl,.inl (.inl h1),e1,k z J u H e2 r .refl q⟩
    | _=>cases ez
  | _=>cases ez
 | _=>cases x <;> cases ez⟩
def lH (xs:List PV) (lo hi:Option Int):List PV:=(xs.drop (HT.d7 xs.length 0 lo)).take (HT.d7 xs.length xs.length hi - HT.d7 xs.length 0 lo)
theorem uW {J:Hq} {H:Hp} {xs:List PV} {vs:List V} {lo hi:Option Int} (r:aS K J H xs vs):aS K J H (lH xs lo hi) (L2.uV vs lo hi):=by
 unfold lH L2.uV
 rw [← r.length]
 exact (r.drop _).take _
def Nj:BM:=λx lo hi J Q=>Lo x λxs=>¬ (HT.d7 xs.length 0 lo=0∧HT.d7 xs.length xs.length hi=xs.length)∧Q (.tup (lH xs lo hi)) J
theorem zW:Ob X Nj:=⟨_,L2.KH,λJ H x lo hi v Q2 Q rx r h k=>by
 obtain ⟨xs,ex,hn,q⟩:=D8 h
 subst ex
 obtain ⟨a,vs,rfl,h1,h2⟩:=rx
 refine ⟨a,vs,rfl,h1,by rw [← h2.length];exact hn,λp hp=>?_⟩
 have sm:=bW.new hp (.tup (L2.uV vs lo hi))
 have e2:=Ext.same (K:=X.K) (J:=J) sm
 exact k (.tup (lH xs lo hi)) J (.ref p) _ ⟨p,_,rfl,.inl (.inl aR),e2.jq (uW h2)⟩ (r.same sm) e2 q⟩
def nK (J:Hq):PV→Option (List PV)
 | .fl xs=>some xs
 | .ref a=>match J a with
  | some (.lst xs)=>some xs
  | _=>none
 | _=>none
theorem iF {J:Hq} {H:Hp} {x:PV} {v:V} {xs:List PV} (rx:cu K J H x v) (r:Rep K J H) (h:nK J x=some xs):∃a vs,v=.ref a∧dM K H a vs∧aS K J H xs vs:=by
 cases x with
 | fl ys=>obtain ⟨a,vs,rfl,h1,h2⟩:=rx;cases h;exact ⟨a,vs,rfl,h1.sq,h2⟩
 | ref a =>
  cases rx
  unfold nK at h
  dsimp only at h
  cases ej:J a with
  | none=>rw [ej] at h;cases h
  | some o =>
   rw [ej] at h
   cases o with
   | lst ys=>cases h;obtain ⟨vs,h1,h2⟩:=r _ _ ej;exact ⟨a,vs,rfl,.inl (.inl h1),h2⟩
   | _=>cases h
 | _=>cases h
def Nh:BM:=λx lo hi J Q=>wW (nK J x) λxs=>Q (.fl (lH xs lo hi)) J
theorem IE:Ob X Nh:=⟨_,L2.A7,λJ H x lo hi v Q2 Q rx r h k=>by
 obtain ⟨xs,ex,q⟩:=d_ h
 obtain ⟨a,vs,rfl,h1,h2⟩:=iF rx r ex
 refine ⟨a,vs,rfl,h1,λp hp=>?_⟩
 obtain ⟨x1,x2,x3⟩:=vm r (uW (lo:=lo) (hi:=hi) h2) hp
 exact k _ J _ _ x1 x2 x3 q⟩
def Ni:BM:=λx lo hi J Q=>wW (nK J x) λxs=>∀p,J p=none→Q (.ref p) (put J p (.lst (lH xs lo hi)))
theorem Hn:Ob X Ni:=⟨_,L2.A7,λJ H x lo hi v Q2 Q rx r h k=>by
 obtain ⟨xs,ex,q⟩:=d_ h
 obtain ⟨a,vs,rfl,h1,h2⟩:=iF rx r ex
 exact ⟨a,vs,rfl,h1,λp hp=>k (.ref p) _ _ _ rfl (r.AE hp (uW h2)) (.laid hp) (q p (r.free hp))⟩⟩
def M_:yH:=λxs J Q=>AJ xs λx=>Cn x λi=>Q (.int (if i < 0 then -i else i)) J
theorem qd:HD X (.builtin "abs") M_:=⟨_,L2.C8,λJ H xs vs Q2 Q rs r h k=>by
 obtain ⟨x,ex,h⟩:=jR h;obtain ⟨i,ei,q⟩:=fZ h;subst ei
 subst ex;obtain ⟨v,us,rfl,rv,e⟩:=rs;cases rv;cases e
 exact ⟨i,rfl,k (.int _) J _ H rfl r .refl q⟩⟩
def xB (J:Hq):PV→Option Nat
 | .tup xs=>some xs.length
 | x=>(nK J x).map Sx
def Kq:yH:=λxs J Q=>AJ xs λx=>wW (xB J x) λn=>Q (.int n) J
theorem cJ:HD X (.builtin "len") Kq:=⟨_,L2.uT,λJ H xs vs Q2 Q rs r h k=>by
 obtain ⟨x,ex,h⟩:=jR h;obtain ⟨n,en,q⟩:=d_ h
 subst ex;obtain ⟨v,us,rfl,rv,e⟩:=rs;cases e
 have go:∀ys,nK J x=some ys→ys.length=n→∃p ws,([v]:List V)=[.ref p]∧(dM X.K H p ws∨fu X.K H p ws)∧Q (.int ws.length) H:=λys h1 h2=>by
  obtain ⟨a,ws,rfl,h3,h4⟩:=iF rv r h1
  exact ⟨a,ws,rfl,.inl h3,by rw [← h4.length,h2];exact k (.int _) J _ H rfl r .refl q⟩
 cases x with
 | tup ys =>
  obtain ⟨a,ws,rfl,h1,h2⟩:=rv
  cases en
  exact ⟨a,ws,rfl,.inr h1,by rw [← h2.length];exact k (.int _) J _ H rfl r .refl q⟩
 | fl ys=>cases en;exact go _ rfl rfl
 | ref a =>
  unfold xB at en
  cases el:nK J (.ref a) with
  | none=>simp [el] at en
  | some ys=>simp [el] at en;exact go _ el en
 | _=>cases en⟩
def By (J:Hq):PV→Option String
 | .non=>some "NoneType" | .bl _=>some "bool" | .int _=>some "int" | .str _=>some "str" | .tup _=>some "tuple" | .fl _=>some "list"
 | .ref a=>match J a with
  | some (.lst _)=>some "list"
  | some (.dct _ _)=>some "dict"
  | _=>none
 | _=>none
def lY (t n:String):Option Bool :=
 if n∈["int","bool","str","tuple","list"] then some (t == n || (t == "bool" && n == "int")) else none
theorem Gb (K:PySem.W.Frag) {t n:String} {b:Bool} (ht:t∈["NoneType","bool","int","str","tuple","list","dict"]) (h:lY t n=some b):PySem.W.kitOne K (.type t) (.type n)=some b:=by
 unfold lY at h
 by_cases hn:n∈["int","bool","str","tuple","list"]
 ·rw [if_pos hn] at h
  simp only [RM,Sh,or_false] at ht hn
  rcases ht with rfl | rfl | rfl | rfl | rfl | rfl | rfl <;> rcases hn with rfl | rfl | rfl | rfl | rfl <;> cases h <;> with_unfolding_all rfl
 ·rw [if_neg hn] at h;cases h
theorem Hu {J:Hq} {x:PV} {t:String} (h:By J x=some t):t∈["NoneType","bool","int","str","tuple","list","dict"]:=by
 cases x with
 | ref a =>
  unfold By at h
  dsimp only at h
  cases ej:J a with
  | none=>rw [ej] at h;cases h
  | some o=>rw [ej] at h;cases o <;> cases h <;> simp
 | ty n=>cases h
 | _=>cases h;simp
def Pg (x:PV) (k:String→Prop) (_:gw k:=dp):Prop:=match x with | .ty n=>k n | _=>False
theorem MV {x:String} {k:String→Prop} {d:gw k}:Pg (.ty x) k d=k x:=rfl
theorem JT {x:PV} {k:String→Prop} {d:gw k} (h:Pg x k d):∃n,x=.ty n∧k n:=by cases x <;> first | exact ⟨_,rfl,h⟩ | exact False.elim h
def Na:yH:=λxs J Q=>Lm xs λx y=>Pg y λn=>wW (By J x) λt=>wW (lY t n) λb=>Q (.bl b) J
theorem BO:bJ X (.builtin "isinstance") (λxs H Q=>∃x n t b,xs=[x,.ty n]∧(dW X.K H x (.type t)∨(t="tuple"∧∃a vs,x=.ref a∧fu X.K H a vs)∨(t="list"∧∃a vs,x=.ref a∧dM X.K H a vs))∧PySem.W.kitOne X.K (.type t) (.type n)=some b∧Q (.bl b) H):=by
 intro pins s σ H xs us Q I r h
 obtain ⟨x,n,t,b,rfl,ty,e,q⟩:=h
 obtain ⟨u,w',rfl,rx,ry⟩:=L2.vals2 r
 cases (show w'=Value.type n from ry)
 rcases ty with ty | ⟨rfl,a,vs,rfl,hs⟩ | ⟨rfl,a,vs,rfl,hs⟩
 ·exact L2.BX I rx ty e λtk=>⟨.bl b,H,I.tok _,rfl,q⟩
 ·cases rx
  obtain ⟨its,_,⟨o,h1,h2,_⟩,_⟩:=I.tuple hs
  exact PySem.W.kia_one PySem.W.kitx_tuple I.mG ⟨o,h1,h2⟩ e (λz=>nomatch z) λtk=>⟨.bl b,H,I.tok _,rfl,q⟩
 ·cases rx
  obtain ⟨its,_,⟨o,_,h1,h2,_⟩,_⟩:=I.list hs
  exact PySem.W.kia_one PySem.W.kitx_list I.mG ⟨o,h1,h2⟩ e (λz=>nomatch z) λtk=>⟨.bl b,H,I.tok _,rfl,q⟩
theorem iE:HD X (.builtin "isinstance") Na:=⟨_,BO,λJ H xs vs Q2 Q rs r h k=>by
 obtain ⟨x,y,ex,h⟩:=D6 h;obtain ⟨n,ey,h⟩:=JT h;obtain ⟨t,et,h⟩:=d_ h;obtain ⟨b,es,q⟩:=d_ h
 subst ey
 subst ex
 obtain ⟨v,us,rfl,rv,w,us',rfl,rw',e⟩:=rs
 cases rw';cases e
 refine ⟨v,n,t,b,rfl,?_,Gb X.K (Hu et) es,k (.bl _) J _ H rfl r .refl q⟩
 cases x with
 | non=>cases rv;cases et;exact .inl .non
 | bl i=>cases rv;cases et;exact .inl (.bl i)
 | int i=>cases rv;cases et;exact .inl (.int i)
 | str i=>cases rv;cases et;exact .inl (.str i)
 | tup xs=>obtain ⟨a,ws,rfl,h1,_⟩:=rv;cases et;exact .inr (.inl ⟨rfl,a,ws,rfl,h1⟩)
 | fl xs =>
  obtain ⟨a,ws,rfl,h1,_⟩:=rv;cases et
  exact .inr (.inr ⟨rfl,a,ws,rfl,h1.sq⟩)
 | ty n=>cases et
 | ref a =>
  cases rv
  unfold By at et
  dsimp only at et
  cases ej:J a with
  | none=>rw [ej] at et;cases et
  | some o =>
   rw [ej] at et
   have z:=r _ _ ej
   cases o with
   | lst xs=>obtain ⟨ws,h1,_⟩:=z;cases et;exact .inl (.lst h1)
   | dct kvs ep=>obtain ⟨gs,h1,_⟩:=z;cases et;exact .inl (.dE h1)
   | tab=>cases et
   | dtp hs ks=>cases et
   | ins C fs=>cases et⟩
def Ex:yH:=λxs J Q=>AJ xs λx=>wW (nK J x) λys=>Q (.fl ys) J
def Ey:yH:=λxs J Q=>AJ xs λx=>wW (nK J x) λys=>∀p,J p=none→Q (.ref p) (put J p (.lst ys))
theorem C_:HD X (.type "list") Ex:=⟨_,L2.my,λJ H xs vs Q2 Q rs r h k=>by
 obtain ⟨x,ex,h⟩:=jR h;obtain ⟨ys,el,q⟩:=d_ h
 subst ex;obtain ⟨v,us,rfl,rv,e⟩:=rs;cases e
 obtain ⟨a,ws,rfl,h3,h4⟩:=iF rv r el
 refine ⟨a,ws,rfl,.inl h3,λp hp=>?_⟩
 obtain ⟨x1,x2,x3⟩:=vm r h4 hp
 exact k _ J _ _ x1 x2 x3 q⟩
theorem mz:HD X (.type "list") Ey:=⟨_,L2.my,λJ H xs vs Q2 Q rs r h k=>by
 obtain ⟨x,ex,h⟩:=jR h;obtain ⟨ys,el,q⟩:=d_ h
 subst ex;obtain ⟨v,us,rfl,rv,e⟩:=rs;cases e
 obtain ⟨a,ws,rfl,h3,h4⟩:=iF rv r el
 exact ⟨a,ws,rfl,.inl h3,λp hp=>k (.ref p) _ _ _ rfl (r.AE hp h4) (.laid hp) (q p (r.free hp))⟩⟩
def Po:yH:=λxs J Q=>∃i j,xs=[.int i,.int j]∧Q (.int (if j > i then j else i)) J
def AY:Ad:=λx xs J Q=>AK x λa=>AJ xs λy=>Oo (J a) λys=>ys.length < sizeLine∧Q .non (put J a (.lst (ys ++ [y])))
theorem dz:IU X "list" "list.append" AY:=⟨_,L2.ui,λJ H x xs v vs Q2 Q rx rs r h k=>by
 obtain ⟨a,ex,h⟩:=iS h;obtain ⟨y,exs,h⟩:=jR h;obtain ⟨ys,ja,hl,q⟩:=JR h
 subst ex exs;cases rx;obtain ⟨w,us,rfl,rw',e⟩:=rs;cases e
 obtain ⟨ws,h1,h2⟩:=r _ _ ja
 exact ⟨a,ws,w,rfl,rfl,h1,by rw [← h2.length];exact hl,k .non _ _ _ rfl (r.wrote (ys:=ys ++ [y]) ja h1 (h2.append (show aS X.K J H [y] [w] from ⟨w,[],rfl,rw',rfl⟩))) (.wrote ja h1) q⟩⟩
def Nf:Ad:=λx xs J Q=>∃a ys y,x=.ref a∧xs=[]∧J a=some (.lst ys)∧ys[ys.length - 1]?=some y∧Q y (put J a (.lst ys.dropLast))
theorem aS.dropLast {J:Hq} {H:Hp} {xs:List PV} {vs:List V} (r:aS K J H xs vs):aS K J H xs.dropLast vs.dropLast:=by
 rw [TB,TB,← r.length]
 exact r.take _
theorem JJ:IU X "list" "list.pop" Nf:=⟨_,L2.JK,λJ H x xs v vs Q2 Q rx rs r ⟨a,ys,y,ex,exs,ja,hy,q⟩ k=>by
 subst ex exs;cases rx;cases rs
 obtain ⟨ws,h1,h2⟩:=r _ _ ja
 obtain ⟨w,e1,e2⟩:=h2.get hy
 have ex:=Ext.wrote (K:=X.K) (ys:=ys.dropLast) (vs:=ws.dropLast) ja h1
 exact ⟨a,ws,w,rfl,rfl,h1,by rw [← h2.length];exact e1,k y _ w _ (ex.rep e2) (r.wrote ja h1 h2.dropLast) ex q⟩⟩
def Kl:Ad:=λx xs J Q=>∃a ys,x=.ref a∧xs=[]∧J a=some (.lst ys)∧Q .non (put J a (.lst []))
def G8:V→List V→Hp→VK→Prop:=λx vs H Q=>∃l xs i y,x=.ref l∧vs=[.int (i:Nat),y]∧H l=some (.lst xs)∧i≤xs.length∧xs.length < sizeLine∧i < 2 ^ 62∧Q .non (upd H l (.lst (xs.take i ++ y :: xs.drop i)))
theorem yU (its:List Value) (i:Nat) (u:Value) (h:i≤its.length):((its.toArray.extract 0 (min ((i:Int)).toNat its.toArray.size)).push u ++ its.toArray.extract (min ((i:Int)).toNat its.toArray.size))=(its.take i ++ u :: its.drop i).toArray:=by
 have e:min ((i:Int)).toNat its.toArray.size=i:=by simp;omega
 rw [e]
 apply Array.ext'
 simp
 exact SK (by simp)
theorem B':lD X "list.insert" G8:=by
 intro pins s σ H x vs v us Q I rx rv h
 obtain ⟨l,xs,i,y,rfl,rfl,hH,hi,hz,hb,q⟩:=h
 cases rx
 obtain ⟨u,w,rfl,ru,rw'⟩:=L2.vals2 rv
 obtain ⟨t,rfl⟩:=ru
 obtain ⟨z,its,n,r,hl,e⟩:=I.Gi hH
 have h63:((i:Nat):Int) < 2 ^ 63:=by
  have:((i:Nat):Int) < ((2 ^ 62:Nat):Int):=Int.ofNat_lt.mpr hb
  exact Int.lt_trans this (by decide)
 have hf:Builtin.List.listFitsIndex ((i:Nat):Int)=true:=fitsIndex_both (Int.le_trans (by decide) (Int.natCast_nonneg i)) h63
 have hs:its.toArray.size≤sizeLine:=by rw [Rx,← hl];exact z
 have hn:¬(!Builtin.List.listFitsIndex ((i:Nat):Int))=true:=by rw [hf];exact λz=>nomatch z
 have hneg:¬ (((i:Nat):Int) < 0):=by omega
 have hins:=yU its i w (by omega)
 clear hb h63 hf
 generalize ((i:Nat):Int)=ii at *
 have mm:=PySem.AutoSeq1.list_insert_list_int_val_1 l its.toArray n ii t w hn hs
 refine call_meets PySem.F.slot_list_insert ⟨_,e,rfl⟩ PySem.F.entry_list_insert (PySem.F.args_list_insert_3 _ _ _) mm ⟨e,?_⟩
 refine ⟨.non,_,I.Gh (its':=its.take i ++ w :: its.drop i) hH e ?_ ((r.take i).append (.cons rw' (r.drop i))) ?_,rfl,q⟩
 ·simp only [if_neg hneg]
  exact hins
 ·rw [RL,R0,RX,SH];omega
def AZ:Ad:=λx xs J Q=>∃a ys i y,x=.ref a∧xs=[.int (i:Nat),y]∧J a=some (.lst ys)∧i≤ys.length∧ys.length < sizeLine∧i < 2 ^ 62∧Q .non (put J a (.lst (ys.take i ++ y :: ys.drop i)))
theorem hZ:IU X "list" "list.insert" AZ:=⟨_,B',λJ H x xs v vs Q2 Q rx rs r ⟨a,ys,i,y,ex,exs,ja,hi,hl,hb,q⟩ k=>by
 subst ex exs;cases rx;obtain ⟨w0,us,rfl,rw0,w,us',rfl,rw',e⟩:=rs;cases e;cases rw0
 obtain ⟨ws,h1,h2⟩:=r _ _ ja
 exact ⟨a,ws,i,w,rfl,rfl,h1,by rw [← h2.length];exact hi,by rw [← h2.length];exact hl,hb,k .non _ _ _ rfl (r.wrote (ys:=ys.take i ++ y :: ys.drop i) ja h1 ((h2.take i).append (show aS X.K J H (y :: ys.drop i) (w :: ws.drop i) from ⟨w,_,rfl,rw',h2.drop i⟩))) (.wrote ja h1) q⟩⟩
end
def rq (ks:List (Str × Nat)) (τ:Sr):Sr:=ks.map λp=>(τ[p.2]?).getD none
theorem A6 {K:PySem.W.Frag} {J:Hq} {H:Hp} {τ:Sr} {σ:L2.St} (r:lF K J H τ σ) {x:PV} {v:V} (rx:cu K J H x v) (ks:List (Str × Nat)):lF K J H (some x :: rq ks τ) (some v :: ff ks σ):=by
 refine ⟨by simp [rq,ff],λi y e=>?_⟩
 cases i with
 | zero=>rw [Tr] at e ⊢;cases e;exact ⟨v,rfl,rx⟩
 | succ i =>
  rw [Ts] at e ⊢
  unfold rq at e
  unfold ff
  rw [Ry] at e ⊢
  cases ep:ks[i]? with
  | none=>rw [ep] at e;cases e
  | some p =>
   rw [ep] at e
   have e':(τ[p.2]?).getD none=some y:=Option.some.inj e
   have e2:τ[p.2]?=some (some y):=by
    cases q:τ[p.2]? with
    | none=>rw [q] at e';cases e'
    | some w=>rw [q] at e';exact congrArg some e'
   obtain ⟨v',h1,h2⟩:=r.get _ _ e2
   exact ⟨v',by show some ((σ[p.2]?).getD none)=_;rw [h1];rfl,h2⟩
def Sub (J J':Hq):Prop:=∀a o,J a=some o→J' a=some o
theorem Sub.refl (J:Hq):Sub J J:=λ_ _ h=>h
theorem Sub.put {J:Hq} {D:Addr} {o:HQ} (h:J D=none):Sub J (put J D o):=λa u e=>by
 have ne:a≠D:=by intro z;subst z;rw [h] at e;cases e
 rw [aj ne];exact e
def OD (it:yA) (J1:Hq) (ks:List (Str × Nat)) (τ:Sr) (tc:nJ) (te:cY) (c:PV→Bool) (g:PV→PV):Prop:=it.xs.length < sizeLine∧∀J',Sub J1 J'→it.ok J' ∧
 ∀x∈it.xs,tc (some x :: rq ks τ) J' (λb J2=>b=c x∧J2=J')∧(c x=true→te (some x :: rq ks τ) J' λy J2=>y=g x∧J2=J')
def G9 (wi:rS) (ks:List (Str × Nat)) (tc:nJ) (te:cY):cY:=λτ J Q=>wi τ J λit J1=>∃(c:PV→Bool) (g:PV→PV),OD it J1 ks τ tc te c g∧Q (.fl ((it.xs.filter c).map g)) J1
def zK (wi:rS) (ks:List (Str × Nat)) (tc:nJ) (te:cY):cY:=λτ J Q=>wi τ J λit J1=>∃(c:PV→Bool) (g:PV→PV),OD it J1 ks τ tc te c g∧∀p,J1 p=none→Q (.ref p) (put J1 p (.lst ((it.xs.filter c).map g)))
def ur:nJ:=λ_ J Q=>Q true J
section
variable {X:Cx} {G:G2}
theorem pq {α:Type} (c:α→Bool) {xs:List α} {i:Nat} {x:α} (h:xs[i]?=some x):(xs.take (i + 1)).filter c=(xs.take i).filter c ++ (if c x=true then [x] else []):=by
 rw [RQ,h,Th]
 congr 1
 simp only [Option.toList_some,Si,TC]
theorem vd {K:PySem.W.Frag} {ks:List (Str × Nat)} {tc:nJ} {te:cY} {σ:L2.St} {H:Hp} {Q:VK} {τ:Sr} {J:Hq} (a2:wU K G τ J σ H) {it:yA} {J1:Hq} {I:It} {H1:Hp} (ir:tQ K it I J1 H1) (r1:Rep K J1 H1) (e1:Ext K J H J1 H1) {c:PV→Bool} {g:PV→PV}
  (w:OD it J1 ks τ tc te c g)
  (q:∀D H2,H1 D=none→J1 D=none→Rep K (put J1 D (.lst ((it.xs.filter c).map g))) H2→Ext K J1 H1 (put J1 D (.lst ((it.xs.filter c).map g))) H2→Q (.ref D) H2) :
  ∀D,H1 D=none→∃W:Nat→Nat→Hp→Prop,(∃m,W 0 m (upd H1 D (.lst [])))∧∀i m H2,W i m H2→(I.stop i H2∧Q (.ref D) H2) ∨
   (I.go i H2∧∀v H3,I.yld i H2 v H3→LT K G tc (some v :: ff ks σ) H3 λb H4=>if b=true then LE K G te (some v :: ff ks σ) H4 λy H5=>∃ys,H5 D=some (.lst ys)∧ys.length < sizeLine∧∃m',m' < m∧W (i + 1) m' (upd H5 D (.lst (ys ++ [y]))) else ∃m',m' < m∧W (i + 1) m' H4):=by
 intro D hD
 obtain ⟨hlen,w⟩:=w
 have jD:J1 D=none:=r1.free hD
 refine ⟨λi m H2=>m=it.xs.length - i∧i≤it.xs.length∧Rep K (put J1 D (.lst (((it.xs.take i).filter c).map g))) H2∧Ext K J1 H1 (put J1 D (.lst (((it.xs.take i).filter c).map g))) H2,⟨_,rfl,Sb _,r1.AE (xs:=[]) (vs:=[]) hD rfl,.laid hD⟩,?_⟩
 rintro i m H2 ⟨rfl,hi,r2,e2⟩
 obtain ⟨ok,ww⟩:=w _ (Sub.put (o:=.lst (((it.xs.take i).filter c).map g)) jD)
 by_cases hlt:i < it.xs.length
 ·refine .inr ⟨ir.go _ H2 e2 r2 ok i hlt,λv H3 y=>?_⟩
  obtain ⟨x,ex,rx,r3,e3⟩:=ir.yl _ H2 e2 r2 ok i hlt v H3 y
  obtain ⟨hc,he⟩:=ww x (RJ ex)
  have a3:wU K G (some x :: rq ks τ) _ (some v :: ff ks σ) H3:=⟨A6 (a2.sl.ext ((e1.trans e2).trans e3)) rx ks,r3,((a2.ext.trans e1).trans e2).trans e3⟩
  refine ⟨_,_,_,a3,hc,λb J4 H4 r4 e4 ⟨eb,ej⟩=>?_⟩
  subst ej
  cases hb:c x with
  | false =>
   rw [eb,hb]
   simp only [RV,if_false]
   refine ⟨_,by omega,rfl,hlt,?_⟩
   rw [pq c ex,hb]
   simp only [RV,if_false,Sd]
   exact ⟨r4,(e2.trans e3).trans e4⟩
  | true =>
   rw [eb,hb]
   simp only [if_true]
   refine ⟨_,_,_,a3.go r4 e4,he hb,λz J5 u H5 rz r5 e5 ⟨ez,ej⟩=>?_⟩
   subst ej ez
   obtain ⟨ys,h5,ry⟩:=r5 D _ ak
   have ll:ys.length≤i:=by
    rw [← ry.length,Rr]
    exact RN (S9 _ _) (by rw [RX];omega)
   have r6:=r5.wrote (ys:=((it.xs.take i).filter c).map g ++ [g x]) (vs:=ys ++ [u]) ak h5 (ry.append (show aS K _ H5 [g x] [u] from ⟨u,[],rfl,rz,rfl⟩))
   have e6:=Ext.wrote (K:=K) (ys:=((it.xs.take i).filter c).map g ++ [g x]) (vs:=ys ++ [u]) (J:=put J1 D (.lst (((it.xs.take i).filter c).map g))) ak h5
   rw [bU] at r6 e6
   refine ⟨ys,h5,by omega,_,by omega,rfl,hlt,?_⟩
   rw [pq c ex,hb,if_pos rfl,Rw]
   exact ⟨r6,(((e2.trans e3).trans e4).trans e5).trans e6⟩
 ·have ei:i=it.xs.length:=by omega
  subst ei
  rw [RY] at r2 e2 ok
  exact .inl ⟨ir.stop _ H2 e2 r2 ok,q D H2 hD jD r2 e2⟩
theorem freeze {K:PySem.W.Frag} {J1:Hq} {H2:Hp} {D:Addr} {xs:List PV} (jD:J1 D=none) (r:Rep K (put J1 D (.lst xs)) H2):cu K J1 H2 (.fl xs) (.ref D)∧Rep K J1 H2∧Ext K (put J1 D (.lst xs)) H2 J1 H2:=by
 obtain ⟨ys,h,ry⟩:=r D _ ak
 have less:∀a,J1 a=put J1 D (.lst xs) a∨J1 a=none:=λa=>by
  by_cases e:a=D
  ·subst e;exact .inr jD
  ·rw [aj e];exact .inl rfl
 have e:=Ext.less (K:=K) (H:=H2) less
 exact ⟨⟨D,ys,rfl,.inl ⟨jD,.inl h⟩,e.jq ry⟩,r.less less,e⟩
theorem DN {wi:rS} {ks:List (Str × Nat)} {tc:nJ} {te:cY}:∀σ H Q,LE X.K G (zK wi ks tc te) σ H Q→KS (LI X.K G wi) ks (LT X.K G tc) (LE X.K G te) σ H Q:=λσ H Q ⟨τ,J,Q2,a2,h,k⟩ =>
 ⟨τ,J,_,a2,h,λit J1 I H1 ir r1 e1 ⟨c,g,w,q⟩=>vd (Q:=Q) a2 ir r1 e1 w λD H2 hD jD r2 e2=>k (.ref D) _ _ H2 rfl r2 (e1.trans e2) (q D jD)⟩
theorem DM {wi:rS} {ks:List (Str × Nat)} {te:cY}:∀σ H Q,LE X.K G (G9 wi ks ur te) σ H Q→Ow (LI X.K G wi) ks (LE X.K G te) σ H Q:=λσ H Q ⟨τ,J,Q2,a2,h,k⟩ =>
 ⟨τ,J,_,a2,h,λit J1 I H1 ir r1 e1 ⟨c,g,w,q⟩ D hD=>by
  obtain ⟨W,w0,turn⟩:=vd (Q:=Q) a2 ir r1 e1 w (λD H2 hD jD r2 e2=>let ⟨x1,x2,x3⟩:=freeze jD r2;k _ J1 _ H2 x1 x2 ((e1.trans e2).trans x3) q) D hD
  refine ⟨W,w0,λi m H2 hw=>?_⟩
  rcases turn i m H2 hw with z | ⟨go,z⟩
  ·exact .inl z
  ·refine .inr ⟨go,λv H3 y=>?_⟩
   obtain ⟨τ',J',Q',a',t',k'⟩:=z v H3 y
   have:=k' true J' H3 a'.hp .refl t'
   simpa using this⟩
theorem B1 {wi:rS} {ks:List (Str × Nat)} {te:cY}:∀σ H Q,LE X.K G (zK wi ks ur te) σ H Q→Ow (LI X.K G wi) ks (LE X.K G te) σ H Q:=λσ H Q ⟨τ,J,Q2,a2,h,k⟩ =>
 ⟨τ,J,_,a2,h,λit J1 I H1 ir r1 e1 ⟨c,g,w,q⟩ D hD=>by
  obtain ⟨W,w0,turn⟩:=vd (Q:=Q) a2 ir r1 e1 w (λD H2 hD jD r2 e2=>k (.ref D) _ _ H2 rfl r2 (e1.trans e2) (q D jD)) D hD
  refine ⟨W,w0,λi m H2 hw=>?_⟩
  rcases turn i m H2 hw with z | ⟨go,z⟩
  ·exact .inl z
  ·refine .inr ⟨go,λv H3 y=>?_⟩
   obtain ⟨τ',J',Q',a',t',k'⟩:=z v H3 y
   have:=k' true J' H3 a'.hp .refl t'
   simpa using this⟩
variable {elt iter cnd:Expr} {x y:Str} {px py:Pos} {sc:Scope} {pos spos:Pos} {wi:rS} {te:cY} {tc:nJ} {i:Nat}
theorem IA (osc:Scope) (N:List Str) (ks:List (Str × Nat)) (hc:X.calm=true) (ho:X.env.scope=osc) (hN:X.N=N) (hi:RI X G (.Name x px) iter wi) (he:∀cl C s₀ H₀ fp pins,RE (fO X sc cl C x ks s₀ H₀ fp pins) G elt te)
  (ok:cU sc osc N x ks:=by decide +kernel) (hs:∀x,foldedSetIterable iter X.env x=pure x:=by intro _;rfl):RE X G (.ListComp elt [⟨.Name x px,iter,[],0⟩] sc pos) (G9 wi ks ur te) :=
 ⟨kB (M4 osc N ks hc ho hN hi.run (λcl C s₀ H₀ fp pins=>(he cl C s₀ H₀ fp pins).run) ok hs) DM⟩
theorem qy {t:cY} {u:TE} (h:∀σ H Q,LE X.K G t σ H Q→u σ H Q):∀D σ H,LS X.K G (wd t (HM i)) D σ H→u σ H λv H1=>D.nx (σ.set i (some v)) H1:=λD σ H ⟨τ,J,D2,a2,q,g⟩ =>
 h σ H _ ⟨τ,J,_,a2,q,λx J' v H' rx rr ee q=>g.nx _ J' _ H' ((a2.sl.ext ee).set i rx) rr ee q⟩
theorem He (osc:Scope) (N:List Str) (ks:List (Str × Nat)) (hc:X.calm=true) (ho:X.env.scope=osc) (hN:X.N=N) (hnd:X.N.Nodup) (hy:X.N[i]?=some y) (hl:Loc X.env.scope y) (hi:RI X G (.Name x px) iter wi) (he:∀cl C s₀ H₀ fp pins,RE (fO X sc cl C x ks s₀ H₀ fp pins) G elt te) (hcn:∀cl C s₀ H₀ fp pins,RT (fO X sc cl C x ks s₀ H₀ fp pins) G cnd tc)
  (ok:cU sc osc N x ks:=by decide +kernel) (hs:∀x,foldedSetIterable iter X.env x=pure x:=by intro _;rfl) (hsw:swapsWith (.ListComp elt [⟨.Name x px,iter,[cnd],0⟩] sc pos) (some (.Name y py)) spos.line X.env=pure true:=by rfl) (hf:X.fn y=true∨X.env.scope.names.lookup y=some .local:=by first | exact .inl rfl | exact .inr rfl | assumption) :
  RS X G (.Assign [.Name y py] (.ListComp elt [⟨.Name x px,iter,[cnd],0⟩] sc pos) spos) (wd (zK wi ks tc te) (HM i)) :=
 ⟨zy (Ep osc N ks hc ho hN hnd hy hl hi.run (λcl C s₀ H₀ fp pins=>(he cl C s₀ H₀ fp pins).run) (λcl C s₀ H₀ fp pins=>AW (hcn cl C s₀ H₀ fp pins).run) ok hs hsw hf) (qy DN)⟩
theorem EK (osc:Scope) (N:List Str) (ks:List (Str × Nat)) (hc:X.calm=true) (ho:X.env.scope=osc) (hN:X.N=N) (hnd:X.N.Nodup) (hy:X.N[i]?=some y) (hl:Loc X.env.scope y) (hi:RI X G (.Name x px) iter wi) (he:∀cl C s₀ H₀ fp pins,RE (fO X sc cl C x ks s₀ H₀ fp pins) G elt te)
  (ok:cU sc osc N x ks:=by decide +kernel) (hs:∀x,foldedSetIterable iter X.env x=pure x:=by intro _;rfl) (hsw:swapsWith (.ListComp elt [⟨.Name x px,iter,[],0⟩] sc pos) (some (.Name y py)) spos.line X.env=pure true:=by rfl) (hf:X.fn y=true∨X.env.scope.names.lookup y=some .local:=by first | exact .inl rfl | exact .inr rfl | assumption) :
  RS X G (.Assign [.Name y py] (.ListComp elt [⟨.Name x px,iter,[],0⟩] sc pos) spos) (wd (zK wi ks ur te) (HM i)) :=
 ⟨zy (M9 osc N ks hc ho hN hnd hy hl hi.run (λcl C s₀ H₀ fp pins=>(he cl C s₀ H₀ fp pins).run) ok hs hsw hf) (qy B1)⟩
end
end Ov
namespace Ov
open PySem PySem.Spec PyProof.Rows
section
open HT (lexLt)
def lI:List Str→List Str→Bool
 | [],[]=>false
 | [],_ :: _=>true
 | _ :: _,[]=>false
 | x :: xs,y :: ys=>if x=y then lI xs ys else decide (x.cps.toList < y.cps.toList)
theorem oh (x y:Str) (xs ys:List Str):lI (x :: xs) (y :: ys)=if x=y then lI xs ys else decide (x.cps.toList < y.cps.toList):=rfl
theorem mJ:lI [] []=false:=rfl
theorem sP (y:Str) (ys:List Str):lI [] (y :: ys)=true:=rfl
theorem sM (x:Str) (xs:List Str):lI (x :: xs) []=false:=rfl
theorem Dj (A:Around) (s:Shared) (a:Str) (t:Tok) (c:Str) (u:Tok):∃e,SeqAt.EqAt A s (.str a t) (.str c u) e∧(e=true↔a=c) :=
 ⟨(a == c),SeqAt.EqAt.str_str a t c u,by simp⟩
theorem EG (A:Around) (s:Shared) (a:Str) (t:Tok) (c:Str) (u:Tok) (prog:Program) (w:World) (E:Value→Shared→Prop) (Q:Value→Shared→Prop) (h:Q (.bool (decide (a.cps.toList < c.cps.toList))) s) :
  wpAny (model prog w) A (richCompare .Lt (.str a t) (.str c u)) Q E s :=
 (PyProof.Rows.lt_str h:wpAny (model prog w) A (compareOp .Lt (.str a t) (.str c u)) Q E s)
open PySem.SeqAt
open PySem.AutoSeq1 (wpAny_loadPart')
open PySem.MeetsSeq PySem.MeetsSeq2 PySem.MeetsSeq3
theorem tN (l b:Addr) (items items2:Array Value) (n n2:Nat) (dd dd2:Option Addr) (sl sl2:Array (Option Value)) (ns ms:List Str) (hi:StrsAre items.toList ns) (hj:StrsAre items2.toList ms) :
  Meets (Builtin.«tuple.__lt__» ⟨[.ref l,.ref b],[]⟩)
   (λ_ R s=>s.heap.get? l=some { cls:=.type "tuple",dict:=dd,data:=.seq items n,slots:=sl }∧s.heap.get? b=some { cls:=.type "tuple",dict:=dd2,data:=.seq items2 n2,slots:=sl2 } ∧
    R (.ok (.ret (.bool (lI ns ms)))) s) :=
 .of_wp λprog w A R s h=>by
  obtain ⟨hp,g,d,tk,os⟩:=s;obtain ⟨hl,hb,h⟩:=h
  have f2:=AutoSeq1.sub_tuple_tuple
  have z1:items.size=ns.length:=by rw [← hi.length];simp
  have z2:items2.size=ms.length:=by rw [← hj.length];simp
  wp_walk using wpAny_loadPart' hl,wpAny_loadPart' hb,wpAny_forIn_list _ (λrest b s'=>b.1=none∧s'=⟨hp,g,d,tk,os⟩∧∃(vs ws:List Value) (ns' ms':List Str),rest=vs.zip ws ∧
   StrsAre vs ns'∧StrsAre ws ms'∧ns'.length + items2.size=ms'.length + items.size∧R (.ok (.ret (.bool (lI ns' ms')))) ⟨hp,g,d,tk,os⟩) _
  case turn =>
   rintro ⟨y,x⟩ rest b s' ⟨hb',rfl,vs,ws,ns',ms',hz,hvi,hwi,hlen,hR⟩
   cases hvi with
   | nil=>rw [List.zip_nil_left] at hz;cases hz
   | cons a t hvi' =>
    cases hwi with
    | nil=>rw [List.zip_nil_right] at hz;cases hz
    | cons c u hwi' =>
     rw [TZ] at hz
     injection hz with hyx hrest
     injection hyx with hy hx
     subst hy hx
     rw [oh] at hR
     simp only [R0] at hlen
     obtain ⟨e,he,hiff⟩:=Dj A.in1 ⟨hp,g,d,tk,os⟩ a t c u
     refine wpAny_bind (he prog w _ _ ?_)
     cases e with
     | true =>
      rw [if_pos (hiff.mp rfl)] at hR
      wp_walk
      exact ⟨rfl,rfl,_,_,_,_,hrest,hvi',hwi',by omega,hR⟩
     | false =>
      rw [if_neg (λq=>absurd (hiff.mpr q) R8)] at hR
      have hri:=EG A.in1 ⟨hp,g,d,tk,os⟩ a t c u prog w
      wp_walk using hri
      exact ⟨_,rfl,by simpa using hR⟩
  case fin =>
   rintro ⟨b1,b2⟩ s' ⟨hb',rfl,vs,ws,ns',ms',hz,hvi,hwi,hlen,hR⟩
   simp only at hb'
   subst hb'
   have hv:lI ns' ms'=decide (items.size < items2.size):=by
    cases hvi with
    | nil =>
     cases hwi with
     | nil =>
      simp only [S1] at hlen
      rw [mJ]
      exact (decide_eq_false (by omega)).symm
     | cons c u hw =>
      simp only [S1,R0] at hlen
      rw [sP]
      exact (decide_eq_true (by omega)).symm
    | cons a t hv =>
     cases hwi with
     | nil =>
      simp only [S1,R0] at hlen
      rw [sM]
      exact (decide_eq_false (by omega)).symm
     | cons c u hw =>
      rw [TZ] at hz
      cases hz
   rw [hv] at hR
   wp_walk
   exact ⟨_,rfl,by simpa [Builtin.Tuple.tupleCompareSizes] using hR⟩
  case h =>
   exact ⟨rfl,rfl,items.toList,items2.toList,ns,ms,rfl,hi,hj,by omega,h⟩
section
variable {prog:Program} {w:World} {A:Around} {E:Value→Shared→Prop} {s:Shared}
theorem yZ {l b:Addr} {items items2:Array Value} {ns ms:List Str} {Q:Value→Shared→Prop} (hl:IsTup s.heap l items) (hb:IsTup s.heap b items2) (hi:StrsAre items.toList ns) (hj:StrsAre items2.toList ms)
  (hu:A.units < cLine) (h:Q (.bool (lI ns ms)) s):wpAny (model prog w) A (compareOp .Lt (.ref l) (.ref b)) Q E s:=by
 obtain ⟨⟨cls,dd,data,sl⟩,ho,hc,n,hd⟩:=id hl
 obtain ⟨⟨cls2,dd2,data2,sl2⟩,ho2,hc2,n2,hd2⟩:=id hb
 simp only at hc hd hc2 hd2
 subst hc hd hc2 hd2
 exact richCompare_meets_room (op:=.Lt) ⟨_,ho,rfl⟩ ⟨_,ho2,rfl⟩ PySem.F.slot_tuple_lt PySem.F.entry_tuple_lt (PySem.F.args_tuple_lt_2 _ _) (tN l b items items2 n n2 dd dd2 sl sl2 ns ms hi hj)
  ⟨ho,ho2,show Value.bool (lI ns ms)≠Value.notImplemented∧Q (.bool (lI ns ms)) s from ⟨(λx=>nomatch x),h⟩⟩ hu
end
end
open L2 (V HO Hp Inv Cx VK XK TE TT TA TS TG kL TI TO fw Ends pM Loc Gl Rd RelV Vals eI pA bJ lA mr lD fv R2 upd aR aK dM fu Sp lZ It bW bI bC Passes kH aA Meth Mk Binds aH bP aw cZ dW dg)
section
variable {X:Cx} {K:PySem.W.Frag}
theorem GB (hu:X.A.units < cLine):eI X (compareOp .Lt) (λx y H Q=>∃a b ns ms,x=.ref a∧y=.ref b∧fu X.K H a (ns.map V.str)∧fu X.K H b (ms.map V.str)∧Q (.bl (lI ns ms)) H):=by
 intro pins s σ H x y v u Q I rx ry h
 obtain ⟨a,b,ns,ms,rfl,rfl,ha,hb,q⟩:=h
 cases rx;cases ry
 obtain ⟨is,r1,t1,_⟩:=I.tuple ha
 obtain ⟨js,r2,t2,_⟩:=I.tuple hb
 exact yZ t1 t2 (by simpa using je r1) (by simpa using je r2) hu ⟨.bl _,H,I,rfl,q⟩
theorem rQ {J:Hq} {H:Hp}:∀{ns:List Str} {vs:List V},aS K J H (ns.map PV.str) vs→vs=ns.map V.str
 | [],_,h=>h
 | n :: ns,_,⟨v,us,e,h,k⟩=>by subst e;cases h;rw [rQ k];rfl
def Ik:mn:=λx y J Q=>∃ns ms,x=.tup (ns.map .str)∧y=.tup (ms.map .str)∧Q (.bl (lI ns ms)) J
theorem GG (hu:X.A.units < cLine):ml X (compareOp .Lt) Ik:=⟨_,GB hu,λJ H x y v w Q2 Q rx ry r ⟨ns,ms,ex,ey,q⟩ k=>by
 subst ex ey
 obtain ⟨a,vs,rfl,h1,h2⟩:=rx
 obtain ⟨b,ws,rfl,h3,h4⟩:=ry
 cases rQ h2;cases rQ h4
 exact ⟨a,b,ns,ms,rfl,rfl,h1,h3,k (.bl _) J _ H rfl r .refl q⟩⟩
theorem GA:eI X (binaryOp .Add) (λx y H Q=>∃l b xs zs,x=.ref l∧y=.ref b∧dM X.K H l xs∧dM X.K H b zs∧xs.length + zs.length≤sizeLine∧∀p,H p=none→Q (.ref p) (upd H p (.lst (xs ++ zs)))):=by
 intro pins s σ H x y v u Q I rx ry h
 obtain ⟨l,b,xs,zs,rfl,rfl,hH,hB,hz,q⟩:=h
 cases rx;cases ry
 obtain ⟨its,r,pl,_⟩:=I.list hH
 obtain ⟨its2,r2,pl2,_⟩:=I.list hB
 have l1:=r.length
 have l2:=r2.length
 obtain ⟨⟨c1,d1,da1,sl1⟩,n,e,hc,hd,hda⟩:=pl
 obtain ⟨⟨c2,d2,da2,sl2⟩,n2,e2,hc2,hd2,hda2⟩:=pl2
 simp only at hc hd hda hc2 hd2 hda2
 subst hc hd hda hc2 hd2 hda2
 refine concat_meets ⟨_,e,rfl⟩ ⟨_,e2,rfl⟩ noFill_list_add seq_list_add PySem.F.slot_list_add PySem.F.entry_list_add (PySem.F.args_list_add_2 _ _) (list_addW l b its.toArray its2.toArray n n2 none none sl1 sl2 (by simp only [Rx];omega)) ⟨e,e2,?_⟩
 have ea:its.toArray ++ its2.toArray=(its ++ its2).toArray:=by simp
 rw [ea]
 exact ⟨.ref _,_,I.O_ (t':=s.toks) (r.append r2) (by rw [RL];omega),rfl,q _ I.fresh⟩
def Ih:mn:=λx y J Q=>∃xs ys,nK J x=some xs∧nK J y=some ys∧xs.length + ys.length≤sizeLine∧Q (.fl (xs ++ ys)) J
theorem GF:ml X (binaryOp .Add) Ih:=⟨_,GA,λJ H x y v w Q2 Q rx ry r ⟨xs,ys,ex,ey,hl,q⟩ k=>by
 obtain ⟨a,vs,rfl,h1,h2⟩:=iF rx r ex
 obtain ⟨b,ws,rfl,h3,h4⟩:=iF ry r ey
 refine ⟨a,b,vs,ws,rfl,rfl,h1,h3,by rw [← h2.length,← h4.length];exact hl,λp hp=>?_⟩
 obtain ⟨x1,x2,x3⟩:=vm r (h2.append h4) hp
 exact k _ J _ _ x1 x2 x3 q⟩
end
def cV (K:PySem.W.Frag) (C:Addr) (m qual:Str) (st:Stmt):Prop:=∃f fd,Meth K C m f∧bP K m qual st f fd
structure df (K:PySem.W.Frag) (mg:Str→Option Value) (x:Str) (C:Addr):Prop where
 cl:kH K C
 m:mg x=some (.ref C)
 mkz:PySem.W.makesIn K C=true
 kp:PySem.W.keepIn K (.ref C)=true
theorem a7 {K:PySem.W.Frag} {C f:Addr} {m qual:Str} {st:Stmt} {od an:Option Addr} {sl:Array (Option Value)} {oc kV dc pm cd ct:Value} (a:PySem.W.findIn K (.ref C) m=some (some (.ref f))) (i:PySem.W.isFn K (.ref f)=true)
  (l:K.lookup f=some ⟨oc,od,.func (PySem.W.fnOf m qual (L2.du st) (L2.bQ st) (L2.aq st) .none kV dc pm an cd ct),sl⟩) (c:PySem.W.codeIn K cd qual=true) (k:PySem.W.keepIn K (.ref f)=true):cV K C m qual st :=
 ⟨f,_,⟨a,i,k⟩,L2.yR l c k⟩
theorem mH {K:PySem.W.Frag} {h:Heap} {mg:Str→Option Value} {x:Str} {C:Addr} (X:K.In h) (G:h.Ns mainGlobals mg) (aC:PySem.W.nsIn K mainGlobals x=some (some (.ref C)))
  (pg:PySem.W.plainGet K C Str.empty=true) (hd:PySem.W.hasDictIn K C=true) (po:PySem.W.plainOver K C=true) (sa:PySem.W.findIn K (.ref C) "__setattr__"=some (some (.builtin "object.__setattr__"))) (mk:PySem.W.makesIn K C=true) (kc:PySem.W.keepIn K (.ref C)=true):df K mg x C :=
 ⟨⟨pg,hd,po,sa⟩,PySem.W.mg_of X G aC,mk,kc⟩
section
variable {P:Program} {w:World} {K:PySem.W.Frag} {mg:Str→Option Value} {base:Heap}
theorem cV.l6 {C:Addr} {m qual:Str} {st:Stmt} {k:Nat} {ps:List Str} {sp:cG} (D:cV K C m qual st) (cl:kH K C) (h:∀f fd,bP K m qual st f fd→aH P w K mg base (cg P w) k f fd ps (cH K sp))
  (hb:∀(kV doc pm:Value) (an:Option Addr) (cdv ct:Value) (us:List Value),us.length=ps.length→bindArgs (PySem.W.fnOf m qual (L2.du st) (L2.bQ st) (L2.aq st) .none kV doc pm an cdv ct) ⟨us,[]⟩=pure (ps.zip us)):cq P w K mg base C k m ps sp:=by
 obtain ⟨f,fd,hm,F⟩:=D
 exact ⟨cl,f,fd,hm,h f fd F,F.binds hb⟩
theorem cV.Ol {x:Str} {C:Addr} {qual:Str} {st:Stmt} {k:Nat} {ps:List Str} {sp:cG} (D:cV K C "__init__" qual st) (kd:df K mg x C) (h:∀f fd,bP K "__init__" qual st f fd→aH P w K mg base (cg P w) k f fd ps (cH K sp))
  (hb:∀(kV doc pm:Value) (an:Option Addr) (cdv ct:Value) (us:List Value),us.length=ps.length→bindArgs (PySem.W.fnOf "__init__" qual (L2.du st) (L2.bQ st) (L2.aq st) .none kV doc pm an cdv ct) ⟨us,[]⟩=pure (ps.zip us)):uN P w K mg base C k x ps sp:=by
 obtain ⟨f,fd,hm,F⟩:=D
 exact ⟨kd.m,f,fd,⟨kd.mkz,hm.at_,hm.fn,kd.kp⟩,h f fd F,F.binds hb⟩
end
theorem LH {n:Nat} {F:List Value→Prop} (h:∀a us,us.length=n→F (a :: us)) (us:List Value) (hu:us.length=n + 1):F us:=by
 cases us with
 | nil=>cases hu
 | cons a us=>exact h a us (Nat.succ.inj hu)
theorem Q6 {F:List Value→Prop} (h:F []) (us:List Value) (hu:us.length=0):F us:=by
 cases us with
 | nil=>exact h
 | cons a us=>cases hu
theorem xi {F:List Value→Prop} (h:∀a,F [a]):∀us:List Value,us.length=1→F us:=LH λa=>Q6 (F:=λus=>F (a :: us)) (h a)
theorem jg {F:List Value→Prop} (h:∀a b,F [a,b]):∀us:List Value,us.length=2→F us:=LH λa=>xi (F:=λus=>F (a :: us)) (h a)
theorem HF {F:List Value→Prop} (h:∀a b c,F [a,b,c]):∀us:List Value,us.length=3→F us:=LH λa=>jg (F:=λus=>F (a :: us)) (h a)
theorem LF {F:List Value→Prop} (h:∀a b c d,F [a,b,c,d]):∀us:List Value,us.length=4→F us:=LH λa=>HF (F:=λus=>F (a :: us)) (h a)
theorem Qt {F:List Value→Prop} (h:∀a b c d e,F [a,b,c,d,e]):∀us:List Value,us.length=5→F us:=LH λa=>LF (F:=λus=>F (a :: us)) (h a)
end Ov
namespace Ov
open PySem PySem.Spec PyProof.Rows
open L2 (V HO Hp Inv Cx VK XK Rd dM fu Sp bW bC Passes aH bP aw cZ upd aR aK)
def fr (q:Rat):PV:=.tup [.int q.num,.int (q.den:Int)]
theorem Ji (a b:Rat):(fr a=fr b)=(a=b):=by
 apply propext
 constructor
 ·intro h
  unfold fr at h
  simp only [PV.tup.injEq,List.cons.injEq,PV.int.injEq,and_true] at h
  exact Rat.ext h.1 (by have:=h.2;omega)
 ·intro h;rw [h]
theorem HL (a:Rat):fr a=.tup [.int a.num,.int (a.den:Int)]:=rfl
theorem Jr (J:Hq) (q:Rat):pE J (fr q) (.int 0)=some (.int q.num):=mx _ _
theorem Js (J:Hq) (q:Rat):pE J (fr q) (.int 1)=some (.int (q.den:Int)):=oT _ _ _
theorem N3 (J:Hq) (q:Rat):By J (fr q)=some "tuple":=rfl
theorem JB (J:Hq) (q:Rat):xB J (fr q)=some 2:=rfl
theorem zH (q:Rat):m7 (fr q)=true:=by simp [fr,m7,kJ]
theorem uZ (q:Rat):DH (fr q)=false:=rfl
theorem Jf (q:Rat):dep (gQ (fr q))=1:=by simp [fr,gQ,gG,dep,dY]
theorem LY (q:Rat):FZ (fr q)=True:=eq_true ⟨zH q,by rw [Jf];decide⟩
theorem I9 (i:Int):FZ (.int i)=True:=eq_true ⟨by simp [m7],by simp [gQ,dep]⟩
theorem Jb (i:Str):FZ (.str i)=True:=eq_true ⟨by simp [m7],by simp [gQ,dep]⟩
theorem LX (i:Bool):FZ (.bl i)=True:=eq_true ⟨by simp [m7],by simp [gQ,dep]⟩
theorem I_:FZ .non=True:=eq_true ⟨by simp [m7],by simp [gQ,dep]⟩
theorem GX (i:Int):m7 (.int i)=true:=by simp [m7]
theorem wb (i:Str):m7 (.str i)=true:=by simp [m7]
theorem Kj (i:Bool):m7 (.bl i)=true:=by simp [m7]
theorem GY:m7 .non=true:=by simp [m7]
theorem GZ (xs:List PV):m7 (.tup xs)=kJ xs:=by simp [m7]
theorem uq (x:PV) (xs:List PV):kJ (x :: xs)=(m7 x && kJ xs):=by simp [kJ]
theorem Et:kJ []=true:=by simp [kJ]
theorem eq_int (a b:Int):eqQ (.int a) (.int b)=decide (a=b):=by unfold eqQ gQ kr;rw [TF]
theorem eq_str (a b:Str):eqQ (.str a) (.str b)=decide (a=b):=by
 unfold eqQ gQ kr
 cases h:a == b with
 | true=>simp at h;simp [h]
 | false=>simp at h;simp [h]
theorem L0 (a b:Bool):eqQ (.bl a) (.bl b)=decide (a=b):=by unfold eqQ gQ kr;rw [TF]
def yN (xs ys:List PV):Bool:=jC (gG xs) (gG ys)
theorem yO (xs ys:List PV):eqQ (.tup xs) (.tup ys)=yN xs ys:=by unfold eqQ gQ kr yN;rfl
theorem fT (x y:PV) (xs ys:List PV):yN (x :: xs) (y :: ys)=(eqQ x y && yN xs ys):=by unfold yN eqQ;simp [gG,jC]
theorem uX:yN [] []=true:=by unfold yN;simp [gG,jC]
theorem eq_self (x:PV):eqQ x x=true:=xt _
theorem HJ (a b:Rat):eqQ (fr a) (fr b)=decide (a=b):=by
 rw [HL,HL,yO,fT,fT,uX,eq_int,eq_int,SN,← Td]
 exact decide_eq_decide.mpr (by rw [Hb])
theorem Rn (a b c:PV):lH [a,b,c] (some 1) none=[b,c]:=rfl
theorem K7:lY "int" "int"=some true:=by simp [lY]
theorem Hv:lY "int" "bool"=some false:=by simp [lY]
theorem N5:lY "bool" "bool"=some true:=by simp [lY]
theorem K8:lY "str" "str"=some true:=by simp [lY]
theorem K9:lY "tuple" "tuple"=some true:=by simp [lY]
theorem Hw:lY "list" "list"=some true:=by simp [lY]
theorem dQ {n:Nat} (h:n≤1000):n≤sizeLine:=Tg (L2.aX h)
theorem HV:(0≤sizeLine)=True:=eq_true (Sb _)
theorem Mp:(1≤sizeLine)=True:=eq_true (dQ (by decide))
theorem Mq:(2≤sizeLine)=True:=eq_true (dQ (by decide))
theorem Mr:(3≤sizeLine)=True:=eq_true (dQ (by decide))
theorem Ms:(4≤sizeLine)=True:=eq_true (dQ (by decide))
section
variable (J:Hq) (xs:List PV) (a:Addr) (i:Int) (b:Bool) (z:Str) (T:String)
theorem OZ:pE J (.tup xs) (.int i)=cZ xs i:=rfl
theorem OY:pE J (.fl xs) (.int i)=cZ xs i:=rfl
theorem Mi:pE J (.ref a) (.int i)=(match J a with | some (.lst xs)=>cZ xs i | _=>none):=rfl
theorem Pa:nK J (.fl xs)=some xs:=rfl
theorem MD:nK J (.ref a)=(match J a with | some (.lst xs)=>some xs | _=>none):=rfl
theorem Mo:xB J (.tup xs)=some xs.length:=rfl
theorem Mn:xB J (.fl xs)=some xs.length:=rfl
theorem HU:xB J (.ref a)=(match J a with | some (.lst xs)=>some xs | _=>none).map Sx:=rfl
theorem P6:By J .non=some "NoneType":=rfl
theorem N2:By J (.bl b)=some "bool":=rfl
theorem P5:By J (.int i)=some "int":=rfl
theorem P7:By J (.str z)=some "str":=rfl
theorem P8:By J (.tup xs)=some "tuple":=rfl
theorem P4:By J (.fl xs)=some "list":=rfl
theorem N4:By J (.ref a)=(match J a with | some (.lst _)=>some "list" | some (.dct _ _)=>some "dict" | _=>none):=rfl
theorem NX:wR J .non=some false:=rfl
theorem IF:wR J (.bl b)=some b:=rfl
theorem NW:wR J (.int i)=some (i != 0):=rfl
theorem NZ:wR J (.tup xs)=some (!xs.isEmpty):=rfl
theorem NV:wR J (.fl xs)=some (!xs.isEmpty):=rfl
theorem NY:wR J (.ref a)=(match J a with | some (.lst xs)=>some (!xs.isEmpty) | some (.dct kvs _)=>some (!kvs.isEmpty) | _=>none):=rfl
theorem OW:Oj J (.fl xs)=some ⟨xs,λ_=>True⟩:=rfl
theorem OX:Oj J (.ref a)=(match J a with | some (.lst xs)=>some ⟨xs,λJ'=>J' a=some (.lst xs)⟩ | _=>none):=rfl
theorem Md:DH .non=true:=rfl
theorem OQ:DH (.bl b)=false:=rfl
theorem OS:DH (.int i)=false:=rfl
theorem OU:DH (.str z)=false:=rfl
theorem OV:DH (.tup xs)=false:=rfl
theorem OR:DH (.fl xs)=false:=rfl
theorem OT:DH (.ref a)=false:=rfl
theorem PZ:Lr T J (.fl xs)=(T="list"):=rfl
theorem P1:Lr T J (.str z)=(T="str"):=rfl
theorem P0:Lr T J (.ref a)=((T="list"∧∃xs,J a=some (.lst xs))∨(T="dict"∧∃kvs ep,J a=some (.dct kvs ep))):=rfl
end
def Fo (it:yA) (g:yI) (tb:jv) (D:En) (τ:Sr) (J1:Hq):Prop:=∃Pv:Nat→Sr→Hq→Prop,Pv 0 τ J1∧(∀i τ J,Pv i τ J→it.ok J) ∧
 (∀i x τ J,it.xs[i]?=some x→Pv i τ J→g x τ J λτ2 J2=>tb { D with nx:=Pv (i + 1),ct:=Pv (i + 1),bk:=D.nx } τ2 J2)∧∀τ J,Pv it.xs.length τ J→D.nx τ J
theorem G6 (wi:rS) (g:yI) (tb:jv) (D:En) (τ:Sr) (J:Hq):Nr wi g tb D τ J=wi τ J λit J1=>Fo it g tb D τ J1:=rfl
theorem pP {lo:Int} {n:Nat} {g:yI} {tb:jv} {D:En} {τ:Sr} {J1:Hq} (Pv:Nat→Sr→Hq→Prop) (h0:Pv 0 τ J1)
  (hs:∀(i:Nat) τ J,i < n→Pv i τ J→g (.int (lo + (i:Int))) τ J λτ2 J2=>tb { D with nx:=Pv (i + 1),ct:=Pv (i + 1),bk:=D.nx } τ2 J2) (hd:∀τ J,Pv n τ J→D.nx τ J):Fo ⟨qp lo n,λ_=>True⟩ g tb D τ J1 :=
 ⟨Pv,h0,λ_ _ _ _=>trivial,λi x τ J e p=>by obtain ⟨a,b⟩:=(qr lo n i x).mp e;subst b;exact hs i τ J a p,λτ J p=>hd τ J (by simpa [jH] using p)⟩
structure bD (mg:Str→Option Value):Prop extends Qk mg where
 str:mg "str"=none
 dict:mg "dict"=none
 max:mg "max"=none
 zip:mg "zip"=none
 enumerate:mg "enumerate"=none
def gZ (J' J:Hq):Prop:=∀a,J' a=J a∨J' a=none
def Fg (Q:PV→Hq→Prop) (v:PV) (J:Hq):Prop:=∃x J',gZ J' J∧(x=v∨∃a xs,v=.ref a∧x=.fl xs∧J a=some (.lst xs)∧J' a=none)∧Q x J'
theorem Fg.same {Q:PV→Hq→Prop} {v:PV} {J:Hq} (h:Q v J):Fg Q v J:=⟨v,J,λ_=>.inl rfl,.inl rfl,h⟩
theorem Fg.less {Q:PV→Hq→Prop} {v:PV} {J J':Hq} (l:gZ J' J) (h:Q v J'):Fg Q v J:=⟨v,J',l,.inl rfl,h⟩
theorem Fg.n6 {Q:PV→Hq→Prop} {a:Addr} {xs:List PV} {J J':Hq} (l:gZ J' J) (ha:J a=some (.lst xs)) (hn:J' a=none) (h:Q (.fl xs) J'):Fg Q (.ref a) J:=⟨.fl xs,J',l,.inr ⟨a,xs,rfl,rfl,ha,hn⟩,h⟩
section
variable {P:Program} {w:World} {K:PySem.W.Frag} {mg:Str→Option Value} {base:Heap}
theorem Fg.kn {J:Hq} {H:Hp} {Q2:PV→Hq→Prop} {Q:VK} (k:Kn K J H Q2 Q):Kn K J H (Fg Q2) Q:=λz J1 u H1 rz r1 e1 ⟨x,J',l,hx,q⟩=>by
 have el:=Ext.less (K:=K) (H:=H1) l
 rcases hx with rfl | ⟨a,xs,rfl,rfl,ha,hn⟩
 ·exact k x J' u H1 (el.rep rz) (r1.less l) (e1.trans el) q
 ·cases rz
  obtain ⟨vs,h1,h2⟩:=r1 _ _ ha
  exact k (.fl xs) J' _ H1 ⟨a,vs,rfl,.inl ⟨hn,.inl h1⟩,el.jq h2⟩ (r1.less l) (e1.trans el) q
theorem Rg {x qual:Str} {st:Stmt} {f:Addr} {fd:FuncData} {N ps:List Str} {k:Nat} {sp:cG} (F:bP K x qual st f fd) (S:aw N ps (L2.aq st)) (len:∀xs J Q E,sp xs J Q E→xs.length=ps.length)
  (hbody:∀(cdv:Value) (A:Around) (outer:List Env) (s:Shared) (H:Hp) (E:XK) (G:G2) (xs:List PV) (J:Hq) (Q:PV→Hq→Prop) (E2:Addr→Hq→Prop),bC k (A.deeper (envOfC qual (L2.aq st) s.heap.objs.size f cdv))→sp xs J Q E2 →
   BI (wV P w K mg base N qual (L2.aq st) f cdv A outer s H E) G E2 E →
   ∃t,RB (wV P w K mg base N qual (L2.aq st) f cdv A outer s H E) G (L2.bQ st) t∧t { nx:=λ_ J'=>Fg Q .non J',rt:=Fg Q } (rR N xs) J):aH P w K mg base (cg P w) (k + 1) f fd ps (cH K sp):=by
 have:=Ib (sp:=λxs J Q E=>∃Q0,Q=Fg Q0∧sp xs J Q0 E) F S (λxs J Q E ⟨Q0,_,h⟩=>len xs J Q0 E h) (λcdv A outer s H E G xs J Q E2 hr ⟨Q0,eq,h⟩ B=>by subst eq;exact hbody cdv A outer s H E G xs J Q0 E2 hr h B)
 exact this.imp λvs H Q E ⟨xs,J,Q2,E2,a,b,c,d,e⟩=>⟨xs,J,Fg Q2,E2,a,b,⟨Q2,rfl,c⟩,Fg.kn d,e⟩
end
section
variable {P:Program} {w:World} {K:PySem.W.Frag} {mg:Str→Option Value} {base:Heap}
theorem Pd {x qual:Str} {st:Stmt} {f:Addr} {fd:FuncData} {N ps:List Str} {k:Nat} {sp:cG} {t:(Addr→Hq→Prop)→jv} (F:bP K x qual st f fd) (S:aw N ps (L2.aq st)) (len:∀xs J Q E,sp xs J Q E→xs.length=ps.length)
  (rd:∀(cdv:Value) (A:Around) (outer:List Env) (s:Shared) (H:Hp) (E:XK) (G:G2) (E2:Addr→Hq→Prop),bC k (A.deeper (envOfC qual (L2.aq st) s.heap.objs.size f cdv)) →
   BI (wV P w K mg base N qual (L2.aq st) f cdv A outer s H E) G E2 E→RB (wV P w K mg base N qual (L2.aq st) f cdv A outer s H E) G (L2.bQ st) (t E2))
  (run:∀(xs:List PV) (J:Hq) (Q:PV→Hq→Prop) (E2:Addr→Hq→Prop),sp xs J Q E2→∀X:Prop,(t E2 { nx:=λ_ J'=>Fg Q .non J',rt:=Fg Q } (rR N xs) J→X)→X):aH P w K mg base (cg P w) (k + 1) f fd ps (cH K sp) :=
 Rg F S len λcdv A outer s H E G xs J Q E2 hr h B=>⟨_,rd cdv A outer s H E G E2 hr B,run xs J Q E2 h _ id⟩
end
theorem Dh {X:Cx} {G:G2}:BI X G (λ_ _=>False) L2.E0:=⟨λ_ _ _ _ _ _ _ ⟨_,_,_,_,_,z⟩=>z.elim,λ_ _ _ _ _ z=>z.elim⟩
theorem uv {K:PySem.W.Frag} {J:Hq} {H:Hp}:∀ns:List Int,aS K J H (ns.map PV.int) (ns.map V.int)
 | []=>rfl
 | n :: ns=>⟨_,_,rfl,rfl,uv ns⟩
end Ov
namespace Ov
open PySem PySem.Spec PyProof.Rows L2
theorem LK {α:Type} (a b c d e:α) (xs:List α):cZ (a :: b :: c :: d :: e :: xs) 4=some e:=bG (j:=4) rfl
theorem LL {α:Type} (a b c d e f:α) (xs:List α):cZ (a :: b :: c :: d :: e :: f :: xs) 5=some f:=bG (j:=5) rfl
theorem LM {α:Type} (a b c d e f g:α) (xs:List α):cZ (a :: b :: c :: d :: e :: f :: g :: xs) 6=some g:=bG (j:=6) rfl
theorem LN {α:Type} (a b c d e f g h:α) (xs:List α):cZ (a :: b :: c :: d :: e :: f :: g :: h :: xs) 7=some h:=bG (j:=7) rfl
theorem LP {α:Type} (a b c d e f g h i:α) (xs:List α):cZ (a :: b :: c :: d :: e :: f :: g :: h :: i :: xs) 8=some i:=bG (j:=8) rfl
theorem LQ {α:Type} (a b c d e f g h i j:α) (xs:List α):cZ (a :: b :: c :: d :: e :: f :: g :: h :: i :: j :: xs) 9=some j:=bG (j:=9) rfl
theorem IX {α:Type} (a b c d e f g h i j k:α) (xs:List α):cZ (a :: b :: c :: d :: e :: f :: g :: h :: i :: j :: k :: xs) 10=some k:=bG (j:=10) rfl
theorem IY {α:Type} (a b c d e f g h i j k l:α) (xs:List α):cZ (a :: b :: c :: d :: e :: f :: g :: h :: i :: j :: k :: l :: xs) 11=some l:=bG (j:=11) rfl
theorem Mt:(5≤sizeLine)=True:=eq_true (dQ (by decide))
theorem Mu:(6≤sizeLine)=True:=eq_true (dQ (by decide))
theorem Mw:(7≤sizeLine)=True:=eq_true (dQ (by decide))
theorem Mx:(8≤sizeLine)=True:=eq_true (dQ (by decide))
theorem My:(9≤sizeLine)=True:=eq_true (dQ (by decide))
theorem JC:(10≤sizeLine)=True:=eq_true (dQ (by decide))
theorem JD:(11≤sizeLine)=True:=eq_true (dQ (by decide))
theorem JE:(12≤sizeLine)=True:=eq_true (dQ (by decide))
theorem rA {ss:List Int} (h:ss.all (λs=>decide (0 < s) && decide (s < 2 ^ 63))=true):∀s∈ss,0 < s∧Bd 9000 s:=λs hs=>by
 have:=S_.mp h s hs
 rw [R7,decide_eq_true_eq,decide_eq_true_eq] at this
 exact ⟨this.1,(Bd.small (by omega) (by omega)).mono (by decide)⟩
theorem Sz.div {n:Nat} {t b:Int} (ht:Bd n t) (hb:Bd n b) (h:b≠0):Sz n (Rat.divInt t b):=⟨ht.le (AH t b),hb.le (pO h)⟩
end Ov
namespace Ov
open PySem PySem.Spec PyProof.Rows
open L2 (V HO Hp Inv Cx VK XK TE TT TA TS TG kL TI TO fw Ends pM Loc Gl Rd RelV Vals eI pA bJ lA mr lD fv R2 upd aR aK dM fu Sp lZ It bW bI bC Passes kH aA Meth Mk Binds aH bP aw cZ dW dg)
section
variable {X:Cx} {G:G2}
abbrev BN:=PV→PV→PV→Hq→(Hq→Prop)→Prop
def Oc (X:Cx) (q:BN):Prop:=∃r,fv X r∧∀J H o i y ov iv u R2 R,cu X.K J H o ov→cu X.K J H i iv→cu X.K J H y u→Rep X.K J H→q o i y J R2→(∀J' H',Rep X.K J' H'→Ext X.K J H J' H'→R2 J'→R H')→r ov iv u H R
def OO (to ti:cY) (t:BN):yI:=λy τ J R=>to τ J λo J1=>ti τ J1 λi J2=>t o i y J2 λJ3=>R τ J3
theorem Kv {o i:Expr} {to ti:cY} {t:BN} {pos:Pos} (hs:Oc X t) (ho:RE X G o to) (hi:RE X G i ti)
  (ha:∀v,assign (.Subscript o i pos) X.env v=(do
   let ov ← holding [v] (eval o X.env)
   let iv ← holding [v,ov] (eval i X.env)
   standAt pos
   holding [v,ov,iv] (setItem ov iv v)
   release [v,ov,iv] []):=by intro _;rfl):RG X G (.Subscript o i pos) (OO to ti t):=by
 obtain ⟨r,hr,lf⟩:=hs
 exact ⟨Pk (L2.zu ho.run hi.run hr ha) λv σ H Q ⟨y,τ,J,Q2,ry,a2,h,k⟩ =>
  ⟨τ,J,_,a2,h,λx J1 ov H1 rx r1 e1 h1=>⟨τ,J1,_,a2.go r1 e1,h1,λz J2 iv H2 rz r2 e2 h2 =>
   lf J2 H2 x z y ov iv v _ _ (e2.rep rx) rz (e2.rep (e1.rep ry)) r2 h2 λJ3 H3 r3 e3 q=>k τ J3 σ H3 ((((a2.sl.ext e1).ext e2).ext e3)) r3 ((e1.trans e2).trans e3) q⟩⟩⟩
def Im:BN:=λo i y J R=>∃p xs k j,o=.ref p∧i=.int k∧J p=some (.lst xs)∧L2.CL xs.length k=some j∧R (put J p (.lst (xs.set j y)))
theorem Ho:Oc X Im:=⟨_,L2.set_list,λJ H o i y ov iv u R2 R ro ri ry r ⟨p,xs,k,j,eo,ei,hp,hj,q⟩ kk=>by
 subst eo ei
 cases ro;cases ri
 obtain ⟨vs,h1,h2⟩:=r _ _ hp
 refine ⟨p,vs,k,j,rfl,rfl,h1,by rw [← h2.length];exact hj,kk _ _ (r.wrote hp h1 (h2.set ry j)) (.wrote hp h1) q⟩⟩
theorem wo {o i e:Expr} {to ti te:cY} {t:BN} {pos pos':Pos} (hs:Oc X t) (ho:RE X G o to) (hi:RE X G i ti) (he:RE X G e te)
  (ha:∀v,assign (.Subscript o i pos') X.env v=(do
   let ov ← holding [v] (eval o X.env)
   let iv ← holding [v,ov] (eval i X.env)
   standAt pos'
   holding [v,ov,iv] (setItem ov iv v)
   release [v,ov,iv] []):=by intro _;rfl)
  (hq:swapsWithSole [.Subscript o i pos'] e pos.line X.env=pure false:=by rfl) (hw:swappedStores [.Subscript o i pos'] e X.env=pure none:=by rfl)
  (h1:(assignEach [.Subscript o i pos'] X.env).map (·.2)=[assign (.Subscript o i pos') X.env]:=by rfl):RS X G (.Assign [.Subscript o i pos'] e pos) (wd te (OO to ti t)):=wk he (Kv hs ho hi ha) hq hw h1
def Ql (X:Cx) (op:Operator) (q:mn):Prop:=∃r,L2.OE X op r∧LR X.K r q
def Nk (i:Nat) (te:cY) (q:mn):jv:=λD τ J=>MI τ[i]? λx=>te τ J λy J1=>q x y J1 λz J2=>D.nx (τ.set i (some z)) J2
theorem EJ {i:Nat} {x:Str} {e:Expr} {te:cY} {op:Operator} {q:mn} {pos pos':Pos} (hN:X.N.Nodup) (he:RE X G e te) (ho:Ql X op q) (hi:X.N[i]?=some x:=by rfl) (hx:Loc X.env.scope x:=by first | exact .inl rfl | exact .inr rfl) (hf:X.fn x=true∨X.env.scope.names.lookup x=some .local:=by first | exact .inl rfl | exact .inr rfl | assumption) :
  RS X G (.AugAssign (.Name x pos') op e pos) (Nk i te q):=by
 obtain ⟨r,hr,lf⟩:=ho
 exact ⟨zy (L2.Kg hN hi hx he.run hr hf) λD σ H ⟨τ,J,D2,a2,hh,g⟩=>by
  obtain ⟨x,hx,h⟩:=D4 hh
  obtain ⟨v,h1,h2⟩:=a2.sl.get _ _ hx
  exact ⟨v,h1,τ,J,_,a2,h,λy J1 u H1 ry r1 e1 q1=>lf J1 H1 x y v u _ _ (e1.rep h2) ry r1 q1 λz J2 u2 H2 rz r2 e2 q2=>g.nx _ J2 _ H2 (((a2.sl.ext e1).ext e2).set i rz) r2 (e1.trans e2) q2⟩⟩
theorem DF:Ql X .Sub (Ez λi j=>.int (i - j)):=⟨_,L2.Jp,λJ H x y v w Q2 Q rx ry r h k=>by
 obtain ⟨i,ex,h⟩:=fZ h;obtain ⟨j,ey,q⟩:=fZ h
 subst ex ey;cases rx;cases ry;exact ⟨i,j,rfl,rfl,k (.int _) J _ H rfl r .refl q⟩⟩
end
theorem dZ {xs:List PV} {ok:Hq→Prop} {g:yI} {tb:jv} {D:En} {τ:Sr} {J1:Hq} (Pv:Nat→Sr→Hq→Prop) (h0:Pv 0 τ J1) (hk:∀i τ J,Pv i τ J→ok J)
  (hs:∀(i:Nat) x τ J,xs[i]?=some x→Pv i τ J→g x τ J λτ2 J2=>tb { D with nx:=Pv (i + 1),ct:=Pv (i + 1),bk:=D.nx } τ2 J2) (hd:∀τ J,Pv xs.length τ J→D.nx τ J):Fo ⟨xs,ok⟩ g tb D τ J1:=⟨Pv,h0,hk,hs,hd⟩
theorem Af {α:Type} (xs:List α) (x:α):cZ (xs ++ [x]) (-1)=some x:=by
 unfold L2.cZ L2.CL
 rw [if_neg (by decide),if_pos (by simp;omega)]
 have e:(-1 + ((xs ++ [x]).length:Int)).toNat=xs.length:=by simp only [RL,R0,S1];omega
 rw [e]
 simp
theorem jT {K:PySem.W.Frag} {h:Heap} {mg:Str→Option Value} {x:Str} {C:Addr} (X:K.In h) (G:h.Ns mainGlobals mg) (a:PySem.W.nsIn K mainGlobals x=some (some (.ref C))) (b:(PySem.W.excIn K C OH "ValueError.__new__" && Fn K C)=true):Own K mg x C :=
 ⟨PySem.W.mg_of X G a,(TM.mp b).1,HC (TM.mp b).2⟩
theorem mK {J:Hq} {x:PV} {ys:List PV} (h:nK J x=some ys):x=.fl ys∨∃a,x=.ref a∧J a=some (.lst ys):=by
 cases x with
 | fl xs=>cases h;exact .inl rfl
 | ref a =>
  right
  refine ⟨a,rfl,?_⟩
  unfold nK at h
  simp only at h
  split at h
  ·rename_i e;cases h;exact e
  ·cases h
 | _=>cases h
theorem ME {J:Hq} {x:PV} {ys:List PV} (h:nK J x=some ys):By J x=some "list":=by
 rcases mK h with rfl | ⟨a,rfl,ha⟩
 ·rfl
 ·rw [N4,ha]
theorem DQ {J:Hq} {x:PV} {ys:List PV} (h:nK J x=some ys):xB J x=some ys.length:=by
 rcases mK h with rfl | ⟨a,rfl,ha⟩
 ·rfl
 ·rw [HU,ha];rfl
theorem HX {J:Hq} {x:PV} {ys:List PV} (h:nK J x=some ys) (i:Int):pE J x (.int i)=cZ ys i:=by
 rcases mK h with rfl | ⟨a,rfl,ha⟩
 ·rfl
 ·rw [Mi,ha]
def Jh (j:Nat):List PV:=.bl true :: (SJ 10).map λk=>.bl (decide (j=k))
def PF (c:Nat→Addr) (N n:Nat) (t:(Addr→Hq→Prop)→jv):jv:=λD τ J =>
 t (λa J'=>∃j,j < 10∧a=c j∧D.nx ((Sm N none).set n (some (.fl (Jh j)))) J') D τ J
section
variable {X:Cx} {G:G2}
end
theorem KC {a b:jv} {D:En} {τ:Sr} {J:Hq} (h:∀N:Sr→Hq→Prop,(∀τ' J',b D τ' J'→N τ' J')→a { D with nx:=N } τ J):bE a b D τ J:=h _ λ_ _ z=>z
def NJ (J:Hq):PV→Option (List PV)
 | .tup xs=>some xs
 | .fl xs=>some xs
 | .ref a=>match J a with
  | some (.lst xs)=>some xs
  | _=>none
 | _=>none
theorem KJ {K:PySem.W.Frag} {J:Hq} {H:Hp} {y:PV} {u:V} {xs:List PV} (h:NJ J y=some xs) (r:cu K J H y u) (rr:Rep K J H):∃p vs,u=.ref p∧(dM K H p vs∨fu K H p vs)∧aS K J H xs vs:=by
 cases y with
 | tup ys=>cases h;obtain ⟨a,vs,rfl,h1,h2⟩:=r;exact ⟨a,vs,rfl,.inr h1,h2⟩
 | fl ys=>cases h;obtain ⟨a,vs,rfl,h1,h2⟩:=r;exact ⟨a,vs,rfl,.inl h1.sq,h2⟩
 | ref a =>
  cases r
  unfold NJ at h
  simp only at h
  split at h
  ·rename_i e;cases h
   obtain ⟨vs,h1,h2⟩:=rr _ _ e
   exact ⟨a,vs,rfl,.inl (dM.of h1),h2⟩
  ·cases h
 | _=>cases h
theorem iV {K:PySem.W.Frag} {J:Hq} {H:Hp}:∀{ns:List Str} {vs:List V},aS K J H (ns.map PV.str) vs→vs=ns.map V.str
 | [],_,h=>h
 | n :: ns,_,⟨v,us,e,h,k⟩=>by subst e;cases h;rw [iV k];rfl
theorem FY {α:Type} [BEq α] [LawfulBEq α] [DecidableEq α] (x y:α):(x == y)=decide (x=y):=by by_cases h:x=y <;> simp [h]
theorem F9 (s:Str) (ss:List Str):L2.Oi (.str s) (ss.map V.str)=decide (s∈ss):=by
 unfold L2.Oi
 induction ss with
 | nil=>rfl
 | cons x ss ih =>
  rw [RD,Tb,ih,show L2.F6 (.str x) (.str s)=(x == s) from rfl,FY]
  by_cases h:x=s
  ·subst h;simp
  ·simp [h,show ¬ s=x from λe=>h e.symm]
section
variable {X:Cx} {G:G2}
def M' (f:Bool→Bool):mn:=λx y J Q=>∃(s:Str) (ss:List Str),x=.str s∧NJ J y=some (ss.map .str)∧Q (.bl (f (decide (s∈ss)))) J
theorem BR (ss:List Str):(ss.map V.str).all L2.kM=true:=by simp [L2.kM]
theorem GH:ml X (compareOp .NotIn) (M' not):=⟨_,L2.vJ,λJ H x y v w Q2 Q rx ry r ⟨s,ss,ex,hy,q⟩ k=>by
 subst ex;cases rx
 obtain ⟨p,vs,rfl,hq,h2⟩:=KJ hy ry r
 cases iV h2
 exact ⟨p,_,rfl,hq,rfl,BR ss,k (.bl _) J _ H (by rw [if_pos rfl,F9];rfl) r .refl q⟩⟩
end
end Ov
namespace L2
open PySem PySem.Spec PyProof.Rows
section
variable {X:Cx} {tg:Expr}
end
end L2
namespace Ov
open PySem PySem.Spec PyProof.Rows
open L2 (V HO Hp Inv Cx VK XK TE TT TA TS TG kL TI TO fw Ends pM Loc Gl Rd RelV Vals eI pA bJ lA mr lD fv R2 upd aR aK dM fu Sp lZ It bW bI bC Passes kH aA Meth Mk Binds aH bP aw cZ dW dg)
section
variable {X:Cx} {G:G2} {tg:Expr}
theorem yY {K:PySem.W.Frag} {J:Hq} {H:Hp} {y:PV} {u:V} {xs:List PV} (h:nK J y=some xs) (r:cu K J H y u) (rr:Rep K J H):∃p vs,u=.ref p∧dM K H p vs∧aS K J H xs vs:=by
 rcases mK h with rfl | ⟨a,rfl,ha⟩
 ·obtain ⟨a,vs,rfl,h1,h2⟩:=r;exact ⟨a,vs,rfl,h1.sq,h2⟩
 ·cases r
  obtain ⟨vs,h1,h2⟩:=rr _ _ ha
  exact ⟨a,vs,rfl,dM.of h1,h2⟩
theorem aS.flat {K:PySem.W.Frag} {J:Hq} {H:Hp} {xs:List PV} {vs:List V} (r:aS K J H xs vs):∀k:Nat,aS K J H (Sm k xs).flatten (Sm k vs).flatten
 | 0=>rfl
 | k + 1=>by rw [TU,TU,T4,T4];exact r.append (aS.flat r k)
end
end Ov
namespace L2
open PySem PySem.Spec PyProof.Rows
section
variable {X:Cx}
abbrev TJ:=Str→TE
end
end L2
namespace Ov
open PySem PySem.Spec PyProof.Rows
open L2 (V HO Hp Inv Cx VK XK TE TT TA TS TG kL TI TO fw Ends pM Loc Gl Rd RelV Vals eI pA bJ lA mr lD fv R2 upd aR aK dM fu Sp lZ It bW bI bC Passes kH aA Meth Mk Binds aH bP aw cZ dW dg TJ)
section
variable {X:Cx} {G:G2}
def Ii:Ad:=λx xs J Q=>∃z y ys,x=.str z∧xs=[y]∧nK J y=some (ys.map .str)∧(ys.map (·.length)).sum + ys.length * z.length≤16777216∧Q (.str (Txt.join z ys)) J
theorem Gp:IU X "str" "str.join" Ii:=⟨_,Gq,λJ H x xs v vs Q2 Q rx rs r ⟨z,y,ys,ex,exs,hy,hl,q⟩ k=>by
 subst ex exs;cases rx;obtain ⟨w,us,rfl,rw',e⟩:=rs;cases e
 obtain ⟨a,ws,rfl,h1,h2⟩:=yY hy rw' r
 cases iV h2
 exact ⟨z,a,ys,rfl,rfl,h1,hl,k (.str _) J _ H rfl r .refl q⟩⟩
end
end Ov
namespace L2
open PySem PySem.Spec PyProof.Rows
section
variable {X:Cx} {pins:List (Addr × Obj)} {σ:St} {H:Hp} {s:Shared} {h':Heap}
theorem Inv.Bx {t':Nat} {ch:List Addr} (I:Inv X pins σ H s) (k:∀b o,b ∉ ch→s.heap.get? b=some o→h'.get? b=some o) (hf:∀b∈ch,lz X pins H b):Inv X pins σ H { s with heap:=h',toks:=t' }:=by
 have nit:∀b u,H b=some u→b ∉ ch:=λb u e z=>by rw [(hf b z).1] at e;cases e
 refine I.step (g':=s.gens) (d':=s.drawn) (ch:=ch) (λb hb=>?_) (λb o _ _ hc e _=>k b o hc e) (λb o _ _ hc e _=>⟨o.slots,k b o hc e⟩) (λ_ _ _ _ n=>n)
  (λb o hc e=>⟨o,k b o hc e⟩) (λ_ _ e=>e) (λ_ _ _ e=>e) (λb ps e=>⟨#[],by rw [e];simp⟩) (λm hm=>?_) (λb u e=>?_) I.bare
 ·obtain ⟨f0,f1,f2,f3,f4,f5⟩:=hf b hb
  exact ⟨f3,f1,f4,f5⟩
 ·obtain ⟨o,es,ep,ho,r⟩:=hm
  exact ⟨o,es,ep,k _ o (λz=>(hf _ z).2.1 rfl) ho,r⟩
 ·refine (I.hok b u e).lX (λc v hc q=>k c v ?_ q) (λ_ q=>q) λ_ _ q=>q
  rcases hc with z | z
  ·rw [z];exact nit b u e
  ·exact nit c _ z
end
section
variable {X:Cx}
end
end L2
namespace Ov
open PySem PySem.Spec PyProof.Rows
open L2 (V HO Hp Inv Cx VK XK TE TT TA TS TG kL TI TO fw Ends pM Loc Gl Rd RelV Vals eI pA bJ lA mr lD fv R2 upd aR aK dM fu Sp lZ It bW bI bC Passes kH aA Meth Mk Binds aH bP aw cZ dW dg)
section
variable {X:Cx} {G:G2}
end
end Ov
namespace L2
open PySem PySem.Spec PyProof.Rows
section
variable {α β:Type}
def jx (kvs:List (Str × α)) (k:Str):Option α:=(kvs.find? λkv=>decide (kv.1=k)).map (·.2)
def pe (kvs:List (Str × α)) (k:Str) (v:α):List (Str × α):=if kvs.any (λkv=>decide (kv.1=k)) then kvs.map (λkv=>if kv.1=k then (kv.1,v) else kv) else kvs ++ [(k,v)]
def F3 (kvs:List (Str × α)) (k:Str):List (Str × α):=kvs.filter λkv=>decide (kv.1≠k)
theorem nH (p:Str × α) (r:List (Str × α)) (k:Str):jx (p :: r) k=if p.1=k then some p.2 else jx r k:=by
 unfold jx
 rw [List.find?_cons]
 by_cases h:p.1=k <;> simp [h]
theorem AX (kvs:List (Str × α)) (k:Str) (v:α):(pe kvs k v).length≤kvs.length + 1:=by
 unfold pe;split <;> simp
abbrev nI (R:α→β→Prop):List (Str × α)→List (Str × β)→Prop:=Paired λp q=>p.1=q.1∧R p.2 q.2
variable {R:α→β→Prop}
theorem nI.va {kvs:List (Str × α)} {vs:List (Str × β)} (h:nI R kvs vs) (k:Str):(∀x,jx kvs k=some x→∃y,jx vs k=some y∧R x y)∧(jx kvs k).isSome=(jx vs k).isSome:=by
 induction h with
 | nil=>exact ⟨λx e=>by simp [jx] at e,rfl⟩
 | @cons p q kvs vs r _ ih =>
  rw [nH,nH,← r.1]
  by_cases e:p.1=k
  ·rw [if_pos e,if_pos e];exact ⟨λx z=>by cases z;exact ⟨_,rfl,r.2⟩,rfl⟩
  ·rw [if_neg e,if_neg e];exact ih
theorem nI.any {kvs:List (Str × α)} {vs:List (Str × β)} (h:nI R kvs vs) (k:Str):(kvs.any λkv=>decide (kv.1=k))=vs.any λkv=>decide (kv.1=k):=by
 induction h with
 | nil=>rfl
 | cons r _ ih=>rw [Tb,Tb,ih,r.1]
theorem nI.snoc {kvs:List (Str × α)} {vs:List (Str × β)} (h:nI R kvs vs) {k:Str} {x:α} {y:β} (r:R x y):nI R (kvs ++ [(k,x)]) (vs ++ [(k,y)]):=by
 induction h with
 | nil=>exact .cons ⟨rfl,r⟩ .nil
 | cons q _ ih=>exact .cons q ih
theorem nI.pu {kvs:List (Str × α)} {vs:List (Str × β)} (h:nI R kvs vs) {k:Str} {x:α} {y:β} (r:R x y):nI R (pe kvs k x) (pe vs k y):=by
 unfold pe
 rw [h.any k]
 split
 ·rename_i hany;clear hany
  induction h with
  | nil=>exact .nil
  | @cons p q kvs vs z _ ih =>
   rw [RD,RD]
   refine .cons ?_ ih
   by_cases e:p.1=k
   ·rw [if_pos e,if_pos (z.1 ▸ e)];exact ⟨z.1,r⟩
   ·rw [if_neg e,if_neg (z.1 ▸ e)];exact z
 ·exact h.snoc r
theorem nI.len {kvs:List (Str × α)} {vs:List (Str × β)} (h:nI R kvs vs):kvs.length=vs.length:=Paired.length h
theorem nI.keys {kvs:List (Str × α)} {vs:List (Str × β)} (h:nI R kvs vs):kvs.map (·.1)=vs.map (·.1):=by
 induction h with
 | nil=>rfl
 | cons r _ ih=>rw [RD,RD,ih,r.1]
end
theorem CJ (vs:List (Str × Value)) (k:Str):valueAt vs k=jx vs k:=rfl
theorem str_is {P:Program} {w:World} {k:Str} {u:Value} (r:RelV (.str k) u):(PySem.strKind P w).is k u=true:=by
 obtain ⟨t,rfl⟩:=r
 simp [PySem.strKind,Value.isStrOf]
theorem Jq {P:Program} {w:World} {k:Str} {u:Value} (h:(PySem.strKind P w).is k u=true):RelV (.str k) u:=Value.isStrOf_shape h
section
variable {X:Cx} {pins:List (Addr × Obj)} {σ:St} {H:Hp} {s:Shared} {a:Addr} {A:Around} {E:Value→Shared→Prop} {kvs:List (Str × V)} {ep:Nat}
theorem jB (I:Inv X pins σ H s) (e:H a=some (.dE kvs ep)):kvs.length≤sizeLine∧(a == sysModules)=false∧∃vs,nI RelV kvs vs∧s.heap.DictAt (PySem.strKind X.prog X.w) a vs ep:=I.hok a _ e
theorem xp {h':Heap} {t':Nat} {kvs':List (Str × V)} {vs':List (Str × Value)} (I:Inv X pins σ H s) (e:H a=some (.dE kvs ep)) (hs:Heap.SameBut a s.heap h') (hz:kvs'.length≤sizeLine) (hd:(a == sysModules)=false) (rel:nI RelV kvs' vs') (dd:h'.DictOf (PySem.strKind X.prog X.w) a vs') :
  ∃ep',Inv X pins σ (upd H a (.dE kvs' ep')) { s with heap:=h',toks:=t' }:=by
 obtain ⟨ep',da⟩:=dd.dictAt
 refine ⟨ep',I.write (x:=a) (e:=a) (by rw [e];exact True.intro) (.inl rfl) (λb q hb z=>(hs.2 b hb).trans z) (let ⟨q,_,_,hq,_⟩:=dd;⟨q,hq⟩) ⟨hz,hd,vs',rel,da⟩⟩
theorem Inv.LV (I:Inv X pins σ H s):sysModules < s.heap.objs.size:=by
 have h:mainGlobals < s.heap.objs.size:=(I.mod.glob.keeps I.bk).lt
 exact Nat.lt_trans (by decide) h
end
def Pt:R2:=λx y H Q=>∃a kvs ep k v,x=.ref a∧y=.str k∧H a=some (.dE kvs ep)∧jx kvs k=some v∧Q v H
def Nu (f:Bool→Bool):R2:=λx y H Q=>∃a kvs ep k,x=.str k∧y=.ref a∧H a=some (.dE kvs ep)∧Q (.bl (f (jx kvs k).isSome)) H
def NA:fw:=λo i v H Q=>∃a kvs ep k,o=.ref a∧i=.str k∧H a=some (.dE kvs ep)∧kvs.length < sizeLine∧∀ep',Q (upd H a (.dE (pe kvs k v) ep'))
def NS:TE:=λ_ H Q=>∀p,H p=none→∀ep,Q (.ref p) (upd H p (.dE [] ep))
section
variable {X:Cx}
theorem Mf:lA X Pt:=by
 intro value slice pins s σ H x y v u Q I rx ry q hs
 obtain ⟨a,kvs,ep,k,z,rfl,rfl,hp,hz,q⟩:=q
 cases rx
 obtain ⟨_,hd,vs,rel,da⟩:=jB I hp
 have hT:s.TypeIs (.ref a) "dict":=da.dictOf.typeIs
 obtain ⟨w',hw,rw'⟩:=(rel.va k).1 z hz
 unfold subscriptTail
 refine wpAny_bind ?_
 rw [getitemInPython_of_ne hT.not_modules]
 refine wpAny_bind (wpAny_specialOf hT PySem.F.slot_dict_getitem.lookup ?_)
 have fin:wpAny (model X.prog X.w) X.A (subscripted slice false (.ref a) u) (λr s₃=>wpAny (model X.prog X.w) X.A (letTemporaryGo value (.ref a) r >>= λ_=>pure r) (EP X pins σ Q) X.xe s₃) X.xe s:=by
  rw [hs]
  exact wpAny_operating (wpAny_getItem_of (str_is ry) da.dictOf.mapOf hw (wpAny_bind (wpAny_letTemporaryGo (wpAny_pure ⟨z,H,I.tok _,rw',q⟩))))
 first
  | exact wpAny_pure (wpAny_bind fin)
  | exact wpAny_bind (wpAny_pure (wpAny_bind fin))
  | exact wpAny_bind fin
theorem JW:eI X (compareOp .In) (Nu id):=by
 intro pins s σ H x y v u Q I rx ry ⟨a,kvs,ep,k,ex,ey,hp,q⟩
 subst ex ey
 cases ry
 obtain ⟨_,hd,vs,rel,da⟩:=jB I hp
 refine wpAny_in_of (str_is rx) hd da.dictOf.mapOf ?_
 exact ⟨.bl _,H,I.tok _,by rw [CJ,← (rel.va k).2];rfl,q⟩
theorem KG:fv X NA:=by
 intro pins s σ H o i v ov iv u Q I ro ri rv ⟨a,kvs,ep,k,eo,ei,hp,hl,q⟩
 subst eo ei
 cases ro
 obtain ⟨hz,hd,vs,rel,da⟩:=jB I hp
 refine wpAny_setItem_pairs (hsz:=by rw [← rel.len];exact hz) (str_is ri) da.dictOf λh' dd' hs=>?_
 obtain ⟨ep',I2⟩:=xp (t':=s.toks + 1) I hp hs (show (pe kvs k v).length≤sizeLine from RN (AX kvs k v) hl) hd (rel.pu rv) dd'
 exact ⟨_,I2,q ep'⟩
theorem GP {pos:Pos}:PE X (.Dict [] [] pos) NS:=λpins s σ H Q I h=>by
 have hd:(s.heap.push { cls:=.type "dict",data:=.dict #[] }).DictOf (PySem.strKind X.prog X.w) s.heap.objs.size []:=Heap.DictOf.new s.heap
 obtain ⟨ep,da⟩:=hd.dictAt
 exact wpAny_Dict_empty ⟨.ref s.heap.objs.size,_,I.laid (a:=s.heap.objs.size) (o:=.dE [] ep) (t':=s.toks) (λ_ _ q=>Heap.get?_push_of_some _ q) (Rz _)
  ⟨Sb _,beq_eq_false_iff_ne.mpr (Ne.symm (R1 I.LV)),[],.nil,da⟩,rfl,h _ (I.hok.fresh (Rz _)) ep⟩
end
def Qm (a:Addr) (ks:List Str) (ep:Nat):It :=
 ⟨λi H=>(∃kvs,H a=some (.dE kvs ep)∧kvs.map (·.1)=ks)∧i < ks.length,
  λi H z H'=>H'=H∧∃k,ks[i]?=some k∧z=.str k,
  λi H=>(∃kvs,H a=some (.dE kvs ep)∧kvs.map (·.1)=ks)∧ks.length≤i⟩
theorem CD {P:Program} {w:World} {K:PySem.W.Frag} {tg:Expr} (a it:Addr) (ks:List Str) (ep:Nat):Turn P w K tg (Qm a ks ep) [it] it (λi h=>h.IsKeyIter it a i ks.length ep) where
 mem:=by simp
 obj:=λi h st b hb=>by
  have e:b=it:=by simpa using hb
  subst e
  obtain ⟨o,e,c,d⟩:=st
  exact ⟨o,e,λv z=>by rw [d] at z;cases z⟩
 keep:=λi h h' st k=>st.at λo e=>k it (by simp) o e
 item:=by
  intro X hP hw hK hc i pins s σ H E I hf st hg
  subst hP hw hK
  obtain ⟨⟨kvs,hp,hks⟩,hi⟩:=hg
  obtain ⟨hz,hd,vs,rel,da⟩:=jB I hp
  have hl:ks.length=vs.length:=by rw [← hks,Rr];exact rel.len
  obtain ⟨f0,f1,f2,f3,f4,f5⟩:=hf it (by simp)
  obtain ⟨⟨k,x⟩,hx⟩:∃p,vs[i]?=some p:=⟨vs[i]'(by omega),Rt (by omega)⟩
  have hk:ks[i]?=some k:=by rw [← hks,rel.keys,Ry,hx];rfl
  refine wpAny_pyNext_dict_item (by rw [← hl];exact st) da hx λkey h' hkey st' sb=>?_
  rw [← hl] at st'
  have I1:Inv X pins σ H { s with heap:=h' }:=I.turned (t':=s.toks) (λb o hb e=>(sb.2 b hb).trans e) f0 f1 f3 f4 f5
  obtain ⟨o,e,c,d⟩:=id st'
  exact ⟨key,rfl,Au (s:={ s with heap:=h' }) e c d (by decide) ⟨.str k,H,I1,Jq hkey,⟨rfl,k,hk,rfl⟩,st',λb hb=>(hf b hb).1⟩⟩
 done:=by
  intro X hP hw hK hc i pins s σ H E I hf st hg
  subst hP hw hK
  obtain ⟨⟨kvs,hp,hks⟩,hi⟩:=hg
  obtain ⟨hz,hd,vs,rel,da⟩:=jB I hp
  have hl:ks.length=vs.length:=by rw [← hks,Rr];exact rel.len
  obtain ⟨f0,f1,f2,f3,f4,f5⟩:=hf it (by simp)
  refine wpAny_pyNext_dict_end (I.ok.hd hc) (by rw [← hl];exact st) da (by rw [SS];omega) λh' hk=>⟨rfl,I.turned (t':=s.toks) (λb o hb e=>hk b o hb e) f0 f1 f3 f4 f5⟩
 self:=λ_ _ _ _ _ st h=>wpAny_pyIter_keyiter st h
def L_ (td:TE):TI:=λσ H R=>td σ H λx H1=>∃a kvs ep,x=.ref a∧H1 a=some (.dE kvs ep)∧R (Qm a (kvs.map (·.1)) ep) H1
theorem GQ {X:Cx} {tg l:Expr} {tl:TE} (hl:PE X l tl):PI X tg l (L_ tl):=by
 intro pins s σ H R I h
 refine cf (hl pins s σ H _ I h) λv s1 ⟨x,H1,I1,r1,q1⟩=>?_
 obtain ⟨a,kvs,ep,e,hp,q⟩:=q1
 subst e
 cases r1
 obtain ⟨hz,hd,vs,rel,da⟩:=jB I1 hp
 refine wpAny_pyIter_dict hd da ?_
 refine ⟨s1.heap.objs.size,[s1.heap.objs.size],_,_,H1,rfl,I1.kept (t':=s1.toks) λb o e=>Heap.get?_push_of_some _ e,CD a _ (kvs.map (·.1)) ep,⟨_,Heap.get?_push_size _ rfl,rfl,by rw [Rr,rel.len];rfl⟩,λb hb=>?_,q⟩
 have e:b=s1.heap.objs.size:=by simpa using hb
 subst e
 exact I1.Dq (Rz _) (I1.hok.fresh (Rz _))
end L2
namespace Ov
open PySem PySem.Spec PyProof.Rows L2
section
variable {prog:Program} {w:World} {A:Around} {R:Result→Shared→Prop} {s:Shared}
theorem yX {kx vx iter:Expr} {ifs:List Expr} {x:Str} {px:Pos} {sc:Scope} {pos:Pos} {it:Value} {D:Addr} {env:Env} (I:Nat→Shared→Prop)
  (turn:∀n s,I n s→wpAny (model prog w) A (pyNext it) (λr s₁=>match r with
   | none=>R (.ok .next) s₁
   | some v=>wpAny (model prog w) A (letOwnedTupleGo (.Name x px) it v) (λ_ s₂=>wpAny (model prog w) A (assign (.Name x px) env v) (λ_ s₃=>wpAny (model prog w) A (forIn ifs true λc r=>if r=true then do let ok ← isTrue c env (eval c env);pure (ForInStep.yield ok) else pure (ForInStep.yield r)) (λok s₃=>if ok=true then wpAny (model prog w) A (eval kx env) (λkv s₄ =>
     wpAny (model prog w) A (eval vx env) (λvv s₅=>wpAny (model prog w) A (dictSet D kv vv) (λ_ s₅=>∃m,m < n∧I m s₅) (λ_ _=>False) s₅) (λ_ _=>False) s₄) (λ_ _=>False) s₃ else ∃m,m < n∧I m s₃) (λ_ _=>False) s₃) (λ_ _=>False) s₂) (λ_ _=>False) s₁) (λ_ _=>False) s)
  (n:Nat) (h:I n s):codeAny (model prog w) A (.compLoop (.DictComp kx vx [⟨.Name x px,iter,ifs,0⟩] sc pos) 0 it (.ref D) env) R s:=by
 refine codeAny_loop rfl I (λn s hI=>?_) n h
 show wpAny _ _ ((compTurn (.DictComp kx vx [⟨.Name x px,iter,ifs,0⟩] sc pos) 0 it (.ref D) env).onRaise (λx=>do noteFrame x env;theTreesLotGoes x)) _ _ s
 refine wpAny_noted ?_
 rw [compTurn_dict]
 have no:∀(e:Value) (s':Shared),False→notedBy (model prog w) A env (λe s'=>R (.error e) s') e s':=λ_ _ z=>z.elim
 refine wpAny_bind (wpAny_standAt (wpAny_bind (wpAny_mono (turn n s hI) (λr s₁ h₁=>?_) no)))
 cases r with
 | none=>exact wpAny_pure h₁
 | some v =>
  refine wpAny_bind (wpAny_mono h₁ (λ_ s₂ h₂=>?_) no)
  refine wpAny_bind (wpAny_mono h₂ (λ_ s₃ h₃=>wpAny_bind (wpAny_mono h₃ (λok s₃' h₃'=>?_) no)) no)
  cases ok with
  | false=>exact wpAny_pure ⟨rfl,h₃'⟩
  | true =>
   exact wpAny_bind (wpAny_bind (wpAny_mono h₃' (λkv s₄ h₄=>wpAny_bind (wpAny_holding (wpAny_mono h₄ (λvv s₅ h₅=>wpAny_bind (wpAny_standAt (wpAny_holding (wpAny_mono h₅ (λ_ s₆ h₆=>wpAny_pure ⟨rfl,h₆⟩) no)))) no))) no))
end
def PN (wi:TI) (ks:List (Str × Nat)) (tc:TT) (tk te:TE):TE:=λσ H Q=>wi σ H λJ H1=>∀D,H1 D=none→∀ep,∃W:Nat→Nat→Hp→Prop,(∃m,W 0 m (upd H1 D (.dE [] ep))) ∧
 ∀i m H2,W i m H2→(J.stop i H2∧Q (.ref D) H2)∨(J.go i H2∧∀v H3,J.yld i H2 v H3→tc (some v :: ff ks σ) H3 λb H4=>if b=true then tk (some v :: ff ks σ) H4 λy H5=>te (some v :: ff ks σ) H5 λz H6=>∃kvs ep k,y=.str k∧H6 D=some (.dE kvs ep)∧kvs.length < sizeLine∧∃m',m' < m∧∀ep',W (i + 1) m' (upd H6 D (.dE (L2.pe kvs k z) ep')) else ∃m',m' < m∧W (i + 1) m' H4)
section
variable {X:Cx}
theorem ux {kx vx iter:Expr} {ifs:List Expr} {x:Str} {px:Pos} {sc:Scope} {pos:Pos} {tk te:TE} {tc:TT} {ks:List (Str × Nat)} {cl:List (Str × Addr)} {pins:List (Addr × Obj)} {σ:L2.St} {H:Hp} {s:Shared} {it:Addr} {fp:List Addr} {tn:Nat→Heap→Prop} {J:It} {Q:VK}
  {RR:Value→Addr→Result→Shared→Prop} {E:Value→Shared→Prop}
  (hc:X.calm=true) (ok:cU sc X.env.scope X.N x ks) (h1:∀y c,cl.lookup y=some c→X.env.cells.lookup y=some c) (h2:∀y∈sc.names,y.2=.free→∃c,cl.lookup y.1=some c)
  (hk:∀cl C s₀ H₀ fp pins,PE (fO X sc cl C x ks s₀ H₀ fp pins) kx tk) (he:∀cl C s₀ H₀ fp pins,PE (fO X sc cl C x ks s₀ H₀ fp pins) vx te) (hcn:∀cl C s₀ H₀ fp pins,Fp (fO X sc cl C x ks s₀ H₀ fp pins) ifs tc)
  (I:Inv X pins σ H s) (T:Turn X.prog X.w X.K (.Name x px) J fp it tn) (st:tn 0 s.heap) (f:∀b∈fp,lz X pins H b)
  (hw:∀D,H D=none→∀ep,∃W:Nat→Nat→Hp→Prop,(∃m,W 0 m (upd H D (.dE [] ep)))∧∀i m H2,W i m H2→(J.stop i H2∧Q (.ref D) H2) ∨
   (J.go i H2∧∀v H3,J.yld i H2 v H3→tc (some v :: ff ks σ) H3 λb H4=>if b=true then tk (some v :: ff ks σ) H4 λy H5=>te (some v :: ff ks σ) H5 λz H6=>∃kvs ep k,y=.str k∧H6 D=some (.dE kvs ep)∧kvs.length < sizeLine∧∃m',m' < m∧∀ep',W (i + 1) m' (upd H6 D (.dE (L2.pe kvs k z) ep')) else ∃m',m' < m∧W (i + 1) m' H4))
  (hR:∀(D C:Addr) (s':Shared) (H':Hp) (m:Str→Option Value),Inv X pins σ H' s'→Q (.ref D) H'→s'.heap.Ns C m→H' C=none→C≠X.env.locals→X.s₀.heap.objs.size≤C→(∀y c,X.env.cells.lookup y=some c→c≠C)→(∀p∈X.pn ++ pins,p.1≠C)→RR (.ref D) C (.ok .next) s') :
  wpAny (model X.prog X.w) X.A newDict (λacc s₃=>wpAny (model X.prog X.w) X.A (newFunctionEnv sc X.env.globals cl [] X.env.qual none .none (some X.env)) (λcenv s₄ =>
   codeAny (model X.prog X.w) X.A (.compStart (.DictComp kx vx [⟨.Name x px,iter,ifs,0⟩] sc pos) 0 (.ref it) acc { cenv with scope:=relabel sc X.env }) (RR acc cenv.locals) s₄) E s₃) E s:=by
 have okk:=ok
 obtain ⟨kd,nc,lx,ll,fr,kk,nd⟩:=okk
 have hD0:H s.heap.objs.size=none:=I.hok.fresh (Rz _)
 have hdd:(s.heap.push { cls:=.type "dict",dict:=none,data:=.dict #[] }).DictOf (PySem.strKind X.prog X.w) s.heap.objs.size []:=Heap.DictOf.new s.heap
 obtain ⟨ep0,da⟩:=hdd.dictAt
 obtain ⟨W,⟨m0,w0⟩,turn⟩:=hw s.heap.objs.size hD0 ep0
 refine wpAny_newObj_type ?_
 have I3:Inv X pins σ (upd H s.heap.objs.size (.dE [] ep0)) { s with heap:=s.heap.push { cls:=.type "dict",dict:=none,data:=.dict #[] } } :=
  I.laid (t':=s.toks) (λb u e=>Heap.get?_push_of_some _ e) (Rz _) ⟨Sb _,beq_eq_false_iff_ne.mpr (Ne.symm (R1 I.LV)),[],.nil,da⟩
 have st3:tn 0 (s.heap.push { cls:=.type "dict",dict:=none,data:=.dict #[] }):=T.keep 0 _ _ st λb hb o e=>Heap.get?_push_of_some _ e
 clear da hdd
 generalize hD:s.heap.objs.size=D at *
 generalize hH:upd H D (.dE [] ep0)=H3 at *
 generalize hs3:({ s with heap:=s.heap.push { cls:=.type "dict",dict:=none,data:=.dict #[] } }:Shared)=s3 at *
 have e3:s.heap.push { cls:=.type "dict",dict:=none,data:=.dict #[] }=s3.heap:=by rw [← hs3]
 rw [e3] at st3
 have fD:∀b∈fp,b≠D:=λb hb z=>by
  obtain ⟨o,ho,_⟩:=T.obj 0 _ st b hb
  have:=Heap.lt_size ho
  rw [z,← hD] at this
  exact Sv _ this
 have f3:∀b∈fp,lz X pins H3 b:=λb hb=>⟨by rw [← hH,aK (fD b hb)];exact (f b hb).1,(f b hb).2⟩
 have g3:∀b∈fp,∃o,s3.heap.get? b=some o:=λb hb=>by
  obtain ⟨o,ho,_⟩:=T.obj 0 _ st3 b hb
  exact ⟨o,ho⟩
 refine wpAny_newFunctionEnv nc (by intro y hy;simp at hy) (λh₁ hns hsb=>?_) kd
 have kp:∀b o,s3.heap.get? b=some o→h₁.get? b=some o:=λb o e=>hsb.extBut b o (R1 (Heap.lt_size e)) (Heap.get?_push_of_some _ e)
 have J0:=xA (fp:=fp) (cl:=cl) (t':=s3.toks + ([]:List (Str × Value)).length) I3 ok h1 h2 (λb hb=>⟨f3 b hb,g3 b hb⟩) hns kp
 have st4:tn 0 h₁:=T.keep 0 _ _ st3 λb hb o e=>kp b o e
 have ltC:∀b o,s3.heap.get? b=some o→b≠s3.heap.objs.size:=λb o e=>R1 (Heap.lt_size e)
 have cC:∀y c,X.env.cells.lookup y=some c→c≠s3.heap.objs.size:=λy c e=>by
  obtain ⟨v,o,ho,_⟩:=I3.cell y c e
  exact ltC c o ho
 have pC:∀p∈X.pn ++ pins,p.1≠s3.heap.objs.size:=λp hp=>ltC _ _ (I3.pin p hp).1
 have lC:s3.heap.objs.size≠X.env.locals:=Tw I3.lt
 have fX:∀{H':Hp},(∀b∈fp,H' b=none)→∀b∈fp,lz (fO X sc cl s3.heap.objs.size x ks s3 H3 fp pins) [] H' b:=λhn b hb=>by
  obtain ⟨o,ho⟩:=g3 b hb
  obtain ⟨_,q1,q2,q3,q4,q5⟩:=f b hb
  refine ⟨hn b hb,ltC b o ho,λz=>?_,.inl hb,λy c e=>q4 y c (h1 y c e),λp hp=>q5 p (by simpa [fO] using hp)⟩
  rcases RM.mp (I3.oP b z) with e | e
  ·exact q1 e
  ·exact q2 e
 have back:∀{o:Option V} {H':Hp} {s':Shared},Inv (fO X sc cl s3.heap.objs.size x ks s3 H3 fp pins) [] (o :: ff ks σ) H' s'→Inv X pins σ H' s':=λ{o H' s'} J=>by
  obtain ⟨hh,g,d,t,os'⟩:=s'
  obtain rfl:os'=s3.os:=J.os
  exact I3.call (h':=hh) (g':=g) (d':=d) (t':=t) (ch:=fp) J.base J.hok J.bare λb hb=>⟨(f b hb).2.2.2.1,(f b hb).2.1,(f b hb).2.2.2.2.1,(f b hb).2.2.2.2.2⟩
 have lookX:(relabel sc X.env).names.lookup x=some .local:=lookup_relabel_local lx
 have loop:∀s',(∃(i:Nat) (o:Option V) (H':Hp),Inv (fO X sc cl s3.heap.objs.size x ks s3 H3 fp pins) [] (o :: ff ks σ) H' s'∧tn i s'.heap∧(∀b∈fp,H' b=none)∧W i m0 H') →
   codeAny (model X.prog X.w) X.A (.compLoop (.DictComp kx vx [⟨.Name x px,iter,ifs,0⟩] sc pos) 0 (.ref it) (.ref D) (compEnvC sc cl s3.heap.objs.size X.env)) (RR (.ref D) s3.heap.objs.size) s':=by
  intro s' hs'
  refine yX (λn s'=>∃(i:Nat) (o:Option V) (H':Hp),Inv (fO X sc cl s3.heap.objs.size x ks s3 H3 fp pins) [] (o :: ff ks σ) H' s'∧tn i s'.heap∧(∀b∈fp,H' b=none)∧W i n H') ?_ m0 hs'
  rintro n s5 ⟨i,o,H5,J5,t5,n5,w5⟩
  rcases turn i n H5 w5 with ⟨stop,hq⟩ | ⟨go,step⟩
  ·refine cf (T.done (fO X sc cl s3.heap.objs.size x ks s3 H3 fp pins) rfl rfl rfl hc i [] s5 _ H5 _ J5 (fX n5) t5 stop) λr s6 ⟨hr,J6⟩=>?_
   subst hr
   obtain ⟨m,hm,_⟩:=J6.loc
   exact hR D _ s6 H5 m (back J6) hq hm J6.free lC I3.sz cC pC
  ·refine cf (T.item (fO X sc cl s3.heap.objs.size x ks s3 H3 fp pins) rfl rfl rfl hc i [] s5 _ H5 _ J5 (fX n5) t5 go) λr s6 ⟨u,hr,h6⟩=>?_
   subst hr
   refine cf h6 λ_ s7 ⟨v,H7,J7,r7,y7,t7,n7⟩=>?_
   have J7':=J7.pinned (fX n7) (T.obj _ _ t7)
   refine wpAny_assign_Name (gq (X:=fO X sc cl s3.heap.objs.size x ks s3 H3 fp pins) (i:=0) J7' nd rfl (.inl lookX) r7 (λs8 J8=>?_) (.inr lookX))
   refine cf (hcn cl s3.heap.objs.size s3 H3 fp pins _ s8 _ H7 _ J8 (step v H7 y7)) λok s8' ⟨H8,J8',q8⟩=>?_
   cases ok with
   | false =>
    simp only [RV,if_false] at q8 ⊢
    obtain ⟨m',hm,w'⟩:=q8
    refine ⟨m',hm,i + 1,_,_,J8'.gr,?_,?_,w'⟩
    ·exact T.keep _ _ _ t7 λb hb o e=>(J8'.pin (b,o) (RH _ (RH _ (cE hb e)))).1
    ·intro b hb
     obtain ⟨o,e,d⟩:=T.obj _ _ t7 b hb
     exact (J8'.pin (b,o) (RH _ (RH _ (cE hb e)))).2.1
   | true =>
    simp only [if_true] at q8 ⊢
    refine cf (hk cl s3.heap.objs.size s3 H3 fp pins _ s8' _ H8 _ J8' q8) λky s8'' ⟨vk,H8',J8'',rk,q8'⟩=>?_
    refine cf (he cl s3.heap.objs.size s3 H3 fp pins _ s8'' _ H8' _ J8'' q8') λy s9 ⟨vy,H9,J9,r9,kvs,ep,k,ek,hys,hz,m',hm,w'⟩=>?_
    subst ek
    obtain ⟨hz',hd',vs,rel,da⟩:=jB J9 hys
    refine wpAny_dictSet_pairs (hsz:=by rw [← rel.len];exact hz') (str_is rk) da.dictOf λh' dd' hsb=>?_
    obtain ⟨ep',J10⟩:=xp (t':=s9.toks + 1) J9 hys hsb (show (L2.pe kvs k vy).length≤sizeLine from RN (AX kvs k vy) hz) hd' (rel.pu r9) dd'
    refine ⟨m',hm,i + 1,_,_,J10.gr,?_,?_,w' ep'⟩
    ·exact T.keep _ _ _ t7 λb hb o e=>(J10.pin (b,o) (RH _ (RH _ (cE hb e)))).1
    ·intro b hb
     obtain ⟨o,e,d⟩:=T.obj _ _ t7 b hb
     exact (J10.pin (b,o) (RH _ (RH _ (cE hb e)))).2.1
 have l0:=loop _ ⟨0,none,H3,J0,st4,λb hb=>(f3 b hb).1,w0⟩
 exact codeAny_compStart_dict l0 (T.self _ 0 _ _ _ st4 l0)
theorem M3 {kx vx iter:Expr} {ifs:List Expr} {x:Str} {px:Pos} {sc:Scope} {pos:Pos} {wi:TI} {tk te:TE} {tc:TT} (osc:Scope) (N:List Str) (ks:List (Str × Nat)) (hc:X.calm=true) (ho:X.env.scope=osc) (hN:X.N=N) (hi:PI X (.Name x px) iter wi)
  (hk:∀cl C s₀ H₀ fp pins,PE (fO X sc cl C x ks s₀ H₀ fp pins) kx tk) (he:∀cl C s₀ H₀ fp pins,PE (fO X sc cl C x ks s₀ H₀ fp pins) vx te) (hcn:∀cl C s₀ H₀ fp pins,Fp (fO X sc cl C x ks s₀ H₀ fp pins) ifs tc) (ok:cU sc osc N x ks:=by decide +kernel) (hs:∀x,foldedSetIterable iter X.env x=pure x:=by intro _;rfl) :
  PE X (.DictComp kx vx [⟨.Name x px,iter,ifs,0⟩] sc pos) (PN wi ks tc tk te):=by
 intro pins s σ H Q I hw
 obtain ⟨cl,hcl,h1,h2⟩:=iD (mT ok I ho)
 have ok':cU sc X.env.scope X.N x ks:=by rw [ho,hN];exact ok
 rw [arm_eval_DictComp]
 refine wpAny_comprehension_free (use:=none) rfl hs hcl ok.1 ok.2.2.2.1 (cf (hi pins s σ H _ I hw) λv s1 h3=>cf h3 λitv s2 h4=>?_)
 obtain ⟨it,fp,tn,J,H2,rfl,I2,T,st2,f2,hR⟩:=h4
 refine ux (RR:=λacc C=>compPost (model X.prog X.w) X.A X.xe none (EP X pins σ Q) acc C) hc ok' h1 h2 hk he hcn I2 T st2 f2 hR ?_
 intro D C s' H' m J' q hn hC cl' cs cc cp
 refine ⟨m,hn,λh' hsb=>⟨.ref D,H',?_,rfl,q⟩⟩
 exact J'.turned (t':=s'.toks) (it:=C) (λb o ne e=>hsb.extBut b o ne e) hC cl' (.inr cs) cc cp
end
end Ov
namespace Ov
open PySem PySem.Spec PyProof.Rows
open L2 (V HO Hp Inv Cx VK XK TE TT TA TS TG kL TI TO fw Ends pM Loc Gl Rd RelV Vals eI pA bJ lA mr lD fv R2 upd aR aK dM fu Sp lZ It bW bI bC Passes kH aA Meth Mk Binds aH bP aw cZ dW dg jx pe F3 nI)
section
variable {K:PySem.W.Frag} {J:Hq} {H:Hp}
theorem dO:∀{kvs:List (Str × PV)} {gs:List (Str × V)},lE K J H kvs gs→nI (cu K J H) kvs gs
 | [],[],_=>.nil
 | [],_ :: _,h=>by cases h.1
 | _ :: _,[],h=>by cases h.1
 | (k,y) :: fs,(k',w) :: gs,h=>by
  obtain ⟨h1,v',us,h2,h3,h4⟩:=h
  simp only [RD,List.cons.injEq] at h1 h2
  obtain ⟨rfl,h1⟩:=h1
  obtain ⟨rfl,rfl⟩:=h2
  exact .cons ⟨rfl,h3⟩ (dO ⟨h1,h4⟩)
theorem xT:∀{kvs:List (Str × PV)} {gs:List (Str × V)},nI (cu K J H) kvs gs→lE K J H kvs gs
 | _,_,.nil=>⟨rfl,rfl⟩
 | _,_,.cons (a:=p) (b:=q) r t=>by
  obtain ⟨h1,h2⟩:=xT t
  exact ⟨by rw [RD,RD,h1,r.1],q.2,_,rfl,r.2,h2⟩
theorem Ext.oS {p:Addr} {kvs kvs':List (Str × PV)} {gs gs':List (Str × V)} {ep ep':Nat} (h:J p=some (.dct kvs ep)) (k:H p=some (.dE gs ep)):Ext K J H (put J p (.dct kvs' ep')) (upd H p (.dE gs' ep')):=by
 have sm:∀a u,a≠p→Rd H a u→Rd (upd H p (.dE gs' ep')) a u:=λa u ne z=>by
  rcases z with z | ⟨o,z⟩
  ·exact .inl (by rw [aK ne];exact z)
  ·exact .inr ⟨o,by rw [aK ne];exact z⟩
 refine ⟨λa vs' z=>?_,λa o z q _=>?_⟩
 ·rcases z with z | z
  ·have ne:a≠p:=by
    intro e;subst e
    rcases z with z | ⟨o,z⟩
    ·rw [k] at z;cases z
    ·rw [k] at z;cases z
   exact .inl (sm a _ ne z)
  ·exact .inr z
 ·have ne:a≠p:=by intro e;subst e;rw [h] at z;cases z
  exact ⟨by rw [aj ne];exact z,by rw [aK ne];exact q⟩
theorem Rep.oS {p:Addr} {kvs kvs':List (Str × PV)} {gs gs':List (Str × V)} {ep ep':Nat} (r:Rep K J H) (h:J p=some (.dct kvs ep)) (k:H p=some (.dE gs ep)) (q:nI (cu K J H) kvs' gs'):Rep K (put J p (.dct kvs' ep')) (upd H p (.dE gs' ep')):=by
 have e:=Ext.oS (K:=K) (kvs':=kvs') (gs':=gs') (ep':=ep') h k
 refine r.CI e p (λa ne=>aj ne) (λa o ne _ z=>by rw [aK ne];exact z) λu z=>?_
 rw [ak] at z;cases z
 exact ⟨gs',aR,e.xY (xT q)⟩
theorem Rep.HR {p:Addr} {ep:Nat} (r:Rep K J H) (n:H p=none):Rep K (put J p (.dct [] ep)) (upd H p (.dE [] ep)):=by
 have e:=Ext.laid (K:=K) (J:=J) (o:=.dE [] ep) (u:=.dct [] ep) n
 refine r.CI e p (λa ne=>aj ne) (λa o ne _ z=>by rw [aK ne];exact z) λu z=>?_
 rw [ak] at z;cases z
 exact ⟨[],aR,⟨rfl,rfl⟩⟩
end
def Nb:mn:=λx y J Q=>AK x λa=>D7 y λk=>D5 (J a) λkvs _=>wW (jx kvs k) λv=>Q v J
def Km (f:Bool→Bool):mn:=λx y J Q=>D7 x λk=>AK y λa=>D5 (J a) λkvs _=>Q (.bl (f (jx kvs k).isSome)) J
def Nc:yH:=λxs J Q=>AJ xs λx=>AK x λa=>D5 (J a) λkvs _=>Q (.int kvs.length) J
def Kr:yH:=λxs J Q=>AJ xs λx=>AK x λa=>D5 (J a) λkvs _=>Q (.fl (kvs.map λkv=>.str kv.1)) J
def Ng:Ad:=λx xs J Q=>AK x λa=>AJ xs λy=>D7 y λk=>D5 (J a) λkvs _=>wW (jx kvs k) λv=>∀ep',Q v (put J a (.dct (F3 kvs k) ep'))
def Il:BN:=λo i y J R=>AK o λa=>D7 i λk=>D5 (J a) λkvs _=>kvs.length < sizeLine∧∀ep',R (put J a (.dct (pe kvs k y) ep'))
def Ir:cY:=λ_ J Q=>∀p,J p=none→∀ep,Q (.ref p) (put J p (.dct [] ep))
def Qy (te:cY):rS:=λτ J R=>te τ J λx J1=>AK x λa=>D5 (J1 a) λkvs ep=>R ⟨kvs.map λkv=>.str kv.1,λJ'=>J' a=some (.dct kvs ep)⟩ J1
section
variable {X:Cx} {G:G2}
theorem cK:N9 X Nb:=⟨_,L2.Mf,λJ H x y v w Q2 Q rx ry r h kn=>by
 obtain ⟨a,ex,h⟩:=iS h;obtain ⟨k,ey,h⟩:=jS h;obtain ⟨kvs,ep,ja,h⟩:=qH h;obtain ⟨z,hz,q⟩:=d_ h
 subst ex ey
 cases rx;cases ry
 obtain ⟨gs,h1,h2⟩:=r _ _ ja
 obtain ⟨u,hu,ru⟩:=((dO h2).va k).1 z hz
 exact ⟨a,gs,ep,k,u,rfl,rfl,h1,hu,kn z J u H ru r .refl q⟩⟩
theorem JG (f:Bool→Bool):LR X.K (L2.Nu f) (Km f):=λJ H x y v w Q2 Q rx ry r h kn=>by
 obtain ⟨k,ex,h⟩:=jS h;obtain ⟨a,ey,h⟩:=iS h;obtain ⟨kvs,ep,ja,q⟩:=qH h
 subst ex ey
 cases rx;cases ry
 obtain ⟨gs,h1,h2⟩:=r _ _ ja
 exact ⟨a,gs,ep,k,rfl,rfl,h1,by rw [← ((dO h2).va k).2];exact kn (.bl _) J _ H rfl r .refl q⟩
theorem Kb:ml X (compareOp .In) (Km id):=⟨_,L2.JW,JG id⟩
theorem wM:Oc X Il:=⟨_,L2.KG,λJ H o i y ov iv u R2 R ro ri ry r h kk=>by
 obtain ⟨a,eo,h⟩:=iS h;obtain ⟨k,ei,h⟩:=jS h;obtain ⟨kvs,ep,ja,hl,q⟩:=qH h
 subst eo ei;cases ro;cases ri
 obtain ⟨gs,h1,h2⟩:=r _ _ ja
 have pk:=dO h2
 refine ⟨a,gs,ep,k,rfl,rfl,h1,by rw [← pk.len];exact hl,λep'=>?_⟩
 exact kk _ _ (r.oS ja h1 (pk.pu ry)) (Ext.oS (K:=X.K) ja h1) (q ep')⟩
theorem pT {pos:Pos}:RE X G (.Dict [] [] pos) Ir:=⟨kB L2.GP λσ H Q ⟨τ,J,Q2,a2,q,k⟩ p hp ep=>k (.ref p) _ _ _ rfl (a2.hp.HR hp) (.laid hp) (q p (a2.hp.free hp) ep)⟩
theorem fP {tg l:Expr} {tl:cY} (hl:RE X G l tl):RI X G tg l (Qy tl):=⟨M6 (L2.GQ hl.run) λσ H R ⟨τ,J,R2,a2,h,k⟩=>⟨τ,J,_,a2,h,λx J1 v H1 rx r1 e1 h=>by
 obtain ⟨a,ex,h⟩:=iS h;obtain ⟨kvs,ep,ja,q⟩:=qH h
 subst ex;cases rx
 obtain ⟨gs,h1,h2⟩:=r1 _ _ ja
 have pk:=dO h2
 have hl':=pk.len
 refine ⟨a,gs,ep,rfl,h1,k _ J1 _ H1 ?_ r1 e1 q⟩
 have hks:=pk.keys
 have key:∀J' H',Rep X.K J' H'→J' a=some (.dct kvs ep)→∃gs',H' a=some (.dE gs' ep)∧gs'.map (·.1)=gs.map (·.1):=λJ' H' r o=>by
  obtain ⟨gs',h1',h2'⟩:=r _ _ o
  exact ⟨gs',h1',by rw [← (dO h2').keys,hks]⟩
 exact {
  go:=λJ' H' e r o i hi=>⟨key J' H' r o,by rw [Rr] at hi ⊢;omega⟩
  yl:=λJ' H' e r o i hi v H2 y=>by
   obtain ⟨rfl,k,hk,rfl⟩:=y
   rw [← hks,Ry] at hk
   obtain ⟨kv,hkv,rfl⟩:=S5.mp hk
   exact ⟨.str kv.1,by rw [Ry,hkv];rfl,rfl,r,.refl⟩
  stop:=λJ' H' e r o=>⟨key J' H' r o,by rw [Rr,Rr];omega⟩ }⟩⟩
def Lp (wi:rS) (ks:List (Str × Nat)) (tc:nJ) (tk te:cY):cY:=λτ J Q=>wi τ J λit J1=>∀D,J1 D=none→∀ep,∃W:Nat→Hq→Prop,W 0 (put J1 D (.dct [] ep))∧(∀i J2,W i J2→it.ok J2) ∧
 (∀i x J2,it.xs[i]?=some x→W i J2→tc (some x :: rq ks τ) J2 λb J3=>if b=true then tk (some x :: rq ks τ) J3 λy J4=>te (some x :: rq ks τ) J4 λz J5 =>
  ∃kvs ep k,y=.str k∧J5 D=some (.dct kvs ep)∧kvs.length < sizeLine∧∀ep',W (i + 1) (put J5 D (.dct (pe kvs k z) ep')) else W (i + 1) J3)∧∀J2,W it.xs.length J2→Q (.ref D) J2
theorem Am {wi:rS} {ks:List (Str × Nat)} {tc:nJ} {tk te:cY}:∀σ H Q,LE X.K G (Lp wi ks tc tk te) σ H Q→PN (LI X.K G wi) ks (LT X.K G tc) (LE X.K G tk) (LE X.K G te) σ H Q:=λσ H Q ⟨τ,J,Q2,a2,h,k⟩ =>
 ⟨τ,J,_,a2,h,λit J1 I H1 ir r1 e1 w D hD ep=>by
  obtain ⟨W,w0,wok,step,fin⟩:=w D (r1.free hD) ep
  refine ⟨λi m H2=>m=it.xs.length - i∧i≤it.xs.length∧∃J2,Rep X.K J2 H2∧Ext X.K J1 H1 J2 H2∧W i J2,⟨_,rfl,Sb _,_,r1.HR hD,.laid hD,w0⟩,?_⟩
  rintro i m H2 ⟨rfl,hi,J2,r2,e2,w2⟩
  by_cases hlt:i < it.xs.length
  ·refine .inr ⟨ir.go J2 H2 e2 r2 (wok i J2 w2) i hlt,λv H3 y=>?_⟩
   obtain ⟨x,ex,rx,r3,e3⟩:=ir.yl J2 H2 e2 r2 (wok i J2 w2) i hlt v H3 y
   have a3:wU X.K G (some x :: rq ks τ) J2 (some v :: ff ks σ) H3:=⟨A6 (a2.sl.ext ((e1.trans e2).trans e3)) rx ks,r3,((a2.ext.trans e1).trans e2).trans e3⟩
   refine ⟨_,_,_,a3,step i x J2 ex w2,λb J4 H4 r4 e4 q=>?_⟩
   cases b with
   | false =>
    simp only [RV,if_false] at q ⊢
    exact ⟨_,by omega,rfl,hlt,J4,r4,(e2.trans e3).trans e4,q⟩
   | true =>
    simp only [if_true] at q ⊢
    refine ⟨_,_,_,a3.go r4 e4,q,λyk J5 u H5 rk r5 e5 q5=>?_⟩
    refine ⟨_,_,_,(a3.go r4 e4).go r5 e5,q5,λz J6 vz H6 rz r6 e6 ⟨kvs,ep2,kk,ek,jD,hl,q6⟩=>?_⟩
    subst ek
    cases rk
    obtain ⟨gs,h1,h2⟩:=r6 _ _ jD
    have pk:=dO h2
    refine ⟨gs,ep2,kk,rfl,h1,by rw [← pk.len];exact hl,it.xs.length - (i + 1),by omega,λep'=>⟨rfl,hlt,_,r6.oS jD h1 (pk.pu rz),?_,q6 ep'⟩⟩
    exact ((((e2.trans e3).trans e4).trans e5).trans e6).trans (Ext.oS (K:=X.K) jD h1)
  ·have ei:i=it.xs.length:=by omega
   subst ei
   exact .inl ⟨ir.stop J2 H2 e2 r2 (wok _ J2 w2),k (.ref D) J2 _ H2 rfl r2 (e1.trans e2) (fin J2 w2)⟩⟩
theorem Pm {X:Cx} {ifs:List Expr} {t t':TT} (h:Fp X ifs t) (k:∀σ H Q,t' σ H Q→t σ H Q):Fp X ifs t':=λpins s σ H Q I q=>h pins s σ H Q I (k _ _ _ q)
variable {kx vx iter cnd:Expr} {x y:Str} {px py:Pos} {sc:Scope} {pos spos:Pos} {wi:rS} {tk te:cY} {tc:nJ} {i:Nat}
theorem Iz (osc:Scope) (N:List Str) (ks:List (Str × Nat)) (hc:X.calm=true) (ho:X.env.scope=osc) (hN:X.N=N) (hi:RI X G (.Name x px) iter wi) (hk:∀cl C s₀ H₀ fp pins,RE (fO X sc cl C x ks s₀ H₀ fp pins) G kx tk) (he:∀cl C s₀ H₀ fp pins,RE (fO X sc cl C x ks s₀ H₀ fp pins) G vx te)
  (ok:cU sc osc N x ks:=by decide +kernel) (hs:∀x,foldedSetIterable iter X.env x=pure x:=by intro _;rfl):RE X G (.DictComp kx vx [⟨.Name x px,iter,[],0⟩] sc pos) (Lp wi ks ur tk te) :=
 ⟨kB (M3 osc N ks hc ho hN hi.run (λcl C s₀ H₀ fp pins=>(hk cl C s₀ H₀ fp pins).run) (λcl C s₀ H₀ fp pins=>(he cl C s₀ H₀ fp pins).run) (λcl C s₀ H₀ fp pins=>Pm wa λσ H Q ⟨τ,J,Q2,a2,q,k⟩=>k true J H a2.hp .refl q) ok hs) Am⟩
end
def zV (tabs:List Addr):cG:=λxs J Q _=>∃ns:List Int,xs=[.fl (ns.map .int)]∧ns.length≤63∧(∀T∈tabs,J T=some .tab)∧(∀a,a ∉ tabs→J a=none)∧∀J',(∀T∈tabs,J' T=some .tab)→Q (.bl true) J'
def EW (tabs:List Addr) (K:PySem.W.Frag):Sp:=λvs H Q _=>∃(a:Addr) (ns:List Int),vs=[.ref a]∧dM K H a (ns.map V.int)∧ns.length≤63∧(∀T∈tabs,H T=some (.ext (eJ T))) ∧
 (∀b,H b≠none→b=a∨b∈tabs)∧(∀u,H a=some u→∃o xs,u=.n6 o (.lst xs))∧∀H',bW H H'→Q (.bl true) H'
theorem B0 {P:Program} {w:World} {K:PySem.W.Frag} {mg:Str→Option Value} {base:Heap} {k:Nat} {f:Addr} {fd:FuncData} {ps:List Str} {tabs:List Addr} (F:aH P w K mg base (cg P w) k f fd ps (cH K (zV tabs))) :
  aH P w K mg base L2.Lh k f fd ps (EW tabs K) :=
 F.N6.imp λvs H Q E ⟨a,ns,e,hS,hl,hT,hA,hK,q⟩=>by
  subst e
  classical
  have na:∀u,H a=some u→a ∉ tabs:=λu hu hm=>by
   obtain ⟨o,xs,rfl⟩:=hK u hu
   rw [hT a hm] at hu;cases hu
  refine ⟨[.fl (ns.map .int)],λb=>if b∈tabs then some .tab else none,λx J'=>x=.bl true∧∀T∈tabs,J' T=some .tab,λ_ _=>False,⟨.ref a,[],rfl,⟨a,ns.map V.int,rfl,?_,uv ns⟩,rfl⟩,?_,⟨ns,rfl,hl,λT hT=>if_pos hT,λb hb=>if_neg hb,λJ' h=>⟨rfl,h⟩⟩,?_,?_⟩
  ·rcases hS with h | h
   ·refine .inl ⟨?_,h⟩
    have:a ∉ tabs:=by
     rcases h with h | ⟨o,h⟩
     ·exact na _ h
     ·exact na _ h
    exact if_neg this
   ·exact .inr h
  ·intro b o z
   by_cases hb:b∈tabs
   ·have z':=(if_pos hb).symm.trans z
    cases z'
    exact hT b hb
   ·have z':=(if_neg hb).symm.trans z
    cases z'
  ·rintro z J' u H' rz rr ee ⟨rfl,ht⟩
   cases rz
   refine q H' λb o hb=>?_
   rcases hA b (by rw [hb];simp) with rfl | hm
   ·obtain ⟨ob,xs,rfl⟩:=hK o hb
    exact (ee.ll b _ (if_neg (na _ hb)) hb (.inr ⟨_,_,rfl⟩)).2
   ·have:=hT b hm
    rw [hb] at this;cases this
    exact rr b _ (ht b hm)
  ·intro _ _ _ _ _ z;exact z.elim
end Ov
namespace L2
open PySem PySem.Spec PyProof.Rows
section
variable {X:Cx}
end
end L2
namespace Ov
open PySem PySem.Spec PyProof.Rows
open L2 (V HO Hp Inv Cx VK XK TE TT TA TS TG kL TI TO fw Ends pM Loc Gl Rd RelV Vals eI pA bJ lA mr lD fv R2 upd aR aK dM fu Sp lZ It bW bI bC Passes kH aA Meth Mk Binds aH bP aw cZ dW dg)
section
variable {X:Cx} {G:G2}
def Ko:Ad:=λx xs J Q=>∃(a:Addr) (ss:List Str) (k:Str) (j:Nat),x=.ref a∧xs=[.str k]∧J a=some (.lst (ss.map .str))∧ss[j]?=some k∧(∀m:Nat,m < j→ss[m]?≠some k)∧Q (.int (j:Nat)) J
def G3:Ad:=λx xs J Q=>∃(a:Addr) (ss:List Str) (k:Str) (j:Nat),x=.ref a∧xs=[.str k]∧J a=some (.lst (ss.map .str))∧ss[j]?=some k∧(∀m:Nat,m < j→ss[m]?≠some k)∧Q .non (put J a (.lst ((ss.eraseIdx j).map .str)))
variable {a b c:Expr} {ta tb tc:cY} {pos:Pos}
def we (q q':mn) (ta tb tc:cY):cY:=λτ J Q=>ta τ J λx J1=>tb τ J1 λy J2=>q x y J2 λz J3=>Ic z λk=>(if k=true then tc τ J3 λw J4=>q' y w J4 Q else Q (.bl false) J3)
theorem yK {r r':R2} {q q':mn} (lr:LR X.K r q) (lr':LR X.K r' q'):∀σ H Q,LE X.K G (we q q' ta tb tc) σ H Q→L2.E4 r r' (LE X.K G ta) (LE X.K G tb) (LE X.K G tc) σ H Q:=λσ H Q ⟨τ,J,Q2,a2,hh,k⟩=>⟨τ,J,_,a2,hh,λx J1 v H1 rx r1 e1 q1=>⟨τ,J1,_,a2.go r1 e1,q1,λy J2 w H2 ry r2 e2 q2 =>
  lr J2 H2 x y v w _ _ (e2.rep rx) ry r2 q2 λz J3 u H3 rz r3 e3 hz=>by
   obtain ⟨kk,ez,q3⟩:=ot hz
   subst ez;cases rz
   refine ⟨kk,rfl,?_⟩
   cases kk with
   | false=>simp only [RV,if_false] at q3 ⊢;exact k (.bl false) J3 _ H3 rfl r3 ((e1.trans e2).trans e3) q3
   | true =>
    simp only [if_true] at q3 ⊢
    exact ⟨τ,J3,_,((a2.go r1 e1).go r2 e2).go r3 e3,q3,λw2 J4 u4 H4 r4 rr4 e4 q4=>lr' J4 H4 y w2 w u4 Q2 Q ((e3.trans e4).rep ry) r4 rr4 q4 λz' J' u' H' rz' rr' ee' qq=>k z' J' u' H' rz' rr' ((((e1.trans e2).trans e3).trans e4).trans ee') qq⟩⟩⟩
theorem EI {op op':CmpOp} {q q':mn} (ho:ml X (compareOp op) q) (ho':ml X (compareOp op') q') (ha:RE X G a ta) (hb:RE X G b tb) (hc:RE X G c tc) (hm:lastMarks [op,op'] [b,c]=false:=by with_unfolding_all rfl) :
  RE X G (.Compare a [op,op'] [b,c] pos) (we q q' ta tb tc):=by
 obtain ⟨r,h,lr⟩:=ho
 obtain ⟨r',h',lr'⟩:=ho'
 exact ⟨kB (L2.Ee h h' ha.run hb.run hc.run hm) (yK lr lr')⟩
end
end Ov
namespace L2
open PySem PySem.Spec PyProof.Rows
def Qn (K:PySem.W.Frag) (a:Addr):It :=
 ⟨λi H=>∃xs x,dM K H a xs∧xs[i]?=some x,
  λi H z H'=>∃T x,H T=none∧z=.ref T∧H'=upd H T (.tup [.int (i:Nat),x])∧(∀xs,dM K H a xs→xs[i]?=some x),
  λi H=>∃xs,dM K H a xs∧xs.length≤i⟩
theorem CF {P:Program} {w:World} {K:PySem.W.Frag} {elts:List Expr} {x1} {pos:Pos} {e it l:Addr} (ne:e≠it) :
  Turn P w K (.Tuple elts x1 pos) (Qn K l) [e,it] e (λi h=>(∃old,IsEnum h e it (i:Int) old)∧h.IsListIter it l i) where
 mem:=by simp
 obj:=λi h ⟨⟨old,he⟩,h1⟩ c hc=>by
  simp only [RM,Sh,or_false] at hc
  rcases hc with rfl | rfl
  ·exact ⟨_,he,λv z=>by cases z⟩
  ·obtain ⟨o,e,c,d⟩:=h1;exact ⟨o,e,λv z=>by rw [d] at z;cases z⟩
 keep:=λi h h' ⟨⟨old,he⟩,h1⟩ k=>⟨⟨old,k e (by simp) _ he⟩,h1.at λo q=>k it (by simp) o q⟩
 item:=by
  intro X hP hw hK hc i pins s σ H E I hf st hg
  subst hP hw hK
  obtain ⟨⟨old,he⟩,h1⟩:=st
  obtain ⟨xs,x,hqx,hx⟩:=hg
  obtain ⟨its,rv,p,hzx⟩:=I.list hqx
  obtain ⟨u,hu,rx⟩:=rv.get hx
  refine wpAny_pyNext_enum_item he h1 p.isList (x:=u) (by simpa using hu) ne λh' a1 a3 a5 a6 hk=>?_
  refine ⟨_,rfl,wpAny_letOwnedTupleGo_enum a1 λh'' hz' hs'=>?_⟩
  have hT:H s.heap.objs.size=none:=I.hok.fresh (Rz _)
  have lt:∀{c o},s.heap.get? c=some o→c≠s.heap.objs.size:=λe=>R1 (Heap.lt_size e)
  have I0:Inv X pins σ (upd H s.heap.objs.size (.tup [.int (i:Nat),x])) { s with heap:=s.heap.push { cls:=.type "tuple",data:=.seq #[.int i s.toks,u] },toks:=s.toks + 1 }:=I.laid (t':=s.toks + 1) (λb u e=>Heap.get?_push_of_some _ e) (Rz _) ⟨by simp [sizeLine],[.int i s.toks,u],.cons ⟨_,rfl⟩ (.cons rx .nil),⟨_,Heap.get?_push_size _ rfl,rfl,_,rfl⟩⟩
  have fpn:∀b∈[e,it],b≠s.heap.objs.size:=λb hb=>by
   simp only [RM,Sh,or_false] at hb
   rcases hb with rfl | rfl
   ·exact lt he
   ·obtain ⟨o,e,_⟩:=h1;exact lt e
  have fpu:∀b∈[e,it],lz X pins (upd H s.heap.objs.size (.tup [.int (i:Nat),x])) b:=λb hb=>⟨by rw [aK (fpn b hb)];exact (hf b hb).1,(hf b hb).2⟩
  have I1:Inv X pins σ (upd H s.heap.objs.size (.tup [.int (i:Nat),x])) { s with heap:=h'',toks:=s.toks + 1 }:=Inv.Bx (s:={ s with heap:=s.heap.push { cls:=.type "tuple",data:=.seq #[.int i s.toks,u] },toks:=s.toks + 1 }) (t':=s.toks + 1) (ch:=[e,it]) I0 (λb o hb eb=>by
   simp only [RM,Sh,or_false,not_or] at hb
   rcases Heap.get?_push_cases eb with ⟨rfl,rfl⟩ | e'
   ·exact hs'.extBut _ _ hb.1 a5
   ·exact hs'.extBut _ _ hb.1 (hk b o hb.1 hb.2 e')) fpu
  refine ⟨.ref s.heap.objs.size,_,I1,rfl,⟨_,x,hT,rfl,rfl,λzs hq=>by rw [I.qz hq hqx];exact hx⟩,⟨⟨_,by rw [Int.natCast_add];exact hz'⟩,a3.extBut hs'.extBut (Ne.symm ne)⟩,λb hb=>(fpu b hb).1⟩
 done:=by
  intro X hP hw hK hc i pins s σ H E I hf st hg
  subst hP hw hK
  obtain ⟨⟨old,he⟩,h1⟩:=st
  obtain ⟨xs,hqx,hl⟩:=hg
  obtain ⟨its,rv,p,hzx⟩:=I.list hqx
  have e1:=rv.length
  refine wpAny_pyNext_enum_end (I.ok.hd hc) he h1 p.isList (by rw [List.getElem?_toArray,SS];omega) λh' hk=>⟨rfl,I.Bx (t':=s.toks) (ch:=[e,it]) (λb o hb e=>?_) hf⟩
  simp only [RM,Sh,or_false,not_or] at hb
  exact hk b o hb.2 e
 self:=λ_ _ _ _ _ st h=>let ⟨⟨_,he⟩,_⟩:=st;wpAny_pyIter_enum he h
def Ma (K:PySem.W.Frag) (ta:TA):TI:=λσ H R=>ta σ H λvs H1=>∃a xs,vs=[.ref a]∧dM K H1 a xs∧R (Qn K a) H1
section
variable {X:Cx}
theorem GR {l:Expr} {elts:List Expr} {x1} {tp:Pos} {ta:TA} {p pos:Pos} (hg:Gl X "enumerate") (hm:X.mg "enumerate"=none) (ha:PA X [l] ta) (hs:starEach [l] X.env=(false,eval l X.env) :: starEach [] X.env:=by rfl) (hp:(backTo pos (starEach [] X.env)).any (·.1)=false:=by rfl):PI X (.Tuple elts x1 tp) (.Call (.Name "enumerate" p) [l] [] pos) (Ma X.K ta):=by
 intro pins s σ H R I h
 refine Call_ (oa I hg hm PyProof.Rows.Boot.«enumerate» (PyProof.Rows.callWith_type1 (cf (ha pos pins s σ H _ I h) λus s1 ⟨vs,H1,I1,r1,q1⟩=>?_) hs hp))
 obtain ⟨a,xs,e,hqa,q⟩:=q1
 subst e
 cases r1 with
 | cons r rr =>
  cases rr
  cases r
  obtain ⟨its,rv,pl,hz⟩:=I1.list hqa
  refine call_enumerate_list pl.isList ?_
  intro h' b1 b2 b6 hk
  refine wpAny_pyIter_enum b1 ?_
  have ne:s1.heap.objs.size + 1≠s1.heap.objs.size:=Nat.succ_ne_self _
  refine ⟨_,_,_,_,H1,rfl,I1.kept (t':=s1.toks) hk,CF ne,⟨⟨_,b1⟩,b2⟩,λc hc=>?_,q⟩
  have hc':s1.heap.objs.size≤c:=by
   simp only [RM,Sh,or_false] at hc
   show @LE.le Nat _ _ _
   rcases hc with rfl | rfl
   ·exact T_ _ _
   ·exact Rz _
  exact I1.Dq hc' (I1.hok.fresh hc')
end
end L2
namespace Ov
open PySem PySem.Spec PyProof.Rows
open L2 (V HO Hp Inv Cx VK XK TE TT TA TS TG kL TI TO fw Ends pM Loc Gl Rd RelV Vals eI pA bJ lA mr lD fv R2 upd aR aK dM fu Sp lZ It bW bI bC Passes kH aA Meth Mk Binds aH bP aw cZ dW dg)
def xr (xs:List PV):List PV:=(SJ xs.length).zipWith (λi x=>PV.tup [.int ((i:Nat):Int),x]) xs
theorem kq (xs:List PV):(xr xs).length=xs.length:=by unfold xr;simp
theorem t4 (xs:List PV) (i:Nat) (x:PV) (h:xs[i]?=some x):(xr xs)[i]?=some (.tup [.int (i:Int),x]):=by
 unfold xr
 obtain ⟨hi,e⟩:=Rv.mp h
 rw [List.getElem?_zipWith,TR hi,h]
section
variable {X:Cx} {G:G2}
def Qz (ta:pL):rS:=λτ J R=>ta τ J λvs J1=>AJ vs λx=>wW (nK J1 x) λxs=>R ⟨xr xs,λJ'=>nK J' x=some xs⟩ J1
theorem Hc {l:Expr} {elts:List Expr} {x1} {tp:Pos} {ta:pL} {p pos:Pos} (hg:Gl X "enumerate") (hm:X.mg "enumerate"=none) (ha:RA X G [l] ta) (hs:starEach [l] X.env=(false,eval l X.env) :: starEach [] X.env:=by rfl) (hp:(backTo pos (starEach [] X.env)).any (·.1)=false:=by rfl) :
  RI X G (.Tuple elts x1 tp) (.Call (.Name "enumerate" p) [l] [] pos) (Qz ta):=⟨M6 (L2.GR hg hm ha.run hs hp) λσ H R ⟨τ,J,R2,a2,h,k⟩=>⟨τ,J,_,a2,h,λvs J1 us H1 rs r1 e1 hh=>by
 obtain ⟨x,ev,hh⟩:=jR hh;obtain ⟨xs,hx,q⟩:=d_ hh
 subst ev
 obtain ⟨v,us',rfl,rv,e'⟩:=rs
 cases e'
 obtain ⟨a,ws,rfl,h1,h2⟩:=yY hx rv r1
 refine ⟨a,ws,rfl,h1,k _ J1 _ H1 ?_ r1 e1 q⟩
 have at_:∀J' H',Ext X.K J1 H1 J' H'→Rep X.K J' H'→nK J' x=some xs→∃vs,dM X.K H' a vs∧aS X.K J' H' xs vs:=λJ' H' e r o=>by
  obtain ⟨c,vs,eb,g1,g2⟩:=yY o (e.rep rv) r
  cases eb
  exact ⟨vs,g1,g2⟩
 exact {
  go:=λJ' H' e r o i hi=>by
   obtain ⟨vs,s,rs⟩:=at_ J' H' e r o
   rw [kq] at hi
   exact ⟨vs,vs[i]'(by rw [← rs.length];exact hi),s,by simp⟩
  yl:=λJ' H' e r o i hi v H2 y=>by
   obtain ⟨vs,s,rs⟩:=at_ J' H' e r o
   obtain ⟨T,z,hT,rfl,rfl,y1⟩:=y
   obtain ⟨c,ec,rc⟩:=rs.get' (y1 vs s)
   have sm:=bW.new hT (.tup [.int (i:Nat),z])
   have e2:=Ext.same (K:=X.K) (J:=J') sm
   refine ⟨.tup [.int (i:Int),c],t4 _ _ _ ec,⟨T,[.int (i:Nat),z],rfl,.inl (.inl aR),e2.jq ⟨.int (i:Nat),_,rfl,rfl,z,_,rfl,rc,rfl⟩⟩,r.same sm,e2⟩
  stop:=λJ' H' e r o=>by
   obtain ⟨vs,s,rs⟩:=at_ J' H' e r o
   exact ⟨vs,s,by rw [kq,← rs.length];exact Rz _⟩ }⟩⟩
end
section
variable {X:Cx} {pins:List (Addr × Obj)} {σ:L2.St} {H:Hp} {s:Shared}
open Classical in
def eT (K:PySem.W.Frag) (H:Hp) (zs:List Py) (y:Py) (u:Value):Bool:=decide (∃z∈zs,∃v,RelV v u∧At K H z v∧kr z y=true)
end
section
variable {X:Cx} {G:G2}
end
end Ov
namespace Ov
open PySem
structure ax where
 m:Rat
 h:Str
 f:Str
 deriving DecidableEq
def slt (a b:Str):Prop:=a.cps.toList < b.cps.toList
instance (a b:Str):Decidable (slt a b):=inferInstanceAs (Decidable (a.cps.toList < b.cps.toList))
def ax.lt (a b:ax):Bool:=if a.m=b.m then (if a.h=b.h then decide (slt a.f b.f) else decide (slt a.h b.h)) else decide (a.m < b.m)
theorem nA (a:Str):¬ slt a a:=List.lt_irrefl _
theorem oM {a b c:Str} (h:slt a b) (k:slt b c):slt a c:=List.lt_trans h k
theorem DW:∀(a b:List Nat),a≠b→a < b∨b < a
 | [],[],h=>absurd rfl h
 | [],_ :: _,_=>.inl (T' _ _)
 | _ :: _,[],_=>.inr (T' _ _)
 | x :: a,y :: b,h=>by
  rcases T5 x y with z | z | z
  ·exact .inl (SM.mpr (.inl z))
  ·subst z
   rcases DW a b (λe=>h (by rw [e])) with q | q
   ·exact .inl (SM.mpr (.inr ⟨rfl,q⟩))
   ·exact .inr (SM.mpr (.inr ⟨rfl,q⟩))
  ·exact .inr (SM.mpr (.inl z))
theorem wI {a b:Str} (h:a≠b):slt a b∨slt b a:=by
 have ne:a.cps.toList≠b.cps.toList:=λe=>h (by cases a;cases b;simp at e;rw [e])
 exact DW _ _ ne
theorem KI {a b:Str} (h:slt a b):a≠b:=λe=>by subst e;exact nA _ h
theorem ax.lt_iff (a b:ax):a.lt b=true↔a.m < b.m∨(a.m=b.m∧(slt a.h b.h∨(a.h=b.h∧slt a.f b.f))):=by
 unfold ax.lt
 by_cases e:a.m=b.m
 ·rw [if_pos e]
  have n:¬ a.m < b.m:=by rw [e];exact Rat.lt_irrefl
  by_cases k:a.h=b.h
  ·rw [if_pos k]
   have n2:¬ slt a.h b.h:=λz=>KI z k
   simp [e,k,n,n2]
   try (intro z;first | exact absurd z Rat.lt_irrefl | exact absurd z (nA _))
  ·rw [if_neg k]
   simp [e,k]
   try (intro z;exact absurd z Rat.lt_irrefl)
 ·rw [if_neg e]
  simp [e]
theorem ax.DR (a:ax):a.lt a=false:=by
 cases h:a.lt a with
 | false=>rfl
 | true =>
  rcases (ax.lt_iff a a).mp h with h | ⟨_,h | ⟨_,h⟩⟩
  ·exact absurd h Rat.lt_irrefl
  ·exact absurd h (nA _)
  ·exact absurd h (nA _)
theorem uw {a b c:Rat} (h:a < b) (k:b < c):a < c:=by grind
theorem ax.lt_trans {a b c:ax} (h:a.lt b=true) (k:b.lt c=true):a.lt c=true:=by
 rw [ax.lt_iff] at *
 rcases h with h | ⟨e,h⟩ <;> rcases k with k | ⟨e',k⟩
 ·exact .inl (uw h k)
 ·exact .inl (e' ▸ h)
 ·exact .inl (e ▸ k)
 ·refine .inr ⟨e.trans e',?_⟩
  rcases h with h | ⟨z,h⟩ <;> rcases k with k | ⟨z',k⟩
  ·exact .inl (oM h k)
  ·exact .inl (z' ▸ h)
  ·exact .inl (z ▸ k)
  ·exact .inr ⟨z.trans z',oM h k⟩
theorem ax.DS {a b:ax} (h:a≠b):a.lt b=true∨b.lt a=true:=by
 rw [ax.lt_iff,ax.lt_iff]
 by_cases e:a.m=b.m
 ·by_cases z:a.h=b.h
  ·have:a.f≠b.f:=λq=>h (by cases a;cases b;simp_all)
   rcases wI this with q | q
   ·exact .inl (.inr ⟨e,.inr ⟨z,q⟩⟩)
   ·exact .inr (.inr ⟨e.symm,.inr ⟨z.symm,q⟩⟩)
  ·rcases wI z with q | q
   ·exact .inl (.inr ⟨e,.inl q⟩)
   ·exact .inr (.inr ⟨e.symm,.inl q⟩)
 ·rcases (by grind:a.m < b.m∨b.m < a.m) with q | q
  ·exact .inl (.inl q)
  ·exact .inr (.inl q)
def g9 (l:List ax):Prop:=l.Pairwise λa b=>a.lt b=true
def d8 (b:ax) (l:List ax):List ax:=l.filter (λx=>x.lt b) ++ b :: l.filter (λx=>!x.lt b)
def uy (h f:Str) (x:ax):Bool:=decide (x.h=h∧x.f=f)
def c_ (h f:Str) (l:List ax):List ax:=l.filter λx=>!uy h f x
theorem tX {h f:Str} {l:List ax} (s:g9 l):g9 (c_ h f l):=s.filter _
theorem xw {b:ax} {l:List ax} (s:g9 l) (n:∀x∈l,x≠b):g9 (d8 b l):=by
 unfold d8 g9
 rw [TN]
 refine ⟨s.filter _,?_,?_⟩
 ·rw [S2]
  refine ⟨λy hy=>?_,s.filter _⟩
  rw [RU] at hy
  rcases ax.DS (n y hy.1) with q | q
  ·simp [q] at hy
  ·exact q
 ·intro x hx y hy
  rw [RU] at hx
  rcases RM.mp hy with rfl | hy
  ·exact hx.2
  ·rw [RU] at hy
   rcases ax.DS (n y hy.1) with q | q
   ·simp [q] at hy
   ·exact ax.lt_trans hx.2 q
theorem F4 {h f:Str} {l:List ax} {m:Rat}:∀x∈c_ h f l,x≠⟨m,h,f⟩:=λx hx e=>by
 subst e
 unfold c_ at hx
 rw [RU] at hx
 simp [uy] at hx
theorem uk (p:ax→Bool):∀{l:List ax} {i:Nat},i≤l.length→(∀(j:Nat) x,j < i→l[j]?=some x→p x=true)→(∀(j:Nat) x,i≤j→l[j]?=some x→p x=false)→l.take i ++ l.drop i=l∧l.filter p=l.take i∧l.filter (λx=>!p x)=l.drop i
 | l,0,_,_,h=>by
  refine ⟨by simp,?_,?_⟩
  ·rw [List.take_zero]
   apply Tu.mpr
   intro x hx
   obtain ⟨j,hj⟩:=R5.mp hx
   rw [h j x (Sb _) hj];simp
  ·rw [Tj]
   apply Sl.mpr
   intro x hx
   obtain ⟨j,hj⟩:=R5.mp hx
   rw [h j x (Sb _) hj];rfl
 | [],i + 1,hi,_,_=>by simp at hi
 | x :: l,i + 1,hi,h1,h2=>by
  obtain ⟨a,b,c⟩:=uk p (l:=l) (i:=i) (by simpa using hi) (λj y hj e=>h1 (j + 1) y (by omega) (by simpa using e)) (λj y hj e=>h2 (j + 1) y (by omega) (by simpa using e))
  have hx:p x=true:=h1 0 x (by omega) rfl
  refine ⟨by simp,?_,?_⟩
  ·rw [Si,hx];simp [b]
  ·rw [Si,hx];simp [c]
theorem uY {b:ax} {l:List ax} {i:Nat} (hi:i≤l.length) (h1:∀(j:Nat) x,j < i→l[j]?=some x→x.lt b=true) (h2:∀(j:Nat) x,i≤j→l[j]?=some x→x.lt b=false):l.take i ++ b :: l.drop i=d8 b l:=by
 obtain ⟨_,e1,e2⟩:=uk (λx=>x.lt b) hi h1 h2
 unfold d8
 rw [e1,e2]
theorem Bs {l:List ax} {b x y:ax} {i j:Nat} (s:g9 l) (hx:l[i]?=some x) (hy:l[j]?=some y) (h:j≤i) (k:x.lt b=true):y.lt b=true:=by
 rcases S3 h with h | h
 ·obtain ⟨hi,ei⟩:=Rv.mp hx
  obtain ⟨hj,ej⟩:=Rv.mp hy
  have:=Sn.mp s j i hj hi h
  rw [ei,ej] at this
  exact ax.lt_trans this k
 ·subst h;rw [hx] at hy;cases hy;exact k
theorem rO {l:List ax} {b x y:ax} {i j:Nat} (s:g9 l) (hx:l[i]?=some x) (hy:l[j]?=some y) (h:i≤j) (k:x.lt b=false):y.lt b=false:=by
 cases q:y.lt b with
 | false=>rfl
 | true=>rw [Bs s hy hx h q] at k;cases k
theorem DC {b x:ax} {l:List ax} (h:x∈d8 b l):x=b∨x∈l:=by
 unfold d8 at h
 rcases RC.mp h with h | h
 ·exact .inr (RU.mp h).1
 ·rcases RM.mp h with h | h
  ·exact .inl h
  ·exact .inr (RU.mp h).1
theorem mC (p:ax→Bool):∀l:List ax,(l.filter p).length + (l.filter λx=>!p x).length=l.length
 | []=>rfl
 | x :: l=>by
  have:=mC p l
  cases h:p x <;> simp [h] <;> omega
theorem qo (b:ax) (l:List ax):(d8 b l).length=l.length + 1:=by
 unfold d8
 rw [RL,R0]
 have:=mC (λx=>x.lt b) l
 omega
theorem nY (h f:Str) (l:List ax):(c_ h f l).length≤l.length:=S9 _ _
structure aZ where
 m:Rat
 p:Rat
 v:Int
 deriving DecidableEq
def aZ.at (l:aZ) (t:Rat):Rat:=l.p + (t - l.m) * l.v
def turned (rows:List aZ) (t:Rat) (v:Int):List aZ :=
 match rows.getLast? with
 | none=>[]
 | some l =>
  let rest:=if l.m=t then rows.dropLast else rows
  if rest.getLast?.map aZ.v=some v then rest else rest ++ [⟨t,l.at t,v⟩]
theorem gL (ls:List aZ) (l:aZ) (t:Rat) (v:Int):turned (ls ++ [l]) t v =
  if l.m=t then (if ls.getLast?.map aZ.v=some v then ls else ls ++ [⟨t,l.at t,v⟩]) else (if l.v=v then ls ++ [l] else ls ++ [l] ++ [⟨t,l.at t,v⟩]):=by
 unfold turned
 simp only [R_,Ta]
 split
 ·rfl
 ·simp only [R_,Tz,Option.some.injEq]
theorem uB {rows:List aZ} {t:Rat} {v:Int} (h:rows≠[]):turned rows t v≠[]:=by
 obtain ⟨ls,l,rfl⟩:∃ls l,rows=ls ++ [l]:=⟨rows.dropLast,rows.getLast h,(R' h).symm⟩
 rw [gL]
 split
 ·split
  ·rename_i e
   intro z;subst z;cases e
  ·simp
 ·split <;> simp
theorem z_ {rows:List aZ} {t:Rat} {v:Int} {x:aZ} (h:x∈turned rows t v):x∈rows∨∃l∈rows,x=⟨t,l.at t,v⟩:=by
 by_cases e:rows=[]
 ·subst e;cases h
 obtain ⟨ls,l,rfl⟩:∃ls l,rows=ls ++ [l]:=⟨rows.dropLast,rows.getLast e,(R' e).symm⟩
 rw [gL] at h
 have key:∀{y:List aZ},(∀z∈y,z∈ls ++ [l])→x∈y ++ [⟨t,l.at t,v⟩]→x∈ls ++ [l]∨∃l'∈ls ++ [l],x=⟨t,l'.at t,v⟩:=λhy hx=>by
  rcases RC.mp hx with h | h
  ·exact .inl (hy _ h)
  ·exact .inr ⟨l,by simp,by simpa using h⟩
 split at h
 ·split at h
  ·exact .inl (RC.mpr (.inl h))
  ·exact key (λz hz=>RC.mpr (.inl hz)) h
 ·split at h
  ·exact .inl h
  ·exact key (λz hz=>hz) h
theorem zZ (rows:List aZ) (t:Rat) (v:Int):(turned rows t v).length≤rows.length + 1:=by
 by_cases e:rows=[]
 ·subst e;simp [turned]
 obtain ⟨ls,l,rfl⟩:∃ls l,rows=ls ++ [l]:=⟨rows.dropLast,rows.getLast e,(R' e).symm⟩
 rw [gL]
 split <;> split <;> simp <;> omega
def hU (rows:List aZ) (t:Rat):Option aZ:=(rows.filter λl=>decide (l.m≤t)).getLast?
def lb (ms:List Rat) (t:Rat):Nat→Nat
 | 0=>0
 | k + 1=>if ms.getD k 0≤t then k + 1 else lb ms t k
theorem HS (ms:List Rat) (t:Rat):∀k,lb ms t k≤k
 | 0=>Rz _
 | k + 1=>by unfold lb;split;exact Rz _;exact Nat.le_succ_of_le (HS ms t k)
theorem DL {ms:List Rat} {t:Rat} {j:Nat} (h:ms.getD j 0≤t):∀{k},j < k→0 < lb ms t k
 | 0,hk=>absurd hk (Tc _)
 | k + 1,hk=>by
  unfold lb
  split
  ·exact Nat.succ_pos _
  ·rename_i c
   exact DL h (by rcases Nat.lt_succ_iff_lt_or_eq.mp hk with e | e;exact e;subst e;exact absurd h c)
theorem AF (t:Rat) (rows:List aZ):∀k,k≤rows.length→((rows.take k).filter λl=>decide (l.m≤t)).getLast?=if lb (rows.map aZ.m) t k=0 then none else rows[lb (rows.map aZ.m) t k - 1]?
 | 0,_=>rfl
 | k + 1,hk=>by
  have hk':k < rows.length:=by omega
  have e:rows.take (k + 1)=rows.take k ++ [rows[k]]:=by rw [RQ,Rt hk'];rfl
  have em:(rows.map aZ.m).getD k 0=rows[k].m:=by simp [UB,hk']
  rw [e,Th]
  unfold lb
  rw [em]
  by_cases c:rows[k].m≤t
  ·rw [if_pos c,Si,if_pos (decide_eq_true c),TC,R_,if_neg (Nat.succ_ne_zero _),Nat.add_sub_cancel,Rt hk']
  ·rw [if_neg c,Si,if_neg (by simp [c]),TC,Sd]
   exact AF t rows k (by omega)
theorem DP (rows:List aZ) (t:Rat):hU rows t=if lb (rows.map aZ.m) t rows.length=0 then none else rows[lb (rows.map aZ.m) t rows.length - 1]?:=by
 have:=AF t rows rows.length (Rz _)
 rw [RY] at this
 exact this
def Oe (g:Option Rat) (t:Rat):Bool:=match g with | none=>true | some q=>decide (t < q)
def there (rows:List aZ) (g:Option Rat) (t:Rat):Bool :=
 match rows.head? with
 | none=>false
 | some l=>!decide (t < l.m) && Oe g t
theorem yj {rows:List aZ} {g:Option Rat} {t:Rat} (h:there rows g t=true):∃l,hU rows t=some l∧l∈rows∧l.m≤t∧0 < lb (rows.map aZ.m) t rows.length∧rows[lb (rows.map aZ.m) t rows.length - 1]?=some l:=by
 cases rows with
 | nil=>cases h
 | cons l0 ls =>
  have h0:l0.m≤t:=by
   unfold there at h
   simp only [TH,R7,T2,decide_eq_false_iff_not] at h
   exact Rat.not_lt.mp h.1
  have hp:0 < lb ((l0 :: ls).map aZ.m) t (l0 :: ls).length:=DL (j:=0) (by simpa using h0) (by simp)
  have hle:=HS ((l0 :: ls).map aZ.m) t (l0 :: ls).length
  have hx:=DP (l0 :: ls) t
  rw [if_neg (by omega)] at hx
  obtain ⟨l,hl⟩:∃l,(l0 :: ls)[lb ((l0 :: ls).map aZ.m) t (l0 :: ls).length - 1]?=some l:=⟨_,Rt (by omega)⟩
  rw [hl] at hx
  have hm:=List.mem_of_getLast? hx
  rw [RU] at hm
  exact ⟨l,hx,hm.1,of_decide_eq_true hm.2,hp,hl⟩
def Sc (D A:Nat) (q:Rat):Prop:=∃a:Int,q * (D:Rat)=(a:Rat)∧a.natAbs≤A
theorem Sc.mono {D A B:Nat} {q:Rat} (h:Sc D A q) (k:A≤B):Sc D B q:=let ⟨a,e,l⟩:=h;⟨a,e,RN l k⟩
theorem MG {D:Nat} (h:0 < D):(D:Rat)≠0:=by
 intro e
 have:D=0:=by exact_mod_cast e
 omega
theorem Sc.sz {D A n:Nat} {q:Rat} (h:Sc D A q) (hD:0 < D) (h1:D < 2 ^ n) (h2:A < 2 ^ n):Sz n q:=by
 obtain ⟨a,e,l⟩:=h
 have nz:=MG hD
 have:q=Rat.divInt a (D:Int):=by
  rw [Rat.divInt_eq_div,← e]
  have:((D:Int):Rat)=(D:Rat):=rfl
  rw [this]
  generalize (D:Rat)=d at nz ⊢
  grind
 rw [this]
 exact Sz.div ⟨Se l h2⟩ ⟨by simpa using h1⟩ (by omega)
theorem Sc.scale {D A E:Nat} {p:Rat} (h:Sc D A p):Sc (E * D) (E * A) p:=by
 obtain ⟨a,e,l⟩:=h
 refine ⟨E * a,?_,?_⟩
 ·rw [Rat.intCast_mul,← e]
  have h1:((E * D:Nat):Rat)=(E:Rat) * (D:Rat):=Rat.natCast_mul ..
  have h2:((E:Int):Rat)=(E:Rat):=rfl
  rw [h1,h2]
  grind
 ·rw [Int.natAbs_mul];exact TQ (by simp) l
theorem Sc.JL {D A:Nat} {t:Int} {b:Nat} (hb:0 < b) (hd:b ∣ D) (hA:t.natAbs * (D / b)≤A):Sc D A (Rat.divInt t b):=by
 obtain ⟨c,rfl⟩:=hd
 rw [Tt _ hb] at hA
 refine ⟨t * c,?_,by rw [Int.natAbs_mul];simpa using hA⟩
 have nb:=MG hb
 have e1:((b:Int):Rat)=(b:Rat):=rfl
 have e2:((c:Int):Rat)=(c:Rat):=rfl
 rw [Rat.divInt_eq_div,Rat.intCast_mul,e1,e2,Rat.natCast_mul]
 generalize (b:Rat)=b at nb ⊢
 grind
def gM:Nat:=9690712164777231700912800
theorem QH:∀b:Nat,1≤b→b≤60→b ∣ gM:=by
 intro b h1 h2
 have:∀b:Fin 61,1≤b.val→b.val ∣ gM:=by decide
 exact this ⟨b,by omega⟩ h1
theorem vc:0 < gM:=by decide
def MM:Nat:=2097152 * gM
structure Q4 (D k:Nat) (l:aZ):Prop where
 m:Sc gM MM l.m
 p:Sc (D * gM) (gM * 2 ^ 101 + k * (2000 * (D * MM))) l.p
 v:l.v.natAbs≤1000
theorem MF:MM < 2 ^ 106:=by decide
theorem oZ {q:Rat} (h:Sc gM MM q):Sz 106 q:=h.sz vc (by decide) MF
structure Gd (D k:Nat) (rows:List aZ):Prop where
 ne:rows≠[]
 ok:∀l∈rows,Q4 D k l
 len:rows.length≤k + 1
def Later (c q:Rat):Prop:=q=c∨∃u s:Nat,1≤u∧u≤60∧1≤s∧s≤500 * u∧q=Rat.divInt ((c.num * u).fdiv c.den + s) u
theorem Later.sc {c q:Rat} {A:Nat} (h:Later c q) (k:Sc gM A c):Sc gM (A + 501 * gM) q:=by
 rcases h with rfl | ⟨u,s,h1,h2,h3,h4,rfl⟩
 ·exact k.mono (T_ _ _)
 obtain ⟨a,e,l⟩:=k
 obtain ⟨w,hw⟩:=QH u h1 h2
 refine Sc.JL (by omega) ⟨w,hw⟩ ?_
 have ew:gM / u=w:=by rw [hw,Tt _ (by omega)]
 rw [ew]
 have hf:((c.num * u).fdiv c.den) * c.den≤c.num * u∧c.num * u < ((c.num * u).fdiv c.den + 1) * c.den:=by
  rw [Int.fdiv_eq_ediv_of_nonneg _ (by omega)]
  have:=dk c
  constructor
  ·exact Int.ediv_mul_le _ (by omega)
  ·have:=Int.lt_ediv_add_one_mul_self (c.num * u) this;exact this
 have ea:c.num * (gM:Int)=a * c.den:=by
  have h1:=cast_eq c
  have h2:=cv c
  have h3:((gM:Nat):Rat)=(((gM:Nat):Int):Rat):=rfl
  have:((c.num * (gM:Int):Int):Rat)=((a * c.den:Int):Rat):=by
   rw [Rat.intCast_mul,Rat.intCast_mul,h1,← e,h3]
   grind
  exact_mod_cast this
 have hL:(gM:Int)=u * w:=by rw [hw];simp
 have hw0:0 < w:=by
  rcases Nat.eq_zero_or_pos w with z | z
  ·rw [z,Nat.mul_zero] at hw;exact absurd hw (by decide)
  ·exact z
 rw [hL] at ea
 have hd:=dk c
 generalize hF:(c.num * u).fdiv c.den=F at hf ⊢
 generalize hN:c.num=N at *
 generalize hDD:(c.den:Int)=d at *
 have g1:F * w≤a:=by
  have:F * w * d≤a * d:=by
   rw [← ea]
   have:=Int.mul_le_mul_of_nonneg_right hf.1 (show (0:Int)≤w by omega)
   calc F * w * d=F * d * w:=by rw [Int.mul_right_comm]
    _≤N * u * w:=this
    _=N * (u * w):=Int.mul_assoc ..
  exact Int.le_of_mul_le_mul_right this hd
 have g2:a≤(F + 1) * w:=by
  have:a * d≤(F + 1) * w * d:=by
   rw [← ea]
   have:=Int.mul_le_mul_of_nonneg_right (Int.le_of_lt hf.2) (show (0:Int)≤w by omega)
   calc N * (u * w)=N * u * w:=(Int.mul_assoc ..).symm
    _≤(F + 1) * d * w:=this
    _=(F + 1) * w * d:=by rw [Int.mul_right_comm]
  exact Int.le_of_mul_le_mul_right this hd
 have hsw:s * w≤500 * (u * w):=by
  calc s * w≤500 * u * w:=Nat.mul_le_mul_right _ h4
   _=500 * (u * w):=Nat.mul_assoc ..
 have huw:w≤u * w:=Nat.le_mul_of_pos_left _ (by omega)
 rw [hw]
 have:(F + s).natAbs * w=((F + s) * w).natAbs:=by rw [Int.natAbs_mul];simp
 rw [this,Int.add_mul]
 rw [Int.add_mul,Int.one_mul] at g2
 have hsw':(s:Int) * w≤500 * ((u * w:Nat):Int):=by exact_mod_cast hsw
 generalize F * (w:Int)=x at *
 have hs0:(0:Int)≤(s:Int) * w:=Int.mul_nonneg (by omega) (by omega)
 generalize (s:Int) * w=y at *
 generalize u * w=z at *
 omega
theorem Later.le {c q:Rat} (h:Later c q):c≤q:=by
 rcases h with rfl | ⟨u,s,h1,h2,h3,h4,rfl⟩
 ·exact Rat.le_refl
 have hf:c.num * u < ((c.num * u).fdiv c.den + 1) * c.den:=by
  rw [Int.fdiv_eq_ediv_of_nonneg _ (by omega)]
  exact Int.lt_ediv_add_one_mul_self (c.num * u) (dk c)
 generalize (c.num * u).fdiv c.den=F at hf ⊢
 have h5:c.num * u≤(F + s) * c.den:=by
  have:(F + 1) * c.den≤(F + s) * c.den:=Int.mul_le_mul_of_nonneg_right (by omega) (by omega)
  omega
 have hu:(0:Rat) < (u:Rat):=by exact_mod_cast (show 0 < u by omega)
 have hd:(0:Rat) < ((c.den:Int):Rat):=by exact_mod_cast dk c
 refine Rat.not_lt.mp λhlt=>?_
 rw [Rat.divInt_eq_div] at hlt
 have e1:((u:Int):Rat)=(u:Rat):=rfl
 rw [e1,Rat.div_lt_iff hu] at hlt
 have h6:=Rat.mul_lt_mul_of_pos_right hlt hd
 have e2:c * (u:Rat) * ((c.den:Int):Rat)=((c.num * u:Int):Rat):=by
  rw [Rat.intCast_mul,cast_eq c,e1];grind
 rw [e2,← Rat.intCast_mul] at h6
 have h7:(F + s) * c.den < c.num * u:=by exact_mod_cast h6
 omega
section
variable {α:Type} {lt:α→α→Bool}
def pB (lt:α→α→Bool) (b:α) (l:List α):List α:=l.filter (λx=>lt x b) ++ b :: l.filter (λx=>!lt x b)
def pz (lt:α→α→Bool) (l:List α):Prop:=l.Pairwise λa b=>lt a b=true
theorem Ec (p:α→Bool):∀{l:List α} {i:Nat},i≤l.length→(∀(j:Nat) x,j < i→l[j]?=some x→p x=true)→(∀(j:Nat) x,i≤j→l[j]?=some x→p x=false)→l.filter p=l.take i∧l.filter (λx=>!p x)=l.drop i
 | l,0,_,_,h=>by
  refine ⟨?_,?_⟩
  ·rw [List.take_zero]
   apply Tu.mpr
   intro x hx
   obtain ⟨j,hj⟩:=R5.mp hx
   rw [h j x (Sb _) hj];simp
  ·rw [Tj]
   apply Sl.mpr
   intro x hx
   obtain ⟨j,hj⟩:=R5.mp hx
   rw [h j x (Sb _) hj];rfl
 | [],i + 1,hi,_,_=>by simp at hi
 | x :: l,i + 1,hi,h1,h2=>by
  obtain ⟨b,c⟩:=Ec p (l:=l) (i:=i) (by simpa using hi) (λj y hj e=>h1 (j + 1) y (by omega) (by simpa using e)) (λj y hj e=>h2 (j + 1) y (by omega) (by simpa using e))
  have hx:p x=true:=h1 0 x (by omega) rfl
  refine ⟨?_,?_⟩
  ·rw [Si,hx];simp [b]
  ·rw [Si,hx];simp [c]
theorem Ax {b:α} {l:List α} {i:Nat} (hi:i≤l.length) (h1:∀(j:Nat) x,j < i→l[j]?=some x→lt x b=true) (h2:∀(j:Nat) x,i≤j→l[j]?=some x→lt x b=false):l.take i ++ b :: l.drop i=pB lt b l:=by
 obtain ⟨e1,e2⟩:=Ec (λx=>lt x b) hi h1 h2
 unfold pB
 rw [e1,e2]
theorem xy {b x:α} {l:List α}:x∈pB lt b l↔x=b∨x∈l:=by
 unfold pB
 rw [RC,RM,RU,RU]
 constructor
 ·rintro (h | h | h)
  ·exact .inr h.1
  ·exact .inl h
  ·exact .inr h.1
 ·rintro (h | h)
  ·exact .inr (.inl h)
  ·cases e:lt x b
   ·exact .inr (.inr ⟨h,by simp⟩)
   ·exact .inl ⟨h,rfl⟩
theorem xx (b:α) (l:List α):(pB lt b l).length=l.length + 1:=by
 unfold pB
 rw [RL,R0]
 have:∀l:List α,(l.filter λx=>lt x b).length + (l.filter λx=>!lt x b).length=l.length:=by
  intro l
  induction l with
  | nil=>rfl
  | cons x l ih=>cases h:lt x b <;> simp [h] <;> omega
 have:=this l
 omega
theorem DD (tr:∀{a b c},lt a b=true→lt b c=true→lt a c=true) {b:α} {l:List α} (s:pz lt l) (NU:∀x∈l,lt x b=true∨lt b x=true):pz lt (pB lt b l):=by
 unfold pB pz
 rw [TN]
 refine ⟨s.filter _,?_,?_⟩
 ·rw [S2]
  refine ⟨λy hy=>?_,s.filter _⟩
  rw [RU] at hy
  rcases NU y hy.1 with q | q
  ·simp [q] at hy
  ·exact q
 ·intro x hx y hy
  rw [RU] at hx
  rcases RM.mp hy with rfl | hy
  ·exact hx.2
  ·rw [RU] at hy
   rcases NU y hy.1 with q | q
   ·simp [q] at hy
   ·exact tr hx.2 q
theorem yh (tr:∀{a b c},lt a b=true→lt b c=true→lt a c=true) {l:List α} {b x y:α} {i j:Nat} (s:pz lt l) (hx:l[i]?=some x) (hy:l[j]?=some y) (h:j≤i) (k:lt x b=true):lt y b=true:=by
 rcases S3 h with h | h
 ·obtain ⟨hi,ei⟩:=Rv.mp hx
  obtain ⟨hj,ej⟩:=Rv.mp hy
  have:=Sn.mp s j i hj hi h
  rw [ei,ej] at this
  exact tr this k
 ·subst h;rw [hx] at hy;cases hy;exact k
theorem Cz (tr:∀{a b c},lt a b=true→lt b c=true→lt a c=true) {l:List α} {b x y:α} {i j:Nat} (s:pz lt l) (hx:l[i]?=some x) (hy:l[j]?=some y) (h:i≤j) (k:lt x b=false):lt y b=false:=by
 cases q:lt y b with
 | false=>rfl
 | true=>have:=yh (lt:=lt) (b:=b) tr s hy hx h q;rw [this] at k;cases k
theorem rM (F':∀a,lt a a=false) (tr:∀{a b c},lt a b=true→lt b c=true→lt a c=true):∀{l k:List α},pz lt l→pz lt k→(∀x,x∈l↔x∈k)→l=k
 | [],[],_,_,_=>rfl
 | [],y :: k,_,_,h=>by have:=(h y).mpr Sa;cases this
 | x :: l,[],_,_,h=>by have:=(h x).mp Sa;cases this
 | x :: l,y :: k,hl,hk,h=>by
  obtain ⟨a1,a2⟩:=S2.mp hl
  obtain ⟨b1,b2⟩:=S2.mp hk
  have exy:x=y:=by
   rcases RM.mp ((h x).mp Sa) with e | e
   ·exact e
   ·rcases RM.mp ((h y).mpr Sa) with e' | e'
    ·exact e'.symm
    ·have:=tr (a1 y e') (b1 x e)
     rw [F'] at this;cases this
  subst exy
  rw [rM F' tr a2 b2 λz=>?_]
  constructor
  ·intro hz
   rcases RM.mp ((h z).mp (R3 _ hz)) with e | e
   ·have:=a1 z hz;rw [e,F'] at this;cases this
   ·exact e
  ·intro hz
   rcases RM.mp ((h z).mpr (R3 _ hz)) with e | e
   ·have:=b1 z hz;rw [e,F'] at this;cases this
   ·exact e
end
structure Ky where
 p:Rat
 v:Int
 n:Str
 deriving DecidableEq
def Ky.lt (a b:Ky):Bool:=if a.p=b.p then (if a.v=b.v then decide (slt a.n b.n) else decide (a.v < b.v)) else decide (a.p < b.p)
theorem Ky.lt_iff (a b:Ky):a.lt b=true↔a.p < b.p∨(a.p=b.p∧(a.v < b.v∨(a.v=b.v∧slt a.n b.n))):=by
 unfold Ky.lt
 by_cases e:a.p=b.p
 ·rw [if_pos e]
  have n:¬ a.p < b.p:=by rw [e];exact Rat.lt_irrefl
  by_cases k:a.v=b.v
  ·rw [if_pos k,decide_eq_true_eq]
   have n2:¬ a.v < b.v:=by omega
   exact ⟨λh=>.inr ⟨e,.inr ⟨k,h⟩⟩,λh=>by
    rcases h with h | ⟨_,h | h⟩
    ·exact absurd h n
    ·exact absurd h n2
    ·exact h.2⟩
  ·rw [if_neg k,decide_eq_true_eq]
   exact ⟨λh=>.inr ⟨e,.inl h⟩,λh=>by
    rcases h with h | ⟨_,h | h⟩
    ·exact absurd h n
    ·exact h
    ·exact absurd h.1 k⟩
 ·rw [if_neg e,decide_eq_true_eq]
  exact ⟨.inl,λh=>by
   rcases h with h | h
   ·exact h
   ·exact absurd h.1 e⟩
theorem Ky.F' (a:Ky):a.lt a=false:=by
 cases h:a.lt a with
 | false=>rfl
 | true =>
  rcases (Ky.lt_iff a a).mp h with h | ⟨_,h | ⟨_,h⟩⟩
  ·exact absurd h Rat.lt_irrefl
  ·omega
  ·exact absurd h (nA _)
theorem Ky.tr {a b c:Ky} (h:a.lt b=true) (k:b.lt c=true):a.lt c=true:=by
 rw [Ky.lt_iff] at *
 rcases h with h | ⟨e,h⟩ <;> rcases k with k | ⟨e',k⟩
 ·exact .inl (uw h k)
 ·exact .inl (e' ▸ h)
 ·exact .inl (e ▸ k)
 ·refine .inr ⟨e.trans e',?_⟩
  rcases h with h | ⟨z,h⟩ <;> rcases k with k | ⟨z',k⟩
  ·exact .inl (by omega)
  ·exact .inl (by omega)
  ·exact .inl (by omega)
  ·exact .inr ⟨z.trans z',oM h k⟩
theorem Ky.NU {a b:Ky} (h:a.n≠b.n):a.lt b=true∨b.lt a=true:=by
 rw [Ky.lt_iff,Ky.lt_iff]
 by_cases e:a.p=b.p
 ·by_cases z:a.v=b.v
  ·rcases wI h with q | q
   ·exact .inl (.inr ⟨e,.inr ⟨z,q⟩⟩)
   ·exact .inr (.inr ⟨e.symm,.inr ⟨z.symm,q⟩⟩)
  ·rcases (by omega:a.v < b.v∨b.v < a.v) with q | q
   ·exact .inl (.inr ⟨e,.inl q⟩)
   ·exact .inr (.inr ⟨e.symm,.inl q⟩)
 ·rcases (by grind:a.p < b.p∨b.p < a.p) with q | q
  ·exact .inl (.inl q)
  ·exact .inr (.inl q)
theorem Ky.LJ {a b:Ky} (h:a.lt b=true):b.lt a=false:=by
 cases k:b.lt a with
 | false=>rfl
 | true=>have:=Ky.tr h k;rw [Ky.F'] at this;cases this
def d9 (ks:List Ky):List Ky:=ks.foldl (λacc x=>pB Ky.lt x acc) []
theorem h_ (ks:List Ky) (x:Ky):d9 (ks ++ [x])=pB Ky.lt x (d9 ks):=by unfold d9;rw [SE];rfl
theorem snoc_ind {α:Type} {p:List α→Prop} (h0:p []) (h1:∀l x,p l→p (l ++ [x])) (l:List α):p l:=by
 have:∀l:List α,p l.reverse:=by
  intro l
  induction l with
  | nil=>exact h0
  | cons x l ih=>rw [List.reverse_cons];exact h1 _ _ ih
 have:=this l.reverse
 rwa [List.reverse_reverse] at this
theorem cF {α:Type} {l:List α} {x:α} (h:(l ++ [x]).Nodup):l.Nodup∧x ∉ l:=by
 rw [Ss] at h
 exact ⟨h.1,λhm=>h.2.2 x hm x (by simp) rfl⟩
theorem bS:∀(ks:List Ky) (x:Ky),x∈d9 ks↔x∈ks:=by
 intro ks
 refine snoc_ind (p:=λks=>∀x:Ky,x∈d9 ks↔x∈ks) (λx=>by simp [d9]) (λks y ih x=>?_) ks
 rw [h_,xy,ih,RC,RF]
 exact Or.comm
theorem f6 {ks:List Ky} (h:(ks.map Ky.n).Nodup):pz Ky.lt (d9 ks):=by
 revert h
 refine snoc_ind (p:=λks=>(ks.map Ky.n).Nodup→pz Ky.lt (d9 ks)) (λ_=>List.Pairwise.nil) (λks y ih h=>?_) ks
 ·rw [Rw,RD,Sq] at h
  obtain ⟨h1,h2⟩:=cF h
  rw [h_]
  refine DD (lt:=Ky.lt) Ky.tr (ih h1) λx hx=>Ky.NU λe=>h2 ?_
  rw [← e]
  exact Te ((bS ks x).mp hx)
theorem mR (ks:List Ky):(d9 ks).length=ks.length:=by
 refine snoc_ind (p:=λks=>(d9 ks).length=ks.length) rfl (λks y ih=>?_) ks
 rw [h_,xx,ih,RL];rfl
theorem xQ {ks js:List Ky} (h:(ks.map Ky.n).Nodup) (k:(js.map Ky.n).Nodup) (e:∀x,x∈ks↔x∈js):d9 ks=d9 js :=
 rM (lt:=Ky.lt) Ky.F' Ky.tr (f6 h) (f6 k) λx=>by rw [bS,bS];exact e x
def key (t:Rat) (x:Str × aZ):Ky:=⟨x.2.at t,x.2.v,x.1⟩
def bZ (t:Rat) (fs:List (Str × aZ)):List Str:=(d9 (fs.map (key t))).map Ky.n
theorem cM (t:Rat) (fs:List (Str × aZ)):(fs.map (key t)).map Ky.n=fs.map (·.1):=by rw [RK];rfl
theorem xR {t:Rat} {fs:List (Str × aZ)} {n:Str}:n∈bZ t fs↔n∈fs.map (·.1):=by
 rw [← cM t fs]
 unfold bZ
 rw [Ru,Ru]
 exact ⟨λ⟨x,h,e⟩=>⟨x,(bS _ _).mp h,e⟩,λ⟨x,h,e⟩=>⟨x,(bS _ _).mpr h,e⟩⟩
theorem mS (t:Rat) (fs:List (Str × aZ)):(bZ t fs).length=fs.length:=by unfold bZ;rw [Rr,mR,Rr]
theorem uA {l:List Ky} (s:pz Ky.lt l) (h:∀x∈l,∀y∈l,x.n=y.n→x=y):(l.map Ky.n).Nodup:=by
 refine List.pairwise_map.mpr (s.imp_of_mem λ{a b} ha hb hab e=>?_)
 have:=h a ha b hb e
 subst this
 rw [Ky.F'] at hab;cases hab
theorem mM {ks:List Ky} (h:(ks.map Ky.n).Nodup):∀x∈ks,∀y∈ks,x.n=y.n→x=y:=by
 intro x hx y hy e
 obtain ⟨i,hi,rfl⟩:=Sk hx
 obtain ⟨j,hj,rfl⟩:=Sk hy
 have:=(SG (xs:=ks.map Ky.n) (i:=i) (j:=j) (h₀:=by simpa using hi) (h₁:=by simpa using hj) h).mp (by rw [SI,SI];exact e)
 subst this;rfl
theorem qK {t:Rat} {fs:List (Str × aZ)} (h:(fs.map (·.1)).Nodup):(bZ t fs).Nodup:=by
 rw [← cM t fs] at h
 exact uA (f6 h) λx hx y hy e=>mM h x ((bS _ _).mp hx) y ((bS _ _).mp hy) e
theorem Ea {t:Rat} {fs gs:List (Str × aZ)} (h:(fs.map (·.1)).Nodup) (k:(gs.map (·.1)).Nodup) (e:∀x,x∈fs.map (key t)↔x∈gs.map (key t)):bZ t fs=bZ t gs:=by
 unfold bZ
 rw [xQ (by rw [cM];exact h) (by rw [cM];exact k) e]
theorem gY {α β:Type} {fs:List (Str × α)} {f:α→β} (h:(fs.map (·.1)).Nodup) {n:Str} {l:α} (hm:(n,l)∈fs):L2.jx (fs.map λx=>(x.1,f x.2)) n=some (f l):=by
 induction fs with
 | nil=>cases hm
 | cons x fs ih =>
  rw [RD,SY] at h
  rw [RD,L2.nH]
  rcases RM.mp hm with e | e
  ·subst e;rw [if_pos rfl]
  ·have ne:x.1≠n:=λz=>h.1 (by rw [z];exact Te (f:=λx:Str × α=>x.1) e)
   rw [if_neg ne];exact ih h.2 e
theorem Hz {α β:Type} {fs:List (Str × α)} {f:α→β} (h:(fs.map (·.1)).Nodup) {n:Str} (hm:n∈fs.map (·.1)):∃l,(n,l)∈fs∧L2.jx (fs.map λx=>(x.1,f x.2)) n=some (f l):=by
 obtain ⟨⟨m,l⟩,hx,rfl⟩:=Ru.mp hm
 exact ⟨l,hx,gY h hx⟩
theorem Hy {α β:Type} {fs:List (Str × α)} {f:α→β} {n:Str} (hm:n ∉ fs.map (·.1)):L2.jx (fs.map λx=>(x.1,f x.2)) n=none:=by
 induction fs with
 | nil=>rfl
 | cons x fs ih =>
  rw [RD,L2.nH]
  rw [RD,RM,not_or] at hm
  rw [if_neg (λe=>hm.1 e.symm)];exact ih hm.2
theorem CK {α β:Type} {fs:List (Str × α)} {f:α→β} {n:Str} (h:(fs.map (·.1)).Nodup):(L2.jx (fs.map λx=>(x.1,f x.2)) n).isSome=decide (n∈fs.map (·.1)):=by
 by_cases hm:n∈fs.map (·.1)
 ·obtain ⟨l,_,e⟩:=Hz (f:=f) h hm
  rw [e,decide_eq_true hm];rfl
 ·rw [Hy hm,decide_eq_false hm];rfl
theorem qW {α β:Type} {fs:List (Str × α)} {f:α→β} {n:Str} {l:α} (hm:n ∉ fs.map (·.1)):L2.pe (fs.map λx=>(x.1,f x.2)) n (f l)=(fs ++ [(n,l)]).map λx=>(x.1,f x.2):=by
 unfold L2.pe
 rw [if_neg,Rw]
 ·rfl
 ·intro h
  rw [Ua] at h
  obtain ⟨y,hy,e⟩:=h
  obtain ⟨x,hx,rfl⟩:=Ru.mp hy
  exact hm (by rw [← of_decide_eq_true e];exact Te (f:=λx:Str × α=>x.1) hx)
def PP:Nat:=1000000 * gM + 1000 * MM
structure rV (l:aZ):Prop where
 m0:0≤l.m
 m:Sc gM MM l.m
 p:∃a:Int,l.p * (gM:Rat)=(a:Rat)
 b0:-(1000000 + 1000 * l.m)≤l.p
 b1:l.p≤1000000 + 1000 * l.m
 v:l.v.natAbs≤1000
theorem Ml:(0:Rat) < (gM:Rat):=by
 have:((0:Nat):Rat) < ((gM:Nat):Rat):=Rat.natCast_lt_natCast.mpr vc
 simpa using this
theorem rV.sc {l:aZ} (h:rV l):Sc gM PP l.p:=by
 obtain ⟨a,ha⟩:=h.p
 obtain ⟨k,hk,hk1⟩:=h.m
 have hL:=Ml
 have b0:=h.b0
 have b1:=h.b1
 have e1:(a:Rat)≤(((1000000 * gM + 1000 * k:Int)):Rat):=by
  rw [← ha,Rat.intCast_add,Rat.intCast_mul,Rat.intCast_mul,← hk]
  have:l.p * (gM:Rat)≤(1000000 + 1000 * l.m) * (gM:Rat):=Rat.mul_le_mul_of_nonneg_right b1 (Rat.le_of_lt hL)
  have e:(((gM:Nat):Int):Rat)=(gM:Rat):=rfl
  rw [e]
  grind
 have e2:(((-(1000000 * gM + 1000 * k):Int)):Rat)≤(a:Rat):=by
  rw [← ha,Rat.intCast_neg,Rat.intCast_add,Rat.intCast_mul,Rat.intCast_mul,← hk]
  have:-(1000000 + 1000 * l.m) * (gM:Rat)≤l.p * (gM:Rat):=Rat.mul_le_mul_of_nonneg_right b0 (Rat.le_of_lt hL)
  have e:(((gM:Nat):Int):Rat)=(gM:Rat):=rfl
  rw [e]
  grind
 have e1:=Rat.intCast_le_intCast.mp e1
 have e2:=Rat.intCast_le_intCast.mp e2
 refine ⟨a,ha,?_⟩
 unfold PP
 have:(k:Int)≤MM:=by omega
 have:-(MM:Int)≤k:=by omega
 omega
theorem M7:PP < 2 ^ 120:=by decide
theorem rV.Pl {l:aZ} (h:rV l):Sz 120 l.p:=h.sc.sz vc (by decide) M7
theorem rV.QK {l:aZ} (h:rV l):Sz 120 l.m:=(oZ h.m).mono (by decide)
theorem rV.at {l:aZ} {t:Rat} {v:Int} (h:rV l) (h0:l.m≤t) (ht:Sc gM MM t) (hv:v.natAbs≤1000):rV ⟨t,l.at t,v⟩:=by
 have hm:=h.m0
 have t0:0≤t:=Rat.le_trans hm h0
 have d0:0≤t - l.m:=by grind
 have v1:(l.v:Rat)≤1000:=by
  have:((l.v:Int):Rat)≤((1000:Int):Rat):=Rat.intCast_le_intCast.mpr (by have:=h.v;omega)
  exact this
 have v2:-1000≤(l.v:Rat):=by
  have:((-1000:Int):Rat)≤((l.v:Int):Rat):=Rat.intCast_le_intCast.mpr (by have:=h.v;omega)
  exact this
 have m1:(t - l.m) * (l.v:Rat)≤(t - l.m) * 1000:=Rat.mul_le_mul_of_nonneg_left v1 d0
 have m2:(t - l.m) * (-1000)≤(t - l.m) * (l.v:Rat):=Rat.mul_le_mul_of_nonneg_left v2 d0
 have b0:=h.b0
 have b1:=h.b1
 refine ⟨t0,ht,?_,?_,?_,hv⟩
 ·obtain ⟨a,ha⟩:=h.p
  obtain ⟨k,hk,_⟩:=h.m
  obtain ⟨j,hj,_⟩:=ht
  refine ⟨a + (j - k) * l.v,?_⟩
  unfold aZ.at
  dsimp only
  rw [Rat.intCast_add,Rat.intCast_mul,Rat.intCast_sub,← ha,← hk,← hj]
  grind
 ·show -(1000000 + 1000 * t)≤l.p + (t - l.m) * (l.v:Rat)
  grind
 ·show l.p + (t - l.m) * (l.v:Rat)≤1000000 + 1000 * t
  grind
theorem rV.new {t:Rat} {p v:Int} (t0:0≤t) (ht:Sc gM MM t) (hp:p.natAbs≤1000000) (hv:v.natAbs≤1000):rV ⟨t,(p:Rat),v⟩:=by
 have p1:(p:Rat)≤1000000:=by
  have:((p:Int):Rat)≤((1000000:Int):Rat):=Rat.intCast_le_intCast.mpr (by omega)
  exact this
 have p2:-1000000≤(p:Rat):=by
  have:((-1000000:Int):Rat)≤((p:Int):Rat):=Rat.intCast_le_intCast.mpr (by omega)
  exact this
 refine ⟨t0,ht,⟨p * gM,by rw [Rat.intCast_mul];rfl⟩,?_,?_,hv⟩
 ·show -(1000000 + 1000 * t)≤(p:Rat)
  grind
 ·show (p:Rat)≤1000000 + 1000 * t
  grind
def xh (b:ax) (l:List ax):List ax:=if b∈l then l else d8 b l
theorem uc {b x:ax} {l:List ax}:x∈d8 b l↔x=b∨x∈l:=xy (lt:=ax.lt)
theorem C2 {b x:ax} {l:List ax}:x∈xh b l↔x=b∨x∈l:=by
 unfold xh
 split
 ·rename_i h
  exact ⟨.inr,λz=>by rcases z with rfl | z;exact h;exact z⟩
 ·exact uc
theorem C3 {b:ax} {l:List ax} (s:g9 l):g9 (xh b l):=by
 unfold xh
 split
 ·exact s
 ·rename_i h
  exact xw s λx hx e=>h (e ▸ hx)
def mP (bs:List ax):List ax:=bs.foldl (λacc b=>xh b acc) []
theorem ou (bs:List ax) (b:ax):mP (bs ++ [b])=xh b (mP bs):=by unfold mP;rw [SE];rfl
theorem mQ (bs:List ax) (x:ax):x∈mP bs↔x∈bs:=by
 refine snoc_ind (p:=λbs=>∀x:ax,x∈mP bs↔x∈bs) (λx=>by simp [mP]) (λbs y ih x=>?_) bs x
 rw [ou,C2,ih,RC,RF]
 exact Or.comm
theorem qJ (bs:List ax):g9 (mP bs):=by
 refine snoc_ind (p:=λbs=>g9 (mP bs)) List.Pairwise.nil (λbs y ih=>?_) bs
 rw [ou];exact C3 ih
theorem nC {l k:List ax} (h:g9 l) (h':g9 k) (e:∀x,x∈l↔x∈k):l=k:=rM (lt:=ax.lt) ax.DR ax.lt_trans h h' e
def cO (t:Rat) (a b:Ky):Rat:=t + (b.p - a.p) / ((a.v - b.v:Int):Rat)
def jh (t:Rat) (a b:Ky):ax:=⟨cO t a b,a.n,b.n⟩
def bV (t:Rat) (ks:List Ky) (m:Rat):List ax:=mP (((ks.flatMap λa=>ks.map λb=>(a,b)).filter λp=>decide (p.2.v < p.1.v∧p.1.p < p.2.p∧cO t p.1 p.2≤m)).map λp=>jh t p.1 p.2)
theorem e8 {t m:Rat} {ks:List Ky} {x:ax}:x∈bV t ks m↔∃a∈ks,∃b∈ks,b.v < a.v∧a.p < b.p∧cO t a b≤m∧x=jh t a b:=by
 unfold bV
 rw [mQ,Ru]
 constructor
 ·rintro ⟨⟨a,b⟩,h,rfl⟩
  rw [RU,SV] at h
  obtain ⟨⟨c,hc,h1⟩,h2⟩:=h
  obtain ⟨d,hd,e⟩:=Ru.mp h1
  cases e
  have h2:=of_decide_eq_true h2
  exact ⟨_,hc,_,hd,h2.1,h2.2.1,h2.2.2,rfl⟩
 ·rintro ⟨a,ha,b,hb,h1,h2,h3,rfl⟩
  exact ⟨(a,b),RU.mpr ⟨SV.mpr ⟨a,ha,Ru.mpr ⟨b,hb,rfl⟩⟩,decide_eq_true ⟨h1,h2,h3⟩⟩,rfl⟩
theorem fR (t m:Rat) (ks:List Ky):g9 (bV t ks m):=qJ _
theorem uo {t m:Rat} {ks js:List Ky} (e:∀x,x∈ks↔x∈js):bV t ks m=bV t js m :=
 nC (fR _ _ _) (fR _ _ _) λx=>by
  rw [e8,e8]
  constructor
  ·rintro ⟨a,ha,b,hb,r⟩;exact ⟨a,(e a).mp ha,b,(e b).mp hb,r⟩
  ·rintro ⟨a,ha,b,hb,r⟩;exact ⟨a,(e a).mpr ha,b,(e b).mpr hb,r⟩
def dn (l l':aZ):Rat:=(l'.at 0 - l.at 0) / ((l.v - l'.v:Int):Rat)
theorem EZ {a b:Int} (h:a≠b):((a - b:Int):Rat)≠0:=by
 intro e
 have:(a - b:Int)=0:=by exact_mod_cast (show ((a - b:Int):Rat)=((0:Int):Rat) from e)
 omega
theorem mL {t:Rat} {n n':Str} {l l':aZ} (h:l.v≠l'.v):dn l l'=cO t (key t (n,l)) (key t (n',l')):=by
 have k:=EZ h
 unfold dn cO key aZ.at
 dsimp only
 rw [Rat.intCast_sub] at *
 grind
theorem qX {a b:Rat} (ha:0 < a) (hb:0 < b):0 < a / b:=by
 have e:a / b * b=a:=by grind
 rcases Rat.le_total (a:=a / b) (b:=0) with h | h
 ·have:=Rat.mul_le_mul_of_nonneg_right h (Rat.le_of_lt hb)
  rw [e,Rat.zero_mul] at this
  exact absurd ha (Rat.not_lt.mpr this)
 ·rcases (by grind:a / b=0∨0 < a / b) with h | h
  ·rw [h,Rat.zero_mul] at e;rw [← e] at ha;exact absurd ha Rat.lt_irrefl
  ·exact h
def Gk (t:Rat) (l l':aZ):Option Rat:=if l.v≠l'.v∧t < dn l l' then some (dn l l') else none
theorem Gm {t:Rat} {n n':Str} {l l':aZ} (h:(key t (n,l)).lt (key t (n',l'))=true):(l.v≠l'.v∧t < dn l l')↔(l'.v < l.v∧l.at t < l'.at t):=by
 rw [Ky.lt_iff] at h
 unfold key at h
 dsimp only at h
 constructor
 ·rintro ⟨h1,h2⟩
  rw [mL (t:=t) (n:=n) (n':=n') h1] at h2
  unfold cO key at h2
  dsimp only at h2
  have k:=EZ h1
  have h3:0 < (l'.at t - l.at t) / ((l.v - l'.v:Int):Rat):=by grind
  have hp:l.at t≠l'.at t:=by
   intro e
   rw [e] at h3
   have:(l'.at t - l'.at t) / ((l.v - l'.v:Int):Rat)=0:=by grind
   rw [this] at h3
   exact absurd h3 Rat.lt_irrefl
  have hlt:l.at t < l'.at t:=by
   rcases h with h | ⟨h,_⟩
   ·exact h
   ·exact absurd h hp
  refine ⟨?_,hlt⟩
  rcases (by omega:l'.v < l.v∨l.v < l'.v) with q | q
  ·exact q
  ·exfalso
   have hn:((l.v - l'.v:Int):Rat) < 0:=by
    have:((l.v - l'.v:Int):Rat) < ((0:Int):Rat):=Rat.intCast_lt_intCast.mpr (by omega)
    exact this
   have hd:0 < l'.at t - l.at t:=by grind
   have e:(l'.at t - l.at t) / ((l.v - l'.v:Int):Rat) * ((l.v - l'.v:Int):Rat)=l'.at t - l.at t:=by grind
   generalize (l'.at t - l.at t) / ((l.v - l'.v:Int):Rat)=z at h3 e
   have:z * ((l.v - l'.v:Int):Rat) < 0:=by
    have:=Rat.mul_lt_mul_of_pos_left hn h3
    rwa [Rat.mul_zero] at this
   grind
 ·rintro ⟨h1,h2⟩
  have hne:l.v≠l'.v:=by omega
  refine ⟨hne,?_⟩
  rw [mL (t:=t) (n:=n) (n':=n') hne]
  unfold cO key
  dsimp only
  have hpos:0 < ((l.v - l'.v:Int):Rat):=by
   have:((0:Int):Rat) < ((l.v - l'.v:Int):Rat):=Rat.intCast_lt_intCast.mpr (by omega)
   exact this
  have hd:0 < l'.at t - l.at t:=by grind
  have:0 < (l'.at t - l.at t) / ((l.v - l'.v:Int):Rat):=qX hd hpos
  grind
end Ov
namespace Ov
def kK (t:Rat) (c:Ky × Ky→Bool) (rows:List ax) (p:Ky × Ky):List ax:=if c p=true then d8 (jh t p.1 p.2) (c_ p.1.n p.2.n rows) else rows
def bN (t:Rat) (c:Ky × Ky→Bool) (ps:List (Ky × Ky)):List ax:=ps.foldl (kK t c) []
theorem eS (t:Rat) (c:Ky × Ky→Bool) (ps:List (Ky × Ky)) (p:Ky × Ky):bN t c (ps ++ [p])=kK t c (bN t c ps) p:=by unfold bN;rw [SE];rfl
theorem ku (t:Rat) (c:Ky × Ky→Bool) (ps:List (Ky × Ky)):g9 (bN t c ps):=by
 refine snoc_ind (p:=λps=>g9 (bN t c ps)) List.Pairwise.nil (λl x ih=>?_) ps
 rw [eS]
 unfold kK
 split
 ·exact xw (tX ih) F4
 ·exact ih
theorem t9 (t:Rat) (c:Ky × Ky→Bool) (ps:List (Ky × Ky)):(bN t c ps).length≤ps.length:=by
 refine snoc_ind (p:=λps=>(bN t c ps).length≤ps.length) (Rz _) (λl x ih=>?_) ps
 rw [eS,RL]
 unfold kK
 split
 ·rw [qo]
  have:=nY x.1.n x.2.n (bN t c l)
  simp only [R0,S1];omega
 ·omega
theorem kA {t:Rat} {c:Ky × Ky→Bool} {x:ax} (ps:List (Ky × Ky)):x∈bN t c ps→∃p∈ps,c p=true∧x=jh t p.1 p.2:=by
 refine snoc_ind (p:=λps=>x∈bN t c ps→∃p∈ps,c p=true∧x=jh t p.1 p.2) (λh=>by cases h) (λl y ih h=>?_) ps
 rw [eS] at h
 unfold kK at h
 split at h
 ·rename_i hc
  rcases DC h with e | h
  ·exact ⟨y,by simp,hc,e⟩
  ·obtain ⟨p,hp,k⟩:=ih (RU.mp h).1
   exact ⟨p,RC.mpr (.inl hp),k⟩
 ·obtain ⟨p,hp,k⟩:=ih h
  exact ⟨p,RC.mpr (.inl hp),k⟩
def xb (ps:List (Ky × Ky)):Prop:=∀p∈ps,∀q∈ps,p.1.n=q.1.n→p.2.n=q.2.n→p=q
theorem t_ {t:Rat} {c:Ky × Ky→Bool} {x:ax} (ps:List (Ky × Ky)):xb ps→(x∈bN t c ps↔∃p∈ps,c p=true∧x=jh t p.1 p.2):=by
 refine snoc_ind (p:=λps=>xb ps→(x∈bN t c ps↔∃p∈ps,c p=true∧x=jh t p.1 p.2)) (λ_=>Iff.intro (λh=>nomatch h) (λh=>by obtain ⟨_,h,_⟩:=h;cases h)) (λl y ih inj=>?_) ps
 have ih:=ih λp hp q hq=>inj p (RC.mpr (.inl hp)) q (RC.mpr (.inl hq))
 refine ⟨kA _,?_⟩
 rintro ⟨p,hp,hc,rfl⟩
 rw [eS]
 unfold kK
 have hold:p∈l→jh t p.1 p.2∈bN t c l:=λh=>ih.mpr ⟨p,h,hc,rfl⟩
 split
 ·rename_i hy
  rw [uc]
  by_cases e:p=y
  ·left;rw [e]
  ·right
   have hl:p∈l:=by
    rcases RC.mp hp with h | h
    ·exact h
    ·exact absurd (by simpa using h) e
   refine RU.mpr ⟨hold hl,?_⟩
   unfold uy
   have:¬ ((jh t p.1 p.2).h=y.1.n∧(jh t p.1 p.2).f=y.2.n):=λz=>e (inj p hp y (by simp) z.1 z.2)
   rw [decide_eq_false this];rfl
 ·rename_i hy
  rcases RC.mp hp with h | h
  ·exact hold h
  ·have:p=y:=by simpa using h
   subst this;exact absurd hc hy
theorem BS {t:Rat} {c:Ky × Ky→Bool} {ps:List (Ky × Ky)} {p:Ky × Ky} (inj:xb (ps ++ [p])) (h:p ∉ ps):c_ p.1.n p.2.n (bN t c ps)=bN t c ps:=by
 unfold c_
 refine Sl.mpr λx hx=>?_
 obtain ⟨q,hq,_,rfl⟩:=kA _ hx
 unfold uy
 have:¬ ((jh t q.1 q.2).h=p.1.n∧(jh t q.1 q.2).f=p.2.n):=λz=>by
  have:=inj q (RC.mpr (.inl hq)) p (by simp) z.1 z.2
  subst this;exact h hq
 rw [decide_eq_false this];rfl
theorem xb.of {ks:List Ky} (h:(ks.map Ky.n).Nodup) {ps:List (Ky × Ky)} (hp:∀p∈ps,p.1∈ks∧p.2∈ks):xb ps:=λp h1 q h2 e1 e2=>by
 have a:=mM h p.1 (hp p h1).1 q.1 (hp q h2).1 e1
 have b:=mM h p.2 (hp p h1).2 q.2 (hp q h2).2 e2
 cases p;cases q;simp only at a b;rw [a,b]
def yo (ks:List Ky):Nat→List (Ky × Ky)
 | 0=>[]
 | i + 1=>yo ks i ++ (match ks[i]? with | some a=>(ks.drop (i + 1)).map λb=>(a,b) | none=>[])
theorem nG {ks:List Ky} {p:Ky × Ky}:∀{i:Nat},p∈yo ks i↔∃i' j,i' < i∧i' < j∧ks[i']?=some p.1∧ks[j]?=some p.2
 | 0=>⟨λh=>(by cases h),λ⟨_,_,h,_⟩=>by omega⟩
 | i + 1=>by
  unfold yo
  rw [RC,nG (i:=i)]
  constructor
  ·rintro (⟨i',j,h1,h⟩ | h)
   ·exact ⟨i',j,by omega,h⟩
   ·cases e:ks[i]? with
    | none=>rw [e] at h;cases h
    | some a =>
     rw [e] at h
     obtain ⟨b,hb,rfl⟩:=Ru.mp h
     obtain ⟨j,hj⟩:=R5.mp hb
     rw [Ti] at hj
     exact ⟨i,_,by omega,by omega,e,hj⟩
  ·rintro ⟨i',j,h1,h2,h3,h4⟩
   by_cases e:i' < i
   ·exact .inl ⟨i',j,e,h2,h3,h4⟩
   ·have:i'=i:=by omega
    subst this
    right
    rw [h3]
    refine Ru.mpr ⟨p.2,R5.mpr ⟨j - (i' + 1),?_⟩,rfl⟩
    rw [Ti,show i' + 1 + (j - (i' + 1))=j by omega];exact h4
def bK (t m:Rat) (p:Ky × Ky):Bool:=decide (p.2.v < p.1.v∧p.1.p < p.2.p∧cO t p.1 p.2≤m)
theorem Hx {t m:Rat} {ks:List Ky} (h:(ks.map Ky.n).Nodup):bN t (bK t m) (yo (d9 ks) (d9 ks).length)=bV t ks m:=by
 have hs:=f6 h
 have hn:((d9 ks).map Ky.n).Nodup:=uA hs (λx hx y hy e=>mM h x ((bS _ _).mp hx) y ((bS _ _).mp hy) e)
 refine nC (ku _ _ _) (fR _ _ _) λx=>?_
 rw [t_ _ (xb.of hn λp hp=>by
  obtain ⟨i,j,_,_,h3,h4⟩:=nG.mp hp
  exact ⟨RJ h3,RJ h4⟩),e8]
 constructor
 ·rintro ⟨p,hp,hc,rfl⟩
  obtain ⟨i,j,_,_,h3,h4⟩:=nG.mp hp
  have hc:=of_decide_eq_true hc
  exact ⟨p.1,(bS _ _).mp (RJ h3),p.2,(bS _ _).mp (RJ h4),hc.1,hc.2.1,hc.2.2,rfl⟩
 ·rintro ⟨a,ha,b,hb,h1,h2,h3,rfl⟩
  obtain ⟨i,hi⟩:=R5.mp ((bS _ _).mpr ha)
  obtain ⟨j,hj⟩:=R5.mp ((bS _ _).mpr hb)
  have hab:a.lt b=true:=(Ky.lt_iff a b).mpr (.inl h2)
  have hij:i < j:=by
   obtain ⟨hil,ei⟩:=Rv.mp hi
   obtain ⟨hjl,ej⟩:=Rv.mp hj
   rcases T5 i j with z | z | z
   ·exact z
   ·subst z;rw [ei] at ej;subst ej;rw [Ky.F'] at hab;cases hab
   ·have:=Sn.mp hs j i hjl hil z
    rw [ei,ej] at this
    rw [Ky.LJ this] at hab;cases hab
  exact ⟨(a,b),nG.mpr ⟨i,j,(Rv.mp hi).1,hij,hi,hj⟩,decide_eq_true ⟨h1,h2,h3⟩,rfl⟩
theorem p_ {t m:Rat} {ks:List Ky} (h:(ks.map Ky.n).Nodup):bN t (bK t m) (ks.flatMap λa=>ks.map λb=>(a,b))=bV t ks m:=by
 have hm:∀p:Ky × Ky,p∈(ks.flatMap λa=>ks.map λb=>(a,b))↔p.1∈ks∧p.2∈ks:=λp=>by
  rw [SV]
  constructor
  ·rintro ⟨a,ha,hb⟩
   obtain ⟨b,hb',rfl⟩:=Ru.mp hb
   exact ⟨ha,hb'⟩
  ·rintro ⟨ha,hb⟩
   exact ⟨p.1,ha,Ru.mpr ⟨p.2,hb,rfl⟩⟩
 refine nC (ku _ _ _) (fR _ _ _) λx=>?_
 rw [t_ _ (xb.of h λp hp=>(hm p).mp hp),e8]
 constructor
 ·rintro ⟨p,hp,hc,rfl⟩
  have hc:=of_decide_eq_true hc
  exact ⟨p.1,((hm p).mp hp).1,p.2,((hm p).mp hp).2,hc.1,hc.2.1,hc.2.2,rfl⟩
 ·rintro ⟨a,ha,b,hb,h1,h2,h3,rfl⟩
  exact ⟨(a,b),(hm _).mpr ⟨ha,hb⟩,decide_eq_true ⟨h1,h2,h3⟩,rfl⟩
end Ov
namespace L2
open PySem PySem.Spec PyProof.Rows PySem.Builtin PySem.Builtin.Str
section
variable {X:Cx}
end
end L2
namespace Ov
open PySem PySem.Spec PyProof.Rows
open L2 (V HO Hp Inv Cx VK XK TE TT TA TS TG kL TI TO fw Ends pM Loc Gl Rd RelV Vals eI pA bJ lA mr lD fv R2 upd aR aK dM fu Sp lZ It bW bI bC Passes kH aA Meth Mk Binds aH bP aw cZ dW dg)
section
variable {X:Cx} {G:G2}
def Ij:yH:=λxs J Q=>AJ xs λx=>D7 x λy=>y.length≤sizeLine∧Q (.int y.length) J
theorem Aj:HD X (.builtin "len") Ij:=⟨_,L2.uU,λJ H xs vs Q2 Q rs r h k=>by
 obtain ⟨x,ex,h⟩:=jR h;obtain ⟨y,ey,hl,q⟩:=jS h
 subst ex ey;obtain ⟨v,us,rfl,rv,e⟩:=rs;cases e;cases rv
 exact ⟨y,rfl,hl,k (.int _) J _ H rfl r .refl q⟩⟩
def EC (P:Addr) (tx:Str) (ti:cY):cY:=λτ J Q=>ti τ J λx J1=>D7 x λy=>J1 P=some .tab∧Q (.bl (y.cps.toList.all (eG tx))) J1
theorem EH {c P:Addr} {x g:Str} {p px p1 p2 p3 gpos cpos:Pos} {iter:Expr} {ti:cY} {scope:Scope} {tx:Str} {tt:Tok} {k:Nat} (hcalm:X.calm=true) (Bm:BMain X.mg X.base) (hcode:X.env.code=.ref c) (Z:tP X.K c P) (hr:bC k X.A)
  (hgl:Gl X "all") (hma:X.mg "all"=none) (hsg:X.mg g=some (.str tx tt)) (hi:RE X G iter ti) (sck:scope.kind=.function:=by rfl) (hco:scope.isCoroutine=false:=by rfl) (hclos:closureFor scope X.env=pure []:=by rfl) (hcell:∀y∈scope.names,y.2≠.cell:=by decide)
  (h0:scope.names.lookup (".0":Str)=some NameKind.local:=by rfl) (hx:scope.names.lookup x=some .local:=by rfl) (hsc:scope.names.lookup g=some .globalImplicit:=by rfl) (hmk:behindInMarks .In (.Name g p2)=false:=by with_unfolding_all rfl) (hs:∀x,genFold iter X.env x=pure x:=by intro _;rfl)
  (hst:starEach [.GeneratorExp (.Compare (.Name x p1) [.In] [.Name g p2] p3) [⟨.Name x px,iter,[],0⟩] scope gpos] X.env=[(false,eval (.GeneratorExp (.Compare (.Name x p1) [.In] [.Name g p2] p3) [⟨.Name x px,iter,[],0⟩] scope gpos) X.env)]:=by rfl)
  (hdx:(x == ("__debug__":Str))=false:=by decide) (hdg:(g == ("__debug__":Str))=false:=by decide) :
  RE X G (.Call (.Name "all" p) [.GeneratorExp (.Compare (.Name x p1) [.In] [.Name g p2] p3) [⟨.Name x px,iter,[],0⟩] scope gpos] [] cpos) (EC P tx ti) :=
 ⟨kB (Cq hcalm Bm hcode Z (by have:=hr.dp;omega) hgl hma hsg hi.run sck hco hclos hcell h0 hx hsc hmk hs hst hdx hdg) λσ H Q ⟨τ,J,Q2,a2,h,k⟩=>⟨τ,J,_,a2,h,λx J1 v H1 rx r1 e1 hh=>by
  obtain ⟨y,ex,hP,q⟩:=jS hh
  subst ex;cases rx
  exact ⟨y,rfl,r1 _ _ hP,k (.bl _) J1 _ H1 rfl r1 e1 q⟩⟩⟩
end
section
variable {P:Program} {w:World} {K:PySem.W.Frag} {mg:Str→Option Value} {base:Heap}
theorem Pe {x:Str} {st:Stmt} {T f c:Addr} {fd:FuncData} {N ps:List Str} {k:Nat} {sp:cG} (F:FL K mg x st T f fd c) (S:aw N ps (L2.aq st)) (len:∀xs J Q E,sp xs J Q E→xs.length=ps.length)
  (hbody:∀(A:Around) (outer:List Env) (s:Shared) (H:Hp) (E:XK) (G:G2) (xs:List PV) (J:Hq) (Q:PV→Hq→Prop) (E2:Addr→Hq→Prop),bC k (A.deeper (envOfC x (L2.aq st) s.heap.objs.size f (.ref c)))→sp xs J Q E2 →
   BI (wV P w K mg base N x (L2.aq st) f (.ref c) A outer s H E) G E2 E →
   ∃t,RB (wV P w K mg base N x (L2.aq st) f (.ref c) A outer s H E) G (L2.bQ st) t∧t { nx:=λ_ J'=>Q .non J',rt:=Q } (rR N xs) J):aH P w K mg base (cg P w) (k + 1) f fd ps (cH K sp):=by
 obtain ⟨oc,od,kV,doc,pm,an,cdv,ct,osl,rfl,lk,hcd⟩:=F.fn.ex
 obtain rfl:cdv=.ref c:=F.code
 refine L2.Dp lk hcd S (λvs H Q E ⟨xs,J,Q2,E2,a,_,b,_⟩=>by rw [← a.length];exact len _ _ _ _ b) λA outer s H vs Q E hr ⟨xs,J,Q2,E2,rs,rr,hs,kn,ke⟩=>?_
 obtain ⟨t,hb,q⟩:=hbody A outer s H E (J,H) xs J Q2 E2 hr hs ⟨qg,ke⟩
 refine ⟨_,hb.run,rR N xs,J,_,⟨yi rs,rr,.refl⟩,q,?_⟩
 exact { nx:=λτ J' σ H' _ r e q=>kn .non J' .non H' rfl r e q,rt:=λx J' v H' rx r e q=>kn x J' v H' rx r e q,bk:=λ_ _ _ _ _ _ _ q=>q.elim,ct:=λ_ _ _ _ _ _ _ q=>q.elim }
theorem yy.dH {x:Str} {st:Stmt} {T:Addr} {k:Nat} {ps:List Str} {sp:cG} (D:yy K mg x st T)
  (h:∀f fd c,FL K mg x st T f fd c→aH P w K mg base (cg P w) k f fd ps (cH K sp))
  (hb:∀(kV doc pm:Value) (an:Option Addr) (cdv ct:Value) (us:List Value),us.length=ps.length→bindArgs (PySem.W.fnOf x x (L2.du st) (L2.bQ st) (L2.aq st) .none kV doc pm an cdv ct) ⟨us,[]⟩=pure (ps.zip us)) :
  bF P w K mg base k x ps sp:=by
 obtain ⟨f,fd,c,F⟩:=D
 exact ⟨f,fd,h f fd c F,F.fn.binds hb,F.fn.kp,F.mg⟩
end
end Ov
namespace L2
open PySem PySem.Spec PyProof.Rows
end L2
namespace Ov
open PySem PySem.Spec PyProof.Rows
open L2 (V HO Hp Inv Cx VK XK TE TT TA TS TG kL TI TO fw Ends pM Loc Gl Rd RelV Vals eI pA bJ lA mr lD fv R2 upd aR aK dM fu Sp lZ It bW bI bC Passes kH aA Meth Mk Binds aH bP aw cZ dW dg jx pe F3 nI)
end Ov
namespace Ov
open PySem PySem.Spec PyProof.Rows L2
section
variable {X:Cx}
theorem M8 {kx vx iter:Expr} {ifs:List Expr} {x y:Str} {px py:Pos} {sc:Scope} {pos spos:Pos} {wi:TI} {tk te:TE} {tc:TT} {i:Nat} (osc:Scope) (N:List Str) (ks:List (Str × Nat)) (hc:X.calm=true) (ho:X.env.scope=osc) (hN:X.N=N) (hnd:X.N.Nodup) (hy:X.N[i]?=some y) (hl:Loc X.env.scope y) (hi:PI X (.Name x px) iter wi)
  (hk:∀cl C s₀ H₀ fp pins,PE (fO X sc cl C x ks s₀ H₀ fp pins) kx tk) (he:∀cl C s₀ H₀ fp pins,PE (fO X sc cl C x ks s₀ H₀ fp pins) vx te) (hcn:∀cl C s₀ H₀ fp pins,Fp (fO X sc cl C x ks s₀ H₀ fp pins) ifs tc) (ok:cU sc osc N x ks:=by decide +kernel) (hs:∀x,foldedSetIterable iter X.env x=pure x:=by intro _;rfl)
  (hsw:swapsWith (.DictComp kx vx [⟨.Name x px,iter,ifs,0⟩] sc pos) (some (.Name y py)) spos.line X.env=pure true:=by rfl) (hf:X.fn y=true∨X.env.scope.names.lookup y=some .local:=by first | exact .inl rfl | exact .inr rfl | assumption) :
  PS X (.Assign [.Name y py] (.DictComp kx vx [⟨.Name x px,iter,ifs,0⟩] sc pos) spos) (λD σ H=>PN wi ks tc tk te σ H λv H1=>D.nx (σ.set i (some v)) H1):=by
 intro pins s σ H Dn I hw
 obtain ⟨cl,hcl,h1,h2⟩:=iD (mT ok I ho)
 have ok':cU sc X.env.scope X.N x ks:=by rw [ho,hN];exact ok
 rw [exec_Assign_Name_used _ _ _ _ hsw]
 refine wpAny_bind (wpAny_standAt (wpAny_bind ?_))
 show wpAny _ X.A (do let _ ← comprehension (.DictComp kx vx [⟨.Name x px,iter,ifs,0⟩] sc pos) sc X.env _ newDict false (eval iter X.env) (some (assign (.Name y py) X.env))) _ _ s
 refine wpAny_bind (wpAny_mono (wpAny_comprehension_free (use:=some (assign (.Name y py) X.env)) (Q:=λ_ s'=>SP X pins Dn .next s') rfl hs hcl ok.1 ok.2.2.2.1
  (cf (hi pins s σ H _ I hw) λv s1 h3=>cf h3 λitv s2 h4=>?_)) (λ_ s' hq=>wpAny_pure (wpAny_pure hq)) λ_ _ e=>e)
 obtain ⟨it,fp,tn,J,H2,rfl,I2,T,st2,f2,hR⟩:=h4
 refine ux (Q:=λv H1=>Dn.nx (σ.set i (some v)) H1) (RR:=λacc C=>compPost (model X.prog X.w) X.A X.xe (some (assign (.Name y py) X.env)) (λ_ s'=>SP X pins Dn .next s') acc C) hc ok' h1 h2 hk he hcn I2 T st2 f2 hR ?_
 intro D C s' H' m J' q hn hC cl' cs cc cp
 show wpAny _ X.A (assign (.Name y py) X.env (.ref D)) _ _ _
 refine wpAny_assign_Name (oQ J' hnd hy hl (v:=.ref D) rfl (λs'' J'' ⟨a,hsb,ha⟩=>?_) hf)
 refine ⟨m,hn.sameBut hsb (λz=>?_),λh' hsb'=>⟨_,H',?_,q⟩⟩
 ·rcases ha with e | e
  ·exact cl' (z.trans e)
  ·exact cc _ _ e z.symm
 ·exact J''.turned (t':=s''.toks) (it:=C) (λb o ne e=>hsb'.extBut b o ne e) hC cl' (.inr cs) cc cp
end
end Ov
namespace Ov
open PySem PySem.Spec PyProof.Rows
open L2 (V HO Hp Inv Cx VK XK TE TT TA TS TG kL TI TO fw Ends pM Loc Gl Rd RelV Vals eI pA bJ lA mr lD fv R2 upd aR aK dM fu Sp lZ It bW bI bC Passes kH aA Meth Mk Binds aH bP aw cZ dW dg jx pe F3 nI)
section
variable {X:Cx} {G:G2} {kx vx iter cnd:Expr} {x y:Str} {px py:Pos} {sc:Scope} {pos spos:Pos} {wi:rS} {tk te:cY} {tc:nJ} {i:Nat}
theorem Kw (osc:Scope) (N:List Str) (ks:List (Str × Nat)) (hc:X.calm=true) (ho:X.env.scope=osc) (hN:X.N=N) (hnd:X.N.Nodup) (hy:X.N[i]?=some y) (hl:Loc X.env.scope y) (hi:RI X G (.Name x px) iter wi) (hk:∀cl C s₀ H₀ fp pins,RE (fO X sc cl C x ks s₀ H₀ fp pins) G kx tk) (he:∀cl C s₀ H₀ fp pins,RE (fO X sc cl C x ks s₀ H₀ fp pins) G vx te)
  (hcn:∀cl C s₀ H₀ fp pins,RT (fO X sc cl C x ks s₀ H₀ fp pins) G cnd tc) (ok:cU sc osc N x ks:=by decide +kernel) (hs:∀x,foldedSetIterable iter X.env x=pure x:=by intro _;rfl) (hsw:swapsWith (.DictComp kx vx [⟨.Name x px,iter,[cnd],0⟩] sc pos) (some (.Name y py)) spos.line X.env=pure true:=by rfl)
  (hf:X.fn y=true∨X.env.scope.names.lookup y=some .local:=by first | exact .inl rfl | exact .inr rfl | assumption):RS X G (.Assign [.Name y py] (.DictComp kx vx [⟨.Name x px,iter,[cnd],0⟩] sc pos) spos) (wd (Lp wi ks tc tk te) (HM i)) :=
 ⟨zy (M8 osc N ks hc ho hN hnd hy hl hi.run (λcl C s₀ H₀ fp pins=>(hk cl C s₀ H₀ fp pins).run) (λcl C s₀ H₀ fp pins=>(he cl C s₀ H₀ fp pins).run) (λcl C s₀ H₀ fp pins=>AW (hcn cl C s₀ H₀ fp pins).run) ok hs hsw hf) (qy Am)⟩
end
end Ov
namespace L2
open PySem PySem.Spec PySem.W PySem.Calls PyProof.Rows
end L2
namespace Ov
open PySem PySem.Spec PyProof.Rows
open L2 (V HO Hp Inv Cx VK XK TE TT TA TS TG kL TI TO fw Ends pM Loc Gl Rd RelV Vals eI pA bJ lA mr lD fv R2 upd aR aK dM fu Sp lZ It bW bI bC Passes kH aA Meth Mk Binds aH bP aw cZ dW dg jx pe F3 nI)
section
variable {X:Cx} {G:G2}
end
end Ov
namespace L2
open PySem PySem.Spec PyProof.Rows
section
variable {X:Cx} {pins:List (Addr × Obj)} {σ:St} {H:Hp}
end
end L2
namespace Ov
open PySem PySem.Spec PyProof.Rows
open L2 (V HO Hp Inv Cx VK XK TE TT TA TS TG kL TI TO fw Ends pM Loc Gl Rd RelV Vals eI pA bJ lA mr lD fv R2 upd aR aK dM fu Sp lZ It bW bI bC Passes kH aA Meth Mk Binds aH bP aw cZ dW dg jx pe F3 nI)
end Ov
namespace Ov
open PySem PySem.Spec PyProof.Rows
open L2 (V HO Hp Inv Cx VK XK TE TT TA TS TG kL TI TO fw Ends pM Loc Gl Rd RelV Vals eI pA bJ lA mr lD fv R2 upd aR aK dM fu Sp lZ It bW bI bC Passes kH aA Meth Mk Binds aH bP aw cZ dW dg jx pe F3 nI)
section
variable {X:Cx}
def Kp:mn:=λx y J Q=>D7 x λz=>Cn y λi=>wW (cZ z.cps.toList i) λc=>z.length≤sizeLine∧Q (.str (sgn c)) J
theorem DE:N9 X Kp:=⟨_,L2.Jt,λJ H x y v w Q2 Q rx ry r h k=>by
 obtain ⟨z,ex,h⟩:=jS h;obtain ⟨i,ey,h⟩:=fZ h;obtain ⟨c,ec,hl,q⟩:=d_ h
 subst ex ey;cases rx;cases ry
 exact ⟨z,i,c,rfl,rfl,hl,ec,k (.str _) J _ H rfl r .refl q⟩⟩
end
end Ov
namespace L2
open PySem PySem.Spec PyProof.Rows
section
variable {X:Cx}
end
end L2
namespace Ov
open PySem PySem.Spec PyProof.Rows
open L2 (V HO Hp Inv Cx VK XK TE TT TA TS TG kL TI TO fw Ends pM Loc Gl Rd RelV Vals eI pA bJ lA mr lD fv R2 upd aR aK dM fu Sp lZ It bW bI bC Passes kH aA Meth Mk Binds aH bP aw cZ dW dg jx pe F3 nI)
section
variable {X:Cx}
end
end Ov
namespace L2
open PySem PySem.Spec PyProof.Rows
theorem u_ {h h':Heap} {it d:Addr} {i n ep:Nat} (x:h.IsValIter it d i n ep) (e:∀o,h.get? it=some o→h'.get? it=some o):h'.IsValIter it d i n ep:=let ⟨o,ho,r⟩:=x;⟨o,e _ ho,r⟩
theorem uj {α β:Type} {R:Str × α→Str × β→Prop} {kvs:List (Str × α)} {vs:List (Str × β)} (h:Paired R kvs vs):∀{i:Nat} {y},vs[i]?=some y→∃x,kvs[i]?=some x∧R x y:=by
 induction h with
 | nil=>intro i y e;cases e
 | cons r t ih =>
  intro i y e
  cases i with
  | zero=>cases e;exact ⟨_,rfl,r⟩
  | succ i=>exact ih e
def Qo (a:Addr) (n ep:Nat):It :=
 ⟨λi H=>∃kvs,H a=some (.dE kvs ep)∧kvs.length=n∧i < n,
  λi H z H'=>H'=H∧∃kvs kv,H a=some (.dE kvs ep)∧kvs[i]?=some kv∧z=kv.2,
  λi H=>∃kvs,H a=some (.dE kvs ep)∧kvs.length=n∧n≤i⟩
theorem CH {P:Program} {w:World} {K:PySem.W.Frag} {tg:Expr} (a it:Addr) (n ep:Nat):Turn P w K tg (Qo a n ep) [it] it (λi h=>h.IsValIter it a i n ep) where
 mem:=by simp
 obj:=λi h st b hb=>by
  have e:b=it:=by simpa using hb
  subst e
  obtain ⟨o,e,c,d⟩:=st
  exact ⟨o,e,λv z=>by rw [d] at z;cases z⟩
 keep:=λi h h' st k=>u_ st λo e=>k it (by simp) o e
 item:=by
  intro X hP hw hK hc i pins s σ H E I hf st hg
  subst hP hw hK
  obtain ⟨kvs,hp,hn,hi⟩:=hg
  subst hn
  obtain ⟨hz,hd,vs,rel,da⟩:=jB I hp
  have hl:kvs.length=vs.length:=rel.len
  obtain ⟨f0,f1,f2,f3,f4,f5⟩:=hf it (by simp)
  obtain ⟨⟨k,x⟩,hx⟩:∃p,vs[i]?=some p:=⟨vs[i]'(by omega),Rt (by omega)⟩
  obtain ⟨kv,hkv,hr⟩:∃kv,kvs[i]?=some kv∧RelV kv.2 x:=by
   obtain ⟨kv,e1,e2⟩:=uj rel hx
   exact ⟨kv,e1,e2.2⟩
  refine wpAny_pyNext_values_item (by rw [← hl];exact st) da hx λh' st' sb=>?_
  rw [← hl] at st'
  have I1:Inv X pins σ H { s with heap:=h' }:=I.turned (t':=s.toks) (λb o hb e=>(sb.2 b hb).trans e) f0 f1 f3 f4 f5
  obtain ⟨o,e,c,d⟩:=id st'
  exact ⟨x,rfl,Au (s:={ s with heap:=h' }) e c d (by decide) ⟨kv.2,H,I1,hr,⟨rfl,kvs,kv,hp,hkv,rfl⟩,st',λb hb=>(hf b hb).1⟩⟩
 done:=by
  intro X hP hw hK hc i pins s σ H E I hf st hg
  subst hP hw hK
  obtain ⟨kvs,hp,hn,hi⟩:=hg
  subst hn
  obtain ⟨hz,hd,vs,rel,da⟩:=jB I hp
  have hl:kvs.length=vs.length:=rel.len
  obtain ⟨f0,f1,f2,f3,f4,f5⟩:=hf it (by simp)
  refine wpAny_pyNext_values_end (I.ok.hd hc) (by rw [← hl];exact st) da (by rw [SS];omega) λh' hk=>⟨rfl,I.turned (t':=s.toks) (λb o hb e=>hk b o hb e) f0 f1 f3 f4 f5⟩
 self:=λ_ _ _ _ _ st h=>wpAny_pyIter_valiter st h
def Mc (td:TE):TI:=λσ H R=>td σ H λx H1=>∃a kvs ep,x=.ref a∧H1 a=some (.dE kvs ep)∧R (Qo a kvs.length ep) H1
theorem GS {X:Cx} {tg l:Expr} {tl:TE} {apos cpos:Pos} (hl:PE X l tl) (hbase:attributeBase l "values" X.env (eval l X.env)=eval l X.env:=by rfl) (hline:(apos.endLine == cpos.line)=true:=by rfl):PI X tg (.Call (.Attribute l "values" apos) [] [] cpos) (Mc tl):=by
 intro pins s σ H R I h
 refine wpAny_Call_method0_late hbase hline (cf (hl pins s σ H _ I h) λv s1 ⟨x,H1,I1,r1,q1⟩=>?_)
 obtain ⟨a,kvs,ep,e,hp,q⟩:=q1
 subst e
 cases r1
 obtain ⟨hz,hd,vs,rel,da⟩:=jB I1 hp
 refine ⟨"dict","dict.values",PySem.F.plainAttrs_dict,PySem.F.slot_dict_values,PySem.F.type_dict_values,da.dictOf.typeIs,da.dictOf.mapOf.noDict,Calls.callWith_builtin rfl (PySem.evalArgs_none ?_)⟩
 refine call_meetsIn PySem.F.slot_dict_values da.dictOf.typeIs PySem.F.entry_dict_values (PySem.F.args_dict_values_1 _) (meets_dict_values (strKind X.prog X.w) a hd) ⟨⟨vs,da.dictOf⟩,?_⟩
 have I2:=I1.kept (t':=s1.toks) (h':=s1.heap.push { cls:=.type "dict_values",data:=.fields #[.ref a] }) λb o e=>Heap.get?_push_of_some _ e
 obtain ⟨_,_,vs2,rel2,da2⟩:=jB I2 hp
 refine wpAny_pyIter_values (knd:=strKind X.prog X.w) ⟨_,Heap.get?_push_size _ rfl,rfl,rfl⟩ da2 ?_
 refine ⟨_,[_],_,_,H1,rfl,I2.kept (t':=s1.toks) λb o e=>Heap.get?_push_of_some _ e,CH a _ kvs.length ep,⟨_,Heap.get?_push_size _ rfl,rfl,by rw [rel2.len];rfl⟩,λb hb=>?_,q⟩
 have e:=RF.mp hb
 subst e
 exact I2.Dq (Rz _) (I2.hok.fresh (Rz _))
theorem B8 (l:Addr) (items:Array Value) (n:Nat) (b:Addr) (items2:Array Value) (o2:Obj) (n2:Nat) (hc:o2.cls=.type "list") (hd:o2.data=.seq items2 n2) (hc0:¬(!items.isEmpty && Builtin.List.listTooLong (items.size + items2.size))=true) (hc1:items.size≤sizeLine) (hs2:items.size + items2.size≤sizeLine + 1) :
  Meets (Builtin.«list.extend» ⟨[.ref l,.ref b],[]⟩) (λ_ R s=>s.heap.get? l=some { cls:=.type "list",dict:=none,data:=.seq items n,slots:=#[] }∧s.heap.get? b=some o2∧R (.ok (.ret Value.none)) { s with heap:=s.heap.update l (Obj.mapSeq λx=>x ++ items2),toks:=s.toks }) :=
 .of_wp λprog w A R s h=>by
  obtain ⟨hp,g,d,tk,os⟩:=s
  obtain ⟨hl,hb,h⟩:=h
  obtain ⟨c,di,da,sl⟩:=o2
  subst hc hd
  have f1:=PySem.AutoSeq1.idx_int
  have f2:=PySem.AutoSeq1.sub_tuple_tuple
  have f3:=PySem.AutoSeq1.sub_list_list
  have f4:=PySem.AutoSeq1.sub_tuple_list
  have f5:=PySem.AutoSeq1.sub_list_tuple
  have hz':(items ++ items2).size≤sizeLine + 1:=by rw [Array.size_append];exact hs2
  wp_walk using (wpAny_updateSeq hl rfl (hz:=hc1) (_hz':=hz')),PySem.AutoSeq1.wpAny_loadPart' hl,PySem.AutoSeq1.wpAny_loadPart' hb
  exact ⟨_,rfl,h⟩
theorem y9 {X:Cx}:lD X "list.extend" (λx vs H Q=>∃l xs zs b,x=.ref l∧vs=[.ref b]∧H l=some (.lst xs)∧dM X.K H b zs∧xs.length + zs.length≤sizeLine∧Q .non (upd H l (.lst (xs ++ zs)))):=by
 intro pins s σ H x vs v us Q I rx rv h
 obtain ⟨l,xs,zs,b,rfl,rfl,hH,hB,hz,q⟩:=h
 cases rx
 obtain ⟨u,rfl,ru⟩:=rv.one
 cases ru
 obtain ⟨z,its,n,r,hl,e⟩:=I.Gi hH
 obtain ⟨its2,r2,⟨o2,n2,h1,h2,h3,h4⟩,_⟩:=I.list hB
 have hl2:=r2.length
 have hl1:=r.length
 have hsz:its.toArray.size + its2.toArray.size≤sizeLine:=by rw [Rx,Rx];omega
 have hlong:¬ (!its.toArray.isEmpty && Builtin.List.listTooLong (its.toArray.size + its2.toArray.size))=true:=by
  rw [DY hsz,S8]
  exact R8
 refine call_meets PySem.F.slot_list_extend ⟨_,e,rfl⟩ PySem.F.entry_list_extend (PySem.F.args_list_extend_2 _ _)
  (B8 l its.toArray n b its2.toArray o2 n2 h2 h4 hlong (by rw [Rx];omega) (by omega)) ⟨e,h1,?_⟩
 refine ⟨.non,_,I.Gh (its':=its ++ its2) hH e (by simp) (r.append r2) ?_,rfl,q⟩
 rw [RL]
 omega
end L2
namespace Ov
open PySem PySem.Spec PyProof.Rows
open L2 (V HO Hp Inv Cx VK XK TE TT TA TS TG kL TI TO fw Ends pM Loc Gl Rd RelV Vals eI pA bJ lA mr lD fv R2 upd aR aK dM fu Sp lZ It bW bI bC Passes kH aA Meth Mk Binds aH bP aw cZ dW dg jx pe F3 nI)
section
variable {X:Cx}
def QF (te:cY):rS:=λτ J R=>te τ J λx J1=>AK x λa=>D5 (J1 a) λkvs ep=>R ⟨kvs.map (·.2),λJ'=>J' a=some (.dct kvs ep)⟩ J1
theorem Hd {tg l:Expr} {tl:cY} {apos cpos:Pos} (hl:RE X G l tl) (hbase:attributeBase l "values" X.env (eval l X.env)=eval l X.env:=by rfl) (hline:(apos.endLine == cpos.line)=true:=by rfl):RI X G tg (.Call (.Attribute l "values" apos) [] [] cpos) (QF tl):=⟨M6 (L2.GS hl.run hbase hline) λσ H R ⟨τ,J,R2,a2,h,k⟩=>⟨τ,J,_,a2,h,λx J1 v H1 rx r1 e1 h=>by
 obtain ⟨a,ex,h⟩:=iS h;obtain ⟨kvs,ep,ja,q⟩:=qH h
 subst ex;cases rx
 obtain ⟨gs,h1,h2⟩:=r1 _ _ ja
 have pk:=dO h2
 have hl':=pk.len
 refine ⟨a,gs,ep,rfl,h1,k _ J1 _ H1 ?_ r1 e1 q⟩
 have key:∀J' H',Rep X.K J' H'→J' a=some (.dct kvs ep)→∃gs',H' a=some (.dE gs' ep)∧gs'.length=gs.length∧nI (cu X.K J' H') kvs gs':=λJ' H' r o=>by
  obtain ⟨gs',h1',h2'⟩:=r _ _ o
  exact ⟨gs',h1',by rw [← (dO h2').len,hl'],dO h2'⟩
 exact {
  go:=λJ' H' e r o i hi=>by
   obtain ⟨gs',k1,k2,_⟩:=key J' H' r o
   exact ⟨gs',k1,k2,by rw [Rr] at hi;omega⟩
  yl:=λJ' H' e r o i hi v H2 y=>by
   obtain ⟨rfl,gs2,kv,e2,e3,rfl⟩:=y
   obtain ⟨gs',k1,k2,k3⟩:=key J' H2 r o
   rw [k1] at e2;cases e2
   obtain ⟨x,hx,_,rx⟩:=L2.uj k3 e3
   exact ⟨x.2,by rw [Ry,hx];rfl,rx,r,.refl⟩
  stop:=λJ' H' e r o=>by
   obtain ⟨gs',k1,k2,_⟩:=key J' H' r o
   exact ⟨gs',k1,k2,by rw [Rr];omega⟩ }⟩⟩
def G1:Ad:=λx xs J Q=>∃a ys zs,x=.ref a∧xs=[.fl zs]∧J a=some (.lst ys)∧ys.length + zs.length≤sizeLine∧Q .non (put J a (.lst (ys ++ zs)))
theorem B_:IU X "list" "list.extend" G1:=⟨λx vs H Q=>∃l xs zs b,x=.ref l∧vs=[.ref b]∧H l=some (.lst xs)∧dM X.K H b zs∧xs.length + zs.length≤sizeLine∧Q .non (upd H l (.lst (xs ++ zs))),L2.y9,λJ H x xs v vs Q2 Q rx rs r ⟨a,ys,zs,ex,exs,ja,hl,q⟩ k=>by
 subst ex exs;cases rx
 obtain ⟨w,us,rfl,⟨b,ws,rfl,hb,hr⟩,e⟩:=rs;cases e
 obtain ⟨vs,h1,h2⟩:=r _ _ ja
 exact ⟨a,vs,ws,b,rfl,rfl,h1,hb.sq,by rw [← h2.length,← hr.length];exact hl,k .non _ _ _ rfl (r.wrote (ys:=ys ++ zs) ja h1 (h2.append hr)) (.wrote ja h1) q⟩⟩
end
end Ov
set_option maxHeartbeats 4000000
namespace Ov
open PySem PySem.Spec PyProof.Rows L2
def top (i:Nat):Stmt:=PySem.Challenge.pw_overhaul_k48_whole_home_again.main.body.getD i (.Pass ⟨0,0,0,0⟩)
set_option compiler.extract_closed false
set_option hygiene false
local macro_rules | `(tactic| simp_arith [$t:term])=>`(tactic| refine Ib F $t (fun xs J Q E h=>?_) (fun cdv A outer s H E G xs J Q E2 hr h B=>?_))
local macro_rules | `(tactic| simp_arith [$t:term,$r:term])=>`(tactic| refine Rh F $t (fun xs J Q E h=>?_) (fun cdv A outer s H E G E2 hr B=>$r) (fun xs J Q E2 h X hX=>?_))
local macro_rules | `(tactic| simp_arith [$t:term,$r:term,$u:term])=>`(tactic| refine Pd F $t (fun xs J Q E h=>?_) (fun cdv A outer s H E G E2 hr B=>$r) (fun xs J Q E2 h X hX=>?_))
local macro_rules | `(tactic| simp_arith! [$ls,*])=>`(tactic| simp only [G6,PF,OO,Im,Nk,xX,rC,Ha,QZ,rB,NC,G4,Pz,Nw,Io,Nx,Iv,QX,zL,xW,ND,Nv,QV,A2,Iw,QY,Nn,QU,Nl,ED,Np,G',G_,Iu,Ip,Nz,Iy,Nt,HM,Qw,Qv,Qx,wd,Ny,Iq,il,ur,QC,Q9,QD,Q8,Pp,Pq,Ez,qI,qU,Nd,QR,EA,Pn,Nj,Nh,Ni,M_,Kq,Na,Ex,Ey,Po,AY,Nf,Kl,AZ,Ih,OZ,OY,Mi,Pa,MD,Mo,Mn,HU,P6,N2,P5,P7,P8,P4,N4,NX,IF,NW,NZ,NV,NY,OW,OX,Md,OQ,OS,OU,OV,OR,OT,PZ,P1,P0,Ou,I9,Jb,LX,I_,LY,GX,wb,Kj,GY,zH,eq_int,eq_str,L0,HJ,Jr,Js,N3,JB,uZ,Ji,rR,Lf,Lg,Ld,Le,Nat.reduceAdd,Nat.reduceSub,Nat.reduceLeDiff,Qf,Qg,Lb,Lc,List.append_nil,P_,Qa,Qh,Qi,Option.some.injEq,exists_eq_left',exists_eq_left,exists_and_left,exists_eq,exists_eq',PV.int.injEq,PV.bl.injEq,PV.ref.injEq,PV.str.injEq,PV.ty.injEq,PV.tup.injEq,PV.fl.injEq,HQ.lst.injEq,HQ.ins.injEq,HQ.dct.injEq,decide_eq_true_eq,true_and,and_true,List.cons.injEq,reduceCtorEq,Bool.not_eq_true',decide_eq_false_iff_not,and_assoc,ite_not,if_true,if_false,Bool.false_eq_true,decide_true,decide_false,false_and,and_false,exists_false,false_or,or_false,id,mx,oT,tS,HG,LK,LL,LM,LN,LP,LQ,IX,IY,Rn,Qc,Qb,Qe,ak,Bool.and_true,Qj,Bool.and_false,P9,HV,Mp,Mq,Mr,Ms,Mt,Mu,Mw,Mx,My,JC,JD,JE,N5,K7,Hv,K8,K9,Hw,String.reduceEq,N7,N8,rq,Qd,List.not_mem_nil,exists_const,MS,MJ,MN,MK,MT,MR,MU,MH,MO,ML,Ie,MP,JQ,MQ,MV,Nb,Km,Nc,Kr,Ng,Il,Ir,Qy,Ko,G3,we,Qz,$ls,*])
local macro_rules | `(tactic| simp_all! [$ls,*])=>`(tactic| repeat (first | (with_reducible refine hNq _ _ ?_;clear hNq Nq) | with_reducible refine KC fun Nq hNq=>?_ | simp_arith! [$ls,*]))
section
variable {P:Program} {w:World} {K:PySem.W.Frag} {mg:Str→Option Value} {base:Heap}
def kE:cG:=λxs J Q _=>∃a b:Int,xs=[.int a,.int b]∧Q (.int (Int.gcd a b:Nat)) J
abbrev rb:Stmt:=(top 13)
abbrev oz:List Str:=["one","two"]
theorem oJ:L2.aw ["one","two"] ["one","two"] (L2.aq rb):=dI
theorem zh {f:Addr} {fd:FuncData} (F:bP K "shared" "shared" rb f fd) (Z:bD mg):aH P w K mg base (cg P w) 1 f fd oz (cH K kE):=by
 simp_arith [oJ,(ai (wm (i:=0) (j:=1) rfl oJ.nd rfl rfl (by decide) rfl rfl (af (aL qd rfl Z.abs boot_abs (af (rv 0) ah)) (af (aL qd rfl Z.abs boot_abs (af (rv 1) ah)) ah)) rfl)
   (ai (fk bq (aJ (fK hr.aV) (rv 1) ag) (ar (wm (i:=0) (j:=1) rfl oJ.nd rfl rfl (by decide) rfl rfl (af (rv 1) (af (az cP (rv 0) (rv 1)) ah)) rfl)))
   (ar (aD (rv 0)))))]
 ·obtain ⟨a,b,rfl,_⟩:=h;rfl
 obtain ⟨a,b,rfl,q⟩:=h
 refine hX ?_
 simp_all! []
 refine ⟨λm τ' J'=>∃x y:Int,τ'=[some (.int x),some (.int y)]∧J'=J∧0≤x∧0≤y∧Int.gcd x y=Int.gcd a b∧m=y.toNat,⟨_,_,_,rfl,rfl,by split <;> omega,by split <;> omega,F7 a b,rfl⟩,?_⟩
 rintro m τ' J' ⟨x,y,rfl,rfl,hx,hy,hg,rfl⟩
 simp_arith! [bE]
 by_cases y0:y=0
 ·subst y0
  rw [if_pos rfl]
  refine hNq _ _ ?_
  simp_arith! [bE]
  rw [← hg,Ar hx] at q
  exact q
 ·rw [if_neg y0]
  have h1:=Int.emod_lt_of_pos x (show 0 < y by omega)
  have h2:=Int.emod_nonneg x y0
  exact ⟨_,λ_ _ h=>h,by omega,(x % y).toNat,by omega,_,_,rfl,rfl,hy,h2,(xu y0).trans hg,rfl⟩
theorem Du {n:Nat} {t b:Int} (h:b≠0) (hb:Bd n b):Bd n ((Int.gcd t b:Nat):Int):=hb.le (by have:=Jm (t:=t) h;omega)
abbrev lP:Stmt:=(top 14)
abbrev fi:List Str:=["top","bottom"]
theorem j':L2.aw ["top","bottom","divisor"] ["top","bottom"] (L2.aq lP):=dI
def ft:cG:=λxs J Q _=>∃t b:Int,xs=[.int t,.int b]∧b≠0∧Bd 9000 b∧Q (fr (Rat.divInt t b)) J
theorem vE {eM f:Addr} {fd:FuncData} (F:bP K "fraction" "fraction" lP f fd) (Z:bD mg) (cS:Own K mg "BadMoment" eM) (pY:bF P w K mg base 1 "shared" oz kE):aH P w K mg base (cg P w) 2 f fd fi (cH K ft):=by
 simp_arith [j',(ai (aY (aJ (dN hr.aV) (rv 1) ag) (ar (dP cS rfl cA B.kn rfl (af b_ ah))) aO)
   (ai (aE (i:=2) j'.nd (aQ pY B hr (af (rv 0) (af (rv 1) ah))))
   (m8 (aY (aJ gC (rv 1) ag) (ar (aE (i:=2) j'.nd (uu oR (rv 2)))) aO)
   (ar (aD (bR (af (az ed (rv 0) (rv 2)) (af (az ed (rv 1) (rv 2)) ah))))))))]
 ·obtain ⟨t,b,rfl,_⟩:=h;rfl
 obtain ⟨t,b,rfl,hb,bb,q⟩:=h
 have hg:=As (t:=t) hb
 have gb:=Du (t:=t) hb bb
 refine hX ?_
 simp_all! []
 rw [if_neg hb]
 refine hNq _ _ ?_
 clear hNq Nq
 simp_all! []
 refine ⟨t,b,rfl,?_⟩
 refine hNq _ _ ?_
 clear hNq Nq
 simp_all! []
 obtain ⟨M,hM⟩:∃M:Sr→Hq→Prop,∀τ' J',M τ' J'↔∃d:Int,τ'=[some (.int t),some (.int b),some (.int d)]∧J'=J∧d≠0∧Bd 9000 d∧t.fdiv d=(Rat.divInt t b).num∧b.fdiv d=(Rat.divInt t b).den:=⟨_,λ_ _=>Iff.rfl⟩
 refine ⟨M,?_,?_⟩
 ·simp_all! []
  by_cases c:b < 0
  ·rw [if_pos c]
   exact (hM _ _).mpr ⟨_,rfl,rfl,by omega,gb.neg,AI c,F2 c⟩
  ·rw [if_neg c]
   exact (hM _ _).mpr ⟨_,rfl,rfl,by omega,gb,vn (by omega),den_pos (by omega)⟩
 intro τ' J' hm
 obtain ⟨d,rfl,rfl,hd,bd,e1,e2⟩:=(hM _ _).mp hm
 simp_arith! [bE,e1,e2]
 exact ⟨⟨hd,bd⟩,⟨hd,bd⟩,q⟩
def gj:cG:=λxs J Q _=>∃t b:Int,xs=[.int t,.int b]∧0 < b∧Bd 9000 b∧Q (fr (Rat.divInt t b)) J
abbrev EN:Stmt:=(top 53)
abbrev d6:List Str:=["_law_top","_law_bottom"]
theorem wG:L2.aw ["_law_top","_law_bottom","_law_one","_law_two"] ["_law_top","_law_bottom"] (L2.aq EN):=dI
theorem Gx {f:Addr} {fd:FuncData} (F:bP K "_law_low" "_law_low" EN f fd) (Z:bD mg):aH P w K mg base (cg P w) 1 f fd d6 (cH K gj):=by
 simp_arith [wG,(ai (aE (i:=2) wG.nd (aL qd rfl Z.abs boot_abs (af (rv 0) ah)))
   (ai (aE (i:=3) wG.nd (rv 1))
   (ai (fk bq (aJ (fK hr.aV) (rv 3) ag) (ar (wm (i:=2) (j:=3) rfl wG.nd rfl rfl (by decide) rfl rfl (af (rv 3) (af (az cP (rv 2) (rv 3)) ah)) rfl)))
   (ar (aD (bR (af (az ed (rv 0) (rv 2)) (af (az ed (rv 1) (rv 2)) ah))))))))]
 ·obtain ⟨t,b,rfl,_⟩:=h;rfl
 obtain ⟨t,b,rfl,hb,bb,q⟩:=h
 have hg:=As (t:=t) (show b≠0 by omega)
 have gb:=Du (t:=t) (show b≠0 by omega) bb
 refine hX ?_
 simp_all! []
 refine ⟨λm τ' J'=>∃x y:Int,τ'=[some (.int t),some (.int b),some (.int x),some (.int y)]∧J'=J∧0≤x∧0≤y∧Int.gcd x y=Int.gcd t b∧m=y.toNat,⟨_,_,_,rfl,rfl,by split <;> omega,by omega,Dt t b,rfl⟩,?_⟩
 rintro m τ' J' ⟨x,y,rfl,rfl,hx,hy,hg',rfl⟩
 simp_arith! [bE]
 by_cases y0:y=0
 ·subst y0
  rw [if_pos rfl]
  refine hNq _ _ ?_
  have ex:x=((Int.gcd t b:Nat):Int):=by rw [← hg',Ar hx]
  subst ex
  simp_arith! [bE]
  refine ⟨⟨by omega,gb⟩,⟨by omega,gb⟩,?_⟩
  rw [vn hb,den_pos hb]
  exact q
 ·rw [if_neg y0]
  have h1:=Int.emod_lt_of_pos x (show 0 < y by omega)
  have h2:=Int.emod_nonneg x y0
  exact ⟨_,λ_ _ h=>h,by omega,(x % y).toNat,by omega,_,_,rfl,rfl,hy,h2,(xu y0).trans hg',rfl⟩
def cX:cG:=λxs J Q _=>∃p q:Rat,xs=[fr p,fr q]∧Sz 9000 p∧Sz 9000 q∧Q (.bl (decide (p < q))) J
theorem Ge (p q:Rat):decide (p.num * q.den < q.num * p.den)=decide (p < q):=decide_eq_decide.mpr (Rat.lt_iff p q).symm
abbrev zP:Stmt:=(top 18)
abbrev gF:List Str:=["one","two"]
theorem Hi:L2.aw ["one","two"] ["one","two"] (L2.aq zP):=dI
theorem D0 {f:Addr} {fd:FuncData} (F:bP K "less" "less" zP f fd) (Z:bD mg):aH P w K mg base (cg P w) 1 f fd gF (cH K cX):=by
 simp_arith [Hi,(ar (aD (er gC (az aT (au av (rv 0) ag) (au av (rv 1) ag)) (az aT (au av (rv 1) ag) (au av (rv 0) ag)))))]
 ·obtain ⟨p,q,rfl,_⟩:=h;rfl
 obtain ⟨p,q,rfl,sp,sq,k⟩:=h
 refine hX ?_
 simp_arith! [bE,Ge]
 exact ⟨.of sp.num sq.den,.of sq.num sp.den,k⟩
theorem E1 {m n:Nat} {t b:Int} (hb:b≠0) (h1:Bd m t) (h2:Bd n b) (k:Nat) (hm:m≤k) (hn:n≤k):Sz k (Rat.divInt t b) :=
 ⟨(h1.le (AH t b)).mono hm,(h2.le (pO hb)).mono hn⟩
theorem vj (p q:Rat):(p.den:Int) * (q.den:Int)≠0:=Int.mul_ne_zero (eR p) (eR q)
theorem Sz.add {m n k:Nat} {p q:Rat} (h:Sz m p) (g:Sz n q) (hk:m + n + 1≤k:=by decide):Sz k (p + q):=by
 rw [← add_eq]
 exact E1 (vj p q) (.add (.mul h.num g.den (Rz _)) (.mul g.num h.den (Rz _)) (Rz _)) (.mul h.den g.den (Rz _)) k (by omega) (by omega)
theorem Sz.sub {m n k:Nat} {p q:Rat} (h:Sz m p) (g:Sz n q) (hk:m + n + 1≤k:=by decide):Sz k (p - q):=by
 rw [← sub_eq]
 exact E1 (vj p q) (.sub (.mul h.num g.den (Rz _)) (.mul g.num h.den (Rz _)) (Rz _)) (.mul h.den g.den (Rz _)) k (by omega) (by omega)
theorem Sz.mul {m n k:Nat} {p:Rat} {i:Int} (h:Sz m p) (g:Bd n i) (hk:m + n≤k:=by decide):Sz k (p * i):=by
 rw [← mul_eq]
 exact E1 (eR p) (.mul h.num g (Rz _)) h.den k hk (by omega)
def Cy (g:Rat→Rat→Rat):cG:=λxs J Q _=>∃p q:Rat,xs=[fr p,fr q]∧Sz 4000 p∧Sz 4000 q∧Q (fr (g p q)) J
def rK:cG:=λxs J Q _=>∃(p:Rat) (m:Int),xs=[fr p,.int m]∧Sz 9000 p∧Bd 9000 m∧Q (fr (p * m)) J
abbrev zR:Stmt:=(top 15)
abbrev AV:List Str:=["one","two"]
theorem Hk:L2.aw ["one","two"] ["one","two"] (L2.aq zR):=dI
theorem D3 {f:Addr} {fd:FuncData} (F:bP K "plus" "plus" zR f fd) (Z:bD mg) (dU:bF P w K mg base 2 "fraction" fi ft):aH P w K mg base (cg P w) 3 f fd AV (cH K (Cy λp q=>p + q)):=by
 simp_arith [Hk,(ar (aD (aQ dU B hr (af (az bO (az aT (au av (rv 0) ag) (au av (rv 1) ag)) (az aT (au av (rv 1) ag) (au av (rv 0) ag))) (af (az aT (au av (rv 0) ag) (au av (rv 1) ag)) ah)))))]
 ·obtain ⟨p,q,rfl,_⟩:=h;rfl
 obtain ⟨p,q,rfl,sp,sq,k⟩:=h
 refine hX ?_
 simp_arith! [bE]
 refine ⟨.of sp.num sq.den,.of sq.num sp.den,.of sp.den sq.den,_,_,rfl,vj p q,.mul sp.den sq.den,?_⟩
 rw [add_eq]
 exact k
abbrev wt:Stmt:=(top 16)
abbrev qT:List Str:=["one","two"]
theorem EO:L2.aw ["one","two"] ["one","two"] (L2.aq wt):=dI
theorem Cd {f:Addr} {fd:FuncData} (F:bP K "minus" "minus" wt f fd) (Z:bD mg) (dU:bF P w K mg base 2 "fraction" fi ft):aH P w K mg base (cg P w) 3 f fd qT (cH K (Cy λp q=>p - q)):=by
 simp_arith [EO,(ar (aD (aQ dU B hr (af (az c8 (az aT (au av (rv 0) ag) (au av (rv 1) ag)) (az aT (au av (rv 1) ag) (au av (rv 0) ag))) (af (az aT (au av (rv 0) ag) (au av (rv 1) ag)) ah)))))]
 ·obtain ⟨p,q,rfl,_⟩:=h;rfl
 obtain ⟨p,q,rfl,sp,sq,k⟩:=h
 refine hX ?_
 simp_arith! [bE]
 refine ⟨.of sp.num sq.den,.of sq.num sp.den,.of sp.den sq.den,_,_,rfl,vj p q,.mul sp.den sq.den,?_⟩
 rw [sub_eq]
 exact k
abbrev wx:Stmt:=(top 17)
abbrev xU:List Str:=["one","many"]
theorem ES:L2.aw ["one","many"] ["one","many"] (L2.aq wx):=dI
theorem Cj {f:Addr} {fd:FuncData} (F:bP K "times" "times" wx f fd) (Z:bD mg) (dU:bF P w K mg base 2 "fraction" fi ft):aH P w K mg base (cg P w) 3 f fd xU (cH K rK):=by
 simp_arith [ES,(ar (aD (aQ dU B hr (af (az aT (au av (rv 0) ag) (rv 1)) (af (au av (rv 0) ag) ah)))))]
 ·obtain ⟨p,m,rfl,_⟩:=h;rfl
 obtain ⟨p,m,rfl,sp,bm,k⟩:=h
 refine hX ?_
 simp_arith! [bE]
 refine ⟨.of sp.num bm,_,_,rfl,eR p,sp.den,?_⟩
 rw [mul_eq]
 exact k
def Dig:List Int→List Int→Prop
 | [],[]=>True
 | d :: ds,s :: ss=>(0≤d∧d < s)∧Dig ds ss
 | _,_=>False
theorem Dig.snoc:∀{ds ss:List Int} {d s:Int},Dig ds ss→0≤d→d < s→Dig (ds ++ [d]) (ss ++ [s])
 | [],[],_,_,_,h0,h1=>⟨⟨h0,h1⟩,trivial⟩
 | _ :: _,_ :: _,_,_,h,h0,h1=>⟨h.1,Dig.snoc h.2 h0 h1⟩
 | [],_ :: _,_,_,h,_,_=>h.elim
 | _ :: _,[],_,_,h,_,_=>h.elim
theorem Dig.cons:∀{ds ss:List Int} {s:Int},Dig ds (s :: ss)→∃d r,ds=d :: r∧0≤d∧d < s∧Dig r ss
 | [],_,_,h=>h.elim
 | d :: r,_,_,h=>⟨d,r,rfl,h.1.1,h.1.2,h.2⟩
theorem Dig.nil:∀{ds:List Int},Dig ds []→ds=[]
 | [],_=>rfl
 | _ :: _,h=>h.elim
theorem Dig.len:∀{ds ss:List Int},Dig ds ss→ds.length=ss.length
 | [],[],_=>rfl
 | _ :: _,_ :: _,h=>congrArg Nat.succ (Dig.len h.2)
 | [],_ :: _,h=>h.elim
 | _ :: _,[],h=>h.elim
theorem B4 {J:Hq} {l:Addr} {o:HQ} (h:J l=none):gZ J (put J l o):=λa=>by
 by_cases e:a=l
 ·subst e;exact .inr h
 ·rw [aj e];exact .inl rfl
def zU:cG:=λxs J Q _=>∃(c:Int) (ss:List Int),xs=[.int c,.fl (ss.map .int)]∧(∀s∈ss,0 < s∧Bd 9000 s)∧ss.length≤1000∧∀ds,Dig ds ss→Q (.fl (ds.map .int)) J
abbrev q_:Stmt:=(top 51)
abbrev f7:List Str:=["_law_cell_here","_law_sizes"]
theorem dC:L2.aw ["_law_cell_here","_law_sizes","_law_out","_law_rest","_law_size","_law_one","_law_k","_law_two"] ["_law_cell_here","_law_sizes"] (L2.aq q_):=dI
theorem zf {f:Addr} {fd:FuncData} (F:bP K "_law_digits" "_law_digits" q_ f fd) (Z:bD mg):aH P w K mg base (cg P w) 1 f fd f7 (cH K zU):=by
 simp_arith [dC,(ai (aE (i:=2) dC.nd (fF ah))
   (ai (aY (aJ AL (rv 0) (az D' ag ag)) (ai (aE (i:=3) dC.nd (az c8 (rv 0) (az D' ag ag)))
   (ai (cQ bq rfl (dR (rv 1)) (ba (i:=4) dC.nd) (ai (a_ (fL PySem.F.plainAttrs_list PySem.F.slot_list_append PySem.F.type_list_append dz (rv 2) (af (az cP (rv 3) (rv 4)) ah)))
   (ar (aE (i:=3) dC.nd (az ed (rv 3) (rv 4))))))
   (ar (aD (rv 2))))) aO)
   (ai (aE (i:=5) dC.nd (az cP (rv 0) ag))
   (ai (cQ bq rfl (iu rfl Z.range (af (aL cJ rfl Z.len boot_len (af (rv 1) ah)) ah)) (ba (i:=6) dC.nd) (ai (aE (i:=5) dC.nd (az cP (az bO (az aT (rv 5) ag) (az aT ag (az bO (rv 6) ag))) ag))
   (ai (aE (i:=7) dC.nd (az cP (az bO (az bO (az aT (rv 5) (rv 5)) (az aT ag (rv 5))) (rv 6)) ag))
   (ar (a_ (fL PySem.F.plainAttrs_list PySem.F.slot_list_append PySem.F.type_list_append dz (rv 2) (af (az cP (az ed (rv 7) ag) (au av (rv 1) (rv 6))) ah)))))))
   (ar (aD (rv 2))))))),F]
 ·obtain ⟨c,ss,rfl,_⟩:=h;rfl
 obtain ⟨c,ss,rfl,hs,hl,q⟩:=h
 refine hX ?_
 simp_all! []
 intro r hr'
 refine hNq _ _ ?_
 clear hNq Nq
 simp_all! []
 have cp:II 10 18:=⟨by decide,by decide,by decide⟩
 refine ⟨cp,?_⟩
 have take1:∀{i:Nat} {z:Int},ss[i]?=some z→ss.take (i + 1)=ss.take i ++ [z]:=λh=>by rw [RQ,h];rfl
 have fin:∀ds:List Int,Dig ds ss→Fg Q (.ref r) (put J r (.lst (ds.map .int))):=λds hD=>Fg.n6 (B4 hr') ak hr' (q ds hD)
 by_cases cc:(10:Int) ^ Int.toNat 18≤c
 ·rw [if_pos cc]
  simp_all! []
  refine ⟨cp,hNq _ _ ?_⟩
  clear hNq Nq
  simp_all! []
  obtain ⟨Inv,hInv⟩:∃Inv:Nat→Sr→Hq→Prop,∀i τ J',Inv i τ J'↔∃(ds:List Int) (rest:Int) (u:Option PV),τ=[some (.int c),some (.fl (ss.map .int)),some (.ref r),some (.int rest),u,none,none,none]∧J'=put J r (.lst (ds.map .int))∧Dig ds (ss.take i):=⟨_,λ_ _ _=>Iff.rfl⟩
  refine dZ Inv ((hInv _ _ _).mpr ⟨[],_,none,rfl,rfl,trivial⟩) (λ_ _ _ _=>trivial) ?_ ?_
  ·intro i x τ J' hx hv
   obtain ⟨ds,rest,u,rfl,rfl,hD⟩:=(hInv _ _ _).mp hv
   rw [Ry] at hx
   obtain ⟨z,hz,rfl⟩:=S5.mp hx
   obtain ⟨z0,zb⟩:=hs z (RJ hz)
   have dl:=hD.len
   rw [RX] at dl
   simp_arith! [bE,ak,Rr]
   refine ⟨z0,aX (by omega),⟨by omega,zb⟩,(hInv _ _ _).mpr ⟨ds ++ [rest % z],_,_,rfl,?_,?_⟩⟩
   ·rw [bU,Rw];rfl
   ·rw [take1 hz];exact hD.snoc (Int.emod_nonneg _ (by omega)) (Int.emod_lt_of_pos _ z0)
  ·intro τ J' hv
   obtain ⟨ds,rest,u,rfl,rfl,hD⟩:=(hInv _ _ _).mp hv
   rw [Rr,RY] at hD
   refine hNq _ _ ?_
   simp_arith! [bE]
   exact fin ds hD
 ·rw [if_neg cc]
  refine hNq _ _ ?_
  clear hNq Nq
  simp_all! []
  refine ⟨by decide,hNq _ _ ?_⟩
  clear hNq Nq
  simp_all! [Rr]
  refine ⟨by omega,by omega,?_⟩
  obtain ⟨Inv,hInv⟩:∃Inv:Nat→Sr→Hq→Prop,∀i τ J',Inv i τ J'↔∃(ds:List Int) (one:Int) (u v:Option PV),τ=[some (.int c),some (.fl (ss.map .int)),some (.ref r),none,none,some (.int one),u,v]∧J'=put J r (.lst (ds.map .int))∧0≤one∧one < 2147483647∧Dig ds (ss.take i):=⟨_,λ_ _ _=>Iff.rfl⟩
  refine pP Inv ((hInv _ _ _).mpr ⟨[],_,none,none,rfl,rfl,Int.emod_nonneg _ (by decide),Int.emod_lt_of_pos _ (by decide),trivial⟩) ?_ ?_
  ·intro i τ J' hi hv
   obtain ⟨ds,one,u,v,rfl,rfl,o0,o1,hD⟩:=(hInv _ _ _).mp hv
   have hz:ss[i]?=some ss[i]:=Rt (by omega)
   obtain ⟨z0,zb⟩:=hs ss[i] (RZ (by omega))
   have dl:=hD.len
   rw [RX] at dl
   have e1:cZ (ss.map PV.int) (0 + (i:Int))=some (.int ss[i]):=by
    rw [Int.zero_add]
    exact bG (by rw [Ry,hz];rfl)
   have small:∀x:Int,0≤x→x < 2147483648→Bd 64 x:=λx h1 h2=>Bd.small (by omega) (by omega)
   have A0:0≤(one * 48271 + 10007 * (0 + (i:Int) + 1)) % 2147483629:=Int.emod_nonneg _ (by decide)
   have A1:(one * 48271 + 10007 * (0 + (i:Int) + 1)) % 2147483629 < 2147483629:=Int.emod_lt_of_pos _ (by decide)
   simp_arith! [bE,ak,e1,Rr]
   generalize (one * 48271 + 10007 * (0 + (i:Int) + 1)) % 2147483629=A at A0 A1 ⊢
   refine ⟨.of (small _ o0 (by omega)) (small _ (by decide) (by decide)),.of (small _ (by decide) (by decide)) (small _ (by omega) (by omega)),by decide,.of (small _ A0 (by omega)) (small _ A0 (by omega)),.of (small _ (by decide) (by decide)) (small _ A0 (by omega)),by decide,⟨by decide,(small _ (by decide) (by decide)).mono (by decide)⟩,z0,aX (by omega),?_⟩
   generalize ((A * A + 69621 * A + (0 + (i:Int))) % 2147483563).fdiv 11=B
   refine (hInv _ _ _).mpr ⟨ds ++ [B % ss[i]],A,_,_,rfl,?_,A0,by omega,?_⟩
   ·rw [bU,Rw];rfl
   ·rw [take1 hz];exact hD.snoc (Int.emod_nonneg _ (by omega)) (Int.emod_lt_of_pos _ z0)
  ·intro τ J' hv
   obtain ⟨ds,one,u,v,rfl,rfl,o0,o1,hD⟩:=(hInv _ _ _).mp hv
   rw [Int.toNat_natCast,RY] at hD
   refine hNq _ _ ?_
   simp_arith! [bE]
   exact fin ds hD
def aZ.V (l:aZ):PV:=.tup [fr l.m,fr l.p,.int l.v]
theorem Fe (m p:Rat) (v:Int):PV.tup [fr m,fr p,.int v]=(aZ.mk m p v).V:=rfl
theorem AA (J:Hq) (l:aZ):pE J l.V (.int 0)=some (fr l.m):=mx _ _
theorem AB (J:Hq) (l:aZ):pE J l.V (.int 1)=some (fr l.p):=oT _ _ _
theorem kO (J:Hq) (l:aZ):pE J l.V (.int 2)=some (.int l.v):=tS _ _ _ _
def pj:cG:=λxs J Q _=>∃(l:aZ) (t:Rat),xs=[l.V,fr t]∧Sz 900 l.m∧Sz 900 l.p∧Sz 900 t∧Bd 64 l.v∧Q (fr (l.at t)) J
abbrev lT:Stmt:=(top 28)
abbrev fj:List Str:=["leg","moment"]
theorem gK:L2.aw ["leg","moment","begun","place","pace"] ["leg","moment"] (L2.aq lT):=dI
theorem vI {f:Addr} {fd:FuncData} (F:bP K "place_on" "place_on" lT f fd) (Z:bD mg) (IJ:bF P w K mg base 3 "plus" AV (Cy λp q=>p + q)) (uE:bF P w K mg base 3 "minus" qT (Cy λp q=>p - q)) (FA:bF P w K mg base 3 "times" xU rK) :
  aH P w K mg base (cg P w) 4 f fd fj (cH K pj):=by
 simp_arith [gK,(ai (wk (rv 0) (qZ (n:=3) rfl (c5 (ba (i:=2) gK.nd) (c5 (ba (i:=3) gK.nd) (c5 (ba (i:=4) gK.nd) ni)))))
   (ar (aD (aQ IJ B hr (af (rv 3) (af (aQ FA B hr (af (aQ uE B hr (af (rv 1) (af (rv 2) ah))) (af (rv 4) ah))) ah))))))]
 ·obtain ⟨l,t,rfl,_⟩:=h;rfl
 obtain ⟨l,t,rfl,sb,sp,sm,bv,q⟩:=h
 have s1:Sz 1801 (t - l.m):=sm.sub sb
 have s2:Sz 1900 ((t - l.m) * (l.v:Rat)):=s1.mul bv
 refine hX ?_
 simp_arith! [bE,aZ.V,Cy,rK]
 exact ⟨sm.mono (by decide),sb.mono (by decide),s1.mono (by decide),bv.mono (by decide),sp.mono (by decide),s2.mono (by decide),q⟩
theorem ko (p q:Rat):p.num * (q.den:Int)=q.num * (p.den:Int)↔p=q:=by
 have a:=cast_eq p
 have b:=cast_eq q
 have c:=cv p
 have d:=cv q
 constructor
 ·intro h
  have h':((p.num * (q.den:Int):Int):Rat)=((q.num * (p.den:Int):Int):Rat):=by rw [h]
  rw [Rat.intCast_mul,Rat.intCast_mul,a,b] at h'
  grind
 ·intro h;rw [h]
def gv:Option Rat→PV
 | none=>.non
 | some q=>fr q
structure yB (cL:Addr) (J:Hq) (p r:Addr) (rows:List aZ) (g:Option Rat):Prop where
 o:J p=some (.ins cL [("rows",.ref r),("gone",gv g)])
 l:J r=some (.lst (rows.map aZ.V))
theorem yB.ne {cL:Addr} {J:Hq} {p r:Addr} {rows:List aZ} {g:Option Rat} (h:yB cL J p r rows g):r≠p:=by
 intro e;subst e;have:=h.o;rw [h.l] at this;cases this
structure nM (n:Nat) (l:aZ):Prop where
 m:Sz n l.m
 p:Sz n l.p
 v:Bd 64 l.v
theorem nM.mono {n k:Nat} {l:aZ} (h:nM n l) (e:n≤k):nM k l:=⟨h.m.mono e,h.p.mono e,h.v⟩
theorem Fq (a b:PV):([("rows",a),("gone",b)]:List (Str × PV)).lookup ("rows":Str)=some a:=rfl
theorem QJ (a b:PV):([("rows",a),("gone",b)]:List (Str × PV)).lookup ("gone":Str)=some b:=rfl
theorem Gf {m:Str} (a b:PV) (h:(m == ("rows":Str))=false) (k:(m == ("gone":Str))=false):([("rows",a),("gone",b)]:List (Str × PV)).lookup m=none:=by rw [R9,h];simp only;rw [R9,k];rfl
theorem O8 (a b:PV):([("rows",a),("gone",b)]:List (Str × PV)).lookup ("turn":Str)=none:=Gf a b (by decide +kernel) (by decide +kernel)
theorem MB (a b:PV):([("rows",a),("gone",b)]:List (Str × PV)).lookup ("there":Str)=none:=Gf a b (by decide +kernel) (by decide +kernel)
theorem MC (a b:PV):([("rows",a),("gone",b)]:List (Str × PV)).lookup ("leg_at":Str)=none:=Gf a b (by decide +kernel) (by decide +kernel)
theorem O9 (a b:PV):([("rows",a),("gone",b)]:List (Str × PV)).lookup ("twin":Str)=none:=Gf a b (by decide +kernel) (by decide +kernel)
theorem H_:(("rows":Str)=("gone":Str))=False:=eq_false (by decide +kernel)
theorem fW {J:Hq} {l:Addr} {o:HQ} (h:J l=none):gZ J (put J l o):=λa=>by
 by_cases e:a=l
 ·subst e;exact .inr h
 ·rw [aj e];exact .inl rfl
theorem GW (x z:PV):il ("gone":Str) z (il ("rows":Str) x [])=([("rows",x),("gone",z)]:List (Str × PV)):=by simp only [il,H_,if_false]
abbrev gg:Stmt:=(L2.inClass (top 32) 0)
abbrev fC:List Str:=["self","moment","place","pace"]
theorem pK:L2.aw ["self","moment","place","pace"] ["self","moment","place","pace"] (L2.aq gg):=dI
def wK (cL:Addr):cG:=λxs J Q _=>∃(p:Addr) (l:aZ),xs=[.ref p,fr l.m,fr l.p,.int l.v]∧J p=some (.ins cL [])∧∀r,J r=none→Q .non (put (put J r (.lst [l.V])) p (.ins cL [("rows",.ref r),("gone",.non)]))
theorem xI {cL f:Addr} {fd:FuncData} (F:bP K "__init__" "Log.__init__" gg f fd) (bx:df K mg "Log" cL) (aM:aA K cL "rows") (bM:aA K cL "gone"):aH P w K mg base (cg P w) 1 f fd fC (cH K (wK cL)):=by
 simp_arith [pK,(ai (c9 bx.cl aM (rv 0) (fF (af (bR (af (rv 1) (af (rv 2) (af (rv 3) ah)))) ah)))
   (ar (c9 bx.cl bM (rv 0) oA)))]
 ·obtain ⟨p,l,rfl,_⟩:=h;rfl
 obtain ⟨p,l,rfl,hp,q⟩:=h
 refine hX ?_
 simp_arith! [bE,Fe]
 intro r hr'
 have ne:p≠r:=by intro e;subst e;rw [hp] at hr';cases hr'
 refine dJ (by rw [aj ne];exact hp) ⟨by decide,dJ ak ⟨by show (1:Nat) < 1000;decide,?_⟩⟩
 rw [bU,GW]
 exact q r hr'
abbrev lN:Stmt:=(L2.inClass (top 32) 1)
abbrev o8:List Str:=["self","moment","pace"]
theorem pf:L2.aw ["self","moment","pace","place"] ["self","moment","pace"] (L2.aq lN):=dI
def Bi (cL:Addr):cG:=λxs J Q _=>∃p r rows g t v,xs=[.ref p,fr t,.int v]∧yB cL J p r rows g∧rows≠[]∧rows.length≤900∧Sz 900 t∧(∀l∈rows,nM 900 l)∧Q .non (put J r (.lst ((turned rows t v).map aZ.V)))
theorem xJ {cL f:Addr} {fd:FuncData} (F:bP K "turn" "Log.turn" lN f fd) (Z:bD mg) (bx:df K mg "Log" cL) (aM:aA K cL "rows") (cT:bF P w K mg base 4 "place_on" fj pj):aH P w K mg base (cg P w) 5 f fd o8 (cH K (Bi cL)):=by
 simp_arith [pf,(ai (aE (i:=3) pf.nd (aQ cT B hr (af (au av (aG bx.cl aM (rv 0)) (uu oR ag)) (af (rv 1) ah))))
   (m8 (aY (aJ (dN hr.aV) (au av (au av (aG bx.cl aM (rv 0)) (uu oR ag)) ag) (rv 1)) (ar (a_ (Kt PySem.F.plainAttrs_list PySem.F.slot_list_pop PySem.F.type_list_pop JJ (aG bx.cl aM (rv 0))))) aO)
   (ai (aY (dF (f_ (Kx (aG bx.cl aM (rv 0))) (eu (aJ (dN hr.aV) (au av (au av (aG bx.cl aM (rv 0)) (uu oR ag)) ag) (rv 2))))) (ar Hf) aO)
   (ar (a_ (fL PySem.F.plainAttrs_list PySem.F.slot_list_append PySem.F.type_list_append dz (aG bx.cl aM (rv 0)) (af (bR (af (rv 1) (af (rv 3) (af (rv 2) ah)))) ah)))))))]
 ·obtain ⟨p,r,rows,g,t,v,rfl,_⟩:=h;rfl
 obtain ⟨p,r,rows,g,t,v,rfl,b,hne,hl,st,sl,q⟩:=h
 obtain ⟨ls,l,rfl⟩:∃ls l,rows=ls ++ [l]:=⟨rows.dropLast,rows.getLast hne,(R' hne).symm⟩
 have bo:=b.o
 have bl:=b.l
 have npr:=b.ne
 have sl':=sl l (by simp)
 have hla:cZ ((ls ++ [l]).map aZ.V) (-1)=some l.V:=by rw [Rw];exact Af _ _
 refine hX ?_
 simp_arith! [bE,bo,bl,Fq]
 refine eZ hla ⟨l,t,rfl,sl'.m,sl'.p,st,sl'.v,?_⟩
 obtain ⟨M,hM⟩:∃M:Sr→Hq→Prop,∀τ' J',M τ' J'↔τ'=[some (.ref p),some (fr t),some (.int v),some (fr (l.at t))]∧J'=put J r (.lst ((if l.m=t then ls else ls ++ [l]).map aZ.V)):=⟨_,λ_ _=>Iff.rfl⟩
 refine ⟨M,?_,?_⟩
 ·simp_arith! [bE,bo,bl,Fq,hla,AA]
  split
  ·rename_i e
   refine ⟨l.V,by simp,(hM _ _).mpr ⟨rfl,?_⟩⟩
   rw [if_pos e,Rw,RD,Sq,Ta]
  ·rename_i e
   exact (hM _ _).mpr ⟨rfl,by rw [if_neg e,Kk bl]⟩
 ·intro τ' J' hm
  obtain ⟨rfl,rfl⟩:=(hM _ _).mp hm
  clear hm hM M
  have et:turned (ls ++ [l]) t v=if (if l.m=t then ls else ls ++ [l]).getLast?.map aZ.v=some v then (if l.m=t then ls else ls ++ [l]) else (if l.m=t then ls else ls ++ [l]) ++ [⟨t,l.at t,v⟩]:=by
   unfold turned
   simp only [R_,Ta]
  have hrl:(if l.m=t then ls else ls ++ [l]).length≤900:=by
   split
   ·rw [RL] at hl;omega
   ·exact hl
  rw [et] at q
  generalize (if l.m=t then ls else ls ++ [l])=rest at q hrl ⊢
  simp_arith! [bE,aj (Ne.symm npr),bo,Fq,bU,Fe]
  rcases List.eq_nil_or_concat rest with rfl | ⟨ks,k,rfl⟩
  ·simp only [List.getLast?_nil,Option.map_none,reduceCtorEq,if_false,Tf] at q
   simpa [HV,sizeLine] using q
  ·rw [List.concat_eq_append] at *
   rw [R_,Tz] at q
   have hk:cZ ((ks ++ [k]).map aZ.V) (-1)=some k.V:=by rw [Rw];exact Af _ _
   rw [if_pos (by simp)]
   simp_arith! [bE,aj (Ne.symm npr),bo,Fq,hk,kO,Rr]
   by_cases e:k.v=v
   ·rw [if_pos e];rw [if_pos (congrArg some e)] at q;exact q
   ·rw [if_neg e];rw [if_neg (λz=>e (Option.some.inj z))] at q
    simp_arith! [bE,aj (Ne.symm npr),bo,Fq,bU,Fe,Rr]
    refine ⟨aX (by omega),?_⟩
    rw [Rw] at q
    exact q
theorem Q7 {rows:List aZ} {i:Nat} {b:aZ} (h:rows[i]?=some b):cZ (rows.map aZ.V) (i:Int)=some b.V:=bG (by rw [Ry,h];rfl)
abbrev oC:Stmt:=(top 20)
abbrev qR:List Str:=["rows","moment"]
theorem lV:L2.aw ["rows","moment","at"] ["rows","moment"] (L2.aq oC):=dI
def x9:cG:=λxs J Q _=>∃(x:PV) (t:Rat) (ys:List PV) (ms:List Rat),xs=[x,fr t]∧nK J x=some ys∧ys.length=ms.length∧ms.length≤900∧(∀(i:Nat) y m,ys[i]?=some y→ms[i]?=some m→pE J y (.int 0)=some (fr m))∧Sz 9000 t∧(∀m∈ms,Sz 9000 m)∧Q (.int ((lb ms t ms.length:Int) - 1)) J
theorem xM {f:Addr} {fd:FuncData} (F:bP K "last_by" "last_by" oC f fd) (Z:bD mg) (dG:bF P w K mg base 1 "less" gF cX):aH P w K mg base (cg P w) 2 f fd qR (cH K x9):=by
 simp_arith [lV,(ai (aE (i:=2) lV.nd (az c8 (aL cJ rfl Z.len boot_len (af (rv 0) ah)) ag))
   (ai (fk bq (dF (f_ (aJ AL (rv 2) ag) (eu (bz (aQ dG B hr (af (rv 1) (af (au av (au av (rv 0) (rv 2)) ag) ah))))))) (ar (EJ (i:=2) lV.nd ag DF)))
   (ar (aD (rv 2)))))]
 ·obtain ⟨x,t,ys,ms,rfl,_⟩:=h;rfl
 obtain ⟨x,t,ys,ms,rfl,hx,hlen,hl,h0,st,sm,q⟩:=h
 refine hX ?_
 simp_arith! [bE,DQ hx,hlen]
 refine ⟨λk τ J'=>∃j:Nat,τ=[some x,some (fr t),some (.int ((j:Int) - 1))]∧J'=J∧j≤ms.length∧k=j∧lb ms t ms.length=lb ms t j,⟨_,ms.length,rfl,rfl,Rz _,rfl,rfl⟩,?_⟩
 rintro k τ J' ⟨j,rfl,rfl,hj,rfl,hb⟩
 simp_arith! [bE,HX hx,cX]
 cases k with
 | zero =>
  rw [if_neg (by omega)]
  rw [hb] at q
  exact q
 | succ k =>
  rw [if_pos (by omega)]
  obtain ⟨y,hy⟩:∃y,ys[k]?=some y:=⟨_,Rt (by omega)⟩
  obtain ⟨m,hm⟩:∃m,ms[k]?=some m:=⟨_,Rt (by omega)⟩
  have ha:cZ ys (((k + 1:Nat):Int) - 1)=some y:=by
   have:((k + 1:Nat):Int) - 1=(k:Int):=by omega
   rw [this];exact bG hy
  have em:ms.getD k 0=m:=by simp [UB,hm]
  have hu:lb ms t (k + 1)=if m≤t then k + 1 else lb ms t k:=by
   show (if ms.getD k 0≤t then k + 1 else lb ms t k)=_
   rw [em]
  refine eZ ha (eZ (h0 k y m hy hm) ?_)
  simp_arith! [bE]
  refine ⟨st,sm m (RJ hm),?_⟩
  by_cases c:t < m
  ·rw [if_pos c]
   have hn:¬ m≤t:=Rat.not_le.mpr c
   rw [if_neg hn] at hu
   refine ⟨λτ J''=>τ=[some x,some (fr t),some (.int ((k:Int) - 1))]∧J''=J',λτ' J'' ⟨e1,e2⟩=>⟨k,SU _,k,e1,e2,by omega,rfl,by rw [hb,hu]⟩,?_⟩
   simp_arith! [bE]
   have:((k + 1:Nat):Int) - 1 - 1=(k:Int) - 1:=by omega
   exact this
  ·rw [if_neg c]
   rw [if_pos (Rat.not_lt.mp c)] at hu
   rw [hb,hu] at q
   exact q
abbrev j_:Stmt:=(L2.inClass (top 32) 5)
abbrev iT:List Str:=["self","moment"]
theorem nu:L2.aw ["self","moment","joined"] ["self","moment"] (L2.aq j_):=dI
def rF (cL:Addr):cG:=λxs J Q _=>∃p r rows g t,xs=[.ref p,fr t]∧yB cL J p r rows g∧rows≠[]∧Sz 900 t∧(∀l∈rows,nM 900 l)∧(∀q,g=some q→Sz 900 q)∧Q (.bl (there rows g t)) J
theorem vD {cL f:Addr} {fd:FuncData} (F:bP K "there" "Log.there" j_ f fd) (Z:bD mg) (bx:df K mg "Log" cL) (aM:aA K cL "rows") (bM:aA K cL "gone") (dG:bF P w K mg base 1 "less" gF cX):aH P w K mg base (cg P w) 2 f fd iT (cH K (rF cL)):=by
 simp_arith [nu,(ai (aE (i:=2) nu.nd (au av (au av (aG bx.cl aM (rv 0)) ag) ag))
   (ai (aY (bz (aQ dG B hr (af (rv 1) (af (rv 2) ah)))) (ar (aD eL)) aO)
   (ar (aD (NG (er M1 (aG bx.cl bM (rv 0)) oA) (wj (aQ dG B hr (af (rv 1) (af (aG bx.cl bM (rv 0)) ah)))))))))]
 ·obtain ⟨p,r,rows,g,t,rfl,_⟩:=h;rfl
 obtain ⟨p,r,rows,g,t,rfl,b,hne,st,sl,sg,q⟩:=h
 have bo:=b.o
 have bl:=b.l
 obtain ⟨l,ls,rfl⟩:∃l ls,rows=l :: ls:=SQ hne
 have sl':=(sl l (by simp)).m
 refine hX ?_
 simp_arith! [bE,bo,bl,Fq,QJ,AA,cX]
 refine ⟨st.mono (by decide),sl'.mono (by decide),?_⟩
 unfold there at q
 simp only [TH] at q
 by_cases c:t < l.m
 ·rw [if_pos c]
  rw [decide_eq_true c] at q
  exact q
 ·rw [if_neg c]
  rw [decide_eq_false c] at q
  cases g with
  | none=>simpa [gv,Md,IF,Oe] using q
  | some u =>
   simp only [gv,uZ,RV,if_false]
   simp only [Oe] at q
   refine ⟨u,rfl,st.mono (by decide),(sg u rfl).mono (by decide),?_⟩
   simpa using q
abbrev jb:Stmt:=(L2.inClass (top 32) 6)
abbrev gP:List Str:=["self","moment"]
theorem tK:L2.aw ["self","moment"] ["self","moment"] (L2.aq jb):=dI
def rE (cL eN:Addr):cG:=λxs J Q E=>∃p r rows g t,xs=[.ref p,fr t]∧yB cL J p r rows g∧rows≠[]∧rows.length≤900∧Sz 900 t∧(∀l∈rows,nM 900 l)∧(∀q,g=some q→Sz 900 q)∧(there rows g t=true→∀l,hU rows t=some l→Q l.V J)∧(there rows g t=false→E eN J)
theorem tq {cL eN f:Addr} {fd:FuncData} (F:bP K "leg_at" "Log.leg_at" jb f fd) (Z:bD mg) (bx:df K mg "Log" cL) (aM:aA K cL "rows") (dh:Own K mg "NotThere" eN) (d5:cq P w K mg base cL 2 "there" iT (rF cL))
  (BC:bF P w K mg base 2 "last_by" qR x9):aH P w K mg base (cg P w) 3 f fd gP (cH K (rE cL eN)):=by
 simp_arith [tK,(ai (aY (cW (bz (a9 (pl:=_) d5 B hr (rv 0) (af (rv 1) ah)))) (ar (dP dh rfl cA B.kn rfl (af b_ ah))) aO)
   (ar (aD (au av (aG bx.cl aM (rv 0)) (aQ BC B hr (af (aG bx.cl aM (rv 0)) (af (rv 1) ah)))))))]
 ·obtain ⟨p,r,rows,g,t,rfl,_⟩:=h;rfl
 obtain ⟨p,r,rows,g,t,rfl,b,hne,hl,st,sl,sg,q,qe⟩:=h
 have bo:=b.o
 have bl:=b.l
 refine hX ?_
 simp_arith! [bE,bo,bl,Fq]
 refine ⟨MB _ _,p,r,rows,g,t,rfl,b,hne,st,sl,sg,?_⟩
 simp_arith! [bE,fE,bo,bl,Fq]
 cases hc:there rows g t with
 | false=>rw [if_pos rfl];exact qe hc
 | true =>
  rw [if_neg (by decide)]
  obtain ⟨l,h1,h2,h3,h4,h5⟩:=yj hc
  refine ⟨_,t,rows.map aZ.V,rows.map aZ.m,rfl,by simp_arith! [bE,bl],by simp,by simpa using hl,?_,st.mono (by decide),?_,?_⟩
  ·intro i y m hy hm
   rw [Ry] at hy hm
   cases e:rows[i]? with
   | none=>rw [e] at hy;cases hy
   | some z=>rw [e] at hy hm;cases hy;cases hm;exact AA _ _
  ·intro m hm
   obtain ⟨z,hz,rfl⟩:=Ru.mp hm
   exact (sl z hz).m.mono (by decide)
  ·rw [Rr]
   simp_arith! [bE,bl]
   refine eZ (x:=l.V) ?_ (q hc l h1)
   have:((lb (rows.map aZ.m) t rows.length:Nat):Int) - 1=((lb (rows.map aZ.m) t rows.length - 1:Nat):Int):=by omega
   rw [this]
   exact Q7 h5
theorem GV (a b z:PV):il ("gone":Str) z ([("rows",a),("gone",b)]:List (Str × PV))=([("rows",a),("gone",z)]:List (Str × PV)):=by simp only [il,H_,if_false,if_true]
theorem AU (a b z:PV):il ("rows":Str) z ([("rows",a),("gone",b)]:List (Str × PV))=([("rows",z),("gone",b)]:List (Str × PV)):=by simp only [il,if_true]
theorem jA {l:aZ} {t:Rat} (h:nM 900 l) (sm:Sz 900 t):Sz 3000 (l.at t):=by
 have s1:Sz 1801 (t - l.m):=sm.sub h.m
 have s2:Sz 1900 ((t - l.m) * (l.v:Rat)):=s1.mul h.v
 exact h.p.add s2
abbrev gT:Stmt:=(top 30)
abbrev jX:List Str:=["name","leg","other_name","other_leg","moment"]
theorem gi:L2.aw ["name","leg","other_name","other_leg","moment","place","other_place"] ["name","leg","other_name","other_leg","moment"] (L2.aq gT):=dI
def EX:cG:=λxs J Q _=>∃(n n':Str) (l l':aZ) (t:Rat),xs=[.str n,l.V,.str n',l'.V,fr t]∧nM 900 l∧nM 900 l'∧Sz 900 t∧Q (.bl ((key t (n,l)).lt (key t (n',l')))) J
theorem pH {f:Addr} {fd:FuncData} (F:bP K "lies_behind" "lies_behind" gT f fd) (Z:bD mg) (cT:bF P w K mg base 4 "place_on" fj pj) (dG:bF P w K mg base 1 "less" gF cX):aH P w K mg base (cg P w) 5 f fd jX (cH K EX):=by
 simp_arith [gi,(ai (aE (i:=5) gi.nd (aQ cT B hr (af (rv 1) (af (rv 4) ah))))
   (ai (aE (i:=6) gi.nd (aQ cT B hr (af (rv 3) (af (rv 4) ah))))
   (ai (aY (aJ (fK hr.aV) (rv 5) (rv 6)) (ar (aD (aQ dG B hr (af (rv 5) (af (rv 6) ah))))) aO)
   (ai (aY (aJ (fK hr.aV) (au av (rv 1) ag) (au av (rv 3) ag)) (ar (aD (er gC (au av (rv 1) ag) (au av (rv 3) ag)))) aO)
   (ar (aD (er zk (rv 0) (rv 2))))))))]
 ·obtain ⟨n,n',l,l',t,rfl,_⟩:=h;rfl
 obtain ⟨n,n',l,l',t,rfl,sl,sl',st,q⟩:=h
 refine hX ?_
 simp_all! []
 refine ⟨l,t,rfl,sl.m,sl.p,st,sl.v,?_⟩
 simp_all! []
 refine ⟨l',t,rfl,sl'.m,sl'.p,st,sl'.v,?_⟩
 have a1:=jA sl st
 have a2:=jA sl' st
 simp_all! []
 unfold Ky.lt key at q
 dsimp only at q
 by_cases e:l.at t=l'.at t
 ·rw [if_pos e] at q
  rw [if_pos e]
  simp_all! [kO]
  by_cases e2:l.v=l'.v
  ·rw [if_pos e2] at q
   rw [if_pos e2]
   simp_all! []
   exact q
  ·rw [if_neg e2] at q
   rw [if_neg e2]
   simp_all! [kO]
   exact q
 ·rw [if_neg e] at q
  rw [if_neg e]
  simp_all! [cX]
  exact ⟨a1.mono (by decide),a2.mono (by decide),q⟩
abbrev lQ:Stmt:=(top 44)
abbrev jW:List Str:=["legs","moment"]
theorem fo:L2.aw ["legs","moment","names","name","at"] ["legs","moment"] (L2.aq lQ):=dI
def cj (fs:List (Str × aZ)):List (Str × PV):=fs.map λx=>(x.1,x.2.V)
def oN:cG:=λxs J Q _=>∃(D:Addr) (fs:List (Str × aZ)) (ep:Nat) (t:Rat),xs=[.ref D,fr t]∧J D=some (.dct (cj fs) ep)∧(fs.map (·.1)).Nodup∧fs.length≤100∧Sz 900 t∧(∀x∈fs,nM 900 x.2)∧∀p,J p=none→Q (.ref p) (put J p (.lst ((bZ t fs).map .str)))
theorem vF {f:Addr} {fd:FuncData} (F:bP K "in_order" "in_order" lQ f fd) (Z:bD mg) (rX:bF P w K mg base 5 "lies_behind" jX EX):aH P w K mg base (cg P w) 6 f fd jW (cH K oN):=by
 simp_arith [fo,(ai (aE (i:=2) fo.nd (fF ah))
   (ai (cQ bq rfl (fP (rv 0)) (ba (i:=3) fo.nd) (ai (aE (i:=4) fo.nd (aL cJ rfl Z.len boot_len (af (rv 2) ah)))
   (ai (fk bq (dF (f_ (aJ o6 (rv 4) ag) (eu (bz (aQ rX B hr (af (rv 3) (af (au cK (rv 0) (rv 3)) (af (au av (rv 2) (az c8 (rv 4) ag)) (af (au cK (rv 0) (au av (rv 2) (az c8 (rv 4) ag))) (af (rv 1) ah)))))))))) (ar (EJ (i:=4) fo.nd ag DF)))
   (ar (a_ (fL PySem.F.plainAttrs_list PySem.F.slot_list_insert PySem.F.type_list_insert hZ (rv 2) (af (rv 4) (af (rv 3) ah))))))))
   (ar (aD (rv 2)))))]
 ·obtain ⟨D,fs,ep,t,rfl,_⟩:=h;rfl
 obtain ⟨D,fs,ep,t,rfl,hD,hnd,hlen,st,sl,q⟩:=h
 refine hX ?_
 simp_all! []
 intro r hr'
 have nDr:D≠r:=by intro e;subst e;rw [hD] at hr';cases hr'
 simp_all! [aj nDr,hD]
 have hkv:(cj fs).map (λkv=>PV.str kv.1)=fs.map λx=>PV.str x.1:=by unfold cj;rw [RK];rfl
 rw [hkv]
 obtain ⟨Inv,hInv⟩:∃Inv:Nat→Sr→Hq→Prop,∀i τ J',Inv i τ J'↔∃(u3 u4:Option PV),τ=[some (.ref D),some (fr t),some (.ref r),u3,u4]∧J'=put J r (.lst ((bZ t (fs.take i)).map .str)):=⟨_,λ_ _ _=>Iff.rfl⟩
 refine dZ Inv ((hInv _ _ _).mpr ⟨_,_,rfl,rfl⟩) (λi τ J' h=>?_) ?_ ?_
 ·obtain ⟨_,_,_,rfl⟩:=(hInv _ _ _).mp h
  rw [aj nDr];exact hD
 ·intro i x τ J' hx hv
  obtain ⟨u3,u4,rfl,rfl⟩:=(hInv _ _ _).mp hv
  clear hv
  have hi:i < fs.length:=by have:=(Rv.mp hx).1;simpa using this
  rw [Ry,Rt hi] at hx
  cases hx
  rcases hfi:fs[i] with ⟨n,l⟩
  have hmem:(n,l)∈fs:=by rw [← hfi];exact RZ hi
  have et:fs.take (i + 1)=fs.take i ++ [(n,l)]:=by rw [RQ,Rt hi,hfi];rfl
  have hndt:((fs.take (i + 1)).map (·.1)).Nodup:=by rw [So];exact hnd.sublist (R4 _ _)
  rw [et,Rw,RD,Sq] at hndt
  obtain ⟨hnd1,hnew⟩:=cF hndt
  obtain ⟨ys,hys⟩:∃ys,d9 ((fs.take i).map (key t))=ys:=⟨_,rfl⟩
  have srt:pz Ky.lt ys:=by rw [← hys];exact f6 (by rw [cM];exact hnd1)
  have hyl:ys.length=i:=by rw [← hys,mR,Rr,RX];omega
  have hym:∀y∈ys,∃l',(y.n,l')∈fs∧y=key t (y.n,l')∧y.n≠n:=λy hy=>by
   rw [← hys,bS,Ru] at hy
   obtain ⟨x',hx',rfl⟩:=hy
   exact ⟨x'.2,Sg hx',rfl,λe=>hnew (Ru.mpr ⟨x',hx',e⟩)⟩
  have eo:(bZ t (fs.take i)).map PV.str=ys.map λy=>PV.str y.n:=by unfold bZ;rw [hys,RK];rfl
  have en:(bZ t (fs.take (i + 1))).map PV.str=(pB Ky.lt (key t (n,l)) ys).map λy=>PV.str y.n:=by
   unfold bZ;rw [et,Rw,RD,Sq,h_,hys,RK];rfl
  rw [eo]
  have hvn:jx (cj fs) n=some l.V:=gY (f:=aZ.V) hnd hmem
  have sll:=sl _ hmem
  simp_all! [ak,Rr]
  refine ⟨λm τ' J'=>m≤ys.length∧τ'=[some (.ref D),some (fr t),some (.ref r),some (.str n),some (.int (m:Nat))]∧J'=put J r (.lst (ys.map λy=>PV.str y.n))∧∀(j:Nat) y,m≤j→ys[j]?=some y→(key t (n,l)).lt y=true,⟨ys.length,Rz _,rfl,rfl,λj y hj e=>by rw [Sw hj] at e;cases e⟩,?_⟩
  rintro m τ' J' ⟨hm,rfl,rfl,hall⟩
  have fin:(∀(j:Nat) y,j < m→ys[j]?=some y→y.lt (key t (n,l))=true)→Inv (i + 1) [some (.ref D),some (fr t),some (.ref r),some (.str n),some (.int (m:Nat))] (put J r (.lst ((ys.map λy=>PV.str y.n).take m ++ .str n :: (ys.map λy=>PV.str y.n).drop m))):=λhlow=>by
   refine (hInv _ _ _).mpr ⟨_,_,rfl,?_⟩
   rw [en,← Ax hm hlow λj y hj e=>Ky.LJ (hall j y hj e),Rw,RD,So,S4]
   rfl
  simp_all! [ak,aj nDr,hD,hvn]
  by_cases c0:0 < m
  ·rw [if_pos (by omega)]
   obtain ⟨m',rfl⟩:∃m',m=m' + 1:=⟨m - 1,by omega⟩
   obtain ⟨y,hy⟩:∃y,ys[m']?=some y:=⟨_,Rt (by omega)⟩
   obtain ⟨l',hl',ey,ny⟩:=hym y (RJ hy)
   have ha:cZ (ys.map λy=>PV.str y.n) (((m' + 1:Nat):Int) - 1)=some (.str y.n):=by
    rw [show ((m' + 1:Nat):Int) - 1=((m':Nat):Int) by omega]
    exact bG (by rw [Ry,hy];rfl)
   have hvy:jx (cj fs) y.n=some l'.V:=gY (f:=aZ.V) hnd hl'
   simp_all! [ha,ak,aj nDr,hD,hvn,hvy]
   refine ⟨n,y.n,l,l',t,rfl,sll,sl _ hl',st,?_⟩
   rw [← ey]
   cases hc:(key t (n,l)).lt y with
   | true =>
    simp_all! []
    refine ⟨_,λτ'' J'' h=>⟨m',SU _,h⟩,⟨by omega,?_,rfl,λj z hj e=>?_⟩⟩
    ·rw [show ((m' + 1:Nat):Int) - 1=((m':Nat):Int) by omega]
    ·rcases S3 hj with h | h
     ·exact hall j z (by omega) e
     ·subst h;rw [hy] at e;cases e;exact hc
   | false =>
    simp_all! [ak]
    refine ⟨_,m' + 1,rfl,rfl,by rw [Rr];omega,aX (by rw [Rr];omega),by omega,?_⟩
    rw [bU]
    refine fin λj z hj e=>?_
    have hyx:y.lt (key t (n,l))=true:=by
     rcases Ky.NU (a:=y) (b:=key t (n,l)) ny with h | h
     ·exact h
     ·rw [hc] at h;cases h
    exact yh (lt:=Ky.lt) Ky.tr srt hy e (by omega) hyx
  ·rw [if_neg (by omega)]
   simp_all! [ak]
   refine ⟨_,m,rfl,rfl,by rw [Rr];omega,aX (by rw [Rr];omega),by omega,?_⟩
   rw [bU]
   exact fin λj z hj e=>by omega
 ·intro τ J' hv
  obtain ⟨u3,u4,rfl,rfl⟩:=(hInv _ _ _).mp hv
  rw [Rr,RY]
  simp_all! []
  exact q r hr'
def nW (K:PySem.W.Frag) (mg:Str→Option Value):Prop:=∃a:Addr,mg "NOUGHT"=some (.ref a)∧∀H:Hp,fu K H a [.int 0,.int 1]
theorem Ca {K:PySem.W.Frag} {h:Heap} {mg:Str→Option Value} (X:K.In h) (G:h.Ns mainGlobals mg) {a:Addr} {od:Option Addr} {n:Nat} {sl:Array (Option Value)} {t u:Tok}
  (e:PySem.W.nsIn K mainGlobals "NOUGHT"=some (some (.ref a))) (l:K.lookup a=some ⟨.type "tuple",od,.seq #[.int 0 t,.int 1 u] n,sl⟩):nW K mg :=
 ⟨a,PySem.W.mg_of X G e,λ_=>.inr ⟨_,_,_,l,rfl,rfl,(by show 2≤sizeLine;decide),.cons ⟨t,rfl⟩ (.cons ⟨u,rfl⟩ .nil)⟩⟩
structure Cf where
 n:Str
 a:Addr
 r:Addr
 w:List aZ
 g:Option Rat
structure Ln where
 t:Rat
 d:Addr
 e:Nat
 o:Addr
 cs:List Cf
 row:List Str
def Cf.cur (c:Cf):aZ:=c.w.getLast?.getD ⟨0,0,0⟩
def Ln.CN (L:Ln):List Cf:=L.cs.filter λc=>c.g.isNone
def Ln.fs (L:Ln):List (Str × aZ):=L.CN.map λc=>(c.n,c.cur)
structure bj (cN cL:Addr) (J:Hq) (p:Addr) (L:Ln):Prop where
 ob:J p=some (.ins cN [("now",fr L.t),("logs",.ref L.d),("row",.ref L.o)])
 dc:J L.d=some (.dct (L.cs.map λc=>(c.n,PV.ref c.a)) L.e)
 rw:J L.o=some (.lst (L.row.map .str))
 lg:∀c∈L.cs,yB cL J c.a c.r c.w c.g
 ap:(L.cs.map Cf.r).Nodup
 ao:∀c∈L.cs,c.r≠L.o
structure a8 (L:Ln):Prop where
 nd:(L.cs.map Cf.n).Nodup
 ne:∀c∈L.cs,c.w≠[]
 le:∀c∈L.cs,∀l∈c.w,l.m≤L.t
 ck:∀c∈L.cs,∀l∈c.w,rV l
 len:∀c∈L.cs,c.w.length≤200
 gz:∀c∈L.cs,∀q,c.g=some q→Sc gM MM q∧q≤L.t
 t0:0≤L.t
 ts:Sc gM MM L.t
 many:L.cs.length≤100
 rm:∀n,n∈L.row↔n∈L.fs.map (·.1)
 rn:L.row.Nodup
 rl:L.row.length≤12
structure cy (L:Ln):Prop extends a8 L where
 row:L.row=bZ L.t L.fs
def Ln.own (L:Ln) (p a:Addr):Prop:=a=p∨a=L.d∨a=L.o∨∃c∈L.cs,a=c.a∨a=c.r
structure Mv (J J':Hq) (S S':Addr→Prop):Prop where
 keep:∀a o,J a=some o→¬ S a→J' a=some o
 own:∀a,S' a→S a∨J a=none
 mono:∀a,J' a=none→J a=none
theorem Mv.refl (J:Hq) (S:Addr→Prop):Mv J J S S:=⟨λ_ _ h _=>h,λ_ h=>.inl h,λ_ h=>h⟩
theorem Mv.trans {J J' J'':Hq} {S S' S'':Addr→Prop} (h:Mv J J' S S') (k:Mv J' J'' S' S''):Mv J J'' S S'':=by
 refine ⟨λa o e n=>k.keep a o (h.keep a o e n) λz=>?_,λa z=>?_,λa z=>h.mono a (k.mono a z)⟩
 ·rcases h.own a z with q | q
  ·exact n q
  ·rw [q] at e;cases e
 ·rcases k.own a z with q | q
  ·exact h.own a q
  ·exact .inr (h.mono a q)
theorem Mv.new {J:Hq} {S:Addr→Prop} {x:Addr} {o:HQ} (h:J x=none):Mv J (put J x o) S S:=by
 refine ⟨λa u e _=>?_,λ_ z=>.inl z,λa z=>?_⟩
 ·rw [aj (λq=>by subst q;rw [h] at e;cases e)];exact e
 ·by_cases q:a=x
  ·subst q;rw [ak] at z;cases z
  ·rw [aj q] at z;exact z
theorem Mv.y_ {J:Hq} {S:Addr→Prop} {x:Addr} {o:HQ} (h:J x=none):Mv J (put J x o) S (λa=>S a∨a=x) :=
 ⟨(Mv.new (S:=S) h).keep,λa z=>z.elim .inl λe=>.inr (by rw [e];exact h),(Mv.new (S:=S) h).mono⟩
theorem bj.keep {cN cL:Addr} {J J':Hq} {p:Addr} {L:Ln} (h:bj cN cL J p L) (k:∀a o,L.own p a→J a=some o→J' a=some o):bj cN cL J' p L :=
 ⟨k _ _ (.inl rfl) h.ob,k _ _ (.inr (.inl rfl)) h.dc,k _ _ (.inr (.inr (.inl rfl))) h.rw,λc hc=>⟨k _ _ (.inr (.inr (.inr ⟨c,hc,.inl rfl⟩))) (h.lg c hc).o,k _ _ (.inr (.inr (.inr ⟨c,hc,.inr rfl⟩))) (h.lg c hc).l⟩,h.ap,h.ao⟩
theorem bj.some {cN cL:Addr} {J:Hq} {p:Addr} {L:Ln} (h:bj cN cL J p L) {a:Addr} (o:L.own p a):J a≠none:=by
 rcases o with rfl | rfl | rfl | ⟨c,hc,rfl | rfl⟩
 ·rw [h.ob];exact λz=>nomatch z
 ·rw [h.dc];exact λz=>nomatch z
 ·rw [h.rw];exact λz=>nomatch z
 ·rw [(h.lg c hc).o];exact λz=>nomatch z
 ·rw [(h.lg c hc).l];exact λz=>nomatch z
theorem bj.fresh {cN cL:Addr} {J:Hq} {p x:Addr} {L:Ln} {o:HQ} (h:bj cN cL J p L) (hx:J x=none):bj cN cL (put J x o) p L :=
 h.keep λa u ow e=>by rw [aj (λq=>by subst q;rw [hx] at e;cases e)];exact e
theorem yT {J:Hq} {a b C C':Addr} {fs gs:List (Str × PV)} (h:J a=Sf (.ins C fs)) (k:J b=Sf (.ins C' gs)) (n:fs.map (·.1)≠gs.map (·.1)):a≠b:=by
 intro e;subst e;rw [h] at k
 have:=HQ.ins.inj (Option.some.inj k)
 exact n (by rw [this.2])
theorem bj.AG {cN cL:Addr} {J:Hq} {p:Addr} {L:Ln} (h:bj cN cL J p L):L.d≠p:=by intro e;have:=h.ob;rw [← e,h.dc] at this;cases this
theorem bj.Ia {cN cL:Addr} {J:Hq} {p:Addr} {L:Ln} (h:bj cN cL J p L):L.o≠p:=by intro e;have:=h.ob;rw [← e,h.rw] at this;cases this
theorem bj.QM {cN cL:Addr} {J:Hq} {p:Addr} {L:Ln} (h:bj cN cL J p L):L.d≠L.o:=by intro e;have:=h.rw;rw [← e,h.dc] at this;cases this
theorem qD:([("rows":Str),("gone":Str)]:List Str)≠[("now":Str),("logs":Str),("row":Str)]:=by decide +kernel
theorem bj.QL {cN cL:Addr} {J:Hq} {p:Addr} {L:Ln} (h:bj cN cL J p L) {c:Cf} (hc:c∈L.cs):c.a≠p:=yT (h.lg c hc).o h.ob qD
theorem bj.Ll {cN cL:Addr} {J:Hq} {p:Addr} {L:Ln} (h:bj cN cL J p L) {c:Cf} (hc:c∈L.cs):c.r≠p:=by intro e;have:=h.ob;rw [← e,(h.lg c hc).l] at this;cases this
theorem bj.Rb {cN cL:Addr} {J:Hq} {p:Addr} {L:Ln} (h:bj cN cL J p L) {c:Cf} (hc:c∈L.cs):c.a≠L.d:=by intro e;have:=h.dc;rw [← e,(h.lg c hc).o] at this;cases this
theorem bj.QN {cN cL:Addr} {J:Hq} {p:Addr} {L:Ln} (h:bj cN cL J p L) {c:Cf} (hc:c∈L.cs):c.r≠L.d:=by intro e;have:=h.dc;rw [← e,(h.lg c hc).l] at this;cases this
theorem bj.Rc {cN cL:Addr} {J:Hq} {p:Addr} {L:Ln} (h:bj cN cL J p L) {c:Cf} (hc:c∈L.cs):c.a≠L.o:=by intro e;have:=h.rw;rw [← e,(h.lg c hc).o] at this;cases this
theorem bj.Rf {cN cL:Addr} {J:Hq} {p:Addr} {L:Ln} (h:bj cN cL J p L) {c c':Cf} (hc:c∈L.cs) (hc':c'∈L.cs):c.a≠c'.r:=by intro e;have:=(h.lg c' hc').l;rw [← e,(h.lg c hc).o] at this;cases this
theorem bj.KD {cN cL:Addr} {J:Hq} {p o':Addr} {L:Ln} {row:List Str} (h:bj cN cL J p L) (ho:J o'=Sf (.lst (row.map .str))) (nc:∀c∈L.cs,c.r≠o'):bj cN cL (put J p (.ins cN [("now",fr L.t),("logs",.ref L.d),("row",.ref o')])) p { L with o:=o',row:=row } :=
 ⟨ak,by show put J p _ L.d=_;rw [aj h.AG];exact h.dc,by show put J p _ o'=_;rw [aj (λe=>by rw [e,h.ob] at ho;cases ho)];exact ho,
  λc hc=>⟨by rw [aj (h.QL hc)];exact (h.lg c hc).o,by rw [aj (h.Ll hc)];exact (h.lg c hc).l⟩,h.ap,nc⟩
theorem jQ {J:Hq} {S S':Addr→Prop} {x:Addr} {o:HQ} (hx:S x) (hS:∀a,S' a→S a∨J a=none):Mv J (put J x o) S S':=by
 refine ⟨λa u e n=>?_,hS,λa z=>?_⟩
 ·rw [aj (λq=>by subst q;exact n hx)];exact e
 ·by_cases q:a=x
  ·subst q;rw [ak] at z;cases z
  ·rw [aj q] at z;exact z
theorem a8.Fu {L:Ln} (h:a8 L):Sz 900 L.t:=(oZ h.ts).mono (by decide)
theorem rV.Fs {l:aZ} (h:rV l):nM 900 l:=⟨h.QK.mono (by decide),h.Pl.mono (by decide),.small (by have:=h.v;omega) (by have:=h.v;omega)⟩
theorem Cf.fN {c:Cf} (h:c.w≠[]):c.w.getLast?=Sf c.cur∧c.cur∈c.w:=by
 unfold Cf.cur
 rw [List.getLast?_eq_some_getLast h]
 exact ⟨rfl,List.getLast_mem h⟩
theorem a8.Ra {L:Ln} (h:a8 L) {c:Cf} (hc:c∈L.cs):hU c.w L.t=Sf c.cur:=by
 unfold hU
 rw [Sl.mpr λl hl=>decide_eq_true (h.le c hc l hl)]
 exact (Cf.fN (h.ne c hc)).1
theorem a8.there {L:Ln} (h:a8 L) {c:Cf} (hc:c∈L.cs) (hg:c.g=none):there c.w c.g L.t=true:=by
 obtain ⟨l,ls,e⟩:=SQ (h.ne c hc)
 have:=h.le c hc l (by rw [e];simp)
 rw [hg,e]
 unfold Ov.there
 simp only [TH,Oe,SN]
 rw [decide_eq_false (Rat.not_lt.mpr this)];rfl
theorem Ln.dA {L:Ln} {c:Cf}:c∈L.CN↔c∈L.cs∧c.g=none:=by
 unfold Ln.CN
 rw [RU]
 cases c.g <;> simp
theorem fU (L:Ln):L.fs.map (·.1)=L.CN.map Cf.n:=by unfold Ln.fs;rw [RK];rfl
theorem a8.Lk {L:Ln} (h:a8 L):(L.fs.map (·.1)).Nodup:=by
 rw [fU]
 unfold Ln.CN
 exact h.nd.sublist (List.Sublist.map _ List.filter_sublist)
theorem a8.found {L:Ln} (h:a8 L) {n:Str} (hn:n∈L.row):∃c∈L.cs,c.n=n∧c.g=none:=by
 have:=(h.rm n).mp hn
 rw [fU,Ru] at this
 obtain ⟨c,hc,e⟩:=this
 exact ⟨c,(Ln.dA.mp hc).1,e,(Ln.dA.mp hc).2⟩
theorem a8.va {L:Ln} (h:a8 L) {c:Cf} (hc:c∈L.cs):jx (L.cs.map λc=>(c.n,PV.ref c.a)) c.n=Sf (.ref c.a):=by
 have e:(L.cs.map λc=>(c.n,PV.ref c.a))=((L.cs.map λc=>(c.n,c.a)).map λx=>(x.1,PV.ref x.2)):=by rw [RK];rfl
 rw [e]
 exact gY (f:=PV.ref) (by rw [RK];exact h.nd) (Ru.mpr ⟨c,hc,rfl⟩)
theorem a8.Rp {L:Ln} (h:a8 L) {n:Str}:(jx (L.cs.map λc=>(c.n,PV.ref c.a)) n).isSome=decide (n∈L.cs.map Cf.n):=by
 have e:(L.cs.map λc=>(c.n,PV.ref c.a))=((L.cs.map λc=>(c.n,c.a)).map λx=>(x.1,PV.ref x.2)):=by rw [RK];rfl
 rw [e,CK (f:=PV.ref) (by rw [RK];exact h.nd)]
 rw [RK];rfl
theorem a8.uniq {L:Ln} (h:a8 L) {c c':Cf} (hc:c∈L.cs) (hc':c'∈L.cs) (e:c.n=c'.n):c=c':=by
 obtain ⟨i,hi,rfl⟩:=Sk hc
 obtain ⟨j,hj,rfl⟩:=Sk hc'
 have:=(SG (xs:=L.cs.map Cf.n) (i:=i) (j:=j) (h₀:=by simpa using hi) (h₁:=by simpa using hj) h.nd).mp (by rw [SI,SI];exact e)
 subst this;rfl
theorem qA (a b c:PV):([("now",a),("logs",b),("row",c)]:List (Str × PV)).lookup ("now":Str)=Sf a:=rfl
theorem vg (a b c:PV):([("now",a),("logs",b),("row",c)]:List (Str × PV)).lookup ("logs":Str)=Sf b:=rfl
theorem vh (a b c:PV):([("now",a),("logs",b),("row",c)]:List (Str × PV)).lookup ("row":Str)=Sf c:=rfl
theorem hV (m:Str) (a b c:PV) (h:(m == ("now":Str))=false:=by decide +kernel) (k:(m == ("logs":Str))=false:=by decide +kernel) (l:(m == ("row":Str))=false:=by decide +kernel):([("now",a),("logs",b),("row",c)]:List (Str × PV)).lookup m=none:=by
 rw [R9,h];simp only;rw [R9,k];simp only;rw [R9,l];rfl
theorem HZ:(("now":Str)=("logs":Str))=False:=eq_false (by decide +kernel)
theorem H0:(("now":Str)=("row":Str))=False:=eq_false (by decide +kernel)
theorem HY:(("logs":Str)=("row":Str))=False:=eq_false (by decide +kernel)
theorem AS (a b c z:PV):il ("row":Str) z ([("now",a),("logs",b),("row",c)]:List (Str × PV))=([("now",a),("logs",b),("row",z)]:List (Str × PV)):=by simp only [il,H0,HY,if_false,if_true]
theorem KL {J:Hq} {a:Addr} {xs:List PV} (h:J a=Sf (.lst xs)):NJ J (.ref a)=Sf xs:=by unfold NJ;simp only [h]
abbrev fH:Stmt:=(L2.inClass (top 45) 0)
abbrev e9:List Str:=["self"]
theorem oH:L2.aw ["self"] ["self"] (L2.aq fH):=dI
def wL (cN cL:Addr):cG:=λxs J Q _=>∃p,xs=[.ref p]∧J p=some (.ins cN [])∧∀J' d e o,bj cN cL J' p ⟨0,d,e,o,[],[]⟩→Mv J J' (λa=>a=p) (Ln.own ⟨0,d,e,o,[],[]⟩ p)→Q .non J'
theorem vw {cN cL f:Addr} {fd:FuncData} (F:bP K "__init__" "Lane.__init__" fH f fd) (N:nW K mg) (ay:df K mg "Lane" cN) (aB:aA K cN "now") (aI:aA K cN "logs") (aF:aA K cN "row"):aH P w K mg base (cg P w) 1 f fd e9 (cH K (wL cN cL)):=by
 simp_arith [oH]
 ·obtain ⟨p,rfl,_⟩:=h;rfl
 obtain ⟨p,rfl,hp,q⟩:=h
 obtain ⟨aN,gN,sN⟩:=N
 have rN:∀(J:Hq) (H:Hp),cu K J H (fr 0) (.ref aN):=λJ H=>⟨aN,_,rfl,sN H,⟨_,_,rfl,rfl,_,_,rfl,rfl,rfl⟩⟩
 refine ⟨_,(ai (c9 ay.cl aB (rv 0) (fg (v:=.ref aN) (fr 0) rfl gN rfl rN))
   (ai (c9 ay.cl aI (rv 0) pT)
   (ar (c9 ay.cl aF (rv 0) (fF ah))))),?_⟩
 simp_all! [hp]
 refine ⟨by decide,?_⟩
 simp_all! []
 intro d hd ep
 have AG:d≠p:=by intro e;subst e;rw [ak] at hd;cases hd
 simp_all! [aj (Ne.symm AG),ak]
 simp only [HZ,if_false]
 refine ⟨by decide,?_⟩
 simp_all! []
 intro o ho
 have jd:J d=none:=by rw [aj AG] at hd;exact hd
 have Ia:o≠p:=by intro e;subst e;rw [ak] at ho;cases ho
 have nod:o≠d:=by intro e;subst e;rw [aj Ia,ak] at ho;cases ho
 have jo:J o=none:=by rw [aj Ia,aj nod,aj Ia] at ho;exact ho
 refine dJ (by rw [aj (Ne.symm Ia)];exact ak) ⟨by show (2:Nat) < 1000;decide,?_⟩
 have pr:il ("row":Str) (PV.ref o) ([("now",fr 0),("logs",.ref d)]:List (Str × PV))=([("now",fr 0),("logs",.ref d),("row",.ref o)]:List (Str × PV)):=by simp only [il,H0,HY,if_false]
 rw [pr]
 refine q _ d ep o ⟨ak,by rw [aj AG,aj (Ne.symm nod),aj AG];exact ak,by rw [aj Ia];exact ak,(by simp),(by simp),(by simp)⟩ ⟨λa u e na=>?_,λa ow=>?_,λa z=>?_⟩
 ·have na1:a≠d:=λz=>by subst z;rw [jd] at e;cases e
  have na2:a≠o:=λz=>by subst z;rw [jo] at e;cases e
  rw [aj na,aj na2,aj na,aj na1,aj na];exact e
 ·rcases ow with rfl | rfl | rfl | ⟨c,hc,_⟩
  ·exact .inl rfl
  ·exact .inr jd
  ·exact .inr jo
  ·cases hc
 ·by_cases z1:a=p
  ·subst z1;rw [ak] at z;cases z
  by_cases z2:a=o
  ·subst z2;exact jo
  by_cases z3:a=d
  ·subst z3;exact jd
  rw [aj z1,aj z2,aj z1,aj z3,aj z1] at z;exact z
abbrev dr:Stmt:=(L2.inClass (top 45) 22)
abbrev eK:List Str:=["self","name"]
theorem ju:L2.aw ["self","name"] ["self","name"] (L2.aq dr):=dI
def Bp (cN cL eC:Addr):cG:=λxs J Q E=>∃p L n,xs=[.ref p,.str n]∧bj cN cL J p L∧(n∈L.row→Q .non J)∧(n ∉ L.row→E eC J)
theorem jm {cN cL eC f:Addr} {fd:FuncData} (F:bP K "must_be_there" "Lane.must_be_there" dr f fd) (Z:bD mg) (ay:df K mg "Lane" cN) (aF:aA K cN "row") (g7:Own K mg "NoCraft" eC):aH P w K mg base (cg P w) 1 f fd eK (cH K (Bp cN cL eC)):=by
 simp_arith [ju,(ar (aY (aJ GH (rv 1) (aG ay.cl aF (rv 0))) (ar (dP g7 rfl cA B.kn rfl (af b_ ah))) aO))]
 ·obtain ⟨p,L,n,rfl,_⟩:=h;rfl
 obtain ⟨p,L,n,rfl,b,q,qe⟩:=h
 have bo:=b.ob
 refine hX ?_
 simp_all! [bo,vh,M',KL b.rw]
 refine ⟨L.row,rfl,?_⟩
 by_cases c:n∈L.row
 ·rw [if_pos (by simp [c])]
  exact q c
 ·rw [if_neg (by simp [c])]
  simp_all! [fE]
  exact qe c
abbrev gR:Stmt:=(L2.inClass (top 45) 23)
abbrev dq:List Str:=["self","name"]
theorem rh:L2.aw ["self","name"] ["self","name"] (L2.aq gR):=dI
def ka (cN cL eC:Addr):cG:=λxs J Q E=>∃p L n,xs=[.ref p,.str n]∧bj cN cL J p L∧a8 L∧(∀c∈L.cs,c.n=n→c.g=none→Q c.cur.V J)∧(n ∉ L.row→E eC J)
theorem qF {cN cL eC eN f:Addr} {fd:FuncData} (F:bP K "leg_of" "Lane.leg_of" gR f fd) (Z:bD mg) (ay:df K mg "Lane" cN) (aI:aA K cN "logs") (aB:aA K cN "now") (dm:cq P w K mg base cN 1 "must_be_there" eK (Bp cN cL eC)) (dy:cq P w K mg base cL 3 "leg_at" gP (rE cL eN)) :
  aH P w K mg base (cg P w) 4 f fd dq (cH K (ka cN cL eC)):=by
 simp_arith [rh,(ai (a_ (a9 (pl:=_) dm B hr (rv 0) (af (rv 1) ah)))
   (ar (aD (a9 (pl:=_) dy B hr (au cK (aG ay.cl aI (rv 0)) (rv 1)) (af (aG ay.cl aB (rv 0)) ah)))))]
 ·obtain ⟨p,L,n,rfl,_⟩:=h;rfl
 obtain ⟨p,L,n,rfl,b,ok,q,qe⟩:=h
 have bo:=b.ob
 have bd:=b.dc
 refine hX ?_
 simp_all! [bo]
 refine ⟨hV _ _ _ _,p,L,n,rfl,b,λhn=>?_,qe⟩
 obtain ⟨c,hc,rfl,hg⟩:=ok.found hn
 have lo:=(b.lg c hc).o
 simp_all! [bo,vg,bd,ok.va hc,lo]
 refine ⟨MC _ _,?_⟩
 simp_all! [bo,qA]
 refine ⟨c.a,c.r,c.w,c.g,L.t,rfl,b.lg c hc,ok.ne c hc,RN (ok.len c hc) (by decide),ok.Fu,λl hl=>(ok.ck c hc l hl).Fs,λq' hq=>(oZ (ok.gz c hc q' hq).1).mono (by decide),λ_ l hl=>?_,λz=>?_⟩
 ·rw [ok.Ra hc] at hl;cases hl
  exact q c hc rfl hg
 ·rw [ok.there hc hg] at z;cases z
abbrev fh:Stmt:=(L2.inClass (top 45) 24)
abbrev eg:List Str:=["self"]
theorem rj:L2.aw ["self"] ["self"] (L2.aq fh):=dI
theorem Eb {L:Ln} (ok:a8 L) {f:Str→aZ} (hf:∀c∈L.cs,c.g=none→f c.n=c.cur):bZ L.t (L.row.map λn=>(n,f n))=bZ L.t L.fs:=by
 refine Ea (by rw [RK];show (L.row.map λn=>n).Nodup;rw [T8];exact ok.rn) ok.Lk λx=>?_
 rw [Ru,Ru]
 constructor
 ·rintro ⟨y,hy,rfl⟩
  obtain ⟨n,hn,rfl⟩:=Ru.mp hy
  obtain ⟨c,hc,rfl,hg⟩:=ok.found hn
  exact ⟨(c.n,c.cur),Ru.mpr ⟨c,Ln.dA.mpr ⟨hc,hg⟩,rfl⟩,by rw [hf c hc hg]⟩
 ·rintro ⟨y,hy,rfl⟩
  obtain ⟨c,hc,rfl⟩:=Ru.mp hy
  obtain ⟨hc,hg⟩:=Ln.dA.mp hc
  refine ⟨(c.n,f c.n),Ru.mpr ⟨c.n,(ok.rm c.n).mpr ?_,rfl⟩,by rw [hf c hc hg]⟩
  rw [fU];exact Ru.mpr ⟨c,Ln.dA.mpr ⟨hc,hg⟩,rfl⟩
def Ln.ve (L:Ln) (n:Str):aZ:=((L.cs.find? λc=>decide (c.n=n)).map Cf.cur).getD ⟨0,0,0⟩
theorem a8.ve {L:Ln} (ok:a8 L) {c:Cf} (hc:c∈L.cs):L.ve c.n=c.cur:=by
 unfold Ln.ve
 cases h:L.cs.find? λd=>decide (d.n=c.n) with
 | none=>have:=List.find?_eq_none.mp h c hc;simp at this
 | some d =>
  have h1:=List.mem_of_find?_eq_some h
  have h2:d.n=c.n:=by simpa using List.find?_some h
  rw [ok.uniq h1 hc h2];rfl
def kD (cN cL:Addr):cG:=λxs J Q E=>∃p L,xs=[.ref p]∧bj cN cL J p L∧a8 L∧∀J' o',bj cN cL J' p { L with o:=o',row:=bZ L.t L.fs }→Mv J J' (L.own p) (Ln.own { L with o:=o',row:=bZ L.t L.fs } p)→Q .non J'
theorem qG {cN cL eC f:Addr} {fd:FuncData} (F:bP K "settle" "Lane.settle" fh f fd) (Z:bD mg) (ay:df K mg "Lane" cN) (aF:aA K cN "row") (aB:aA K cN "now") (bh:cq P w K mg base cN 4 "leg_of" dq (ka cN cL eC)) (lq:bF P w K mg base 6 "in_order" jW oN) :
  aH P w K mg base (cg P w) 7 f fd eg (cH K (kD cN cL)):=by
 simp_arith [rj,(ar (c9 ay.cl aF (rv 0) (aQ lq B hr (af (Iz (L2.aq fh) ["self"] [("self",0)] rfl rfl rfl (dR (aG ay.cl aF (rv 0))) (λ_ _ _ _ _ _=>(rv 0)) (λ_ _ _ _ _ _=>(a9 (pl:=_) bh Dh hr (rv 1) (af (rv 0) ah)))) (af (aG ay.cl aB (rv 0)) ah)))))]
 ·obtain ⟨p,L,rfl,_⟩:=h;rfl
 obtain ⟨p,L,rfl,b,ok,q⟩:=h
 have bo:=b.ob
 have br:=b.rw
 refine hX ?_
 simp_all! [Lp,bo,vh,br]
 intro D hD ep
 have bf:∀e2 kvs,bj cN cL (put J D (.dct kvs e2)) p L:=λe2 kvs=>b.fresh hD
 have hrl:=ok.rl
 refine ⟨λi J2=>∃e2,J2=put J D (.dct (cj ((L.row.take i).map λn=>(n,L.ve n))) e2),⟨ep,rfl⟩,?_,?_,?_⟩
 ·rintro i J2 ⟨e2,rfl⟩;exact (bf e2 _).rw
 ·rintro i x J2 hx ⟨e2,rfl⟩
  have hi:i < L.row.length:=by have:=(Rv.mp hx).1;simpa using this
  rw [Ry,Rt hi] at hx
  cases hx
  have hn:L.row[i]∈L.row:=RZ hi
  refine dJ (bf e2 _).ob ⟨hV _ _ _ _,p,L,L.row[i],rfl,bf e2 _,ok,λc hc e hg=>?_,λz=>absurd hn z⟩
  refine ⟨_,e2,L.row[i],rfl,ak,aX (by simp only [cj,Rr,RX];omega),λep'=>⟨ep',?_⟩⟩
  rw [bU]
  congr 2
  have et:L.row.take (i + 1)=L.row.take i ++ [L.row[i]]:=by rw [RQ,Rt hi];rfl
  rw [et,Rw,RD,Sq,← e,ok.ve hc]
  refine qW (f:=aZ.V) (l:=c.cur) λz=>?_
  rw [RK] at z
  obtain ⟨m,hm,e3⟩:=Ru.mp z
  have hnd:(L.row.take (i + 1)).Nodup:=ok.rn.sublist (R4 _ _)
  rw [et] at hnd
  exact (cF hnd).2 (by rw [← e,← e3];exact hm)
 ·rintro J2 ⟨e2,rfl⟩
  rw [Rr,RY]
  refine dJ (bf e2 _).ob (eZ (qA _ _ _) ⟨D,_,e2,L.t,rfl,ak,?_,by rw [Rr];omega,ok.Fu,?_,λo' ho'=>?_⟩)
  ·rw [RK];show (L.row.map λn=>n).Nodup;rw [T8];exact ok.rn
  ·intro x hx
   obtain ⟨n,hn,rfl⟩:=Ru.mp hx
   obtain ⟨c,hc,rfl,hg⟩:=ok.found hn
   show nM 900 (L.ve c.n)
   rw [ok.ve hc]
   exact (ok.ck c hc _ (Cf.fN (ok.ne c hc)).2).Fs
  ·rw [Eb ok λc hc _=>ok.ve hc]
   have b2:bj cN cL (put (put J D (.dct (cj (L.row.map λn=>(n,L.ve n))) e2)) o' (.lst ((bZ L.t L.fs).map .str))) p L:=(bf e2 _).fresh ho'
   have jo:J o'=none:=by
    by_cases z:o'=D
    ·subst z;exact hD
    ·rw [aj z] at ho';exact ho'
   refine dJ b2.ob ⟨by show (3:Nat) < 1000;decide,?_⟩
   rw [AS]
   refine q _ o' (b2.KD ak λc hc e=>?_) ?_
   ·have:=(b.lg c hc).l;rw [e,jo] at this;cases this
   ·refine ((Mv.new hD).trans (Mv.y_ ho')).trans (jQ (.inl (.inl rfl)) λa ow=>.inl ?_)
    rcases ow with h | h | h | h
    ·exact .inl (.inl h)
    ·exact .inl (.inr (.inl h))
    ·exact .inr h
    ·exact .inl (.inr (.inr (.inr h)))
def dj:Str:="abcdefghijklmnopqrstuvwxyz0123456789"
def good (y:Str):Bool:=decide (1≤y.cps.size) && decide (y.cps.size≤8) && y.cps.toList.all (eG dj)
def Bh (T:Addr):cG:=λxs J Q _=>∃y:Str,xs=[.str y]∧y.length≤sizeLine∧J T=some .tab∧Q (.bl (good y)) J
abbrev gI:Stmt:=(top 36)
abbrev m5:List Str:=["text"]
theorem wF:L2.aw ["text"] ["text"] (L2.aq gI):=dI
theorem tw {T f c:Addr} {fd:FuncData} (F:FL K mg "good_name" gI T f fd c) (Z:bD mg) (Bm:BMain mg base) {kG pX:Tok} (hE:mg "LONGEST"=some (.int 8 kG)) (mD:mg "SIGNS"=some (.str "abcdefghijklmnopqrstuvwxyz0123456789" pX)) :
  aH P w K mg base (cg P w) 1 f fd m5 (cH K (Bh T)):=by
 refine Pe F wF (λxs J Q E h=>?_) (λA outer s H E G xs J Q E2 hr h B=>?_)
 ·obtain ⟨y,rfl,_⟩:=h;rfl
 obtain ⟨y,rfl,hz,hT,q⟩:=h
 refine ⟨_,(ai (aY (dF (j0 (aJ gC (aL Aj rfl Z.len boot_len (af (rv 0) ah)) ag) (f' (aJ o6 (aL Aj rfl Z.len boot_len (af (rv 0) ah)) (fg (v:=.int 8) (.int 8) rfl hE ⟨_,rfl⟩ (λ_ _=>rfl)))))) (ar (aD eL)) aO)
   (ar (aD (EH rfl Bm rfl F.tab hr rfl Z.all mD (rv 0))))),?_⟩
 have el:y.cps.size=y.length:=rfl
 unfold good at q
 rw [el] at q
 simp_all! [Ij]
 refine ⟨hz,?_⟩
 by_cases h1:1≤y.length
 rotate_left
 ·rw [if_pos (by omega)]
  rw [decide_eq_false h1,S7,S7] at q
  exact q
 rw [if_neg (by omega)]
 refine ⟨hz,?_⟩
 by_cases h2:y.length≤8
 rotate_left
 ·rw [if_pos (by omega)]
  rw [decide_eq_false h2,S8,S7] at q
  exact q
 rw [if_neg (by omega)]
 refine hNq _ _ ?_
 rw [decide_eq_true h1,decide_eq_true h2,Bool.true_and,Bool.true_and] at q
 simp_arith! [bE,EC,hT]
 exact q
theorem Aq (L:Ln) {L':Ln} {c:Cf} (h:L'.cs=L.cs ++ [c]) (hg:c.g=none):L'.fs=L.fs ++ [(c.n,c.cur)]:=by
 unfold Ln.fs Ln.CN
 rw [h,Th,Rw]
 simp [hg]
def Ln.joined (L:Ln) (n:Str) (x v:Int) (L':Ln):Prop:=∃a r,L'.cs=L.cs ++ [⟨n,a,r,[⟨L.t,(x:Rat),v⟩],none⟩]∧L'.t=L.t
def Jo (x v:Int):Prop:=x.natAbs≤1000000∧v.natAbs≤1000
def Bo (cN cL T eB eF eT eU:Addr):cG:=λxs J Q E=>∃p L n x v,xs=[.ref p,.str n,.int x,.int v]∧bj cN cL J p L∧cy L∧J T=some .tab∧n.length≤sizeLine∧L.cs.length < 100∧(good n=false→E eB J)∧(good n=true→¬ Jo x v→E eF J) ∧
 (good n=true→Jo x v→n∈L.cs.map Cf.n→E eT J)∧(good n=true→Jo x v→n ∉ L.cs.map Cf.n→12≤L.row.length→E eU J) ∧
 (good n=true→Jo x v→n ∉ L.cs.map Cf.n→L.row.length < 12→∀J' L',bj cN cL J' p L'→cy L'→L.joined n x v L'→Mv J J' (L.own p) (L'.own p)→Q .non J')
abbrev j8:Stmt:=(L2.inClass (top 45) 1)
abbrev mY:List Str:=["self","name","place","pace"]
theorem wC:L2.aw ["self","name","place","pace"] ["self","name","place","pace"] (L2.aq j8):=dI
theorem bj.add {cN cL:Addr} {J:Hq} {p:Addr} {L:Ln} {c:Cf} {ep:Nat} (h:bj cN cL J p L) (hc:yB cL J c.a c.r c.w c.g) (h1:c.r ∉ L.cs.map Cf.r) (h2:c.r≠L.o) :
  bj cN cL (put (put J L.d (.dct ((L.cs ++ [c]).map λc=>(c.n,PV.ref c.a)) ep)) L.o (.lst ((L.row ++ [c.n]).map .str))) p ⟨L.t,L.d,ep,L.o,L.cs ++ [c],L.row ++ [c.n]⟩:=by
 have n1:c.a≠L.d:=by intro e;have:=h.dc;rw [← e,hc.o] at this;cases this
 have n2:c.a≠L.o:=by intro e;have:=h.rw;rw [← e,hc.o] at this;cases this
 have n3:c.r≠L.d:=by intro e;have:=h.dc;rw [← e,hc.l] at this;cases this
 refine ⟨?_,?_,ak,λx hx=>?_,?_,λx hx=>?_⟩
 ·rw [aj (Ne.symm h.Ia),aj (Ne.symm h.AG)];exact h.ob
 ·show put (put J L.d _) L.o _ L.d=_
  rw [aj h.QM];exact ak
 ·rcases RC.mp hx with hx | hx
  ·exact ⟨by rw [aj (h.Rc hx),aj (h.Rb hx)];exact (h.lg x hx).o,by rw [aj (h.ao x hx),aj (h.QN hx)];exact (h.lg x hx).l⟩
  ·rw [RF] at hx;subst hx
   exact ⟨by rw [aj n2,aj n1];exact hc.o,by rw [aj h2,aj n3];exact hc.l⟩
 ·show ((L.cs ++ [c]).map Cf.r).Nodup
  rw [Rw,RD,Sq,Ss]
  exact ⟨h.ap,by simp,λx hx y hy e=>by rw [RF] at hy;subst hy;subst e;exact h1 hx⟩
 ·show x.r≠L.o
  rcases RC.mp hx with hx | hx
  ·exact h.ao x hx
  ·rw [RF] at hx;subst hx;exact h2
theorem a8.add {L:Ln} (h:a8 L) {c:Cf} {l:aZ} {ep:Nat} (hw:c.w=[l]) (hg:c.g=none) (hl:rV l) (hm:l.m=L.t) (hn:c.n ∉ L.cs.map Cf.n) (hr:L.row.length < 12) (hs:L.cs.length < 100):a8 ⟨L.t,L.d,ep,L.o,L.cs ++ [c],L.row ++ [c.n]⟩:=by
 have hf:Ln.fs ⟨L.t,L.d,ep,L.o,L.cs ++ [c],L.row ++ [c.n]⟩=L.fs ++ [(c.n,c.cur)]:=Aq L rfl hg
 have all:∀{P:Cf→Prop},(∀x∈L.cs,P x)→P c→∀x∈L.cs ++ [c],P x:=λh1 h2 x hx=>by
  rcases RC.mp hx with hx | hx
  ·exact h1 x hx
  ·rw [RF] at hx;subst hx;exact h2
 refine ⟨?_,all h.ne (by rw [hw];simp),all h.le (by rw [hw];simp [hm]),all h.ck (by rw [hw];simpa using hl),all h.len (by rw [hw];show (1:Nat)≤200;decide),all h.gz (by rw [hg];intro q e;cases e),h.t0,h.ts,by show (L.cs ++ [c]).length≤100;rw [RL];simp;omega,λn=>?_,?_,by show (L.row ++ [c.n]).length≤12;rw [RL];simp;omega⟩
 ·show ((L.cs ++ [c]).map Cf.n).Nodup
  rw [Rw,RD,Sq,Ss]
  exact ⟨h.nd,by simp,λx hx y hy e=>by rw [RF] at hy;subst hy;subst e;exact hn hx⟩
 ·rw [hf,Rw,RC,RC,h.rm n];simp
 ·show (L.row ++ [c.n]).Nodup
  rw [Ss]
  refine ⟨h.rn,by simp,λx hx y hy e=>?_⟩
  rw [RF] at hy
  rw [e,hy] at hx
  have:=(h.rm _).mp hx
  rw [fU,Ru] at this
  obtain ⟨d,hd,e⟩:=this
  exact hn (Ru.mpr ⟨d,(Ln.dA.mp hd).1,e⟩)
theorem cy.settled {L:Ln} (h:a8 L) (o':Addr):cy { L with o:=o',row:=bZ L.t L.fs }:=by
 have hl:(bZ L.t L.fs).length≤12:=by
  have h1:(bZ L.t L.fs).Perm L.row:=(List.perm_ext_iff_of_nodup (qK h.Lk) h.rn).mpr λn=>by rw [xR];exact (h.rm n).symm
  rw [h1.length_eq];exact h.rl
 exact ⟨⟨h.nd,h.ne,h.le,h.ck,h.len,h.gz,h.t0,h.ts,h.many,λn=>xR,qK h.Lk,hl⟩,rfl⟩
theorem vA {cN cL T eB eF eT eU f:Addr} {fd:FuncData} (F:bP K "join" "Lane.join" j8 f fd) (Z:bD mg) (ay:df K mg "Lane" cN) (aF:aA K cN "row") (aB:aA K cN "now") (aI:aA K cN "logs") {jf kF wQ:Tok} (fV:mg "FARTHEST"=some (.int 1000000 jf)) (g_:mg "FASTEST"=some (.int 1000 kF)) (qk:mg "MOST"=some (.int 12 wQ))
  (g6:Own K mg "BadName" eB) (jz:Own K mg "TooFar" eF) (mj:Own K mg "Taken" eT) (p8:Own K mg "Full" eU) (wX:bF P w K mg base 1 "good_name" m5 (Bh T)) (tR:uN P w K mg base cL 1 "Log" fC (wK cL)) (bL:cq P w K mg base cN 7 "settle" eg (kD cN cL)) :
  aH P w K mg base (cg P w) 8 f fd mY (cH K (Bo cN cL T eB eF eT eU)):=by
 simp_arith [wC,(ai (aY (cW (bz (aQ wX B hr (af (rv 1) ah)))) (ar (dP g6 rfl cA B.kn rfl (af b_ ah))) aO)
   (ai (aY (dF (j0 (aJ o6 (aL qd rfl Z.abs boot_abs (af (rv 2) ah)) (fg (v:=.int 1000000) (.int 1000000) rfl fV ⟨_,rfl⟩ (λ_ _=>rfl))) (f' (aJ o6 (aL qd rfl Z.abs boot_abs (af (rv 3) ah)) (fg (v:=.int 1000) (.int 1000) rfl g_ ⟨_,rfl⟩ (λ_ _=>rfl)))))) (ar (dP jz rfl cA B.kn rfl (af b_ ah))) aO)
   (ai (aY (aJ Kb (rv 1) (aG ay.cl aI (rv 0))) (ar (dP mj rfl cA B.kn rfl (af b_ ah))) aO)
   (ai (aY (aJ AL (aL cJ rfl Z.len boot_len (af (aG ay.cl aF (rv 0)) ah)) (fg (v:=.int 12) (.int 12) rfl qk ⟨_,rfl⟩ (λ_ _=>rfl))) (ar (dP p8 rfl cA B.kn rfl (af b_ ah))) aO)
   (ai (wo wM (aG ay.cl aI (rv 0)) (rv 1) (A3 tR B hr (af (aG ay.cl aB (rv 0)) (af (bR (af (rv 2) (af ag ah))) (af (rv 3) ah)))))
   (ai (a_ (fL PySem.F.plainAttrs_list PySem.F.slot_list_append PySem.F.type_list_append dz (aG ay.cl aF (rv 0)) (af (rv 1) ah)))
   (ar (a_ (c4 (pl:=_) bL B hr (rv 0))))))))))]
 ·obtain ⟨p,L,n,x,v,rfl,_⟩:=h;rfl
 obtain ⟨p,L,n,x,v,rfl,b,ok,hT,hnl,hcs,qb,qf,qt,qu,q⟩:=h
 have bo:=b.ob
 have bd:=b.dc
 have br:=b.rw
 refine hX ?_
 simp_all! []
 refine ⟨n,rfl,hnl,hT,?_⟩
 cases hg:good n with
 | false =>
  simp_all! [fE]
  exact qb hg
 | true =>
 simp_all! []
 by_cases hB:Jo x v
 ·obtain ⟨hx,hv⟩:=id hB
  rw [if_neg (by split <;> omega),if_neg (by split <;> omega)]
  simp_all! [bo,vg,bd,ok.Rp]
  by_cases hm:n∈L.cs.map Cf.n
  ·rw [if_pos hm]
   simp_all! [fE]
   exact qt hg hB hm
  rw [if_neg hm]
  simp_all! [bo,vh,br,Rr]
  by_cases hr12:12≤L.row.length
  ·rw [if_pos (by omega)]
   simp_all! [fE]
   exact qu hg hB hm hr12
  rw [if_neg (by omega)]
  simp_all! [bo,qA]
  intro a ha
  refine ⟨a,⟨L.t,(x:Rat),v⟩,rfl,ak,λr hr'=>?_⟩
  have nra:r≠a:=by intro e;subst e;rw [ak] at hr';cases hr'
  have jr:J r=none:=by rw [aj nra] at hr';exact hr'
  have b1:bj cN cL (put (put (put J a (.ins cL [])) r (.lst [(aZ.mk L.t (x:Rat) v).V])) a (.ins cL [("rows",.ref r),("gone",.non)])) p L:=b.keep λc u ow e=>by
   have n1:c≠a:=λz=>by subst z;rw [ha] at e;cases e
   have n2:c≠r:=λz=>by subst z;rw [jr] at e;cases e
   rw [aj n1,aj n2,aj n1];exact e
  have l1:yB cL (put (put (put J a (.ins cL [])) r (.lst [(aZ.mk L.t (x:Rat) v).V])) a (.ins cL [("rows",.ref r),("gone",.non)])) a r [⟨L.t,(x:Rat),v⟩] none:=⟨ak,by rw [aj nra];exact ak⟩
  have mv1:Mv J (put (put (put J a (.ins cL [])) r (.lst [(aZ.mk L.t (x:Rat) v).V])) a (.ins cL [("rows",.ref r),("gone",.non)])) (L.own p) (λc=>(L.own p c∨c=a)∨c=r) :=
   ((Mv.y_ ha).trans (Mv.y_ hr')).trans (jQ (.inl (.inr rfl)) λc h=>.inl h)
  generalize (put (put (put J a (.ins cL [])) r (.lst [(aZ.mk L.t (x:Rat) v).V])) a (.ins cL [("rows",.ref r),("gone",.non)]))=J1 at b1 l1 mv1 ⊢
  have bo1:=b1.ob
  have bd1:=b1.dc
  simp_all! [bo1,vg,bd1]
  refine ⟨aX (by rw [Rr];omega),λep'=>?_⟩
  have epu:pe (L.cs.map λc=>(c.n,PV.ref c.a)) n (PV.ref a)=(L.cs ++ [Cf.mk n a r [⟨L.t,(x:Rat),v⟩] none]).map λc=>(c.n,PV.ref c.a):=by
   have e:(L.cs.map λc=>(c.n,PV.ref c.a))=((L.cs.map λc=>(c.n,c.a)).map λx=>(x.1,PV.ref x.2)):=by rw [RK];rfl
   rw [e,qW (f:=PV.ref) (l:=a) (by rw [RK];exact hm),Rw,Rw,RK];rfl
  rw [epu]
  have hrs:r ∉ L.cs.map Cf.r:=λh=>by
   obtain ⟨c,hc,e⟩:=Ru.mp h
   have:=(b.lg c hc).l;rw [e,jr] at this;cases this
  have hro:r≠L.o:=λe=>by have:=b.rw;rw [← e,jr] at this;cases this
  have b2:=b1.add (c:=Cf.mk n a r [⟨L.t,(x:Rat),v⟩] none) (ep:=ep') l1 hrs hro
  have ok2:a8 ⟨L.t,L.d,ep',L.o,L.cs ++ [Cf.mk n a r [⟨L.t,(x:Rat),v⟩] none],L.row ++ [n]⟩:=ok.toa8.add (c:=Cf.mk n a r [⟨L.t,(x:Rat),v⟩] none) rfl rfl (rV.new ok.t0 ok.ts hx hv) rfl hm (by omega) hcs
  have bo2:(put J1 L.d (HQ.dct ((L.cs ++ [Cf.mk n a r [⟨L.t,(x:Rat),v⟩] none]).map λc=>(c.n,PV.ref c.a)) ep')) p=some (.ins cN [("now",fr L.t),("logs",.ref L.d),("row",.ref L.o)]):=by rw [aj (Ne.symm b1.AG)];exact b1.ob
  have br2:(put J1 L.d (HQ.dct ((L.cs ++ [Cf.mk n a r [⟨L.t,(x:Rat),v⟩] none]).map λc=>(c.n,PV.ref c.a)) ep')) L.o=some (.lst (L.row.map .str)):=by rw [aj (Ne.symm b1.QM)];exact b1.rw
  have mv2:Mv J1 (put (put J1 L.d (HQ.dct ((L.cs ++ [Cf.mk n a r [⟨L.t,(x:Rat),v⟩] none]).map λc=>(c.n,PV.ref c.a)) ep')) L.o (.lst ((L.row ++ [n]).map .str))) (λc=>(L.own p c∨c=a)∨c=r) (Ln.own ⟨L.t,L.d,ep',L.o,L.cs ++ [Cf.mk n a r [⟨L.t,(x:Rat),v⟩] none],L.row ++ [n]⟩ p):=by
   refine (jQ (S':=λc=>(L.own p c∨c=a)∨c=r) (.inl (.inl (.inr (.inl rfl)))) λc h=>.inl h).trans (jQ (.inl (.inl (.inr (.inr (.inl rfl))))) λc h=>.inl ?_)
   rcases h with h | h | h | ⟨d,hd,h⟩
   ·exact .inl (.inl (.inl h))
   ·exact .inl (.inl (.inr (.inl h)))
   ·exact .inl (.inl (.inr (.inr (.inl h))))
   ·rcases RC.mp hd with hd | hd
    ·exact .inl (.inl (.inr (.inr (.inr ⟨d,hd,h⟩))))
    ·rw [RF] at hd;subst hd
     rcases h with h | h
     ·exact .inl (.inr h)
     ·exact .inr h
  have mv3:=mv1.trans mv2
  simp_all! [bo2,vh,br2]
  refine ⟨aX (by rw [Rr];omega),?_⟩
  rw [show L.row.map PV.str ++ [PV.str n]=(L.row ++ [n]).map .str by rw [Rw];rfl]
  have bo3:=b2.ob
  generalize (put (put J1 L.d (HQ.dct ((L.cs ++ [Cf.mk n a r [⟨L.t,(x:Rat),v⟩] none]).map λc=>(c.n,PV.ref c.a)) ep')) L.o (.lst ((L.row ++ [n]).map .str)))=J2 at b2 mv3 bo3 ⊢
  simp_all! [bo3]
  refine ⟨hV _ _ _ _,p,_,rfl,b2,ok2,λJ' o' b' mv'=>?_⟩
  exact q hg hB hm (by omega) J' _ b' (cy.settled ok2 o') ⟨a,r,rfl,rfl⟩ (mv3.trans mv')
 ·have hf:=qf hg hB
  by_cases h1:x.natAbs≤1000000
  ·have h2:¬ v.natAbs≤1000:=λh=>hB ⟨h1,h⟩
   rw [if_neg (by split <;> omega),if_pos (by split <;> omega)]
   simp_all! [fE]
   exact hf
  ·rw [if_pos (by split <;> omega)]
   simp_all! [fE]
   exact hf
abbrev i5:Stmt:=(L2.inClass (top 45) 7)
abbrev kU:List Str:=["self"]
theorem tG:L2.aw ["self"] ["self"] (L2.aq i5):=dI
def yb (cN cL:Addr):cG:=λxs J Q _=>∃p L,xs=[.ref p]∧bj cN cL J p L∧Q (fr L.t) J
theorem sX {cN cL f:Addr} {fd:FuncData} (F:bP K "clock" "Lane.clock" i5 f fd) (Z:bD mg) (ay:df K mg "Lane" cN) (aB:aA K cN "now"):aH P w K mg base (cg P w) 1 f fd kU (cH K (yb cN cL)):=by
 simp_arith [tG,(ar (aD (aG ay.cl aB (rv 0))))]
 ·obtain ⟨p,L,rfl,_⟩:=h;rfl
 obtain ⟨p,L,rfl,b,q⟩:=h
 have bo:=b.ob
 refine hX ?_
 simp_all! [bo,qA]
 exact q
abbrev i9:Stmt:=(L2.inClass (top 45) 8)
abbrev gO:List Str:=["self"]
theorem tI:L2.aw ["self"] ["self"] (L2.aq i9):=dI
def rG (cN cL:Addr):cG:=λxs J Q _=>∃p L,xs=[.ref p]∧bj cN cL J p L∧(Q (.fl (L.row.map .str)) J∨∀l,J l=none→Q (.ref l) (put J l (.lst (L.row.map .str))))
theorem tj {cN cL f:Addr} {fd:FuncData} (F:bP K "order" "Lane.order" i9 f fd) (Z:bD mg) (ay:df K mg "Lane" cN) (aF:aA K cN "row"):aH P w K mg base (cg P w) 1 f fd gO (cH K (rG cN cL)):=by
 simp_arith [tI,(ar (aD (ip mz rfl Z.list boot_list (af (aG ay.cl aF (rv 0)) ah)))),F]
 ·obtain ⟨p,L,rfl,_⟩:=h;rfl
 obtain ⟨p,L,rfl,b,q⟩:=h
 have bo:=b.ob
 have br:=b.rw
 refine hX ?_
 simp_all! [bo,br,vh]
 intro l hl
 rcases q with q | q
 ·exact Fg.n6 (fW hl) ak hl q
 ·exact Fg.same (q l hl)
abbrev i_:Stmt:=(L2.inClass (top 45) 12)
abbrev kZ:List Str:=["self","name"]
theorem tJ:L2.aw ["self","name"] ["self","name"] (L2.aq i_):=dI
def yd (cN cL eC:Addr):cG:=λxs J Q E=>∃p L n,xs=[.ref p,.str n]∧bj cN cL J p L∧a8 L∧(∀c∈L.cs,c.n=n→c.g=none→Q (fr (c.cur.at L.t)) J)∧(n ∉ L.row→E eC J)
theorem tm {cN cL eC f:Addr} {fd:FuncData} (F:bP K "place" "Lane.place" i_ f fd) (Z:bD mg) (ay:df K mg "Lane" cN) (aB:aA K cN "now") (bh:cq P w K mg base cN 4 "leg_of" dq (ka cN cL eC)) (cT:bF P w K mg base 4 "place_on" fj pj):aH P w K mg base (cg P w) 5 f fd kZ (cH K (yd cN cL eC)):=by
 simp_arith [tJ,(ar (aD (aQ cT B hr (af (a9 (pl:=_) bh B hr (rv 0) (af (rv 1) ah)) (af (aG ay.cl aB (rv 0)) ah)))))]
 ·obtain ⟨p,L,n,rfl,_⟩:=h;rfl
 obtain ⟨p,L,n,rfl,b,ok,q,qe⟩:=h
 have bo:=b.ob
 refine hX ?_
 simp_all! [bo]
 refine ⟨hV _ _ _ _,p,L,n,rfl,b,ok,λc hc e hg=>?_,qe⟩
 have sl:=(ok.ck c hc _ (Cf.fN (ok.ne c hc)).2).Fs
 simp_all! [bo,qA]
 exact ⟨c.cur,L.t,rfl,sl.m,sl.p,ok.Fu,sl.v,q c hc e hg⟩
def ax.v (b:ax):PV:=.tup [fr b.m,.str b.h,.str b.f]
theorem oW (J:Hq) (b:ax):pE J b.v (.int 0)=some (fr b.m):=mx _ _
theorem qv (J:Hq) (b:ax):pE J b.v (.int 1)=some (.str b.h):=oT _ _ _
theorem qw (J:Hq) (b:ax):pE J b.v (.int 2)=some (.str b.f):=tS _ _ _ _
theorem P2 (J:Hq) (b:ax):By J b.v=some "tuple":=rfl
theorem Mm (J:Hq) (b:ax):xB J b.v=some 3:=rfl
theorem Ig (b:ax):m7 b.v=true:=by simp [ax.v,GZ,uq,Et,zH,wb]
theorem OK (b:ax):FZ b.v=True:=eq_true ⟨Ig b,by simp [ax.v,fr,gQ,gG,dep,dY]⟩
theorem OM (a b:ax):eqQ a.v b.v=decide (a=b):=by
 unfold ax.v
 rw [yO,fT,fT,fT,uX,HJ,eq_str,eq_str,SN,← Td,← Td]
 apply decide_eq_decide.mpr
 cases a;cases b
 simp [ax.mk.injEq]
theorem IG (a:Rat) (h f:Str):PV.tup [fr a,.str h,.str f]=(ax.mk a h f).v:=rfl
theorem Dc (J:Hq) (b:ax):∃xs,b.v=.tup xs∧¬ (HT.d7 xs.length 0 (some 1)=0∧HT.d7 xs.length xs.length none=xs.length)∧lH xs (some 1) none=[b.h,b.f].map .str:=⟨_,rfl,λh=>absurd h.1 (show HT.d7 3 0 (some 1)≠0 by decide),rfl⟩
abbrev gU:Stmt:=(top 24)
abbrev jY:List Str:=["one","other"]
theorem rp:L2.aw ["one","other"] ["one","other"] (L2.aq gU):=dI
def wJ:cG:=λxs J Q _=>∃a b:ax,xs=[a.v,b.v]∧Sz 9000 a.m∧Sz 9000 b.m∧Q (.bl (a.lt b)) J
theorem O2 (a b c d:Str):lI [a,b] [c,d]=if a=c then decide (slt b d) else decide (slt a c):=by
 rw [oh]
 by_cases h:a=c
 ·rw [if_pos h,if_pos h,oh]
  by_cases k:b=d
  ·rw [if_pos k,mJ];subst k;exact (decide_eq_false (by unfold slt;exact List.lt_irrefl _)).symm
  ·rw [if_neg k];rfl
 ·rw [if_neg h,if_neg h];rfl
theorem pI {f:Addr} {fd:FuncData} (F:bP K "rings_ahead" "rings_ahead" gU f fd) (Z:bD mg) (dG:bF P w K mg base 1 "less" gF cX):aH P w K mg base (cg P w) 2 f fd jY (cH K wJ):=by
 simp_arith [rp,(ai (aY (aJ (fK hr.aV) (au av (rv 0) ag) (au av (rv 1) ag)) (ar (aD (aQ dG B hr (af (au av (rv 0) ag) (af (au av (rv 1) ag) ah))))) aO)
   (ar (aD (er (GG hr.K') (iq zW (rv 0) (iW ag) nj) (iq zW (rv 1) (iW ag) nj)))))]
 ·obtain ⟨a,b,rfl,_⟩:=h;rfl
 obtain ⟨a,b,rfl,sa,sb,q⟩:=h
 refine hX ?_
 simp_arith! [bE,oW,qv,qw,cX,Ik]
 unfold ax.lt at q
 by_cases e:a.m=b.m
 ·rw [if_pos e] at q ⊢
  obtain ⟨xs,h1,h2,h3⟩:=Dc J a
  obtain ⟨ys,h4,h5,h6⟩:=Dc J b
  refine zj h1 ⟨h2,?_⟩
  refine zj h4 ⟨h5,?_⟩
  exact ⟨[a.h,a.f],[b.h,b.f],congrArg PV.tup h3,congrArg PV.tup h6,by rw [O2];exact q⟩
 ·rw [if_neg e] at q ⊢
  exact ⟨sa,sb,q⟩
theorem Mz (v:PV):([("rows",v)]:List (Str × PV)).lookup ("rows":Str)=some v:=rfl
theorem JF {m:Str} (v:PV) (h:(m == ("rows":Str))=false):([("rows",v)]:List (Str × PV)).lookup m=none:=by rw [R9,h];rfl
theorem O3 (v:PV):([("rows",v)]:List (Str × PV)).lookup ("drop":Str)=none:=JF v (by decide +kernel)
theorem O4 (v:PV):([("rows",v)]:List (Str × PV)).lookup ("put":Str)=none:=JF v (by decide +kernel)
theorem O5 (v:PV):([("rows",v)]:List (Str × PV)).lookup ("told":Str)=none:=JF v (by decide +kernel)
theorem G0 {J:Hq} {r p:Addr} {a b c:HQ} (h:r≠p):put (put (put J r a) p b) r c=put (put J r c) p b:=by
 rw [Eu (Ne.symm h),bU]
structure IH (cB:Addr) (J:Hq) (p r:Addr) (rows:List ax):Prop where
 o:J p=some (.ins cB [("rows",.ref r)])
 l:J r=some (.lst (rows.map ax.v))
abbrev e_:Stmt:=(L2.inClass (top 25) 0)
abbrev gD:List Str:=["self"]
theorem nq:L2.aw ["self"] ["self"] (L2.aq e_):=dI
def A9 (cB:Addr):cG:=λxs J Q _=>∃p,xs=[.ref p]∧J p=some (.ins cB [])∧∀r,J r=none→Q .non (put (put J r (.lst [])) p (.ins cB [("rows",.ref r)]))
theorem sS {cB f:Addr} {fd:FuncData} (F:bP K "__init__" "Bells.__init__" e_ f fd) (bA:df K mg "Bells" cB) (aW:aA K cB "rows"):aH P w K mg base (cg P w) 1 f fd gD (cH K (A9 cB)):=by
 simp_arith [nq,(ar (c9 bA.cl aW (rv 0) (fF ah)))]
 ·obtain ⟨p,rfl,_⟩:=h;rfl
 obtain ⟨p,rfl,hp,q⟩:=h
 refine hX ?_
 simp_arith! [bE]
 intro r hr'
 have ne:p≠r:=by intro e;subst e;rw [hp] at hr';cases hr'
 exact dJ (x:=[]) (by rw [aj ne];exact hp) ⟨by decide,q r hr'⟩
abbrev fQ:Stmt:=(L2.inClass (top 25) 2)
abbrev kP:List Str:=["self","hind","fore"]
theorem gW:L2.aw ["self","hind","fore","kept","found"] ["self","hind","fore"] (L2.aq fQ):=dI
def A8 (cB:Addr):cG:=λxs J Q _=>∃p r rows h f,xs=[.ref p,.str h,.str f]∧IH cB J p r rows∧rows.length≤900∧∀r',J r'=none→Q (.bl (decide ((c_ h f rows).length < rows.length))) (put (put J r' (.lst ((c_ h f rows).map ax.v))) p (.ins cB [("rows",.ref r')]))
def tail3:PV→PV
 | .tup xs=>.tup (lH xs (some 1) none)
 | _=>.non
def AD (h f:Str) (x:PV):Bool:=!eqQ (tail3 x) (.tup [.str h,.str f])
theorem Jv (h f:Str) (b:ax):AD h f b.v=!uy h f b:=by
 show (!eqQ (.tup [.str b.h,.str b.f]) (.tup [.str h,.str f]))=_
 rw [yO,fT,fT,uX,eq_str,eq_str,SN,← Td]
 rfl
theorem Dm (h f:Str):∀rows:List ax,((rows.map ax.v).filter (AD h f)).map (λx=>x)=(c_ h f rows).map ax.v
 | []=>rfl
 | b :: rows=>by
  have ih:=Dm h f rows
  unfold c_ at ih ⊢
  rw [RD,Si,Si,Jv]
  cases uy h f b <;> simp at ih ⊢ <;> exact ih
theorem sQ {cB f:Addr} {fd:FuncData} (F:bP K "drop" "Bells.drop" fQ f fd) (Z:bD mg) (bA:df K mg "Bells" cB) (aW:aA K cB "rows"):aH P w K mg base (cg P w) 1 f fd kP (cH K (A8 cB)):=by
 simp_arith [gW,(ai (He (i:=3) (L2.aq fQ) ["self","hind","fore","kept","found"] [("hind",1),("fore",2)] rfl rfl rfl gW.nd rfl (Or.inl rfl) (dR (aG bA.cl aW (rv 0))) (λ_ _ _ _ _ _=>(rv 0)) (λ_ _ _ _ _ _=>(aJ (fK hr.aV) (iq zW (rv 0) (iW ag) nj) (bR (af (rv 1) (af (rv 2) ah))))))
   (ai (aE (i:=4) gW.nd (er gC (aL cJ rfl Z.len boot_len (af (rv 3) ah)) (aL cJ rfl Z.len boot_len (af (aG bA.cl aW (rv 0)) ah))))
   (ai (c9 bA.cl aW (rv 0) (rv 3))
   (ar (aD (rv 4))))))]
 ·obtain ⟨p,r,rows,h,f,rfl,_⟩:=h;rfl
 obtain ⟨p,r,rows,h,f,rfl,b,hl,q⟩:=h
 have bo:=b.o
 have bl:=b.l
 refine hX ?_
 simp_arith! [bE,zK,bo,bl,Mz]
 refine ⟨AD h f,λx=>x,⟨by rw [Rr];exact aX (by omega),λJ' sub=>⟨sub _ _ bl,λx hx=>?_⟩⟩,λr' hr'=>?_⟩
 ·obtain ⟨b,_,rfl⟩:=Ru.mp hx
  obtain ⟨xs,h1,h2,h3⟩:=Dc J' b
  have hk:AD h f b.v=!eqQ (.tup (lH xs (some 1) none)) (.tup [.str h,.str f]):=by rw [h1];rfl
  simp_arith! [bE]
  refine ⟨zj h1 ⟨h2,?_⟩,λ_=>trivial⟩
  simp_arith! [bE]
  rw [hk,h3]
  refine ⟨⟨by simp [m7,kJ],by simp [gQ,gG,dep,dY]⟩,by simp [m7,kJ],rfl⟩
 ·have ne:p≠r':=by intro e;subst e;rw [bo] at hr';cases hr'
  have nr:r≠r':=by intro e;subst e;rw [bl] at hr';cases hr'
  simp_arith! [bE,aj ne,aj nr,bo,bl,Mz,Dm,Rr,Int.ofNat_lt]
  exact ⟨by decide,q r' hr'⟩
abbrev j5:Stmt:=(L2.inClass (top 25) 1)
abbrev mU:List Str:=["self","moment","hind","fore"]
theorem dB:L2.aw ["self","moment","hind","fore","bell","low","high","middle"] ["self","moment","hind","fore"] (L2.aq j5):=dI
def EV (cB:Addr):cG:=λxs J Q _=>∃p r rows m h f,xs=[.ref p,fr m,.str h,.str f]∧IH cB J p r rows∧g9 rows∧rows.length≤800∧Sz 9000 m∧(∀x∈rows,Sz 9000 x.m) ∧
 ∀r',J r'=none→Q .non (put (put J r' (.lst ((d8 ⟨m,h,f⟩ (c_ h f rows)).map ax.v))) p (.ins cB [("rows",.ref r')]))
theorem HK (a b:Nat):((a:Int) + (b:Int)).fdiv 2=(((a + b) / 2:Nat):Int):=by rw [Int.fdiv_eq_ediv_of_nonneg _ (by decide)];omega
theorem Qu (a:Int):CQ a 2=True:=eq_true ⟨by decide,Bd.mono (Bd.small (by decide) (by decide)) (by decide)⟩
theorem C7 {rows:List ax} {i:Nat} {b:ax} (h:rows[i]?=some b):cZ (rows.map ax.v) (i:Int)=some b.v:=bG (by rw [Ry,h];rfl)
theorem vo {cB f:Addr} {fd:FuncData} (F:bP K "put" "Bells.put" j5 f fd) (Z:bD mg) (bA:df K mg "Bells" cB) (aW:aA K cB "rows") (iG:cq P w K mg base cB 1 "drop" kP (A8 cB))
  (rY:bF P w K mg base 2 "rings_ahead" jY wJ):aH P w K mg base (cg P w) 3 f fd mU (cH K (EV cB)):=by
 simp_arith [dB,(ai (a_ (a9 (pl:=_) iG B hr (rv 0) (af (rv 2) (af (rv 3) ah))))
   (ai (aE (i:=4) dB.nd (bR (af (rv 1) (af (rv 2) (af (rv 3) ah)))))
   (ai (wm (i:=5) (j:=6) rfl dB.nd rfl rfl (by decide) rfl rfl (af ag (af (aL cJ rfl Z.len boot_len (af (aG bA.cl aW (rv 0)) ah)) ah)) rfl)
   (ai (fk bq (aJ gC (rv 5) (rv 6)) (ai (aE (i:=7) dB.nd (az ed (az bO (rv 5) (rv 6)) ag))
   (ar (aY (bz (aQ rY B hr (af (au av (aG bA.cl aW (rv 0)) (rv 7)) (af (rv 4) ah)))) (ar (aE (i:=5) dB.nd (az bO (rv 7) ag))) (ar (aE (i:=6) dB.nd (rv 7)))))))
   (ar (a_ (fL PySem.F.plainAttrs_list PySem.F.slot_list_insert PySem.F.type_list_insert hZ (aG bA.cl aW (rv 0)) (af (rv 5) (af (rv 4) ah)))))))))]
 ·obtain ⟨p,r,rows,m,h,f,rfl,_⟩:=h;rfl
 obtain ⟨p,r,rows,m,h,f,rfl,b,srt,hl,sm,sr,q⟩:=h
 have bo:=b.o
 refine hX ?_
 simp_arith! [bE,bo,O3]
 refine ⟨p,r,rows,h,f,rfl,b,by omega,λr' hr'=>?_⟩
 have Ll:r'≠p:=by intro e;subst e;rw [bo] at hr';cases hr'
 have b1:IH cB (put (put J r' (.lst ((c_ h f rows).map ax.v))) p (.ins cB [("rows",.ref r')])) p r' (c_ h f rows):=⟨ak,by rw [aj Ll];exact ak⟩
 have kl:(c_ h f rows).length≤800:=RN (nY _ _ _) hl
 have ks:g9 (c_ h f rows):=tX srt
 have kz:∀x∈c_ h f rows,Sz 9000 x.m:=λx hx=>sr x (RU.mp hx).1
 have q:=q r' hr'
 generalize hJ:put (put J r' (.lst ((c_ h f rows).map ax.v))) p (.ins cB [("rows",.ref r')])=J1 at b1 ⊢
 have hq:put J1 r' (.lst ((d8 ⟨m,h,f⟩ (c_ h f rows)).map ax.v))=put (put J r' (.lst ((d8 ⟨m,h,f⟩ (c_ h f rows)).map ax.v))) p (.ins cB [("rows",.ref r')]):=by rw [← hJ,G0 Ll]
 rw [← hq] at q
 clear hq hJ hr'
 have bo:=b1.o
 have bl:=b1.l
 generalize c_ h f rows=ks' at *
 simp_arith! [bE,bo,bl,Mz,IG,Rr]
 refine ⟨λk τ J'=>∃(lo hi:Nat) (u:Option PV),τ=[some (.ref p),some (fr m),some (.str h),some (.str f),some (ax.mk m h f).v,some (.int lo),some (.int hi),u]∧J'=J1∧k=hi - lo∧lo≤hi∧hi≤ks'.length ∧
  (∀(j:Nat) x,j < lo→ks'[j]?=some x→x.lt ⟨m,h,f⟩=true)∧(∀(j:Nat) x,hi≤j→ks'[j]?=some x→x.lt ⟨m,h,f⟩=false),⟨_,0,ks'.length,none,rfl,rfl,rfl,Sb _,Rz _,λj x hj=>absurd hj (Tc _),λj x hj e=>by rw [Sw hj] at e;cases e⟩,?_⟩
 rintro k τ J' ⟨lo,hi,u,rfl,rfl,rfl,h1,h2,hlo,hhi⟩
 simp_arith! [bE,bo,bl,Mz,Qu,HK,Int.ofNat_lt,wJ]
 by_cases hlt:lo < hi
 ·rw [if_pos hlt]
  have hm:(lo + hi) / 2 < ks'.length:=by omega
  obtain ⟨x,hx⟩:∃x,ks'[(lo + hi) / 2]?=some x:=⟨_,Rt hm⟩
  obtain ⟨N,hN⟩:∃N:Sr→Hq→Prop,∀τ' J'',N τ' J''↔∃(lo' hi':Nat) (u:Option PV),τ'=[some (.ref p),some (fr m),some (.str h),some (.str f),some (ax.mk m h f).v,some (.int lo'),some (.int hi'),u]∧J''=J'∧lo'≤hi'∧hi'≤ks'.length∧hi' - lo' < hi - lo ∧
   (∀(j:Nat) x,j < lo'→ks'[j]?=some x→x.lt ⟨m,h,f⟩=true)∧(∀(j:Nat) x,hi'≤j→ks'[j]?=some x→x.lt ⟨m,h,f⟩=false):=⟨_,λ_ _=>Iff.rfl⟩
  refine ⟨N,λτ' J'' hn=>by obtain ⟨lo',hi',u,e1,e2,e3,e4,e5,e6,e7⟩:=(hN _ _).mp hn;exact ⟨_,e5,lo',hi',u,e1,e2,rfl,e3,e4,e6,e7⟩,eZ (C7 hx) ⟨x,⟨m,h,f⟩,rfl,kz x (RJ hx),sm,?_⟩⟩
  simp_arith! [bE,Qu,HK,Int.ofNat_lt]
  cases hc:x.lt ⟨m,h,f⟩ with
  | true =>
   rw [if_pos rfl]
   exact (hN _ _).mpr ⟨(lo + hi) / 2 + 1,hi,_,rfl,rfl,by omega,h2,by omega,λj y hj e=>Bs ks hx e (by omega) hc,hhi⟩
  | false =>
   rw [if_neg R8]
   exact (hN _ _).mpr ⟨lo,(lo + hi) / 2,_,rfl,rfl,by omega,by omega,by omega,hlo,λj y hj e=>rO ks hx e hj hc⟩
 ·rw [if_neg hlt]
  have e:lo=hi:=by omega
  subst e
  refine ⟨_,lo,rfl,rfl,by rw [Rr];exact h2,by rw [Rr];exact aX (by omega),Se h2 (Se kl (by decide)),?_⟩
  rw [← uY h2 hlo hhi,Rw,RD,So,S4] at q
  exact q
abbrev iX:Stmt:=(L2.inClass (top 25) 5)
abbrev kQ:List Str:=["self"]
theorem tD:L2.aw ["self"] ["self"] (L2.aq iX):=dI
def A_ (cB:Addr):cG:=λxs J Q _=>∃p r rows,xs=[.ref p]∧IH cB J p r rows∧(Q (.fl (rows.map ax.v)) J∨∀l,J l=none→Q (.ref l) (put J l (.lst (rows.map ax.v))))
theorem sT {cB f:Addr} {fd:FuncData} (F:bP K "told" "Bells.told" iX f fd) (Z:bD mg) (bA:df K mg "Bells" cB) (aW:aA K cB "rows"):aH P w K mg base (cg P w) 1 f fd kQ (cH K (A_ cB)):=by
 simp_arith [tD,(ar (aD (ip mz rfl Z.list boot_list (af (aG bA.cl aW (rv 0)) ah)))),F]
 ·obtain ⟨p,r,rows,rfl,_⟩:=h;rfl
 obtain ⟨p,r,rows,rfl,b,q⟩:=h
 have bo:=b.o
 have bl:=b.l
 refine hX ?_
 simp_arith! [bE,bo,bl,Mz]
 intro l hl
 rcases q with q | q
 ·exact Fg.n6 (fW hl) ak hl q
 ·exact Fg.same (q l hl)
theorem xE (l l':aZ) (h:l.v≠l'.v):Rat.divInt ((l'.at 0 - l.at 0).num) (((l'.at 0 - l.at 0).den:Int) * (l.v - l'.v))=dn l l':=by
 rw [Ks _ _ (by omega)];rfl
abbrev oE:Stmt:=(top 29)
abbrev qS:List Str:=["one","other"]
theorem lW:L2.aw ["one","other","gain","gap"] ["one","other"] (L2.aq oE):=dI
def Bl:cG:=λxs J Q _=>∃l l':aZ,xs=[l.V,l'.V]∧nM 900 l∧nM 900 l'∧(l.v=l'.v→Q .non J)∧(l.v≠l'.v→Q (fr (dn l l')) J)
theorem xN {f:Addr} {fd:FuncData} (F:bP K "meeting" "meeting" oE f fd) (Z:bD mg) (N:nW K mg) (cT:bF P w K mg base 4 "place_on" fj pj) (uE:bF P w K mg base 3 "minus" qT (Cy λp q=>p - q)) (dU:bF P w K mg base 2 "fraction" fi ft) :
  aH P w K mg base (cg P w) 5 f fd qS (cH K Bl):=by
 obtain ⟨aN,gN,sN⟩:=N
 have rN:∀(J:Hq) (H:Hp),cu K J H (fr 0) (.ref aN):=λJ H=>⟨aN,_,rfl,sN H,⟨_,_,rfl,rfl,_,_,rfl,rfl,rfl⟩⟩
 simp_arith [lW,(ai (aE (i:=2) lW.nd (az c8 (au av (rv 0) ag) (au av (rv 1) ag)))
   (ai (aY (aJ (dN hr.aV) (rv 2) ag) (ar (aD oA)) aO)
   (ai (aE (i:=3) lW.nd (aQ uE B hr (af (aQ cT B hr (af (rv 1) (af (fg (v:=.ref aN) (fr 0) rfl gN rfl rN) ah))) (af (aQ cT B hr (af (rv 0) (af (fg (v:=.ref aN) (fr 0) rfl gN rfl rN) ah))) ah))))
   (ar (aD (aQ dU B hr (af (au av (rv 3) ag) (af (az aT (au av (rv 3) ag) (rv 2)) ah))))))))]
 ·obtain ⟨l,l',rfl,_⟩:=h;rfl
 obtain ⟨l,l',rfl,sl,sl',q0,q1⟩:=h
 refine hX ?_
 have z1:Sz 900 (0:Rat):=⟨⟨by decide⟩,⟨by decide⟩⟩
 have s3:=jA sl z1
 have s3':=jA sl' z1
 have s4:Sz 6001 (l'.at 0 - l.at 0):=s3'.sub s3
 have bg:Bd 65 (l.v - l'.v):=sl.v.sub sl'.v
 simp_all! [kO]
 split
 ·rename_i e;simp_all! [];exact q0 (by omega)
 rename_i e
 have hv:l.v≠l'.v:=by omega
 simp_all! []
 refine ⟨l',0,rfl,sl'.m,sl'.p,z1,sl'.v,l,0,rfl,sl.m,sl.p,z1,sl.v,l'.at 0,l.at 0,rfl,s3'.mono (by decide),s3.mono (by decide),?_⟩
 simp_all! []
 refine ⟨.of s4.den bg,_,_,rfl,Int.mul_ne_zero (eR _) e,(Bd.mul s4.den bg (k:=6100)).mono (by decide),?_⟩
 rw [xE l l' hv]
 exact q1 hv
theorem xF {l l':aZ} (sl:nM 900 l) (sl':nM 900 l') (h:l.v≠l'.v):Sz 8000 (dn l l'):=by
 rw [← xE l l' h]
 have z1:Sz 900 (0:Rat):=⟨⟨by decide⟩,⟨by decide⟩⟩
 have s4:Sz 6001 (l'.at 0 - l.at 0):=(jA sl' z1).sub (jA sl z1)
 have bg:Bd 65 (l.v - l'.v):=sl.v.sub sl'.v
 exact Sz.div (s4.num.mono (by decide)) ((Bd.mul s4.den bg (k:=6100)).mono (by decide)) (Int.mul_ne_zero (eR _) (by omega))
theorem a8.Oh {L:Ln} (h:a8 L) {c:Cf} (hc:c∈L.cs):nM 900 c.cur:=(h.ck c hc _ (Cf.fN (h.ne c hc)).2).Fs
abbrev i8:Stmt:=(L2.inClass (top 45) 13)
abbrev kY:List Str:=["self","name","other"]
theorem lp:L2.aw ["self","name","other","met"] ["self","name","other"] (L2.aq i8):=dI
def yc (cN cL eC:Addr):cG:=λxs J Q E=>∃p L n n',xs=[.ref p,.str n,.str n']∧bj cN cL J p L∧a8 L∧(∀c∈L.cs,∀c'∈L.cs,c.n=n→c'.n=n'→c.g=none→c'.g=none→Q (gv (Gk L.t c.cur c'.cur)) J)∧(n ∉ L.row∨n' ∉ L.row→E eC J)
theorem s_ {cN cL eC f:Addr} {fd:FuncData} (F:bP K "meets" "Lane.meets" i8 f fd) (Z:bD mg) (ay:df K mg "Lane" cN) (aB:aA K cN "now") (bh:cq P w K mg base cN 4 "leg_of" dq (ka cN cL eC)) (BD:bF P w K mg base 5 "meeting" qS Bl) (dG:bF P w K mg base 1 "less" gF cX):aH P w K mg base (cg P w) 6 f fd kY (cH K (yc cN cL eC)):=by
 simp_arith [lp,(ai (aE (i:=3) lp.nd (aQ BD B hr (af (a9 (pl:=_) bh B hr (rv 0) (af (rv 1) ah)) (af (a9 (pl:=_) bh B hr (rv 0) (af (rv 2) ah)) ah))))
   (ar (aD (NF (dF (f_ (aJ xP (rv 3) oA) (eu (bz (aQ dG B hr (af (aG ay.cl aB (rv 0)) (af (rv 3) ah))))))) (rv 3) oA))))]
 ·obtain ⟨p,L,n,n',rfl,_⟩:=h;rfl
 obtain ⟨p,L,n,n',rfl,b,ok,q,qe⟩:=h
 have bo:=b.ob
 refine hX ?_
 simp_all! [bo]
 refine ⟨hV _ _ _ _,p,L,n,rfl,b,ok,λc hc e hg=>?_,λz=>qe (.inl z)⟩
 simp_all! [bo]
 refine ⟨hV _ _ _ _,p,L,n',rfl,b,ok,λc' hc' e' hg'=>?_,λz=>qe (.inr z)⟩
 have q:=q c hc c' hc' e e' hg hg'
 have sl:=ok.Oh hc
 have sl':=ok.Oh hc'
 unfold Gk at q
 refine ⟨c.cur,c'.cur,rfl,sl,sl',λhv=>?_,λhv=>?_⟩
 ·rw [if_neg (λz=>z.1 hv)] at q
  simp_all! []
  exact q
 ·simp_all! [uZ,bo,qA,cX]
  refine ⟨ok.Fu.mono (by decide),(xF sl sl' hv).mono (by decide),?_⟩
  split
  ·rename_i c1
   rw [if_pos ⟨hv,c1⟩] at q
   simp_all! []
   exact q
  ·rename_i c1
   rw [if_neg (λz=>c1 z.2)] at q
   exact q
theorem Rm (A:Nat):Sc gM A 0:=⟨0,by rw [Rat.zero_mul];rfl,Sb _⟩
theorem bj.za {cN cL:Addr} {J:Hq} {p T:Addr} {L:Ln} (h:bj cN cL J p L) (hT:J T=Sf .tab):¬ L.own p T:=by
 rintro (rfl | rfl | rfl | ⟨c,hc,rfl | rfl⟩)
 ·rw [h.ob] at hT;cases hT
 ·rw [h.dc] at hT;cases hT
 ·rw [h.rw] at hT;cases hT
 ·rw [(h.lg c hc).o] at hT;cases hT
 ·rw [(h.lg c hc).l] at hT;cases hT
theorem L5 {L:Ln} {n:Str} {l:aZ} (h:(n,l)∈L.fs):∃c∈L.cs,c.n=n∧c.g=none∧c.cur=l:=by
 obtain ⟨c,hc,e⟩:=Ru.mp h
 have:=Ln.dA.mp hc
 cases e
 exact ⟨c,this.1,rfl,this.2,rfl⟩
abbrev eA:Stmt:=(top 19)
abbrev f9:List Str:=["pair"]
theorem lU:L2.aw ["pair"] ["pair"] (L2.aq eA):=dI
def x_:cG:=λxs J Q _=>∃a b:Int,xs=[.tup [.int a,.int b]]∧Q (.bl (decide (1≤b∧Int.gcd a b=1))) J
theorem kI {f:Addr} {fd:FuncData} (F:bP K "in_lowest_terms" "in_lowest_terms" eA f fd) (Z:bD mg) (pY:bF P w K mg base 1 "shared" oz kE):aH P w K mg base (cg P w) 2 f fd f9 (cH K x_):=by
 simp_arith [lU,(ar (aD (zM (er AL (au av (rv 0) ag) ag) (wj (er (dN hr.aV) (aQ pY B hr (af (au av (rv 0) ag) (af (au av (rv 0) ag) ah))) ag)))))]
 ·obtain ⟨a,b,rfl,_⟩:=h;rfl
 obtain ⟨a,b,rfl,q⟩:=h
 refine hX ?_
 simp_all! []
 by_cases c:1≤b
 ·simp only [c,decide_true,true_and,if_true] at q ⊢
  simp_all! [kE]
  have:decide (((Int.gcd a b:Nat):Int)=1)=decide (Int.gcd a b=1):=decide_eq_decide.mpr (by omega)
  rw [this];exact q
 ·simp only [c,decide_false,false_and] at q ⊢
  rw [if_neg (λz=>z)]
  exact q
abbrev gS:Stmt:=(top 43)
abbrev jV:List Str:=["moment"]
theorem gh:L2.aw ["moment","top","bottom"] ["moment"] (L2.aq gS):=dI
def fJ (a b:Int):Bool:=decide (b≤60∧1≤b∧Int.gcd a b=1∧0≤a∧a≤1000000 * b)
def Bg:cG:=λxs J Q _=>∃a b:Int,xs=[.tup [.int a,.int b]]∧Q (.bl (fJ a b)) J
theorem pG {f:Addr} {fd:FuncData} (F:bP K "good_moment" "good_moment" gS f fd) (Z:bD mg) {nE nF:Tok} (jF:mg "FINEST"=some (.int 60 nE)) (jG:mg "LATEST"=some (.int 1000000 nF)) (l8:bF P w K mg base 2 "in_lowest_terms" f9 x_):aH P w K mg base (cg P w) 3 f fd jV (cH K Bg):=by
 simp_arith [gh,(ai (wk (rv 0) (qZ (n:=2) rfl (c5 (ba (i:=1) gh.nd) (c5 (ba (i:=2) gh.nd) ni))))
   (ai (aY (dF (j0 (aJ o6 (rv 2) (fg (v:=.int 60) (.int 60) rfl jF ⟨_,rfl⟩ (λ_ _=>rfl))) (f' (cW (bz (aQ l8 B hr (af (rv 0) ah))))))) (ar (aD eL)) aO)
   (ar (aD (EI AM AM ag (rv 1) (az aT (fg (v:=.int 1000000) (.int 1000000) rfl jG ⟨_,rfl⟩ (λ_ _=>rfl)) (rv 2)))))))]
 ·obtain ⟨a,b,rfl,_⟩:=h;rfl
 obtain ⟨a,b,rfl,q⟩:=h
 refine hX ?_
 unfold fJ at q
 simp_all! []
 simp_all! []
 by_cases c1:60 < b
 ·rw [if_pos c1]
  rw [decide_eq_false (λz=>by omega)] at q
  exact q
 rw [if_neg c1]
 simp_all! []
 refine ⟨a,b,rfl,?_⟩
 by_cases c2:1≤b∧Int.gcd a b=1
 ·rw [decide_eq_true c2]
  simp_all! [we]
  by_cases c3:0≤a
  ·simp only [c3,decide_true,if_true]
   refine ⟨.of (.small (x:=1000000) (by decide) (by decide)) (.small (x:=b) (by omega) (by omega)),?_⟩
   have:decide (a≤1000000 * b)=decide (b≤60∧1≤b∧Int.gcd a b=1∧0≤a∧a≤1000000 * b):=decide_eq_decide.mpr ⟨λz=>⟨by omega,c2.1,c2.2,c3,z⟩,λz=>z.2.2.2.2⟩
   rw [this];exact q
  ·rw [decide_eq_false (λz=>c3 z.2.2.2.1)] at q
   simp only [c3,decide_false]
   rw [if_neg (λz=>z)]
   exact q
 ·rw [decide_eq_false c2]
  rw [decide_eq_false (λz=>c2 ⟨z.2.1,z.2.2.1⟩)] at q
  simp_all! []
  exact q
theorem bj.less {cN cL:Addr} {J J':Hq} {p:Addr} {L:Ln} (h:bj cN cL J p L) (l:gZ J J'):bj cN cL J' p L:=h.keep λa o _ e=>by
 rcases l a with z | z
 ·rw [← z];exact e
 ·rw [z] at e;cases e
theorem ue {J J':Hq} {p r:Addr} {x y:HQ} (l:gZ J J') (hp:J p=none) (hr:J' r=none):gZ J (put (put J' r x) p y):=λa=>by
 by_cases e:a=p
 ·exact .inr (by rw [e];exact hp)
 by_cases e2:a=r
 ·rcases l a with z | z
  ·right;rw [z,e2];exact hr
  ·exact .inr z
 ·rw [aj e,aj e2];exact l a
theorem B3 {J:Hq} {p r:Addr} {x y z:HQ} (hp:J p=none) (hr:put J p x r=none):gZ J (put (put (put J p x) r y) p z):=ue (fW hp) hp hr
theorem Dd (xs:List PV) (k:Nat) (h:k≤xs.length):lH xs (some (k:Int)) none=xs.drop k:=by
 unfold lH HT.d7
 simp only [Int.toNat_natCast]
 rw [if_neg (by omega),Ue h]
 rw [SK (by rw [SH];exact Rz _)]
theorem cy.keys {L:Ln} (ok:cy L):L.row.map PV.str=(d9 (L.fs.map (key L.t))).map λk=>PV.str k.n:=by rw [ok.row];unfold bZ;rw [RK];rfl
theorem vb {L:Ln} (ok:a8 L) {a:Ky} (ha:a∈d9 (L.fs.map (key L.t))) {c:Cf} (hc:c∈L.cs) (hg:c.g=none) (e:c.n=a.n):a=key L.t (c.n,c.cur):=by
 obtain ⟨x,hx,rfl⟩:=Ru.mp ((bS _ _).mp ha)
 obtain ⟨c0,hc0,h1,h2,h3⟩:=L5 (n:=x.1) (l:=x.2) hx
 have:c0=c:=ok.uniq hc0 hc (h1.trans e.symm)
 subst this
 show key L.t (x.1,x.2)=_
 rw [← h3,← h1]
theorem pU {L:Ln} (ok:cy L) {a:Ky} (ha:a∈d9 (L.fs.map (key L.t))):a.n∈L.row:=by
 rw [ok.row];unfold bZ;exact Ru.mpr ⟨a,ha,rfl⟩
theorem xD {L:Ln} (ok:cy L) {a b:Ky} (ha:a∈d9 (L.fs.map (key L.t))) (hb:b∈d9 (L.fs.map (key L.t))) (h:b.v < a.v):Sz 9000 (cO L.t a b):=by
 obtain ⟨c,hc,hcn,hcg⟩:=ok.found (pU ok ha)
 obtain ⟨c',hc',hcn',hcg'⟩:=ok.found (pU ok hb)
 have ea:=vb ok.toa8 ha hc hcg hcn
 have eb:=vb ok.toa8 hb hc' hcg' hcn'
 have hv:c.cur.v≠c'.cur.v:=by rw [ea,eb] at h;exact λz=>by have:c'.cur.v < c.cur.v:=h;omega
 rw [ea,eb,← mL hv]
 exact (xF (ok.Oh hc) (ok.Oh hc') hv).mono (by decide)
theorem cy.knd {L:Ln} (ok:cy L):((L.fs.map (key L.t)).map Ky.n).Nodup:=by rw [cM];exact ok.Lk
theorem cy.O1 {L:Ln} (ok:cy L):(d9 (L.fs.map (key L.t))).length≤12:=by
 have h1:=ok.rl
 have h2:=congrArg Sx ok.keys
 rw [Rr,Rr] at h2
 omega
theorem DV {L:Ln} (ok:cy L) {i j:Nat} {a b:Ky} (ha:(d9 (L.fs.map (key L.t)))[i]?=some a) (hb:(d9 (L.fs.map (key L.t)))[j]?=some b) (hij:i < j) {c c':Cf} (hc:c∈L.cs) (hc':c'∈L.cs) (hg:c.g=none) (hg':c'.g=none) (e:c.n=a.n) (e':c'.n=b.n) :
  Gk L.t c.cur c'.cur=if b.v < a.v∧a.p < b.p then some (cO L.t a b) else none:=by
 have ea:=vb ok.toa8 (RJ ha) hc hg e
 have eb:=vb ok.toa8 (RJ hb) hc' hg' e'
 have hlt:a.lt b=true:=by
  obtain ⟨hil,ei⟩:=Rv.mp ha
  obtain ⟨hjl,ej⟩:=Rv.mp hb
  have:=Sn.mp (f6 ok.knd) i j hil hjl hij
  rw [ei,ej] at this;exact this
 rw [ea,eb] at hlt ⊢
 have key:=Gm hlt
 unfold Gk
 by_cases z:c.cur.v≠c'.cur.v∧L.t < dn c.cur c'.cur
 ·rw [if_pos z,if_pos (show (Ov.key L.t (c'.n,c'.cur)).v < (Ov.key L.t (c.n,c.cur)).v∧(Ov.key L.t (c.n,c.cur)).p < (Ov.key L.t (c'.n,c'.cur)).p from key.mp z),mL z.1]
 ·rw [if_neg z,if_neg (show ¬ ((Ov.key L.t (c'.n,c'.cur)).v < (Ov.key L.t (c.n,c.cur)).v∧(Ov.key L.t (c.n,c.cur)).p < (Ov.key L.t (c'.n,c'.cur)).p) from λy=>z (key.mpr y))]
abbrev fI:Stmt:=(L2.inClass (top 45) 6)
abbrev ie:List Str:=["self","moment"]
theorem bY:L2.aw ["self","moment","passings","at","hind","fore","met"] ["self","moment"] (L2.aq fI):=dI
theorem uf {J J':Hq} {l:Addr} {o:HQ} (h:gZ J J'):gZ (put J l o) (put J' l o):=λa=>by
 by_cases e:a=l
 ·subst e;rw [ak,ak];exact .inl rfl
 ·rw [aj e,aj e];exact h a
def Bn (cN cL eM eP:Addr):cG:=λxs J Q E=>∃p L a b,xs=[.ref p,.tup [.int a,.int b]]∧bj cN cL J p L∧cy L∧(fJ a b=false→E eM J)∧(∀m:Rat,m.num=a→(m.den:Int)=b→fJ a b=true→(m < L.t→E eP J)∧(L.t≤m→Q (.fl ((bV L.t (L.fs.map (key L.t)) m).map ax.v)) J∨∀l,J l=none→Q (.ref l) (put J l (.lst ((bV L.t (L.fs.map (key L.t)) m).map ax.v)))))
theorem oj {cN cL cB eM eP eC f:Addr} {fd:FuncData} (F:bP K "foretold" "Lane.foretold" fI f fd) (Z:bD mg) (ay:df K mg "Lane" cN) (aB:aA K cN "now") (aF:aA K cN "row") (cS:Own K mg "BadMoment" eM) (p9:Own K mg "Past" eP) (rW:bF P w K mg base 3 "good_moment" jV Bg) (dG:bF P w K mg base 1 "less" gF cX) (uM:uN P w K mg base cB 1 "Bells" gD (A9 cB)) (iP:cq P w K mg base cN 6 "meets" kY (yc cN cL eC)) (jJ:cq P w K mg base cB 3 "put" mU (EV cB)) (iH:cq P w K mg base cB 1 "told" kQ (A_ cB)):aH P w K mg base (cg P w) 7 f fd ie (cH K (Bn cN cL eM eP)):=by
 simp_arith [bY,(ai (aY (cW (bz (aQ rW B hr (af (rv 1) ah)))) (ar (dP cS rfl cA B.kn rfl (af b_ ah))) aO)
   (ai (aY (bz (aQ dG B hr (af (rv 1) (af (aG ay.cl aB (rv 0)) ah)))) (ar (dP p9 rfl cA B.kn rfl (af b_ ah))) aO)
   (ai (aE (i:=2) bY.nd (m_ uM B hr))
   (ai (cQ bq rfl (Hc rfl Z.enumerate (af (aG ay.cl aF (rv 0)) ah)) (qZ (n:=2) rfl (c5 (ba (i:=3) bY.nd) (c5 (ba (i:=4) bY.nd) ni))) (ar (cQ bq rfl (dR (iq IE (aG ay.cl aF (rv 0)) (iW (az bO (rv 3) ag)) nj)) (ba (i:=5) bY.nd) (ai (aE (i:=6) bY.nd (a9 (pl:=_) iP B hr (rv 0) (af (rv 4) (af (rv 5) ah))))
   (ar (aY (dF (f_ (aJ xP (rv 6) oA) (eu (cW (bz (aQ dG B hr (af (rv 1) (af (rv 6) ah)))))))) (ar (a_ (a9 (pl:=_) jJ B hr (rv 2) (af (rv 6) (af (rv 4) (af (rv 5) ah)))))) aO))))))
   (ar (aD (c4 (pl:=_) iH B hr (rv 2)))))))),F]
 ·obtain ⟨p,L,a,b,rfl,_⟩:=h;rfl
 obtain ⟨p,L,a,bb,rfl,b,ok,qe,q⟩:=h
 have bo:=b.ob
 refine hX ?_
 simp_all! []
 refine ⟨a,bb,rfl,?_⟩
 cases hg:fJ a bb with
 | false =>
  simp_all! [fE]
  exact qe hg
 | true =>
  have hgm:=of_decide_eq_true hg
  obtain ⟨m,hm1,hm2⟩:∃m:Rat,m.num=a∧(m.den:Int)=bb:=⟨⟨a,bb.toNat,by omega,by
   have:=hgm.2.2.1
   unfold Int.gcd at this
   show Nat.gcd a.natAbs bb.toNat=1
   rw [show bb.toNat=bb.natAbs by omega];exact this⟩,rfl,by show ((bb.toNat:Nat):Int)=bb;omega⟩
  obtain ⟨q1,q2⟩:=q m hm1 hm2 hg
  have ef:PV.tup [.int a,.int bb]=fr m:=by rw [← hm1,← hm2];rfl
  have sm:Sz 900 m:=⟨(Bd.small (x:=m.num) (by omega) (by omega)).mono (by decide),(Bd.small (x:=(m.den:Int)) (by omega) (by omega)).mono (by decide)⟩
  simp_all! [bo,qA,ef]
  refine ⟨_,_,rfl,sm.mono (by decide),ok.Fu.mono (by decide),?_⟩
  by_cases c1:m < L.t
  ·rw [decide_eq_true c1]
   simp_all! [fE]
   exact q1 c1
  rw [decide_eq_false c1]
  have q:=q2 (by grind)
  simp_all! []
  intro pb hpb
  refine ⟨pb,rfl,ak,λr0 hr0=>⟨rfl,?_⟩⟩
  have l0:=B3 (y:=.lst []) (z:=.ins cB [("rows",.ref r0)]) hpb hr0
  have nr0:r0≠pb:=by intro e;subst e;rw [ak] at hr0;cases hr0
  have b0:IH cB (put (put (put J pb (.ins cB [])) r0 (.lst [])) pb (.ins cB [("rows",.ref r0)])) pb r0 []:=⟨ak,by rw [aj nr0];exact ak⟩
  generalize put (put (put J pb (.ins cB [])) r0 (.lst [])) pb (.ins cB [("rows",.ref r0)])=J0 at l0 b0 ⊢
  simp_all! [(b.less l0).ob,(b.less l0).rw,vh]
  obtain ⟨ks,hks⟩:∃ks,d9 (L.fs.map (key L.t))=ks:=⟨_,rfl⟩
  have hrow:L.row.map PV.str=ks.map λk=>PV.str k.n:=by rw [← hks];exact ok.keys
  have hkl:ks.length≤12:=by rw [← hks];exact ok.O1
  have hup:∀{ps:List (Ky × Ky)},(∀p∈ps,p.1∈ks∧p.2∈ks)→∀x∈bN L.t (bK L.t m) ps,Sz 9000 x.m:=λhp x hx=>by
   obtain ⟨p,hp',hc,rfl⟩:=kA _ hx
   have:=of_decide_eq_true hc
   exact xD ok (by rw [hks];exact (hp p hp').1) (by rw [hks];exact (hp p hp').2) this.1
  rw [hrow]
  obtain ⟨Inv,hInv⟩:∃Inv:Nat→Sr→Hq→Prop,∀i τ J',Inv i τ J'↔∃(r:Addr) (u3 u4 u5 u6:Option PV),τ=[some (.ref p),some (fr m),some (.ref pb),u3,u4,u5,u6]∧gZ J J'∧IH cB J' pb r (bN L.t (bK L.t m) (yo ks i))∧(bN L.t (bK L.t m) (yo ks i)).length≤12 * i:=⟨_,λ_ _ _=>Iff.rfl⟩
  refine dZ Inv ((hInv _ _ _).mpr ⟨r0,_,_,_,_,rfl,l0,b0,Rz _⟩) (λi τ J' h=>?_) ?_ ?_
  ·obtain ⟨r,_,_,_,_,_,l',_⟩:=(hInv _ _ _).mp h
   rw [(b.less l').rw,hrow]
  ·intro i x τ J' hx hv
   obtain ⟨r,u3,u4,u5,u6,rfl,l',bb,hle⟩:=(hInv _ _ _).mp hv
   clear hv
   have hi:i < ks.length:=by have:=(Rv.mp hx).1;rw [kq,Rr] at this;exact this
   have ha:ks[i]?=some ks[i]:=Rt hi
   rw [t4 _ i (.str (ks[i]).n) (by rw [Ry,ha];rfl)] at hx
   cases hx
   generalize ks[i]=a at ha ⊢
   simp_all! [(b.less l').ob,(b.less l').rw,vh]
   rw [hrow,show (i:Int) + 1=((i + 1:Nat):Int) by omega,Dd _ _ (by rw [Rr];omega),← S4]
   have eup:yo ks (i + 1)=yo ks i ++ (ks.drop (i + 1)).map λb=>(a,b):=by show yo ks i ++ _=_;rw [ha]
   have mup:∀j,∀p∈yo ks i ++ ((ks.drop (i + 1)).take j).map (λb=>(a,b)),p.1∈ks∧p.2∈ks:=λj p hp=>by
    rcases RC.mp hp with hp | hp
    ·obtain ⟨_,_,_,_,h3,h4⟩:=nG.mp hp
     exact ⟨RJ h3,RJ h4⟩
    ·obtain ⟨y,hy,rfl⟩:=Ru.mp hp
     exact ⟨RJ ha,List.mem_of_mem_drop (Sg hy)⟩
   obtain ⟨In2,hIn2⟩:∃In2:Nat→Sr→Hq→Prop,∀j τ J',In2 j τ J'↔∃(r:Addr) (u5 u6:Option PV),τ=[some (.ref p),some (fr m),some (.ref pb),some (.int (i:Int)),some (.str a.n),u5,u6]∧gZ J J'∧IH cB J' pb r (bN L.t (bK L.t m) (yo ks i ++ ((ks.drop (i + 1)).take j).map λb=>(a,b)))∧(bN L.t (bK L.t m) (yo ks i ++ ((ks.drop (i + 1)).take j).map λb=>(a,b))).length≤12 * i + j:=⟨_,λ_ _ _=>Iff.rfl⟩
   refine dZ In2 ((hIn2 _ _ _).mpr ⟨r,_,_,rfl,l',by simpa using bb,by simpa using hle⟩) (λ_ _ _ _=>trivial) ?_ ?_
   ·intro j x τ J2 hx hv
    obtain ⟨r2,u5,u6,rfl,l2,bb2,hle2⟩:=(hIn2 _ _ _).mp hv
    clear hv
    have hj:j < (ks.drop (i + 1)).length:=by have:=(Rv.mp hx).1;rw [Rr] at this;exact this
    have hb:(ks.drop (i + 1))[j]?=some (ks.drop (i + 1))[j]:=Rt hj
    rw [Ry,hb] at hx
    cases hx
    generalize (ks.drop (i + 1))[j]=y at hb ⊢
    have hb':ks[i + 1 + j]?=some y:=by rw [Ti] at hb;exact hb
    have hjl:j < 12:=by rw [SH] at hj;omega
    have ej:(ks.drop (i + 1)).take (j + 1)=(ks.drop (i + 1)).take j ++ [y]:=by rw [RQ,hb];rfl
    have ef2:bN L.t (bK L.t m) (yo ks i ++ ((ks.drop (i + 1)).take (j + 1)).map λb=>(a,b))=kK L.t (bK L.t m) (bN L.t (bK L.t m) (yo ks i ++ ((ks.drop (i + 1)).take j).map λb=>(a,b))) (a,y):=by
     rw [ej,Rw,← T6];exact eS _ _ _ _
    have srt:=ku L.t (bK L.t m) (yo ks i ++ ((ks.drop (i + 1)).take j).map λb=>(a,b))
    have szs:=hup (mup j)
    generalize bN L.t (bK L.t m) (yo ks i ++ ((ks.drop (i + 1)).take j).map λb=>(a,b))=rows at bb2 hle2 ef2 srt szs
    have lX:bK L.t m (a,y)=false→∀{v5 v6},In2 (j + 1) [some (.ref p),some (fr m),some (.ref pb),some (.int (i:Int)),some (.str a.n),v5,v6] J2:=λhc v5 v6=>by
     have e:kK L.t (bK L.t m) rows (a,y)=rows:=by unfold kK;rw [if_neg (by rw [hc];decide)]
     exact (hIn2 _ _ _).mpr ⟨r2,_,_,rfl,l2,by rw [ef2,e];exact bb2,by rw [ef2,e];omega⟩
    have b2:=b.less l2
    simp_all! [b2.ob]
    refine ⟨hV _ _ _ _,p,L,a.n,y.n,rfl,b2,ok.toa8,λc hc c' hc' e e' hg hg'=>?_,λz=>?_⟩
    ·have hmet:=DV ok (by rw [hks];exact ha) (by rw [hks];exact hb') (by omega) hc hc' hg hg' e e'
     rw [hmet]
     by_cases c2:y.v < a.v∧a.p < y.p
     ·rw [if_pos c2]
      have smk:=xD ok (by rw [hks];exact RJ ha) (by rw [hks];exact RJ hb') c2.1
      simp_all! [gv,uZ,cX]
      refine ⟨sm.mono (by decide),smk,?_⟩
      by_cases c3:m < cO L.t a y
      ·rw [if_pos c3]
       exact lX (decide_eq_false (λz=>by have:=z.2.2;grind))
      ·rw [if_neg c3]
       have hcp:bK L.t m (a,y)=true:=decide_eq_true ⟨c2.1,c2.2,by grind⟩
       have e:kK L.t (bK L.t m) rows (a,y)=d8 ⟨cO L.t a y,a.n,y.n⟩ (c_ a.n y.n rows):=by unfold kK;rw [if_pos hcp];rfl
       simp_all! [bb2.o]
       refine ⟨O4 _,pb,r2,rows,cO L.t a y,a.n,y.n,rfl,bb2,srt,by omega,smk,szs,λr' hr'=>?_⟩
       have nr:r'≠pb:=by intro z;subst z;rw [bb2.o] at hr';cases hr'
       refine (hIn2 _ _ _).mpr ⟨r',_,_,rfl,ue l2 hpb hr',⟨ak,by rw [aj nr,ak,ef2,e]⟩,?_⟩
       rw [ef2,e,qo]
       have:=nY a.n y.n rows
       omega
     ·rw [if_neg c2]
      simp_all! [gv]
      exact lX (decide_eq_false (λz=>c2 ⟨z.1,z.2.1⟩))
    ·rcases z with z | z
     ·exact absurd (pU ok (by rw [hks];exact RJ ha)) z
     ·exact absurd (pU ok (by rw [hks];exact RJ hb')) z
   ·intro τ J2 hv
    obtain ⟨r2,u5,u6,rfl,l2,bb2,hle2⟩:=(hIn2 _ _ _).mp hv
    rw [Rr,RY,← eup] at bb2 hle2
    rw [SH] at hle2
    exact (hInv _ _ _).mpr ⟨r2,_,_,_,_,rfl,l2,bb2,by omega⟩
  ·intro τ J' hv
   obtain ⟨r,u3,u4,u5,u6,rfl,l',bb,hle⟩:=(hInv _ _ _).mp hv
   rw [kq,Rr,← hks,Hx ok.knd] at bb
   simp_all! [bb.o]
   exact ⟨O5 _,pb,r,_,rfl,bb,q.imp (λq=>Fg.less l' q) λq l hl=>Fg.less (uf l') (q l ((l' l).elim (λe=>e.trans hl) id))⟩
theorem mF {m:Rat} (h:fJ m.num m.den=true):Sc gM MM m∧0≤m:=by
 have h:=of_decide_eq_true h
 have hd:m.den≤60:=by omega
 constructor
 ·have h1:Sc m.den m.num.natAbs m:=⟨m.num,by have:=cast_eq m;rw [this];rfl,Rz _⟩
  obtain ⟨k,hk⟩:=QH m.den m.den_pos hd
  have h2:=h1.scale (E:=k)
  rw [show k * m.den=gM by rw [hk,Nat.mul_comm]] at h2
  refine h2.mono ?_
  have h3:m.num.natAbs≤1000000 * m.den:=by omega
  have h4:k * m.num.natAbs≤k * (1000000 * m.den):=Nat.mul_le_mul_left _ h3
  have h5:k * (1000000 * m.den)=1000000 * gM:=by rw [hk];rw [Nat.mul_left_comm,Nat.mul_comm k]
  unfold MM
  omega
 ·exact Rat.num_nonneg.mp h.2.2.2.1
theorem a8.L9 {L:Ln} (h:a8 L) {m:Rat} (hm:L.t≤m) (hg:fJ m.num m.den=true):a8 { L with t:=m } :=
 ⟨h.nd,h.ne,λc hc l hl=>Rat.le_trans (h.le c hc l hl) hm,h.ck,h.len,λc hc q e=>⟨(h.gz c hc q e).1,Rat.le_trans (h.gz c hc q e).2 hm⟩,(mF hg).2,(mF hg).1,h.many,h.rm,h.rn,h.rl⟩
abbrev i6:Stmt:=(L2.inClass (top 45) 5)
abbrev kW:List Str:=["self","moment"]
theorem lj:L2.aw ["self","moment","passings"] ["self","moment"] (L2.aq i6):=dI
def ID (cN cL eM eP:Addr):cG:=λxs J Q E=>∃p L a b,xs=[.ref p,.tup [.int a,.int b]]∧bj cN cL J p L∧cy L∧(fJ a b=false→E eM J)∧(∀m:Rat,m.num=a→(m.den:Int)=b→fJ a b=true→(m < L.t→E eP J)∧(L.t≤m→∀J' o',bj cN cL J' p { L with t:=m,o:=o',row:=bZ m L.fs }→cy { L with t:=m,o:=o',row:=bZ m L.fs }→Mv J J' (L.own p) (Ln.own { L with t:=m,o:=o',row:=bZ m L.fs } p)→Q (.fl ((bV L.t (L.fs.map (key L.t)) m).map ax.v)) J'))
theorem sY {cN cL eM eP f:Addr} {fd:FuncData} (F:bP K "go_to" "Lane.go_to" i6 f fd) (Z:bD mg) (ay:df K mg "Lane" cN) (aB:aA K cN "now") (fA:cq P w K mg base cN 7 "foretold" ie (Bn cN cL eM eP)) (bL:cq P w K mg base cN 7 "settle" eg (kD cN cL)):aH P w K mg base (cg P w) 8 f fd kW (cH K (ID cN cL eM eP)):=by
 simp_arith [lj,(ai (aE (i:=2) lj.nd (a9 (pl:=_) fA B hr (rv 0) (af (rv 1) ah)))
   (ai (c9 ay.cl aB (rv 0) (rv 1))
   (ai (a_ (c4 (pl:=_) bL B hr (rv 0)))
   (ar (aD (rv 2))))))]
 ·obtain ⟨p,L,a,b,rfl,_⟩:=h;rfl
 obtain ⟨p,L,a,bb,rfl,b,ok,qe,q⟩:=h
 have bo:=b.ob
 refine hX ?_
 simp_all! [bo]
 refine ⟨hV _ _ _ _,p,L,a,bb,rfl,b,ok,qe,λm h1 h2 hg=>⟨(q m h1 h2 hg).1,λhm=>.inl ?_⟩⟩
 have q:=(q m h1 h2 hg).2 hm
 have ef:PV.tup [.int a,.int bb]=fr m:=by rw [← h1,← h2];rfl
 have hgm:fJ m.num m.den=true:=by rw [h1,h2];exact hg
 have ok1:=ok.toa8.L9 hm hgm
 simp_all! [bo,ef]
 refine ⟨by show (3:Nat) < 1000;decide,?_⟩
 have b1:bj cN cL (put J p (.ins cN [("now",fr m),("logs",.ref L.d),("row",.ref L.o)])) p { L with t:=m } :=
  ⟨ak,by show put J p _ L.d=_;rw [aj b.AG];exact b.dc,by show put J p _ L.o=_;rw [aj b.Ia];exact b.rw,λc hc=>⟨by rw [aj (b.QL hc)];exact (b.lg c hc).o,by rw [aj (b.Ll hc)];exact (b.lg c hc).l⟩,b.ap,b.ao⟩
 have mv1:Mv J (put J p (.ins cN [("now",fr m),("logs",.ref L.d),("row",.ref L.o)])) (L.own p) (L.own p):=jQ (.inl rfl) λa h=>.inl h
 generalize put J p (.ins cN [("now",fr m),("logs",.ref L.d),("row",.ref L.o)])=J1 at b1 mv1 ⊢
 simp_all! [b1.ob]
 refine ⟨hV _ _ _ _,p,{ L with t:=m },rfl,b1,ok1,λJ2 o' b2 mv2=>?_⟩
 simp_all! []
 exact q J2 o' b2 (cy.settled ok1 o') (mv1.trans mv2)
def Cf.turn (c:Cf) (t:Rat) (v:Int):Cf:={ c with w:=turned c.w t v }
def eO (n:Str) (t:Rat) (v:Int) (c:Cf):Cf:=if c.n=n then c.turn t v else c
theorem Bw (n:Str) (t:Rat) (v:Int) (c:Cf):(eO n t v c).n=c.n∧(eO n t v c).a=c.a∧(eO n t v c).r=c.r∧(eO n t v c).g=c.g:=by unfold eO;split <;> exact ⟨rfl,rfl,rfl,rfl⟩
theorem qB {α β:Type} {f:α→β} {g:α→α} (h:∀x,f (g x)=f x) (l:List α):(l.map g).map f=l.map f:=by rw [RK];exact R6 λx _=>h x
theorem a8.map {L:Ln} (h:a8 L) {f:Cf→Cf} (hn:∀c,(f c).n=c.n∧(f c).a=c.a∧(f c).r=c.r∧(f c).g=c.g) (hw:∀c∈L.cs,(f c).w≠[]∧(∀l∈(f c).w,l.m≤L.t∧rV l)∧(f c).w.length≤200):a8 { L with cs:=L.cs.map f }:=by
 have mem:∀c∈L.cs.map f,∃c0∈L.cs,f c0=c:=λc hc=>by obtain ⟨c0,h0,e⟩:=Ru.mp hc;exact ⟨c0,h0,e⟩
 have hfs:(Ln.fs { L with cs:=L.cs.map f }).map (·.1)=L.fs.map (·.1):=by
  rw [fU,fU]
  unfold Ln.CN
  show ((L.cs.map f).filter _).map Cf.n=_
  rw [TK,RK]
  have e1:(λc:Cf=>c.g.isNone) ∘ f=λc=>c.g.isNone:=by funext c;show (f c).g.isNone=_;rw [(hn c).2.2.2]
  rw [e1]
  exact R6 λc _=>(hn c).1
 refine ⟨?_,?_,?_,?_,?_,?_,h.t0,h.ts,by show (L.cs.map f).length≤100;rw [Rr];exact h.many,λn=>by rw [hfs];exact h.rm n,h.rn,h.rl⟩
 ·show ((L.cs.map f).map Cf.n).Nodup
  rw [qB (λc=>(hn c).1)];exact h.nd
 ·intro c hc;obtain ⟨c0,h0,rfl⟩:=mem c hc;exact (hw c0 h0).1
 ·intro c hc l hl;obtain ⟨c0,h0,rfl⟩:=mem c hc;exact ((hw c0 h0).2.1 l hl).1
 ·intro c hc l hl;obtain ⟨c0,h0,rfl⟩:=mem c hc;exact ((hw c0 h0).2.1 l hl).2
 ·intro c hc;obtain ⟨c0,h0,rfl⟩:=mem c hc;exact (hw c0 h0).2.2
 ·intro c hc q e;obtain ⟨c0,h0,rfl⟩:=mem c hc;exact h.gz c0 h0 q (by rw [← (hn c0).2.2.2];exact e)
theorem a8.Mj {L:Ln} (h:a8 L) {c:Cf} (hc:c∈L.cs):c.w≠[]∧(∀l∈c.w,l.m≤L.t∧rV l)∧c.w.length≤200:=⟨h.ne c hc,λl hl=>⟨h.le c hc l hl,h.ck c hc l hl⟩,h.len c hc⟩
theorem a8.N1 {L:Ln} (h:a8 L) {c:Cf} (hc:c∈L.cs) (hl:c.w.length < 200) {v:Int} (hv:v.natAbs≤1000):(c.turn L.t v).w≠[]∧(∀l∈(c.turn L.t v).w,l.m≤L.t∧rV l)∧(c.turn L.t v).w.length≤200:=by
 refine ⟨uB (h.ne c hc),λl hl'=>?_,?_⟩
 ·rcases z_ hl' with k | ⟨l0,k,rfl⟩
  ·exact ⟨h.le c hc l k,h.ck c hc l k⟩
  ·exact ⟨Rat.le_refl,(h.ck c hc l0 k).at (h.le c hc l0 k) h.ts hv⟩
 ·have:=zZ c.w L.t v
  show (turned c.w L.t v).length≤200
  omega
theorem bj.turn {cN cL:Addr} {J:Hq} {p:Addr} {L:Ln} (h:bj cN cL J p L) (ok:a8 L) {c:Cf} (hc:c∈L.cs) {t:Rat} {v:Int}:bj cN cL (put J c.r (.lst ((turned c.w t v).map aZ.V))) p { L with cs:=L.cs.map (eO c.n t v) }:=by
 have hcs:=Bw c.n t v
 refine ⟨by rw [aj (Ne.symm (h.Ll hc))];exact h.ob,?_,?_,λx hx=>?_,?_,λx hx=>?_⟩
 ·show put J c.r _ L.d=_
  rw [aj (Ne.symm (h.QN hc)),h.dc]
  show _=Sf (HQ.dct ((L.cs.map (eO c.n t v)).map λc=>(c.n,PV.ref c.a)) L.e)
  rw [qB (f:=λc:Cf=>(c.n,PV.ref c.a)) (λx=>by rw [(hcs x).1,(hcs x).2.1])]
 ·show put J c.r _ L.o=_
  rw [aj (Ne.symm (h.ao c hc))];exact h.rw
 ·obtain ⟨x0,h0,rfl⟩:=Ru.mp hx
  have hl:=h.lg x0 h0
  refine ⟨?_,?_⟩
  ·rw [(hcs x0).2.1,(hcs x0).2.2.1,(hcs x0).2.2.2,aj (h.Rf h0 hc)];exact hl.o
  ·rw [(hcs x0).2.2.1]
   by_cases e:x0.n=c.n
   ·have:x0=c:=ok.uniq h0 hc e
    subst this
    rw [ak]
    unfold eO;rw [if_pos rfl];rfl
   ·have hr:x0.r≠c.r:=λz=>e (by
     obtain ⟨i,hi,rfl⟩:=Sk h0
     obtain ⟨j,hj,rfl⟩:=Sk hc
     have:=(SG (xs:=L.cs.map Cf.r) (i:=i) (j:=j) (h₀:=by simpa using hi) (h₁:=by simpa using hj) h.ap).mp (by rw [SI,SI];exact z)
     subst this;rfl)
    rw [aj hr]
    unfold eO;rw [if_neg e];exact hl.l
 ·show ((L.cs.map (eO c.n t v)).map Cf.r).Nodup
  rw [qB (λx=>(hcs x).2.2.1)];exact h.ap
 ·obtain ⟨x0,h0,rfl⟩:=Ru.mp hx
  rw [(hcs x0).2.2.1];exact h.ao x0 h0
theorem AN {L:Ln} {p:Addr} {f:Cf→Cf} (hn:∀c,(f c).n=c.n∧(f c).a=c.a∧(f c).r=c.r∧(f c).g=c.g) (a:Addr):Ln.own { L with cs:=L.cs.map f } p a↔L.own p a:=by
 unfold Ln.own
 constructor
 ·rintro (h | h | h | ⟨c,hc,h⟩)
  ·exact .inl h
  ·exact .inr (.inl h)
  ·exact .inr (.inr (.inl h))
  ·obtain ⟨c0,h0,rfl⟩:=Ru.mp hc
   rw [(hn c0).2.1,(hn c0).2.2.1] at h
   exact .inr (.inr (.inr ⟨c0,h0,h⟩))
 ·rintro (h | h | h | ⟨c,hc,h⟩)
  ·exact .inl h
  ·exact .inr (.inl h)
  ·exact .inr (.inr (.inl h))
  ·exact .inr (.inr (.inr ⟨f c,Ru.mpr ⟨c,hc,rfl⟩,by rw [(hn c).2.1,(hn c).2.2.1];exact h⟩))
abbrev j9:Stmt:=(L2.inClass (top 45) 3)
abbrev mZ:List Str:=["self","name","pace"]
theorem wD:L2.aw ["self","name","pace"] ["self","name","pace"] (L2.aq j9):=dI
def tM:cG:=λ_ _ _ _=>False
theorem vB {f:Addr} {fd:FuncData} (F:bP K "turn" "Lane.turn" j9 f fd):aH P w K mg base (cg P w) 1 f fd mZ (cH K tM) :=
 Ib F wD (λxs J Q E h=>h.elim) (λcdv A outer s H E G xs J Q E2 hr h B=>h.elim)
abbrev i7:Stmt:=(L2.inClass (top 45) 2)
abbrev kX:List Str:=["self","name"]
theorem tH:L2.aw ["self","name"] ["self","name"] (L2.aq i7):=dI
theorem sZ {f:Addr} {fd:FuncData} (F:bP K "leave" "Lane.leave" i7 f fd):aH P w K mg base (cg P w) 1 f fd kX (cH K tM) :=
 Ib F tH (λxs J Q E h=>h.elim) (λcdv A outer s H E G xs J Q E2 hr h B=>h.elim)
def dX (t:Rat) (c:Cf):Cf:=if c.g.isNone=true then c.turn t (-c.cur.v) else c
def bT (t:Rat) (row:List Str) (c:Cf):Cf:=if c.n∈row then c.turn t (-c.cur.v) else c
theorem mw (t:Rat) (row:List Str) (c:Cf):(bT t row c).n=c.n∧(bT t row c).a=c.a∧(bT t row c).r=c.r∧(bT t row c).g=c.g:=by unfold bT;split <;> exact ⟨rfl,rfl,rfl,rfl⟩
theorem ki {L:Ln} (ok:a8 L):L.cs.map (bT L.t L.row)=L.cs.map (dX L.t):=by
 refine R6 λc hc=>?_
 have h:c.n∈L.row↔c.g.isNone=true:=by
  rw [ok.rm,fU,Ru]
  constructor
  ·rintro ⟨c',hc',e⟩
   have h':=Ln.dA.mp hc'
   rw [ok.uniq h'.1 hc e] at h'
   rw [h'.2];rfl
  ·intro e
   exact ⟨c,Ln.dA.mpr ⟨hc,by cases hg:c.g with | none=>rfl | some q=>rw [hg] at e;cases e⟩,rfl⟩
 unfold bT dX
 by_cases e:c.n∈L.row
 ·rw [if_pos e,if_pos (h.mp e)]
 ·rw [if_neg e,if_neg (λz=>e (h.mpr z))]
theorem a8.bT {L:Ln} (ok:a8 L) (hlen:∀c∈L.cs,c.w.length < 200) (row:List Str):a8 { L with cs:=L.cs.map (bT L.t row) }:=ok.map (mw L.t row) λx hx=>by
 unfold Ov.bT
 split
 ·exact ok.N1 hx (hlen x hx) (by have:=(ok.ck x hx _ (Cf.fN (ok.ne x hx)).2).v;omega)
 ·exact ok.Mj hx
abbrev i4:Stmt:=(L2.inClass (top 45) 4)
abbrev kT:List Str:=["self"]
theorem gX:L2.aw ["self","name","pace"] ["self"] (L2.aq i4):=dI
def ya (cN cL:Addr):cG:=λxs J Q E=>∃p L,xs=[.ref p]∧bj cN cL J p L∧cy L∧(∀c∈L.cs,c.w.length < 200)∧(∀J' L',bj cN cL J' p L'→cy L'→L'.cs=L.cs.map (dX L.t)→L'.t=L.t→Mv J J' (L.own p) (L'.own p)→Q .non J')
theorem sW {cN cL eC f:Addr} {fd:FuncData} (F:bP K "about" "Lane.about" i4 f fd) (Z:bD mg) (ay:df K mg "Lane" cN) (aF:aA K cN "row") (aI:aA K cN "logs") (aB:aA K cN "now") (bh:cq P w K mg base cN 4 "leg_of" dq (ka cN cL eC)) (lK:cq P w K mg base cL 5 "turn" o8 (Bi cL)) (bL:cq P w K mg base cN 7 "settle" eg (kD cN cL)):aH P w K mg base (cg P w) 8 f fd kT (cH K (ya cN cL)):=by
 simp_arith [gX,(ai (cQ bq rfl (dR (aG ay.cl aF (rv 0))) (ba (i:=1) gX.nd) (ai (aE (i:=2) gX.nd (au av (a9 (pl:=_) bh B hr (rv 0) (af (rv 1) ah)) ag))
   (ar (a_ (a9 (pl:=_) lK B hr (au cK (aG ay.cl aI (rv 0)) (rv 1)) (af (aG ay.cl aB (rv 0)) (af (uu oR (rv 2)) ah)))))))
   (ar (a_ (c4 (pl:=_) bL B hr (rv 0)))))]
 ·obtain ⟨p,L,rfl,_⟩:=h;rfl
 obtain ⟨p,L,rfl,b,ok,hlen,q⟩:=h
 refine hX ?_
 simp_all! [b.ob,b.rw,vh]
 have hid:L.cs.map (bT L.t (L.row.take 0))=L.cs:=by
  have:∀c∈L.cs,bT L.t (L.row.take 0) c=c:=λc _=>by unfold bT;rw [if_neg (by simp)]
  rw [R6 this,T8]
 obtain ⟨Inv,hInv⟩:∃Inv:Nat→Sr→Hq→Prop,∀i τ J',Inv i τ J'↔∃(u1 u2:Option PV),τ=[some (.ref p),u1,u2]∧bj cN cL J' p { L with cs:=L.cs.map (bT L.t (L.row.take i)) }∧Mv J J' (L.own p) (L.own p):=⟨_,λ_ _ _=>Iff.rfl⟩
 refine dZ Inv ((hInv _ _ _).mpr ⟨_,_,rfl,by rw [hid];exact b,Mv.refl _ _⟩) (λi τ J' h=>?_) ?_ ?_
 ·obtain ⟨_,_,_,b',_⟩:=(hInv _ _ _).mp h
  have:=b'.rw
  simp only at this
  rw [this]
 ·intro i x τ J' hx hv
  obtain ⟨u1,u2,rfl,b',mv'⟩:=(hInv _ _ _).mp hv
  clear hv
  have hi:i < L.row.length:=by have:=(Rv.mp hx).1;simpa using this
  have hget:L.row[i]?=some L.row[i]:=Rt hi
  rw [Ry,hget] at hx
  cases hx
  have hn:L.row[i]∈L.row:=RZ hi
  have et:L.row.take (i + 1)=L.row.take i ++ [L.row[i]]:=by rw [RQ,hget];rfl
  have hnd:(L.row.take (i + 1)).Nodup:=ok.rn.sublist (R4 _ _)
  rw [et] at hnd
  have hnew:=(cF hnd).2
  generalize L.row[i]=n at hn et hnew ⊢
  obtain ⟨c,hc,rfl,hg⟩:=ok.found hn
  have oki:=ok.toa8.bT hlen (L.row.take i)
  have ecc:bT L.t (L.row.take i) c=c:=by unfold bT;rw [if_neg hnew]
  have hci:c∈L.cs.map (bT L.t (L.row.take i)):=Ru.mpr ⟨c,hc,ecc⟩
  simp_all! [b'.ob]
  refine ⟨hV _ _ _ _,p,_,c.n,rfl,b',oki,λc' hc' e' hg'=>?_,λz=>absurd hn z⟩
  have ec':c'=c:=oki.uniq hc' hci e'
  subst ec'
  have hcv:=(ok.ck c' hc _ (Cf.fN (ok.ne c' hc)).2).v
  have lo:=(b'.lg c' hci).o
  have bo':=b'.ob
  have bd':=b'.dc
  simp only at bo' bd'
  simp_all! [kO,bo',qA,vg,bd',lo]
  have hva:=oki.va hci
  simp only at hva
  simp_all! [hva,lo,bo',qA]
  refine ⟨O8 _ _,c'.a,c'.r,c'.w,c'.g,L.t,-c'.cur.v,rfl,b'.lg c' hci,ok.ne c' hc,RN (ok.len c' hc) (by decide),ok.Fu,λl hl=>(ok.ck c' hc l hl).Fs,?_⟩
  have b1:=b'.turn oki hci (t:=L.t) (v:=-c'.cur.v)
  have em:(L.cs.map (bT L.t (L.row.take i))).map (eO c'.n L.t (-c'.cur.v))=L.cs.map (bT L.t (L.row.take (i + 1))):=by
   rw [RK]
   refine R6 λx hx=>?_
   show eO c'.n L.t (-c'.cur.v) (bT L.t (L.row.take i) x)=_
   by_cases e:x.n=c'.n
   ·have:x=c':=ok.uniq hx hc e
    subst this
    rw [ecc]
    unfold eO Ov.bT
    rw [if_pos rfl,if_pos (by rw [et];simp)]
   ·unfold eO
    rw [if_neg (by rw [(mw L.t (L.row.take i) x).1];exact e)]
    unfold Ov.bT
    rw [et]
    by_cases e2:x.n∈L.row.take i
    ·rw [if_pos e2,if_pos (RC.mpr (.inl e2))]
    ·rw [if_neg e2,if_neg (λz=>by
      rcases RC.mp z with z | z
      ·exact e2 z
      ·exact e (by simpa using z))]
  simp only [em] at b1
  refine (hInv _ _ _).mpr ⟨_,_,rfl,b1,mv'.trans (jQ (.inr (.inr (.inr ⟨c',hc,.inr rfl⟩))) λa h=>.inl h)⟩
 ·intro τ J' hv
  obtain ⟨u1,u2,rfl,b',mv'⟩:=(hInv _ _ _).mp hv
  rw [Rr,RY,ki ok.toa8] at b'
  have oki:a8 { L with cs:=L.cs.map (dX L.t) }:=by rw [← ki ok.toa8];exact ok.toa8.bT hlen L.row
  simp_all! [b'.ob]
  refine ⟨hV _ _ _ _,p,_,rfl,b',oki,λJ2 o' b2 mv2=>?_⟩
  refine q J2 _ b2 (cy.settled oki o') rfl rfl (mv'.trans ⟨λa o e n=>mv2.keep a o e λz=>n ?_,λa h=>?_,mv2.mono⟩)
  ·rw [← ki ok.toa8] at z;exact (AN (mw L.t L.row) a).mp z
  ·rcases mv2.own a h with h' | h'
   ·rw [← ki ok.toa8] at h';exact .inl ((AN (mw L.t L.row) a).mp h')
   ·exact .inr h'
theorem Sub.trans {J J' J'':Hq} (h:Sub J J') (k:Sub J' J''):Sub J J'':=λa o e=>k a o (h a o e)
abbrev lO:Stmt:=(L2.inClass (top 32) 8)
abbrev o9:List Str:=["self"]
theorem fm:L2.aw ["self","moment","place","pace","other"] ["self"] (L2.aq lO):=dI
def Bj (cL:Addr):cG:=λxs J Q _=>∃p r rows g,xs=[.ref p]∧yB cL J p r rows g∧rows≠[]∧∀J' a' r',Sub J J'→J a'=none→J r'=none→yB cL J' a' r' rows g→Q (.ref a') J'
theorem xK {cL f:Addr} {fd:FuncData} (F:bP K "twin" "Log.twin" lO f fd) (Z:bD mg) (bx:df K mg "Log" cL) (aM:aA K cL "rows") (bM:aA K cL "gone") (tR:uN P w K mg base cL 1 "Log" fC (wK cL)):aH P w K mg base (cg P w) 3 f fd o9 (cH K (Bj cL)):=by
 simp_arith [fm,(ai (wk (au av (aG bx.cl aM (rv 0)) ag) (qZ (n:=3) rfl (c5 (ba (i:=1) fm.nd) (c5 (ba (i:=2) fm.nd) (c5 (ba (i:=3) fm.nd) ni)))))
   (ai (aE (i:=4) fm.nd (A3 tR B hr (af (rv 1) (af (rv 2) (af (rv 3) ah)))))
   (ai (c9 bx.cl aM (rv 4) (ip mz rfl Z.list boot_list (af (aG bx.cl aM (rv 0)) ah)))
   (ai (c9 bx.cl bM (rv 4) (aG bx.cl bM (rv 0)))
   (ar (aD (rv 4)))))))]
 ·obtain ⟨p,r,rows,g,rfl,_⟩:=h;rfl
 obtain ⟨p,r,rows,g,rfl,b,hne,q⟩:=h
 have bo:=b.o
 have bl:=b.l
 obtain ⟨l,ls,rfl⟩:∃l ls,rows=l :: ls:=SQ hne
 refine hX ?_
 simp_arith! [bE,bo,bl,Fq,aZ.V]
 intro a ha
 refine ⟨a,l,rfl,ak,λr0 hr0=>⟨rfl,?_⟩⟩
 have ne1:∀{b u},J b=some u→b≠a:=λe z=>by subst z;rw [ha] at e;cases e
 have ne2:∀{b u},J b=some u→b≠r0:=λe z=>by subst z;rw [aj (ne1 e)] at hr0;rw [hr0] at e;cases e
 have nra:r0≠a:=by intro e;subst e;rw [ak] at hr0;cases hr0
 have sub:Sub J (put (put (put J a (.ins cL [])) r0 (.lst [l.V])) a (.ins cL [("rows",.ref r0),("gone",.non)])):=λb o e=>by rw [aj (ne1 e),aj (ne2 e),aj (ne1 e)];exact e
 have ho:(put (put (put J a (.ins cL [])) r0 (.lst [l.V])) a (.ins cL [("rows",.ref r0),("gone",.non)])) a=some (.ins cL [("rows",.ref r0),("gone",.non)]):=ak
 generalize (put (put (put J a (.ins cL [])) r0 (.lst [l.V])) a (.ins cL [("rows",.ref r0),("gone",.non)]))=J1 at sub ho ⊢
 refine dJ (sub _ _ bo) (eZ (Fq _ _) (eZ (show nK J1 (.ref r)=some ((l :: ls).map aZ.V) by rw [MD,sub _ _ bl]) λr1 hr1=>?_))
 have n1:a≠r1:=by intro e;subst e;rw [ho] at hr1;cases hr1
 have n2:∀{b u},J b=some u→b≠r1:=λe z=>by subst z;rw [sub _ _ e] at hr1;cases hr1
 have hr:J r1=none:=by
  cases e:J r1 with
  | none=>rfl
  | some u=>exact absurd rfl (n2 e)
 refine dJ (by rw [aj n1];exact ho) ⟨by show (2:Nat) < 1000;decide,?_⟩
 refine dJ (by rw [aj (ne1 bo),aj (n2 bo)];exact sub _ _ bo) (eZ (QJ _ _) (dJ ak ⟨by rw [AU];show (2:Nat) < 1000;decide,?_⟩))
 rw [bU,AU,GV]
 refine q _ a r1 (λb o e=>by rw [aj (ne1 e),aj (n2 e)];exact sub _ _ e) ha hr ⟨ak,by rw [aj (Ne.symm n1)];exact ak⟩
abbrev gH:Stmt:=(L2.inClass (top 45) 20)
abbrev m3:List Str:=["self"]
theorem nt:L2.aw ["self","other"] ["self"] (L2.aq gH):=dI
def Cf.face (c:Cf):Str × List aZ × Option Rat:=(c.n,c.w,c.g)
structure Ln.alike (L L':Ln):Prop where
 t:L'.t=L.t
 row:L'.row=L.row
 cs:L'.cs.map Cf.face=L.cs.map Cf.face
theorem Ap (L:Ln):L.fs=((L.cs.map Cf.face).filter λf=>f.2.2.isNone).map λf=>(f.1,f.2.1.getLast?.getD ⟨0,0,0⟩):=by
 unfold Ln.fs Ln.CN
 rw [TK,RK];rfl
theorem Ln.alike.fs {L L':Ln} (h:L.alike L'):L'.fs=L.fs:=by rw [Ap,Ap,h.cs]
theorem Ln.alike.ex {L L':Ln} (h:L.alike L') {c':Cf} (hc:c'∈L'.cs):∃c∈L.cs,c.n=c'.n∧c.w=c'.w∧c.g=c'.g:=by
 have:c'.face∈L.cs.map Cf.face:=by rw [← h.cs];exact Ru.mpr ⟨c',hc,rfl⟩
 obtain ⟨c,hc,e⟩:=Ru.mp this
 unfold Cf.face at e
 exact ⟨c,hc,congrArg (·.1) e,congrArg (·.2.1) e,congrArg (·.2.2) e⟩
theorem Ln.alike.nm {L L':Ln} (h:L.alike L'):L'.cs.map Cf.n=L.cs.map Cf.n:=by
 have:=congrArg (TY (·.1)) h.cs
 rw [RK,RK] at this;exact this
theorem Ln.alike.ok {L L':Ln} (h:L.alike L') (o:cy L):cy L':=by
 refine ⟨⟨by rw [h.nm];exact o.nd,λc hc=>?_,λc hc=>?_,λc hc=>?_,λc hc=>?_,λc hc=>?_,by rw [h.t];exact o.t0,by rw [h.t];exact o.ts,?_,by rw [h.row,h.fs];exact o.rm,by rw [h.row];exact o.rn,by rw [h.row];exact o.rl⟩,by rw [h.row,h.t,h.fs];exact o.row⟩
 ·obtain ⟨c0,h0,_,e,_⟩:=h.ex hc;rw [← e];exact o.ne c0 h0
 ·obtain ⟨c0,h0,_,e,_⟩:=h.ex hc;rw [← e,h.t];exact o.le c0 h0
 ·obtain ⟨c0,h0,_,e,_⟩:=h.ex hc;rw [← e];exact o.ck c0 h0
 ·obtain ⟨c0,h0,_,e,_⟩:=h.ex hc;rw [← e];exact o.len c0 h0
 ·obtain ⟨c0,h0,_,_,e⟩:=h.ex hc;rw [← e,h.t];exact o.gz c0 h0
 ·have:=congrArg Sx h.nm;rw [Rr,Rr] at this;rw [this];exact o.many
theorem yB.NK {cL:Addr} {J J':Hq} {p r:Addr} {rows:List aZ} {g:Option Rat} (h:yB cL J p r rows g) (s:Sub J J'):yB cL J' p r rows g:=⟨s _ _ h.o,s _ _ h.l⟩
def Bq (cN cL:Addr):cG:=λxs J Q _=>∃p L,xs=[.ref p]∧bj cN cL J p L∧cy L∧∀J' p' L',Sub J J'→bj cN cL J' p' L'→cy L'→L.alike L'→(∀a,L'.own p' a→J a=none)→Q (.ref p') J'
theorem vC {cN cL f:Addr} {fd:FuncData} (F:bP K "twin" "Lane.twin" gH f fd) (Z:bD mg) (ay:df K mg "Lane" cN) (aB:aA K cN "now") (aI:aA K cN "logs") (aF:aA K cN "row") (nV:uN P w K mg base cN 1 "Lane" e9 (wL cN cL)) (lL:cq P w K mg base cL 3 "twin" o9 (Bj cL)):aH P w K mg base (cg P w) 4 f fd m3 (cH K (Bq cN cL)):=by
 simp_arith [nt,(ai (aE (i:=1) nt.nd (m_ nV B hr))
   (ai (c9 ay.cl aB (rv 1) (aG ay.cl aB (rv 0)))
   (ai (c9 ay.cl aI (rv 1) (Iz (L2.aq gH) ["self","other"] [("self",0)] rfl rfl rfl (fP (aG ay.cl aI (rv 0))) (λ_ _ _ _ _ _=>(rv 0)) (λ_ _ _ _ _ _=>(c4 (pl:=_) lL Dh hr (au cK (aG ay.cl aI (rv 1)) (rv 0))))))
   (ai (c9 ay.cl aF (rv 1) (ip mz rfl Z.list boot_list (af (aG ay.cl aF (rv 0)) ah)))
   (ar (aD (rv 1)))))))]
 ·obtain ⟨p,L,rfl,_⟩:=h;rfl
 obtain ⟨p,L,rfl,b,ok,q⟩:=h
 refine hX ?_
 simp_all! []
 intro p' hp'
 refine ⟨p',rfl,ak,λJ1 d e o b1 mv1=>?_⟩
 have jp:∀{a u},J a=some u→a≠p':=λe z=>by subst z;rw [hp'] at e;cases e
 have sub:Sub J J1:=λa u e=>mv1.keep a u (by rw [aj (jp e)];exact e) (jp e)
 have y_:∀a,Ln.own ⟨0,d,e,o,[],[]⟩ p' a→J a=none:=λa z=>by
  rcases mv1.own a z with z | z
  ·rw [z];exact hp'
  ·by_cases y:a=p'
   ·rw [y];exact hp'
   ·rw [aj y] at z;exact z
 have ob1:J1 p'=some (.ins cN [("now",fr 0),("logs",.ref d),("row",.ref o)]):=b1.ob
 clear b1 mv1
 have hbo:=sub _ _ b.ob
 refine ⟨rfl,hNq _ _ ?_⟩
 clear hNq Nq
 simp_all! [hbo,ob1,qA]
 refine ⟨by show (3:Nat) < 1000;decide,?_⟩
 have sub2:Sub J (put J1 p' (.ins cN [("now",fr L.t),("logs",.ref d),("row",.ref o)])):=λa u e=>by rw [aj (jp e)];exact sub _ _ e
 have ob2:put J1 p' (.ins cN [("now",fr L.t),("logs",.ref d),("row",.ref o)]) p'=some (.ins cN [("now",fr L.t),("logs",.ref d),("row",.ref o)]):=ak
 refine hNq _ _ ?_
 clear hNq Nq hbo sub ob1
 generalize put J1 p' (.ins cN [("now",fr L.t),("logs",.ref d),("row",.ref o)])=J2 at sub2 ob2 ⊢
 clear J1 y_
 have hbo:=sub2 _ _ b.ob
 have hbd:=sub2 _ _ b.dc
 simp_all! [Lp,hbo,vg,hbd]
 intro D hD ep
 have n2:∀{a u},J2 a=some u→a≠D:=λe z=>by subst z;rw [hD] at e;cases e
 have jD:J D=none:=by
  cases e:J D with
  | none=>rfl
  | some u=>exact absurd rfl (n2 (sub2 _ _ e))
 obtain ⟨W,hW⟩:∃W:Nat→Hq→Prop,∀i J3,W i J3↔∃(cs:List Cf) (ep2:Nat),Sub J J3∧J3 D=some (.dct (cs.map λc=>(c.n,PV.ref c.a)) ep2)∧J3 p'=some (.ins cN [("now",fr L.t),("logs",.ref d),("row",.ref o)])∧cs.map Cf.face=(L.cs.take i).map Cf.face ∧
   (∀c∈cs,yB cL J3 c.a c.r c.w c.g∧J c.a=none∧J c.r=none)∧(cs.map Cf.r).Nodup:=⟨_,λ_ _=>Iff.rfl⟩
 refine ⟨W,(hW _ _).mpr ⟨[],ep,λa u e=>by rw [aj (n2 (sub2 _ _ e))];exact sub2 _ _ e,ak,by rw [aj (n2 ob2)];exact ob2,rfl,(by simp),Tn⟩,?_,?_,?_⟩
 ·intro i J3 hw
  obtain ⟨cs,ep2,s3,hd3,ob3,fc,la,nd⟩:=(hW _ _).mp hw
  exact s3 _ _ b.dc
 ·intro i x J3 hx hw
  obtain ⟨cs,ep2,s3,hd3,ob3,fc,la,nd⟩:=(hW _ _).mp hw
  have hi:i < L.cs.length:=by have:=(Rv.mp hx).1;simpa using this
  have hc:L.cs[i]∈L.cs:=RZ hi
  have et:L.cs.take (i + 1)=L.cs.take i ++ [L.cs[i]]:=by rw [RQ,Rt hi];rfl
  rw [Ry,Ry,Rt hi] at hx
  cases hx
  have hcd:=ok.toa8.nd
  have hnot:L.cs[i].n ∉ cs.map Cf.n:=by
   have e1:cs.map Cf.n=(L.cs.take i).map Cf.n:=by
    have:=congrArg (TY (·.1)) fc
    rw [RK,RK] at this;exact this
   have e2:((L.cs.take (i + 1)).map Cf.n).Nodup:=hcd.sublist ((R4 _ _).map _)
   rw [et,Rw] at e2
   rw [e1]
   exact (cF e2).2
  generalize L.cs[i]=c at hc et hnot
  have b3o:=s3 _ _ b.ob
  have b3d:=s3 _ _ b.dc
  have hva:=ok.toa8.va hc
  have lg:=(b.lg c hc).NK s3
  have lo:=lg.o
  simp_all! [b3o,vg,b3d,hva,lo]
  refine ⟨O9 _ _,c.a,c.r,c.w,c.g,rfl,lg,ok.ne c hc,λJ4 a' r' s4 na nr l4=>?_⟩
  have hlen:cs.length≤100:=by
   have e1:=congrArg Sx fc
   rw [Rr,Rr,RX] at e1
   have:=ok.many;omega
  have s34:Sub J J4:=s3.trans s4
  have n4:∀{a u},J3 a=some u→a≠a'∧a≠r':=λ{a u} e=>⟨λz=>by subst z;exact absurd (na.symm.trans e) (λy=>nomatch y),λz=>by subst z;exact absurd (nr.symm.trans e) (λy=>nomatch y)⟩
  have jn:∀{a},J3 a=none→J a=none:=λ{a} e=>by
   cases z:J a with
   | none=>rfl
   | some u=>have:=s3 _ _ z;rw [e] at this;cases this
  have nD':=n4 hd3
  have epu:pe (cs.map λc=>(c.n,PV.ref c.a)) c.n (PV.ref a')=(cs ++ [Cf.mk c.n a' r' c.w c.g]).map λc=>(c.n,PV.ref c.a):=by
   unfold L2.pe
   rw [if_neg,Rw]
   ·rfl
   ·intro z
    obtain ⟨kv,hkv,e⟩:=Ua.mp z
    obtain ⟨c0,h0,rfl⟩:=Ru.mp hkv
    exact hnot (Ru.mpr ⟨c0,h0,of_decide_eq_true e⟩)
  refine ⟨_,ep2,s4 _ _ hd3,aX (by rw [Rr];omega),λep'=>(hW _ _).mpr ⟨cs ++ [⟨c.n,a',r',c.w,c.g⟩],ep',λa u e=>?_,?_,?_,?_,?_,?_⟩⟩
  ·rw [aj (λz=>by subst z;rw [jD] at e;cases e)];exact s34 _ _ e
  ·rw [epu];exact ak
  ·rw [aj (n2 ob2)];exact s4 _ _ ob3
  ·rw [et,Rw,Rw,fc];rfl
  ·intro c0 h0
   rcases RC.mp h0 with h0 | h0
   ·obtain ⟨l1,l2,l3⟩:=la c0 h0
    have l1':=l1.NK s4
    exact ⟨⟨by rw [aj (λz=>by have:=l1.o;rw [z,hd3] at this;cases this)];exact l1'.o,by rw [aj (λz=>by have:=l1.l;rw [z,hd3] at this;cases this)];exact l1'.l⟩,l2,l3⟩
   ·rw [RF] at h0;subst h0
    exact ⟨⟨by rw [aj (Ne.symm nD'.1)];exact l4.o,by rw [aj (Ne.symm nD'.2)];exact l4.l⟩,jn na,jn nr⟩
  ·rw [Rw,RD,Sq,Ss]
   refine ⟨nd,by simp,λx hx y hy e=>?_⟩
   rw [RF] at hy;subst hy;subst e
   obtain ⟨c0,h0,rfl⟩:=Ru.mp hx
   exact (n4 (la c0 h0).1.l).2 rfl
 ·intro J3 hw
  obtain ⟨cs,ep2,s3,hd3,ob3,fc,la,nd⟩:=(hW _ _).mp hw
  rw [Rr,Rr,RY] at fc
  have np:p'≠D:=n2 ob2
  simp_all! [ob3,HZ,if_false]
  refine ⟨by show (3:Nat) < 1000;decide,?_⟩
  have sub4:Sub J (put J3 p' (.ins cN [("now",fr L.t),("logs",.ref D),("row",.ref o)])):=λa u e=>by rw [aj (jp e)];exact s3 _ _ e
  have ob4:put J3 p' (.ins cN [("now",fr L.t),("logs",.ref D),("row",.ref o)]) p'=some (.ins cN [("now",fr L.t),("logs",.ref D),("row",.ref o)]):=ak
  have hd4:put J3 p' (.ins cN [("now",fr L.t),("logs",.ref D),("row",.ref o)]) D=some (.dct (cs.map λc=>(c.n,PV.ref c.a)) ep2):=by rw [aj (Ne.symm np)];exact hd3
  have la4:∀c∈cs,yB cL (put J3 p' (.ins cN [("now",fr L.t),("logs",.ref D),("row",.ref o)])) c.a c.r c.w c.g∧J c.a=none∧J c.r=none:=λc hc=>by
   obtain ⟨l1,l2,l3⟩:=la c hc
   refine ⟨⟨?_,?_⟩,l2,l3⟩
   ·rw [aj (yT l1.o ob3 qD)];exact l1.o
   ·rw [aj (λz=>by have:=l1.l;rw [z,ob3] at this;cases this)];exact l1.l
  refine hNq _ _ ?_
  clear hNq Nq hw
  generalize put J3 p' (.ins cN [("now",fr L.t),("logs",.ref D),("row",.ref o)])=J4 at sub4 ob4 hd4 la4 ⊢
  clear la hd3 ob3 s3 J3 hW W
  have b4o:=sub4 _ _ b.ob
  have b4r:=sub4 _ _ b.rw
  simp_all! [b4o,vh,b4r]
  intro O hO
  have n4:∀{a u},J4 a=some u→a≠O:=λe z=>by subst z;rw [hO] at e;cases e
  refine dJ (by rw [aj (n4 ob4)];exact ob4) ⟨by show (3:Nat) < 1000;decide,?_⟩
  rw [AS]
  refine hNq _ _ ?_
  clear hNq Nq
  simp_all! []
  have jO:J O=none:=by
   cases z:J O with
   | none=>rfl
   | some u=>exact absurd rfl (n4 (sub4 _ _ z))
  have al:L.alike ⟨L.t,D,ep2,O,cs,L.row⟩:=⟨rfl,rfl,fc⟩
  refine q _ p' ⟨L.t,D,ep2,O,cs,L.row⟩ (λa u e=>by rw [aj (jp e),aj (n4 (sub4 _ _ e))];exact sub4 _ _ e) ⟨ak,?_,?_,λc hc=>?_,nd,λc hc=>?_⟩ (al.ok ok) al ?_
  ·show put (put J4 O _) p' _ D=_
   rw [aj (Ne.symm np),aj (n4 hd4)];exact hd4
  ·show put (put J4 O _) p' _ O=_
   rw [aj (Ne.symm (n4 ob4))];exact ak
  ·obtain ⟨l1,l2,l3⟩:=la4 c hc
   exact ⟨by rw [aj (yT l1.o ob4 qD),aj (n4 l1.o)];exact l1.o,by rw [aj (λz=>by have:=l1.l;rw [z,ob4] at this;cases this),aj (n4 l1.l)];exact l1.l⟩
  ·exact n4 (la4 c hc).1.l
  ·rintro a (rfl | rfl | rfl | ⟨c,hc,rfl | rfl⟩)
   ·exact hp'
   ·exact jD
   ·exact jO
   ·exact (la4 c hc).2.1
   ·exact (la4 c hc).2.2
def menu:List Str:=["m","ab","a","zebra9","b0","0","abc","9zz","q7q7q7q7","aa","z","a1b2c3d4"]
def bB:Str:="abcdefghijklmnopqrstuvwxyz0123456789"
theorem Gj:menu.Nodup:=by decide +kernel
theorem C5:bB.cps.toList.Nodup:=by decide +kernel
theorem kj:bB.cps.toList.length=36:=by decide +kernel
def HI {α:Type} (xs:List α) (z:α) (d:Int) (k:Nat):α:=xs.getD ((d + 5 * (k:Int)) % (xs.length:Int)).toNat z
section
variable {α:Type} {xs:List α} {z:α} (d:Int)
theorem qh (h:0 < xs.length) (k:Nat):0≤(d + 5 * (k:Int)) % (xs.length:Int)∧(d + 5 * (k:Int)) % (xs.length:Int) < (xs.length:Int):=⟨Int.emod_nonneg _ (by omega),Int.emod_lt_of_pos _ (by omega)⟩
theorem mB (h:0 < xs.length) (k:Nat):xs[((d + 5 * (k:Int)) % (xs.length:Int)).toNat]?=some (HI xs z d k):=by
 have:=qh d h k
 unfold HI
 rw [SR,Rt (by omega)]
 rfl
theorem Jd (h:0 < xs.length) (k:Nat):cZ xs ((d + 5 * (k:Int)) % (xs.length:Int))=some (HI xs z d k):=by
 have:=bG (mB (z:=z) d h k)
 rwa [Int.toNat_of_nonneg (qh d h k).1] at this
theorem Al (h:0 < xs.length) (k:Nat):HI xs z d k∈xs:=RJ (mB d h k)
theorem ON {M a b d u v:Int} (g:5 * u=1 + M * v) (a0:0≤a) (a1:a < M) (b0:0≤b) (b1:b < M) (e:(d + 5 * a) % M=(d + 5 * b) % M):a=b:=by
 have h:M ∣ 5 * (a - b):=by
  have:=Int.dvd_of_emod_eq_zero (Int.emod_eq_emod_iff_emod_sub_eq_zero.mp e)
  rwa [show d + 5 * a - (d + 5 * b)=5 * (a - b) by omega] at this
 obtain ⟨c,hc⟩:M ∣ a - b:=by
  obtain ⟨c,hc⟩:=h
  refine ⟨u * c - v * (a - b),?_⟩
  have h1:5 * u * (a - b)=u * (M * c):=by rw [← hc];grind
  rw [g] at h1
  grind
 rcases Int.lt_trichotomy c 0 with k | k | k
 ·have:M * c≤M * (-1):=Int.mul_le_mul_of_nonneg_left (by omega) (by omega)
  omega
 ·subst k;omega
 ·have:M * 1≤M * c:=Int.mul_le_mul_of_nonneg_left (by omega) (by omega)
  omega
theorem Ak (u v:Int) (hn:xs.Nodup) (g:5 * u=1 + (xs.length:Int) * v) {i j:Nat} (hi:i < xs.length) (hj:j < xs.length) (e:HI xs z d i=HI xs z d j):i=j:=by
 have h:0 < xs.length:=by omega
 have a:=mB (z:=z) d h i
 have b:=mB (z:=z) d h j
 rw [e] at a
 obtain ⟨a1,a2⟩:=Rv.mp a
 obtain ⟨b1,b2⟩:=Rv.mp b
 have e1:=(SG hn).mp (a2.trans b2.symm)
 have:=qh d h i
 have:=qh d h j
 exact Int.ofNat.inj (ON g (Int.natCast_nonneg i) (Int.ofNat_lt.mpr hi) (Int.natCast_nonneg j) (Int.ofNat_lt.mpr hj) (show (d + 5 * (i:Int)) % _=(d + 5 * (j:Int)) % _ by omega))
end
theorem DU:menu.length=12:=by decide +kernel
abbrev pick:Int→Nat→Str:=HI menu ""
theorem GU (d:Int) (k:Nat):cZ (menu.map PV.str) ((d + 5 * (k:Int)) % 12)=some (.str (pick d k)):=by
 have h:=qh (xs:=menu) d (by decide +kernel) k
 have g:=bG (xs:=menu.map PV.str) (j:=((d + 5 * (k:Int)) % (menu.length:Int)).toNat) (by rw [Ry,mB (xs:=menu) (z:="") d (by decide +kernel) k];rfl)
 rw [Int.toNat_of_nonneg h.1,DU] at g
 exact g
theorem Em (d:Int) {m:Nat} (hm:m≤12):((SJ m).map (pick d)).Nodup:=by
 refine List.Pairwise.map (R:=λi j=>i < 12∧j < 12∧i≠j) _ (λi j ⟨a,b,c⟩ e=>c (Ak d 5 2 Gj (by decide +kernel) a b e)) ?_
 refine List.Pairwise.imp_of_mem (R:=λi j=>i≠j) (λ{i j} hi hj ne=>?_) (List.nodup_range)
 rw [S6] at hi hj
 exact ⟨by omega,by omega,ne⟩
theorem B9:∀x∈menu,good x=true:=by decide +kernel
theorem qa:∀c∈bB.cps.toList,eG dj c=true:=by decide +kernel
theorem Cr (d:Int) (k:Nat):good (pick d k)=true:=B9 _ (Al d (by decide +kernel) k)
theorem F8 {cs:List Nat} (h0:0 < cs.length) (h1:cs.length≤8) (h:∀c∈cs,eG dj c=true):good ⟨cs.toArray⟩=true:=by
 unfold good
 rw [R7,R7]
 refine ⟨⟨decide_eq_true ?_,decide_eq_true ?_⟩,S_.mpr λc hc=>h c (by simpa using hc)⟩
 ·show 1≤cs.toArray.size;rw [Rx];omega
 ·show cs.toArray.size≤8;rw [Rx];omega
abbrev sign:Int→Nat→Nat:=HI bB.cps.toList 0
theorem Hm (d:Int) (k:Nat):cZ bB.cps.toList ((d + 5 * (k:Int)) % 36)=some (sign d k):=by
 have h:=Jd (xs:=bB.cps.toList) (z:=0) d (by decide +kernel) k
 rw [kj] at h
 exact h
theorem Cw (d:Int) (k:Nat):eG dj (sign d k)=true:=qa _ (Al d (by decide +kernel) k)
theorem EU (d:Int) {i j:Nat} (hi:i < 36) (hj:j < 36) (e:sign d i=sign d j):i=j:=Ak d (-7) (-1) C5 (by decide +kernel) (by rw [kj];exact hi) (by rw [kj];exact hj) e
theorem Fd {d:Int} {n:Nat} {xs:List Str} (hl:xs.length≤36) (h:∀k x,xs[k]?=some x→x.cps.toList[n]?=some (sign d k)):xs.Nodup:=by
 refine Sn.mpr λi j hi hj hij e=>?_
 have a:=h i _ (Rt hi)
 have b:=h j _ (Rt hj)
 rw [e] at a
 rw [a] at b
 have:=EU d (by omega) (by omega) (Option.some.inj b)
 omega
theorem sI {α:Type} (f:α→PV) {xs:List α} {k:Int} (h:0≤k):lH (xs.map f) none (some k)=(xs.take k.toNat).map f:=by
 obtain ⟨j,rfl⟩:∃j:Nat,k=(j:Int):=⟨k.toNat,by omega⟩
 unfold lH
 rw [HT.EL,HT.Hg,Tj,Int.toNat_natCast,Rr,So]
 rcases Nat.le_total j xs.length with e | e
 ·rw [Ue e]
  rfl
 ·rw [Nat.min_eq_right e,Nat.sub_zero,← So,← So,SK (Rz _),SK e]
theorem D9 (cs:List Nat):((cs.map one).map (·.length)).sum=cs.length:=by
 induction cs with
 | nil=>rfl
 | cons c cs ih =>
  rw [RD,RD,List.sum_cons,ih,R0]
  show 1 + cs.length=cs.length + 1
  omega
theorem NI {ds:List Int} (hD:Dig ds [3,36,8,36,36,36,36,36,36,36,36,840]):∃(d0 d1 d2 d11:Int) (es:List Int),cZ (ds.map PV.int) 0=some (.int d0)∧cZ (ds.map PV.int) 1=some (.int d1)∧cZ (ds.map PV.int) 2=some (.int d2)∧cZ (ds.map PV.int) 11=some (.int d11) ∧
  lH (ds.map PV.int) (some 3) (some 11)=es.map PV.int∧es.length=8∧(∀e∈es,0≤e∧e < 36)∧0≤d2∧d2 < 8:=by
 obtain ⟨d0,ds,rfl,_,_,hD⟩:=hD.cons
 obtain ⟨d1,ds,rfl,_,_,hD⟩:=hD.cons
 obtain ⟨d2,ds,rfl,d20,d21,hD⟩:=hD.cons
 obtain ⟨a,ds,rfl,a0,a1,hD⟩:=hD.cons
 obtain ⟨b,ds,rfl,b0,b1,hD⟩:=hD.cons
 obtain ⟨c,ds,rfl,c0,c1,hD⟩:=hD.cons
 obtain ⟨d,ds,rfl,d0',d1',hD⟩:=hD.cons
 obtain ⟨e,ds,rfl,e0,e1,hD⟩:=hD.cons
 obtain ⟨f,ds,rfl,f0,f1,hD⟩:=hD.cons
 obtain ⟨g,ds,rfl,g0,g1,hD⟩:=hD.cons
 obtain ⟨h,ds,rfl,h0,h1,hD⟩:=hD.cons
 obtain ⟨x,ds,rfl,_,_,hD⟩:=hD.cons
 cases hD.nil
 refine ⟨d0,d1,d2,x,[a,b,c,d,e,f,g,h],rfl,rfl,rfl,rfl,rfl,rfl,λz hz=>?_,d20,d21⟩
 simp only [RM,Sh,or_false] at hz
 rcases hz with rfl | rfl | rfl | rfl | rfl | rfl | rfl | rfl <;> exact ⟨by assumption,by assumption⟩
theorem B5 {J:Hq} {p o:Addr} {a b:HQ} (hp:J p=none) (ho:J o=none):gZ J (put (put J p a) o b):=λx=>by
 by_cases e:x=o
 ·subst e;exact .inr ho
 ·by_cases e2:x=p
  ·subst e2;exact .inr hp
  ·rw [aj e,aj e2];exact .inl rfl
theorem og {J J':Hq} {l:Addr} {o:HQ} (h:gZ J J') (n:J l=none):gZ J (put J' l o):=λa=>by
 by_cases e:a=l
 ·subst e;exact .inr n
 ·rw [aj e];exact h a
theorem less_none {J J':Hq} {l:Addr} (h:gZ J J') (n:J' l=none):J l=none:=(h l).elim (λe=>e.trans n) id
theorem Me {p q a b:Prop} [Decidable p] [Decidable q]:(if p then if q then a else b else b)=if p∧q then a else b:=by by_cases hp:p <;> by_cases hq:q <;> simp [hp,hq]
def ye:cG:=λxs J Q _=>∃c m:Int,xs=[.int c,.int m]∧0≤m∧m≤36∧∀ns:List Str,(ns.length:Int)=m→ns.Nodup→(∀x∈ns,good x=true)→Q (.fl (ns.map .str)) J
abbrev nk:Stmt:=(top 58)
abbrev k7:List Str:=["_law_cell_here","_law_many"]
theorem eE:L2.aw ["_law_cell_here","_law_many","_law_signs","_law_row","_law_some","_law_body","_law_at_here","_law_out","_law_k"] ["_law_cell_here","_law_many"] (L2.aq nk):=dI
theorem Ce {f:Addr} {fd:FuncData} (F:bP K "_law_names" "_law_names" nk f fd) (Z:bD mg) (l7:bF P w K mg base 1 "_law_digits" f7 zU):aH P w K mg base (cg P w) 2 f fd k7 (cH K ye):=by
 simp_arith [eE,(ai (aE (i:=2) eE.nd b_)
   (ai (aE (i:=3) eE.nd (aQ l7 B hr (af (rv 0) (af (m9 (wg [.int 3,.int 36,.int 8,.int 36,.int 36,.int 36,.int 36,.int 36,.int 36,.int 36,.int 36,.int 840] rfl [.int 3,.int 36,.int 8,.int 36,.int 36,.int 36,.int 36,.int 36,.int 36,.int 36,.int 36,.int 840] rfl)) ah))))
   (ai (aY (dF (f_ (aJ (dN hr.aV) (au av (rv 3) ag) ag) (eu (aJ AM (rv 1) ag)))) (ai (aE (i:=4) eE.nd (m9 (wg [.str "m",.str "ab",.str "a",.str "zebra9",.str "b0",.str "0",.str "abc",.str "9zz",.str "q7q7q7q7",.str "aa",.str "z",.str "a1b2c3d4"] rfl [.str "m",.str "ab",.str "a",.str "zebra9",.str "b0",.str "0",.str "abc",.str "9zz",.str "q7q7q7q7",.str "aa",.str "z",.str "a1b2c3d4"] rfl)))
   (ar (aD (IA (L2.aq nk) ["_law_cell_here","_law_many","_law_signs","_law_row","_law_some","_law_body","_law_at_here","_law_out","_law_k"] [("_law_row",3),("_law_some",4)] rfl rfl rfl (iu rfl Z.range (af (rv 1) ah)) (λ_ _ _ _ _ _=>(au av (rv 2) (az cP (az bO (au av (rv 1) ag) (az aT ag (rv 0))) ag))))))) aO)
   (ai (EK (i:=5) (L2.aq nk) ["_law_cell_here","_law_many","_law_signs","_law_row","_law_some","_law_body","_law_at_here","_law_out","_law_k"] [("_law_signs",2)] rfl rfl rfl eE.nd rfl (Or.inl rfl) (dR (iq IE (rv 3) (iW ag) (iW ag))) (λ_ _ _ _ _ _=>(au DE (rv 1) (rv 0))))
   (m8 (aY (aJ (dN hr.aV) (au av (rv 3) ag) ag) (ar (aE (i:=5) eE.nd (iq Hn (rv 5) nj (iW (az bO (au av (rv 3) ag) ag))))) aO)
   (ai (aE (i:=6) eE.nd (az cP (au av (rv 3) ag) (aL cJ rfl Z.len boot_len (af (rv 5) ah))))
   (ai (aE (i:=7) eE.nd (fF ah))
   (ai (cQ bq rfl (iu rfl Z.range (af (rv 1) ah)) (ba (i:=8) eE.nd) (ai (wo Ho (rv 5) (rv 6) (au DE (rv 2) (az cP (az bO (au av (rv 3) ag) (az aT ag (rv 8))) ag)))
   (ar (a_ (fL PySem.F.plainAttrs_list PySem.F.slot_list_append PySem.F.type_list_append dz (rv 7) (af (fL PySem.F.plainAttrs_str PySem.F.slot_str_join PySem.F.type_str_join Gp b_ (af (rv 5) ah)) ah))))))
   (ar (aD (rv 7))))))))))),F]
 ·obtain ⟨c,m,rfl,_⟩:=h;rfl
 obtain ⟨c,m,rfl,m0,m1,q⟩:=h
 refine hX ?_
 have ss:=rA (ss:=[3,36,8,36,36,36,36,36,36,36,36,840]) (by decide)
 simp_all! []
 refine ⟨c,[3,36,8,36,36,36,36,36,36,36,36,840],rfl,ss,by decide,λds hD=>?_⟩
 obtain ⟨d0,d1,d2,d11,es,at0,at1,at2,at11,hcut,el,be,d20,d21⟩:=NI hD
 clear hD
 generalize ds.map PV.int=row at at0 at1 at2 at11 hcut ⊢
 refine hNq _ _ ?_
 clear hNq Nq
 simp_all! [at0]
 rw [Me]
 split
 ·rename_i hc
  simp_all! [G9]
  obtain ⟨g,hg⟩:∃g:PV→PV,∀i:Int,g (.int i)=.str (pick d1 i.toNat):=⟨λx=>match x with | .int i=>.str (pick d1 i.toNat) | _=>.non,λ_=>rfl⟩
  refine ⟨by omega,by omega,λ_=>true,g,⟨by rw [jH];exact aX (by omega),λJ' _=>⟨trivial,λx hx=>⟨⟨rfl,rfl⟩,λ_=>?_⟩⟩⟩,?_⟩
  ·obtain ⟨i,hi⟩:=R5.mp hx
   obtain ⟨i1,rfl⟩:=(qr _ _ _ _).mp hi
   rw [hg]
   simp_arith! [bE,at1,Int.zero_add]
   exact ⟨.of (Bd.small (by decide) (by decide)) (Bd.small (x:=(i:Int)) (by omega) (by omega)),by decide,eZ (GU d1 i) ⟨by rw [Int.zero_add,Int.toNat_natCast],rfl⟩⟩
  ·have em:((qp 0 m.toNat).filter λ_=>true).map g=((SJ m.toNat).map (pick d1)).map PV.str:=by
    rw [Sl.mpr λ_ _=>rfl]
    unfold qp
    rw [RK,RK]
    exact R6 λi _=>by show g (.int (0 + (i:Int)))=_;rw [hg,Int.zero_add,Int.toNat_natCast];rfl
   rw [em]
   exact Fg.same (q _ (by rw [Rr,T3];omega) (Em d1 (by omega)) λx hx=>by obtain ⟨k,_,rfl⟩:=Ru.mp hx;exact Cr d1 k)
 refine hNq _ _ ?_
 clear hNq Nq
 have al:=kj
 have al2:bB.length≤sizeLine:=by decide +kernel
 simp_all! [zK,hcut]
 obtain ⟨g,hg⟩:∃g:PV→PV,∀i:Int,g (.int i)=.str (one (bB.cps.toList.getD i.toNat 0)):=⟨λx=>match x with | .int i=>.str (one (bB.cps.toList.getD i.toNat 0)) | _=>.non,λ_=>rfl⟩
 refine ⟨λ_=>true,g,⟨by rw [Rr];exact aX (by omega),λJ' _=>⟨trivial,λx hx=>⟨⟨rfl,rfl⟩,λ_=>?_⟩⟩⟩,λD hD=>?_⟩
 ·obtain ⟨z,hz,rfl⟩:=Ru.mp hx
  obtain ⟨z0,z1⟩:=be z hz
  have hj:z.toNat < bB.cps.toList.length:=by rw [al];omega
  have ha:cZ bB.cps.toList z=some (bB.cps.toList.getD z.toNat 0):=by
   have:=bG (xs:=bB.cps.toList) (j:=z.toNat) (Rt hj)
   rw [Int.toNat_of_nonneg z0] at this
   rw [this,SR,Rt hj];rfl
  rw [hg]
  simp_arith! [bE,Kp]
  exact eZ ha ⟨al2,rfl,rfl⟩
 have em:((es.map PV.int).filter λ_=>true).map g=((es.map λz=>bB.cps.toList.getD z.toNat 0).map one).map PV.str:=by
  rw [Sl.mpr λ_ _=>rfl,RK,RK,RK]
  exact R6 λz _=>hg z
 rw [em]
 have hcl:(es.map λz=>bB.cps.toList.getD z.toNat 0).length=8:=by rw [Rr];exact el
 have hca:∀c∈es.map λz=>bB.cps.toList.getD z.toNat 0,eG dj c=true:=λc hc=>by
  obtain ⟨z,hz,rfl⟩:=Ru.mp hc
  obtain ⟨z0,z1⟩:=be z hz
  have hj:z.toNat < bB.cps.toList.length:=by rw [al];omega
  rw [SR,Rt hj]
  exact qa _ (RZ hj)
 generalize (es.map λz=>bB.cps.toList.getD z.toNat 0)=cs at hcl hca
 refine hNq _ _ ?_
 clear hNq Nq
 simp_all! [at0]
 obtain ⟨M,hM⟩:∃M:Sr→Hq→Prop,∀τ' J',M τ' J'↔∃(D:Addr) (cs:List Nat),τ'=[some (.int c),some (.int m),some (.str bB),some (.fl row),none,some (.ref D),none,none,none]∧gZ J J'∧J D=none∧0 < cs.length∧cs.length≤8∧(∀c∈cs,eG dj c=true)∧J' D=some (.lst ((cs.map one).map .str)):=⟨_,λ_ _=>Iff.rfl⟩
 refine ⟨M,?_,?_⟩
 ·simp_all! [at0,at2,nK,ak]
  split
  ·rename_i h1
   rw [sI (f:=PV.str) (by omega:(0:Int)≤d2 + 1),← So]
   intro p4 hp4
   have n4:p4≠D:=λe=>by subst e;rw [ak] at hp4;cases hp4
   have j4:J p4=none:=by rw [aj n4] at hp4;exact hp4
   refine (hM _ _).mpr ⟨p4,cs.take (d2 + 1).toNat,rfl,B5 hD j4,j4,?_,?_,λc hc=>hca c (Sg hc),ak⟩
   ·rw [RX];omega
   ·rw [RX];omega
  ·exact (hM _ _).mpr ⟨D,cs,rfl,fW hD,hD,by omega,by omega,hca,ak⟩
 clear hca hcl hD
 intro τ' J' hm
 obtain ⟨D,cs,rfl,lss,hD,l0,l1,hca,hd⟩:=(hM _ _).mp hm
 clear hm hM M
 have hl:((cs.map one).map PV.str).length=cs.length:=by rw [Rr,Rr]
 simp_all! [at11,hd,hl]
 have a0:=Int.emod_nonneg d11 (show (cs.length:Int)≠0 by omega)
 have a1:=Int.emod_lt_of_pos d11 (show (0:Int) < (cs.length:Int) by omega)
 generalize d11 % (cs.length:Int)=at' at a0 a1 ⊢
 refine ⟨by omega,hNq _ _ ?_⟩
 clear hNq Nq
 simp_all! []
 intro O hO
 have nOD:D≠O:=λe=>by rw [e,hO] at hd;cases hd
 have jO:=less_none lss hO
 refine hNq _ _ ?_
 clear hNq Nq
 simp_all! []
 refine ⟨by omega,by omega,?_⟩
 have e0s:(Str.ofString "").length=0:=by decide +kernel
 obtain ⟨Inv,hInv⟩:∃Inv:Nat→Sr→Hq→Prop,∀i τ J2,Inv i τ J2↔∃(u:Option PV) (cs':List Nat) (xs:List Str),τ=[some (.int c),some (.int m),some (.str bB),some (.fl row),none,some (.ref D),some (.int at'),some (.ref O),u] ∧
  gZ J J2∧cs'.length=cs.length∧(∀c∈cs',eG dj c=true)∧J2 D=some (.lst ((cs'.map one).map .str))∧J2 O=some (.lst (xs.map .str))∧xs.length=i∧(∀x∈xs,good x=true)∧∀k x,xs[k]?=some x→x.cps.toList[at'.toNat]?=some (sign d1 k):=⟨_,λ_ _ _=>Iff.rfl⟩
 refine pP Inv ((hInv _ _ _).mpr ⟨none,cs,[],rfl,og lss jO,rfl,hca,by rw [aj nOD];exact hd,ak,rfl,(λx hx=>by cases hx),λk x e=>by cases e⟩) ?_ ?_
 ·intro i τ J2 hi hv
  obtain ⟨u,cs',xs,rfl,ls2,hl',hca',hd',ho',hx,hxl,hsg⟩:=(hInv _ _ _).mp hv
  have sg:=Hm d1 i
  have ix:L2.CL ((cs'.map one).map PV.str).length at'=some at'.toNat:=by
   unfold L2.CL
   rw [if_pos a0,if_pos (by rw [Rr,Rr,hl'];exact a1)]
  have es':((cs'.map one).map PV.str).set at'.toNat (.str (sgn (sign d1 i)))=((cs'.set at'.toNat (sign d1 i)).map one).map PV.str:=by
   rw [List.map_set,List.map_set]
   rfl
  have lc:(cs'.set at'.toNat (sign d1 i)).length=cs.length:=by rw [S0,hl']
  have hcn:∀c∈cs'.set at'.toNat (sign d1 i),eG dj c=true:=λc hc=>by
   rcases List.mem_or_eq_of_mem_set hc with h | h
   ·exact hca' c h
   ·rw [h];exact Cw d1 i
  simp_all! [at1,Kp,Int.zero_add]
  refine ⟨.of (Bd.small (by decide) (by decide)) (Bd.small (x:=(i:Int)) (by omega) (by omega)),by decide,eZ sg ⟨al2,?_⟩⟩
  simp_all! [hd']
  refine ⟨_,ix,?_⟩
  rw [es']
  refine hNq _ _ ?_
  clear hNq Nq
  have hO2:put J2 D (.lst (((cs'.set at'.toNat (sign d1 i)).map one).map .str)) O=some (.lst (xs.map .str)):=by rw [aj (Ne.symm nOD)];exact ho'
  simp_arith! [bE,Ii,nK,ak,hO2]
  refine ⟨_,rfl,?_,by rw [Rr,hx];exact aX (by omega),(hInv _ _ _).mpr ⟨_,cs'.set at'.toNat (sign d1 i),xs ++ [⟨(cs'.set at'.toNat (sign d1 i)).toArray⟩],rfl,og (og ls2 hD) jO,lc,hcn,by rw [aj nOD,ak],?_,by rw [RL,hx];rfl,?_,?_⟩⟩
  ·rw [D9,Rr,lc,e0s]
   omega
  ·rw [ak,join_ones,Rw];rfl
  ·intro x hx2
   rcases RC.mp hx2 with h | h
   ·exact hxl x h
   ·simp only [RM,Sh,or_false] at h
    subst h
    exact F8 (by rw [lc];exact l0) (by rw [lc];exact l1) hcn
  ·intro k x e
   rcases Nat.lt_or_ge k xs.length with hk | hk
   ·rw [Sy hk] at e
    exact hsg k x e
   ·rw [SO hk] at e
    have ek:k=i:=by
     cases hz:k - xs.length with
     | zero=>omega
     | succ z=>rw [hz] at e;cases e
    rw [show k - xs.length=0 by omega] at e
    have ex:=Option.some.inj e
    subst ex
    rw [ek]
    show (cs'.set at'.toNat (sign d1 i))[at'.toNat]?=some (sign d1 i)
    rw [Sj (by omega)]
 intro τ J2 hv
 obtain ⟨u,cs',xs,rfl,ls2,hl',hca',hd',ho',hx,hxl,hsg⟩:=(hInv _ _ _).mp hv
 refine hNq _ _ ?_
 simp_arith! [bE]
 exact Fg.n6 ls2 ho' jO (q xs (by omega) (Fd (by omega) hsg) hxl)
abbrev wy:Stmt:=(top 52)
abbrev k_:List Str:=["_law_found"]
theorem ET:L2.aw ["_law_found"] ["_law_found"] (L2.aq wy):=dI
def rL:cG:=λxs J Q _=>∃i:Int,xs=[.int i]∧Q (.bl true) J
theorem Ck {f:Addr} {fd:FuncData} (F:bP K "_law_whole" "_law_whole" wy f fd) (Z:bD mg):aH P w K mg base (cg P w) 1 f fd k_ (cH K rL):=by
 simp_arith [ET,(ar (aD (zM (aL iE rfl Z.isinstance boot_isinstance (af (rv 0) (af (nh rfl Z.int boot_int) ah))) (wj (Ku (aL iE rfl Z.isinstance boot_isinstance (af (rv 0) (af (nh rfl Z.bool boot_bool) ah))))))))]
 ·obtain ⟨i,rfl,_⟩:=h;rfl
 obtain ⟨i,rfl,q⟩:=h
 refine hX ?_
 simp_arith! [bE]
 exact q
abbrev zQ:Stmt:=(top 54)
abbrev iU:List Str:=["_law_found","_law_due_here"]
theorem Hj:L2.aw ["_law_found","_law_due_here"] ["_law_found","_law_due_here"] (L2.aq zQ):=dI
def pW:cG:=λxs J Q _=>∃a:Rat,xs=[fr a,fr a]∧Q (.bl true) J
theorem D1 {f:Addr} {fd:FuncData} (F:bP K "_law_part" "_law_part" zQ f fd) (Z:bD mg) (Aa:bF P w K mg base 1 "_law_whole" k_ rL):aH P w K mg base (cg P w) 2 f fd iU (cH K pW):=by
 simp_arith [Hj,(ai (aY (dF (j0 (cW (bz (aL iE rfl Z.isinstance boot_isinstance (af (rv 0) (af (nh rfl Z.tuple boot_tuple) ah))))) (f' (aJ (fK hr.aV) (aL cJ rfl Z.len boot_len (af (rv 0) ah)) ag)))) (ar (aD eL)) aO)
   (ai (aY (dF (j0 (cW (bz (aQ Aa B hr (af (au av (rv 0) ag) ah)))) (f' (cW (bz (aQ Aa B hr (af (au av (rv 0) ag) ah))))))) (ar (aD eL)) aO)
   (ar (aD (er (dN hr.aV) (rv 0) (rv 1))))))]
 ·obtain ⟨a,rfl,_⟩:=h;rfl
 obtain ⟨a,rfl,q⟩:=h
 refine hX ?_
 simp_arith! [bE,rL]
 exact q
abbrev ra:Stmt:=(top 59)
abbrev jU:List Str:=["_law_number","_law_mode"]
theorem Cu:L2.aw ["_law_number","_law_mode"] ["_law_number","_law_mode"] (L2.aq ra):=dI
def uz:cG:=λxs J Q _=>∃n m:Int,xs=[.int n,.int m]∧0≤n∧∀v:Int,v.natAbs≤1000000→Q (.int v) J
theorem zg {f:Addr} {fd:FuncData} (F:bP K "_law_placed" "_law_placed" ra f fd) (Z:bD mg):aH P w K mg base (cg P w) 1 f fd jU (cH K uz):=by
 simp_arith [Cu,(ai (aY (aJ gC (rv 1) ag) (ar (aD (az c8 (az cP (rv 0) ag) ag))) aO)
   (ai (aY (aJ (dN hr.aV) (rv 1) ag) (ar (aD (az c8 (az cP (rv 0) ag) ag))) aO)
   (ar (aD (az c8 (az cP (rv 0) ag) ag)))))]
 ·obtain ⟨n,m,rfl,_⟩:=h;rfl
 obtain ⟨n,m,rfl,n0,q⟩:=h
 refine hX ?_
 simp_all! []
 split
 ·simp_all! [];exact ⟨by decide,q _ (by omega)⟩
 simp_all! []
 split
 ·simp_all! [];exact ⟨by decide,q _ (by omega)⟩
 ·simp_all! [];exact ⟨by decide,q _ (by omega)⟩
abbrev wu:Stmt:=(top 60)
abbrev k9:List Str:=["_law_number","_law_mode"]
theorem ER:L2.aw ["_law_number","_law_mode"] ["_law_number","_law_mode"] (L2.aq wu):=dI
def yg:cG:=λxs J Q _=>∃n m:Int,xs=[.int n,.int m]∧0≤n∧n < 2001∧∀v:Int,v.natAbs≤1000→Q (.int v) J
theorem Ci {f:Addr} {fd:FuncData} (F:bP K "_law_paced" "_law_paced" wu f fd) (Z:bD mg):aH P w K mg base (cg P w) 1 f fd k9 (cH K yg):=by
 simp_arith [ER,(ai (aY (aJ gC (rv 1) ag) (ar (aD (az c8 (az cP (rv 0) ag) ag))) aO)
   (ai (aY (aJ (dN hr.aV) (rv 1) ag) (ar (aD (az c8 (az cP (rv 0) ag) ag))) aO)
   (ar (aD (az c8 (az cP (rv 0) ag) ag)))))]
 ·obtain ⟨n,m,rfl,_⟩:=h;rfl
 obtain ⟨n,m,rfl,n0,n1,q⟩:=h
 refine hX ?_
 simp_all! []
 split
 ·simp_all! [];exact ⟨by decide,q _ (by omega)⟩
 simp_all! []
 split
 ·simp_all! [];exact ⟨by decide,q _ (by omega)⟩
 ·simp_all! [];exact ⟨by decide,q _ (by omega)⟩
abbrev KA:Stmt:=(top 62)
abbrev lM:List Str:=["_law_leg","_law_moment"]
theorem x5:L2.aw ["_law_leg","_law_moment","_law_begun","_law_place","_law_way","_law_under"] ["_law_leg","_law_moment"] (L2.aq KA):=dI
theorem JM {f:Addr} {fd:FuncData} (F:bP K "_law_at" "_law_at" KA f fd) (Z:bD mg) (l9:bF P w K mg base 1 "_law_low" d6 gj):aH P w K mg base (cg P w) 2 f fd lM (cH K pj):=by
 simp_arith [x5,(ai (aE (i:=2) x5.nd (au av (rv 0) ag))
   (ai (aE (i:=3) x5.nd (au av (rv 0) ag))
   (ai (aE (i:=4) x5.nd (az aT (au av (rv 0) ag) (az c8 (az aT (au av (rv 1) ag) (au av (rv 2) ag)) (az aT (au av (rv 2) ag) (au av (rv 1) ag)))))
   (ai (aE (i:=5) x5.nd (az aT (au av (rv 1) ag) (au av (rv 2) ag)))
   (ar (aD (aQ l9 B hr (af (az bO (az aT (au av (rv 3) ag) (rv 5)) (az aT (rv 4) (au av (rv 3) ag))) (af (az aT (au av (rv 3) ag) (rv 5)) ah)))))))))]
 ·obtain ⟨l,t,rfl,_⟩:=h;rfl
 obtain ⟨l,m,rfl,sb,sp,sm,bv,q⟩:=h
 refine hX ?_
 simp_all! [AA,AB,kO]
 have bn:Bd 1801 (m.num * l.m.den - l.m.num * m.den):=.sub (.mul sm.num sb.den (Rz _)) (.mul sb.num sm.den (Rz _))
 have bu:Bd 1800 ((m.den:Int) * l.m.den):=.mul sm.den sb.den
 have bw:Bd 1900 (l.v * (m.num * l.m.den - l.m.num * m.den)):=.mul bv bn
 refine ⟨.of sm.num sb.den,.of sb.num sm.den,.of bv bn,?_⟩
 simp_all! []
 refine ⟨.of sm.den sb.den,?_⟩
 simp_all! [gj]
 refine ⟨.of sp.num bu,.of bw sp.den,.of sp.den bu,Int.mul_pos (dk _) (Int.mul_pos (dk _) (dk _)),.mul sp.den bu,?_⟩
 rw [LU]
 exact q
theorem DJ {c:Rat} {u s:Nat} (u0:1≤u) (s0:1≤s):c < Rat.divInt ((c.num * u).fdiv c.den + s) u:=by
 rw [Rat.divInt_eq_div]
 have hu:(0:Rat) < ((u:Int):Rat):=by exact_mod_cast (show (0:Int) < u by omega)
 have hd:(0:Rat) < ((c.den:Int):Rat):=by exact_mod_cast (show (0:Int) < c.den by have:=c.den_pos;omega)
 have h1:c.num * (u:Int) < ((c.num * (u:Int)).fdiv (c.den:Int) + s) * (c.den:Int):=by
  rw [Int.fdiv_eq_ediv_of_nonneg _ (by omega),Int.add_mul]
  have e1:=Int.mul_ediv_add_emod (c.num * (u:Int)) (c.den:Int)
  have e2:=Int.emod_lt_of_pos (c.num * (u:Int)) (b:=(c.den:Int)) (by have:=c.den_pos;omega)
  have e3:(c.den:Int)≤s * (c.den:Int):=by
   have:=Int.mul_nonneg (show 0≤(s:Int) - 1 by omega) (show 0≤(c.den:Int) by omega)
   rw [Int.sub_mul,Int.one_mul] at this;omega
  rw [Int.mul_comm] at e1
  omega
 have h2:(c.num:Rat) * ((u:Int):Rat) < ((((c.num * (u:Int)).fdiv (c.den:Int) + s:Int)):Rat) * ((c.den:Int):Rat):=by
  rw [← Rat.intCast_mul,← Rat.intCast_mul];exact Rat.intCast_lt_intCast.mpr h1
 have h3:(c.num:Rat)=c * ((c.den:Int):Rat):=cast_eq c
 rw [h3] at h2
 generalize ((((c.num * (u:Int)).fdiv (c.den:Int) + s:Int)):Rat)=a at h2 ⊢
 generalize ((c.den:Int):Rat)=y at h2 hd
 generalize ((u:Int):Rat)=x at h2 hu ⊢
 have e:a / x * x=a:=by grind
 generalize a / x=z at e ⊢
 by_cases k:c < z
 ·exact k
 ·have h4:z * x≤c * x:=Rat.mul_le_mul_of_nonneg_right (by grind) (by grind)
  have h5:z * x * y≤c * x * y:=Rat.mul_le_mul_of_nonneg_right h4 (Rat.le_of_lt hd)
  rw [e] at h5
  have h6:c * y * x=c * x * y:=by clear h1 h3 h2 h5;grind
  rw [h6] at h2
  exact absurd h2 (Rat.not_lt.mpr h5)
abbrev wq:Stmt:=(top 61)
abbrev k6:List Str:=["_law_clock","_law_number","_law_bottom","_law_mode"]
theorem nv:L2.aw ["_law_clock","_law_number","_law_bottom","_law_mode","_law_under","_law_steps"] ["_law_clock","_law_number","_law_bottom","_law_mode"] (L2.aq wq):=dI
def Bk:cG:=λxs J Q _=>∃(c:Rat) (n b m:Int),xs=[fr c,.int n,.int b,.int m]∧0≤n∧0≤b∧0≤m∧m < 4∧n < 2 ^ 60∧Sz 900 c∧∀q,Later c q→(¬ n % 8=0→c < q)→Q (fr q) J
theorem Cc {f:Addr} {fd:FuncData} (F:bP K "_law_later" "_law_later" wq f fd) (Z:bD mg) (l9:bF P w K mg base 1 "_law_low" d6 gj):aH P w K mg base (cg P w) 2 f fd k6 (cH K Bk):=by
 simp_arith [nv,(ai (aY (aJ (dN hr.aV) (az cP (rv 1) ag) ag) (ar (aD (rv 0))) aO)
   (ai (aE (i:=4) nv.nd (az bO ag (az cP (rv 2) (au av (m9 (wg [.int 4,.int 6,.int 60,.int 60] rfl [.int 4,.int 6,.int 60,.int 60] rfl)) (rv 3)))))
   (ai (aE (i:=5) nv.nd (az bO ag (az cP (az ed (rv 1) ag) (az aT ag (rv 4)))))
   (m8 (aY (aJ (dN hr.aV) (rv 3) ag) (ar (aE (i:=5) nv.nd (az bO ag (az cP (az ed (rv 1) ag) (az aT ag (rv 4)))))) aO)
   (ar (aD (aQ l9 B hr (af (az bO (az ed (az aT (au av (rv 0) ag) (rv 4)) (au av (rv 0) ag)) (rv 5)) (af (rv 4) ah)))))))))]
 ·obtain ⟨c,n,b,m,rfl,_⟩:=h;rfl
 obtain ⟨c,n,b,m,rfl,n0,b0,m0,m1,n2,sc,q⟩:=h
 refine hX ?_
 simp_all! []
 refine ⟨by decide,?_⟩
 split
 ·rename_i z8
  simp_all! []
  exact q c (.inl rfl) λz=>absurd z8 z
 obtain ⟨x,hx,x0,x1⟩:∃x:Int,cZ [PV.int 4,PV.int 6,PV.int 60,PV.int 60] m=some (.int x)∧1≤x∧x≤60:=by
  rcases (by omega:m=0∨m=1∨m=2∨m=3) with e | e | e | e <;> subst e
  ·exact ⟨4,mx _ _,by decide,by decide⟩
  ·exact ⟨6,oT _ _ _,by decide,by decide⟩
  ·exact ⟨60,tS _ _ _ _,by decide,by decide⟩
  ·exact ⟨60,HG _ _ _ _ _,by decide,by decide⟩
 have u0:0≤b % x:=Int.emod_nonneg _ (by omega)
 have u1:b % x < x:=Int.emod_lt_of_pos _ (by omega)
 have bu:Bd 64 (1 + b % x):=.small (by omega) (by omega)
 have b8:Bd 9000 8:=(Bd.small (x:=8) (by decide) (by decide)).mono (by decide)
 simp_all! [hx]
 refine ⟨by omega,?_⟩
 simp_all! []
 refine ⟨⟨by decide,b8⟩,.of (.small (x:=2) (by decide) (by decide)) bu,by omega,?_⟩
 generalize hu:1 + b % x=u at *
 have k0:0≤n.fdiv 8:=by rw [Int.fdiv_eq_ediv_of_nonneg _ (by decide)];exact Int.ediv_nonneg n0 (by decide)
 obtain ⟨M,hM⟩:∃M:Sr→Hq→Prop,∀τ' J',M τ' J'↔∃s:Int,τ'=[some (fr c),some (.int n),some (.int b),some (.int m),some (.int u),some (.int s)]∧J'=J∧1≤s∧s≤500 * u:=⟨_,λ_ _=>Iff.rfl⟩
 simp_all! []
 refine ⟨M,?_,?_⟩
 ·simp_arith! [bE]
  have h2:0≤n.fdiv 8 % (2 * u):=Int.emod_nonneg _ (by omega)
  have h3:n.fdiv 8 % (2 * u) < 2 * u:=Int.emod_lt_of_pos _ (by omega)
  have h4:0≤n.fdiv 8 % (500 * u):=Int.emod_nonneg _ (by omega)
  have h5:n.fdiv 8 % (500 * u) < 500 * u:=Int.emod_lt_of_pos _ (by omega)
  split
  ·refine ⟨⟨by decide,b8⟩,.of (.small (x:=500) (by decide) (by decide)) bu,by omega,(hM _ _).mpr ⟨_,rfl,rfl,by omega,by omega⟩⟩
  ·exact (hM _ _).mpr ⟨_,rfl,rfl,by omega,by omega⟩
 ·intro τ' J' hm
  obtain ⟨s,rfl,rfl,s0,s1⟩:=(hM _ _).mp hm
  clear hm hM M
  simp_arith! [bE,gj]
  refine ⟨.of sc.num bu,⟨eR c,sc.den.mono (by decide)⟩,by omega,bu.mono (by decide),?_⟩
  obtain ⟨u',rfl⟩:=Int.eq_ofNat_of_zero_le (show 0≤u by omega)
  obtain ⟨s',rfl⟩:=Int.eq_ofNat_of_zero_le (show 0≤s by omega)
  exact q _ (.inr ⟨u',s',by omega,by omega,by omega,by omega,rfl⟩) λ_=>DJ (by omega) (by omega)
theorem n9 {α:Type} {V:α→PV} {lt:α→α→Bool} {ys:List α} {b:α} {r:Addr} {sp:cG} {E2:Addr→Hq→Prop} {D:En} {τ:Sr} {J:Hq} {iO iA iR:Nat}
  (hO:τ[iO]?=some (some (.ref r))) (hR:τ[iR]?=some (some (V b))) (hA:τ[iA]?=some (some (.int 0))) (nO:iA≠iO) (nR:iA≠iR) (hJ:J r=some (.lst (ys.map V)))
  (hb:∀y∈ys,∀R:PV→Hq→Prop,R (.bl (lt y b)) J→sp [V y,V b] J R E2)
  (high:∀{i j:Nat} {x y:α},ys[i]?=some x→ys[j]?=some y→i≤j→lt x b=false→lt y b=false)
  (fin:∀j:Nat,j≤ys.length→(∀(k:Nat) y,k < j→ys[k]?=some y→lt y b=true)→(∀(k:Nat) y,j≤k→ys[k]?=some y→lt y b=false)→D.nx (τ.set iA (some (.int j))) J) :
  EE (G4 (rB (Ha (Ez λi j=>.bl (decide (i < j))) (xX iA) (Nn Kq (xW (xX iO) zL)))) (rB (ED sp E2 (xW (Ha Pn (xX iO) (xX iA)) (xW (xX iR) zL))))) (wd (Ha (Ez λi j=>.int (i + j)) (xX iA) (rC (.int 1))) (HM iA)) D τ J:=by
 have hl:iA < τ.length:=(Rv.mp hA).1
 have sO:∀x,(τ.set iA x)[iO]?=some (some (.ref r)):=λx=>by rw [SD nO];exact hO
 have sR:∀x,(τ.set iA x)[iR]?=some (some (V b)):=λx=>by rw [SD nR];exact hR
 have sA:∀x,(τ.set iA x)[iA]?=some x:=λx=>Sj hl
 refine ⟨λm τ' J'=>∃j:Nat,j≤ys.length∧m=ys.length - j∧τ'=τ.set iA (some (.int j))∧J'=J∧∀(k:Nat) y,k < j→ys[k]?=some y→lt y b=true,⟨ys.length,0,Sb _,rfl,?_,rfl,λk y hk=>by omega⟩,?_⟩
 ·have h2:=List.set_getElem_self hl
  rw [(Rv.mp hA).2] at h2
  exact h2.symm
 rintro m τ' J' ⟨j,hj,rfl,rfl,rfl,hlow⟩
 simp_all! [sO,sA,hJ,Rr]
 by_cases c0:j < ys.length
 ·rw [if_pos (by omega)]
  obtain ⟨y,hy⟩:∃y,ys[j]?=some y:=⟨_,Rt c0⟩
  have ha:cZ (ys.map V) (j:Int)=some (V y):=bG (by rw [Ry,hy];rfl)
  simp_all! [sO,sA,sR,hJ,ha]
  refine hb y (RJ hy) _ ?_
  refine JN rfl ?_
  cases hc:lt y b with
  | true =>
   rw [if_pos rfl]
   obtain ⟨N,hN⟩:∃N:Sr→Hq→Prop,∀τ' J'',N τ' J''↔∃i:Nat,i≤ys.length∧ys.length - (j + 1)=ys.length - i∧τ'=τ.set iA (some (.int i))∧J''=J'∧∀(k:Nat) y,k < i→ys[k]?=some y→lt y b=true:=⟨_,λ_ _=>Iff.rfl⟩
   refine ⟨N,λτ'' J'' h=>⟨ys.length - (j + 1),by omega,(hN _ _).mp h⟩,?_⟩
   simp_arith! [bE,sA]
   refine (hN _ _).mpr ⟨j + 1,by omega,rfl,by rw [List.set_set,Int.natCast_succ],rfl,λk z hk e=>?_⟩
   rcases S3 (Nat.lt_succ_iff.mp hk) with h | h
   ·exact hlow k z h e
   ·subst h;rw [hy] at e;cases e;exact hc
  | false =>
   rw [if_neg (by decide)]
   exact fin j hj hlow λk z hk e=>high hy e hk hc
 ·rw [if_neg (by omega)]
  exact fin j hj hlow λk z hk e=>by rw [Sw (by omega)] at e;cases e
section
variable {X:Cx}
theorem ml.or {f:Value→Value→Sem Value} {q q':mn} (h:ml X f q) (h':ml X f q'):ml X f (λx y J Q=>q x y J Q∨q' x y J Q):=by
 obtain ⟨r,a,lr⟩:=h
 obtain ⟨r',a',lr'⟩:=h'
 refine ⟨λx y H Q=>r x y H Q∨r' x y H Q,λpins s σ H x y v u Q I rx ry h=>?_,λJ H x y v w Q2 Q rx ry rr h k=>?_⟩
 ·rcases h with h | h
  ·exact a pins s σ H x y v u Q I rx ry h
  ·exact a' pins s σ H x y v u Q I rx ry h
 ·rcases h with h | h
  ·exact .inl (lr J H x y v w Q2 Q rx ry rr h k)
  ·exact .inr (lr' J H x y v w Q2 Q rx ry rr h k)
end
def Ky.V (k:Ky):PV:=.tup [fr k.p,.int k.v,.str k.n]
theorem Mg (J:Hq) (k:Ky):pE J k.V (.int 0)=some (fr k.p):=mx _ _
theorem Mh (J:Hq) (k:Ky):pE J k.V (.int 1)=some (.int k.v):=oT _ _ _
theorem HN (J:Hq) (k:Ky):pE J k.V (.int 2)=some (.str k.n):=tS _ _ _ _
theorem N0 (p:Rat) (v:Int) (n:Str):PV.tup [fr p,.int v,.str n]=(Ky.mk p v n).V:=rfl
theorem nX (p q:Rat):(p.num * (q.den:Int) < q.num * (p.den:Int))=(p < q):=propext (Rat.lt_iff p q).symm
abbrev q9:Stmt:=(top 63)
abbrev eh:List Str:=["_law_one","_law_two"]
theorem oI:L2.aw ["_law_one","_law_two","_law_here","_law_there"] ["_law_one","_law_two"] (L2.aq q9):=dI
def nB:cG:=λxs J Q _=>(∃a b:Ky,xs=[a.V,b.V]∧Sz 9000 a.p∧Sz 9000 b.p∧Q (.bl (a.lt b)) J)∨(∃a b:ax,xs=[a.v,b.v]∧Sz 9000 a.m∧Sz 9000 b.m∧Q (.bl (a.lt b)) J)
theorem ze {f:Addr} {fd:FuncData} (F:bP K "_law_before" "_law_before" q9 f fd) (Z:bD mg):aH P w K mg base (cg P w) 1 f fd eh (cH K nB):=by
 simp_arith [oI,(ai (aE (i:=2) oI.nd (az aT (au av (au av (rv 0) ag) ag) (au av (au av (rv 1) ag) ag)))
   (ai (aE (i:=3) oI.nd (az aT (au av (au av (rv 1) ag) ag) (au av (au av (rv 0) ag) ag)))
   (ai (aY (aJ (fK hr.aV) (rv 2) (rv 3)) (ar (aD (er gC (rv 2) (rv 3)))) aO)
   (ai (aY (aJ (fK hr.aV) (au av (rv 0) ag) (au av (rv 1) ag)) (ar (aD (er (ml.or gC zk) (au av (rv 0) ag) (au av (rv 1) ag)))) aO)
   (ar (aD (er zk (au av (rv 0) ag) (au av (rv 1) ag))))))))]
 ·rcases h with ⟨a,b,rfl,_⟩ | ⟨a,b,rfl,_⟩ <;> rfl
 refine hX ?_
 rcases h with ⟨a,b,rfl,sa,sb,q⟩ | ⟨a,b,rfl,sa,sb,q⟩
 ·simp_arith! [bE,Mg,Mh,HN]
  refine ⟨.of sa.num sb.den,.of sb.num sa.den,?_⟩
  unfold Ky.lt at q
  by_cases e:a.p=b.p
  ·rw [if_pos e] at q
   rw [if_pos ((ko _ _).mpr e)]
   by_cases k:a.v=b.v
   ·rw [if_pos k] at q ⊢;exact q
   ·rw [if_neg k] at q ⊢;exact .inl q
  ·rw [if_neg e] at q
   rw [if_neg (λz=>e ((ko _ _).mp z))]
   simp only [nX]
   exact q
 ·simp_arith! [bE,oW,qv,qw]
  refine ⟨.of sa.num sb.den,.of sb.num sa.den,?_⟩
  unfold ax.lt at q
  by_cases e:a.m=b.m
  ·rw [if_pos e] at q
   rw [if_pos ((ko _ _).mpr e)]
   by_cases k:a.h=b.h
   ·rw [if_pos k] at q ⊢;exact q
   ·rw [if_neg k] at q ⊢;exact .inr q
  ·rw [if_neg e] at q
   rw [if_neg (λz=>e ((ko _ _).mp z))]
   simp only [nX]
   exact q
abbrev pV:Stmt:=(top 64)
abbrev k8:List Str:=["_law_legs","_law_moment"]
theorem iy:L2.aw ["_law_legs","_law_moment","_law_out","_law_name","_law_row","_law_at_here"] ["_law_legs","_law_moment"] (L2.aq pV):=dI
def yf:cG:=λxs J Q _=>∃(D:Addr) (fs:List (Str × aZ)) (ep:Nat) (t:Rat),xs=[.ref D,fr t]∧J D=some (.dct (cj fs) ep)∧(fs.map (·.1)).Nodup∧fs.length≤100∧Sz 900 t∧(∀x∈fs,nM 900 x.2)∧Q (.fl ((bZ t fs).map .str)) J
theorem Cg {f:Addr} {fd:FuncData} (F:bP K "_law_order" "_law_order" pV f fd) (Z:bD mg) (Fv:bF P w K mg base 2 "_law_at" lM pj) (jy:bF P w K mg base 1 "_law_before" eh nB):aH P w K mg base (cg P w) 3 f fd k8 (cH K yf):=by
 simp_arith [iy,(ai (aE (i:=2) iy.nd (fF ah))
   (ai (cQ bq rfl (fP (rv 0)) (ba (i:=3) iy.nd) (ai (aE (i:=4) iy.nd (bR (af (aQ Fv B hr (af (au cK (rv 0) (rv 3)) (af (rv 1) ah))) (af (au av (au cK (rv 0) (rv 3)) ag) (af (rv 3) ah)))))
   (ai (aE (i:=5) iy.nd ag)
   (ai (fk bq (dF (f_ (aJ gC (rv 5) (aL cJ rfl Z.len boot_len (af (rv 2) ah))) (eu (bz (aQ jy B hr (af (au av (rv 2) (rv 5)) (af (rv 4) ah))))))) (ar (aE (i:=5) iy.nd (az bO (rv 5) ag))))
   (ar (a_ (fL PySem.F.plainAttrs_list PySem.F.slot_list_insert PySem.F.type_list_insert hZ (rv 2) (af (rv 5) (af (rv 4) ah)))))))))
   (ar (aD (IA (L2.aq pV) ["_law_legs","_law_moment","_law_out","_law_name","_law_row","_law_at_here"] [] rfl rfl rfl (dR (rv 2)) (λ_ _ _ _ _ _=>(au av (rv 0) ag))))))),F]
 ·obtain ⟨D,fs,ep,t,rfl,_⟩:=h;rfl
 obtain ⟨D,fs,ep,t,rfl,hD,hnd,hlen,st,sl,q⟩:=h
 refine hX ?_
 simp_all! []
 intro r hr'
 have nDr:D≠r:=by intro e;subst e;rw [hD] at hr';cases hr'
 simp_all! [aj nDr,hD]
 have hkv:(cj fs).map (λkv=>PV.str kv.1)=fs.map λx=>PV.str x.1:=by unfold cj;rw [RK];rfl
 rw [hkv]
 obtain ⟨Inv,hInv⟩:∃Inv:Nat→Sr→Hq→Prop,∀i τ J',Inv i τ J'↔∃(u3 u4 u5:Option PV),τ=[some (.ref D),some (fr t),some (.ref r),u3,u4,u5]∧J'=put J r (.lst ((d9 ((fs.take i).map (key t))).map Ky.V)):=⟨_,λ_ _ _=>Iff.rfl⟩
 refine dZ Inv ((hInv _ _ _).mpr ⟨_,_,_,rfl,rfl⟩) (λi τ J' h=>?_) ?_ ?_
 ·obtain ⟨_,_,_,_,rfl⟩:=(hInv _ _ _).mp h
  rw [aj nDr];exact hD
 ·intro i x τ J' hx hv
  obtain ⟨u3,u4,u5,rfl,rfl⟩:=(hInv _ _ _).mp hv
  clear hv
  have hi:i < fs.length:=by have:=(Rv.mp hx).1;simpa using this
  rw [Ry,Rt hi] at hx
  cases hx
  rcases hfi:fs[i] with ⟨n,l⟩
  have hmem:(n,l)∈fs:=by rw [← hfi];exact RZ hi
  have et:fs.take (i + 1)=fs.take i ++ [(n,l)]:=by rw [RQ,Rt hi,hfi];rfl
  have hndt:((fs.take i).map (·.1)).Nodup:=by rw [So];exact hnd.sublist (R4 _ _)
  obtain ⟨ys,hys⟩:∃ys,d9 ((fs.take i).map (key t))=ys:=⟨_,rfl⟩
  have srt:pz Ky.lt ys:=by rw [← hys];exact f6 (by rw [cM];exact hndt)
  have hyl:ys.length=i:=by rw [← hys,mR,Rr,RX];omega
  have hym:∀y∈ys,Sz 9000 y.p:=λy hy=>by
   rw [← hys,bS,Ru] at hy
   obtain ⟨x',hx',rfl⟩:=hy
   exact (jA (sl x' (Sg hx')) st).mono (by decide)
  have en:d9 ((fs.take (i + 1)).map (key t))=pB Ky.lt (key t (n,l)) ys:=by rw [et,Rw,RD,Sq,h_,hys]
  rw [hys]
  have hvn:jx (cj fs) n=some l.V:=gY (f:=aZ.V) hnd hmem
  have sll:=sl _ hmem
  simp_all! [aj nDr,hD,hvn]
  refine ⟨l,t,rfl,sll.m,sll.p,st,sll.v,?_⟩
  simp_all! [aj nDr,hD,hvn,kO,N0]
  have ek:(Ky.mk (l.at t) l.v n)=key t (n,l):=rfl
  rw [ek]
  have skn:Sz 9000 (key t (n,l)).p:=(jA sll st).mono (by decide)
  generalize key t (n,l)=kn at en skn ⊢
  refine n9 (V:=Ky.V) (lt:=Ky.lt) (ys:=ys) (b:=kn) (iO:=2) (iA:=5) (iR:=4) rfl rfl rfl (by decide) (by decide) ak (λy hy R hR=>.inl ⟨y,kn,rfl,hym y hy,skn,hR⟩) (λhx hy h k=>Cz (lt:=Ky.lt) Ky.tr srt hx hy h k) λj hj hlow hhigh=>?_
  simp_all! [ak]
  refine ⟨_,j,rfl,rfl,by rw [Rr];exact hj,aX (by rw [Rr];omega),by omega,?_⟩
  rw [bU]
  refine (hInv _ _ _).mpr ⟨_,_,_,rfl,?_⟩
  rw [en,← Ax hj hlow hhigh,Rw,RD,So,S4]
 ·intro τ J' hv
  obtain ⟨u3,u4,u5,rfl,rfl⟩:=(hInv _ _ _).mp hv
  rw [Rr,RY]
  simp_all! [G9,ak]
  refine ⟨λ_=>true,(λx=>match x with | .tup [_,_,n]=>n | _=>.non),⟨aX (by rw [Rr,mR,Rr];omega),λJ2 hs=>⟨hs _ _ ak,λx hx=>⟨⟨rfl,rfl⟩,λ_=>?_⟩⟩⟩,?_⟩
  ·obtain ⟨y,hy,rfl⟩:=Ru.mp hx
   simp_arith! [bE,HN]
   rfl
  ·rw [Sl.mpr λ_ _=>rfl,RK]
   have e:(bZ t fs).map PV.str=(d9 (fs.map (key t))).map ((λx=>match x with | .tup [_,_,n]=>n | _=>.non) ∘ Ky.V):=by unfold bZ;rw [RK];rfl
   rw [e] at q
   exact Fg.less (fW hr') q
abbrev wz:Stmt:=(top 55)
abbrev lh:List Str:=["_law_found","_law_due_here"]
theorem x6:L2.aw ["_law_found","_law_due_here","_law_one"] ["_law_found","_law_due_here"] (L2.aq wz):=dI
def Br:cG:=λxs J Q _=>∃ss:List Str,xs=[.fl (ss.map .str),.fl (ss.map .str)]∧ss.length≤900∧Q (.bl true) J
theorem Es (ss:List Str):kJ (ss.map PV.str)=true:=by
 induction ss with
 | nil=>rfl
 | cons x ss ih=>rw [RD,uq,wb,ih];rfl
theorem De (ss:List Str):dY (gG (ss.map PV.str))≤1:=by
 induction ss with
 | nil=>simp [gG,dY]
 | cons x ss ih=>simp only [RD,gG,gQ,dY,dep];omega
theorem Ai (ss:List Str):FZ (.fl (ss.map .str)):=⟨by unfold m7;exact Es ss,by
 have:=De ss
 simp only [gQ,dep];omega⟩
theorem Cm {f:Addr} {fd:FuncData} (F:bP K "_law_words" "_law_words" wz f fd) (Z:bD mg):aH P w K mg base (cg P w) 1 f fd lh (cH K Br):=by
 simp_arith [x6,(ai (aY (dF (j0 (cW (bz (aL iE rfl Z.isinstance boot_isinstance (af (rv 0) (af (nh rfl Z.list boot_list) ah))))) (f' (aJ (fK hr.aV) (aL cJ rfl Z.len boot_len (af (rv 0) ah)) (aL cJ rfl Z.len boot_len (af (rv 1) ah)))))) (ar (aD eL)) aO)
   (ai (cQ bq rfl (dR (rv 0)) (ba (i:=2) x6.nd) (ar (aY (cW (bz (aL iE rfl Z.isinstance boot_isinstance (af (rv 2) (af (nh rfl Z.str boot_str) ah))))) (ar (aD eL)) aO)))
   (ar (aD (er (dN hr.aV) (rv 0) (rv 1))))))]
 ·obtain ⟨ss,rfl,_⟩:=h;rfl
 obtain ⟨ss,rfl,hl,q⟩:=h
 refine hX ?_
 simp_all! [Rr]
 obtain ⟨Inv,hInv⟩:∃Inv:Nat→Sr→Hq→Prop,∀i τ J',Inv i τ J'↔∃u:Option PV,τ=[some (.fl (ss.map .str)),some (.fl (ss.map .str)),u]∧J'=J:=⟨_,λ_ _ _=>Iff.rfl⟩
 refine dZ Inv ((hInv _ _ _).mpr ⟨_,rfl,rfl⟩) (λ_ _ _ _=>trivial) ?_ ?_
 ·intro i x τ J' hx hv
  obtain ⟨u,rfl,rfl⟩:=(hInv _ _ _).mp hv
  obtain ⟨y,_,rfl⟩:=Ru.mp (RJ hx)
  simp_all! []
  exact (hInv _ _ _).mpr ⟨_,rfl,rfl⟩
 ·intro τ J' hv
  obtain ⟨u,rfl,rfl⟩:=(hInv _ _ _).mp hv
  simp_all! []
  refine ⟨Ai ss,(Ai ss).1,?_⟩
  rw [eq_self];exact q
abbrev oF:Stmt:=(top 56)
abbrev jj:List Str:=["_law_found","_law_due_here"]
theorem zS:L2.aw ["_law_found","_law_due_here"] ["_law_found","_law_due_here"] (L2.aq oF):=dI
def oO:cG:=λxs J Q _=>∃a:ax,xs=[a.v,a.v]∧Q (.bl true) J
theorem xO {f:Addr} {fd:FuncData} (F:bP K "_law_passrow" "_law_passrow" oF f fd) (Z:bD mg) (yr:bF P w K mg base 2 "_law_part" iU pW):aH P w K mg base (cg P w) 3 f fd jj (cH K oO):=by
 simp_arith [zS,(ai (aY (dF (j0 (cW (bz (aL iE rfl Z.isinstance boot_isinstance (af (rv 0) (af (nh rfl Z.tuple boot_tuple) ah))))) (f' (aJ (fK hr.aV) (aL cJ rfl Z.len boot_len (af (rv 0) ah)) ag)))) (ar (aD eL)) aO)
   (ai (aY (dF (j0 (cW (bz (aL iE rfl Z.isinstance boot_isinstance (af (au av (rv 0) ag) (af (nh rfl Z.str boot_str) ah))))) (f' (cW (bz (aL iE rfl Z.isinstance boot_isinstance (af (au av (rv 0) ag) (af (nh rfl Z.str boot_str) ah)))))))) (ar (aD eL)) aO)
   (ar (aD (zM (aQ yr B hr (af (au av (rv 0) ag) (af (au av (rv 1) ag) ah))) (wj (er (dN hr.aV) (rv 0) (rv 1))))))))]
 ·obtain ⟨a,rfl,_⟩:=h;rfl
 obtain ⟨a,rfl,q⟩:=h
 refine hX ?_
 simp_arith! [bE,pW,oW,qv,qw,P2,Mm,OK,Ig,OM]
 exact q
abbrev lS:Stmt:=(top 57)
abbrev ik:List Str:=["_law_found","_law_due_here"]
theorem ph:L2.aw ["_law_found","_law_due_here","_law_k"] ["_law_found","_law_due_here"] (L2.aq lS):=dI
def rJ:cG:=λxs J Q _=>∃(rows:List ax) (x:PV),xs=[x,.fl (rows.map ax.v)]∧nK J x=some (rows.map ax.v)∧rows.length≤900∧Q (.bl true) J
theorem vH {f:Addr} {fd:FuncData} (F:bP K "_law_passrows" "_law_passrows" lS f fd) (Z:bD mg) (BE:bF P w K mg base 3 "_law_passrow" jj oO):aH P w K mg base (cg P w) 4 f fd ik (cH K rJ):=by
 simp_arith [ph,(ai (aY (dF (j0 (cW (bz (aL iE rfl Z.isinstance boot_isinstance (af (rv 0) (af (nh rfl Z.list boot_list) ah))))) (f' (aJ (fK hr.aV) (aL cJ rfl Z.len boot_len (af (rv 0) ah)) (aL cJ rfl Z.len boot_len (af (rv 1) ah)))))) (ar (aD eL)) aO)
   (ai (cQ bq rfl (iu rfl Z.range (af (aL cJ rfl Z.len boot_len (af (rv 1) ah)) ah)) (ba (i:=2) ph.nd) (ar (aY (cW (bz (aQ BE B hr (af (au av (rv 0) (rv 2)) (af (au av (rv 1) (rv 2)) ah))))) (ar (aD eL)) aO)))
   (ar (aD eL))))]
 ·obtain ⟨rows,x,rfl,_⟩:=h;rfl
 obtain ⟨rows,x,rfl,hx,hl,q⟩:=h
 refine hX ?_
 simp_arith! [bE,Rr,ME hx,DQ hx]
 refine ⟨by omega,by omega,pP (λi τ J'=>∃u:Option PV,τ=[some x,some (.fl (rows.map ax.v)),u]∧J'=J) ⟨none,rfl,rfl⟩ ?_ ?_⟩
 ·rintro i τ J' hi ⟨u,rfl,rfl⟩
  have hi:i < rows.length:=by omega
  have ha:cZ (rows.map ax.v) (0 + (i:Int))=some (rows[i].v):=by rw [Int.zero_add];exact C7 (Rt hi)
  simp_arith! [bE,HX hx,ha,oO]
  exact ⟨_,rfl,rfl⟩
 ·rintro τ J' ⟨u,rfl,rfl⟩
  exact q
def gu (cs:List Cf) (t:Rat):List (Str × aZ):=cs.filterMap λc=>if Ov.there c.w c.g t=true then (hU c.w t).map λl=>(c.n,l) else none
theorem uD (cs:List Cf) (c:Cf) (t:Rat):gu (cs ++ [c]) t=gu cs t ++ (if Ov.there c.w c.g t=true then (hU c.w t).map λl=>(c.n,l) else none).toList:=by
 unfold gu
 rw [List.filterMap_append]
 refine congrArg (_ ++ ·) ?_
 rw [Su]
 cases (if Ov.there c.w c.g t=true then (hU c.w t).map λl=>(c.n,l) else none) <;> rfl
theorem Fm {cs:List Cf} {c:Cf} {t:Rat} {l:aZ} (h:there c.w c.g t=true) (hl:hU c.w t=some l):gu (cs ++ [c]) t=gu cs t ++ [(c.n,l)]:=by rw [uD,if_pos h,hl];rfl
theorem HB {cs:List Cf} {c:Cf} {t:Rat} (h:there c.w c.g t=false):gu (cs ++ [c]) t=gu cs t:=by rw [uD,if_neg (by rw [h];decide)];exact Sd _
theorem Fl {cs:List Cf} {t:Rat} {x:Str × aZ} (h:x∈gu cs t):∃c∈cs,there c.w c.g t=true∧x.1=c.n∧hU c.w t=some x.2:=by
 obtain ⟨c,hc,e⟩:=SX.mp h
 by_cases q:there c.w c.g t=true
 ·rw [if_pos q] at e
  obtain ⟨l,hl,e2⟩:=S5.mp e
  subst e2
  exact ⟨c,hc,q,rfl,hl⟩
 ·rw [if_neg q] at e;cases e
theorem yn (cs:List Cf) (t:Rat):((gu cs t).map (·.1)).Sublist (cs.map Cf.n):=by
 induction cs with
 | nil=>exact List.Sublist.refl _
 | cons c cs ih =>
  have e:gu (c :: cs) t=(if Ov.there c.w c.g t=true then (hU c.w t).map λl=>(c.n,l) else none).toList ++ gu cs t:=by
   unfold gu
   rw [Su]
   cases (if Ov.there c.w c.g t=true then (hU c.w t).map λl=>(c.n,l) else none) <;> rfl
  rw [e,Rw,RD]
  by_cases q:there c.w c.g t=true
  ·rw [if_pos q]
   cases hl:hU c.w t with
   | none=>exact (ih.cons _)
   | some l=>exact ih.cons₂ _
  ·rw [if_neg q];exact ih.cons _
theorem HA {cs:List Cf} {t:Rat} (h:(cs.map Cf.n).Nodup):((gu cs t).map (·.1)).Nodup:=h.sublist (yn cs t)
theorem ym (cs:List Cf) (t:Rat):(gu cs t).length≤cs.length:=List.length_filterMap_le _ _
theorem Fj {cs:List Cf} {t:Rat} {n:Nat} (h:∀c∈cs,∀l∈c.w,nM n l):∀x∈gu cs t,nM n x.2:=λx hx=>by
 obtain ⟨c,hc,hb,_,hl⟩:=Fl hx
 obtain ⟨l,h1,h2,_⟩:=yj hb
 rw [hl] at h1;cases h1
 exact h c hc _ h2
theorem ug {J:Hq} {p o:Addr} {a b:HQ} (hp:J p=none) (ho:J o=none):gZ J (put (put J p a) o b):=λx=>by
 by_cases e:x=o
 ·subst e;exact .inr ho
 ·by_cases e2:x=p
  ·subst e2;exact .inr hp
  ·rw [aj e,aj e2];exact .inl rfl
abbrev dT:Stmt:=(L2.inClass (top 45) 19)
abbrev ig:List Str:=["self","moment"]
theorem iw:L2.aw ["self","moment","legs"] ["self","moment"] (L2.aq dT):=dI
def rH (cN cL eN:Addr):cG:=λxs J Q E=>∃(p:Addr) (L:Ln) (t:Rat),xs=[.ref p,fr t]∧bj cN cL J p L∧a8 L∧Sz 900 t∧(t < 0∨L.t < t→E eN J)∧(0≤t→t≤L.t→Q (.fl ((bZ t (gu L.cs t)).map .str)) J∨∀l,J l=none→Q (.ref l) (put J l (.lst ((bZ t (gu L.cs t)).map .str))))
theorem oq {cN cL eN f:Addr} {fd:FuncData} (F:bP K "order_at" "Lane.order_at" dT f fd) (Z:bD mg) (N:nW K mg) (ay:df K mg "Lane" cN) (aB:aA K cN "now") (aI:aA K cN "logs") (dh:Own K mg "NotThere" eN) (d5:cq P w K mg base cL 2 "there" iT (rF cL)) (dy:cq P w K mg base cL 3 "leg_at" gP (rE cL eN)) (dG:bF P w K mg base 1 "less" gF cX) (lq:bF P w K mg base 6 "in_order" jW oN):aH P w K mg base (cg P w) 7 f fd ig (cH K (rH cN cL eN)):=by
 obtain ⟨aN,gN,sN⟩:=N
 have rN:∀(J:Hq) (H:Hp),cu K J H (fr 0) (.ref aN):=λJ H=>⟨aN,_,rfl,sN H,⟨_,_,rfl,rfl,_,_,rfl,rfl,rfl⟩⟩
 simp_arith [iw,(ai (aY (dF (j0 (bz (aQ dG B hr (af (rv 1) (af (fg (v:=.ref aN) (fr 0) rfl gN rfl rN) ah)))) (f' (bz (aQ dG B hr (af (aG ay.cl aB (rv 0)) (af (rv 1) ah))))))) (ar (dP dh rfl cA B.kn rfl (af b_ ah))) aO)
   (ai (Kw (i:=2) (L2.aq dT) ["self","moment","legs"] [("self",0),("moment",1)] rfl rfl rfl iw.nd rfl (Or.inl rfl) (fP (aG ay.cl aI (rv 0))) (λ_ _ _ _ _ _=>(rv 0)) (λ_ _ _ _ _ _=>(a9 (pl:=_) dy Dh hr (au cK (aG ay.cl aI (rv 1)) (rv 0)) (af (rv 2) ah))) (λ_ _ _ _ _ _=>(bz (a9 (pl:=_) d5 Dh hr (au cK (aG ay.cl aI (rv 1)) (rv 0)) (af (rv 2) ah)))))
   (ar (aD (aQ lq B hr (af (rv 2) (af (rv 1) ah))))))),F]
 ·obtain ⟨p,L,t,rfl,_⟩:=h;rfl
 obtain ⟨p,L,t,rfl,b,ok,st,qe,q⟩:=h
 have bo:=b.ob
 have bd:=b.dc
 have s0:Sz 9000 (0:Rat):=⟨⟨by decide⟩,⟨by decide⟩⟩
 refine hX ?_
 simp_all! [cX,bo,qA]
 refine ⟨st.mono (by decide),s0,?_⟩
 by_cases c1:t < 0
 ·rw [if_pos c1]
  simp_all! [fE]
  exact qe (.inl c1)
 rw [if_neg c1]
 refine ⟨ok.Fu.mono (by decide),st.mono (by decide),?_⟩
 by_cases c2:L.t < t
 ·rw [if_pos c2]
  simp_all! [fE]
  exact qe (.inr c2)
 rw [if_neg c2]
 have q:=q (Rat.not_lt.mp c1) (Rat.not_lt.mp c2)
 refine hNq _ _ ?_
 clear hNq Nq
 simp_all! [Lp,bo,vg,bd]
 intro D hD ep
 have bf:∀e2 kvs,bj cN cL (put J D (.dct kvs e2)) p L:=λe2 kvs=>b.fresh hD
 have Fs:∀c∈L.cs,∀l∈c.w,nM 900 l:=λc hc l hl=>(ok.ck c hc l hl).Fs
 refine ⟨λi J2=>∃e2,J2=put J D (.dct (cj (gu (L.cs.take i) t)) e2),⟨ep,rfl⟩,?_,?_,?_⟩
 ·rintro i J2 ⟨e2,rfl⟩;exact (bf e2 _).dc
 ·rintro i x J2 hx ⟨e2,rfl⟩
  have hi:i < L.cs.length:=by have:=(Rv.mp hx).1;simpa using this
  rw [Ry,Ry,Rt hi] at hx
  cases hx
  have hc:=RZ hi
  have et:L.cs.take (i + 1)=L.cs.take i ++ [L.cs[i]]:=by rw [RQ,Rt hi];rfl
  generalize L.cs[i]=c at hc et
  have hnot:c.n ∉ (gu (L.cs.take i) t).map (·.1):=λz=>by
   have hnd:((L.cs.take (i + 1)).map Cf.n).Nodup:=ok.nd.sublist ((R4 _ _).map _)
   rw [et,Rw] at hnd
   exact (cF hnd).2 ((yn _ t).subset z)
  have b2:=bf e2 (cj (gu (L.cs.take i) t))
  have bo2:=b2.ob
  have bd2:=b2.dc
  have hva:=ok.va hc
  have lo:=(b2.lg c hc).o
  have gsz:∀u,c.g=some u→Sz 900 u:=λu hu=>(oZ (ok.gz c hc u hu).1).mono (by decide)
  simp_all! [bo2,vg,bd2,hva,lo]
  refine ⟨MB _ _,c.a,c.r,c.w,c.g,t,rfl,b2.lg c hc,ok.ne c hc,st,Fs c hc,gsz,?_⟩
  rcases hb:there c.w c.g t with _ | _
  ·refine ⟨e2,?_⟩
   rw [et,HB hb]
  ·simp_all! [bo2,vg,bd2,hva,lo]
   refine ⟨MC _ _,c.a,c.r,c.w,c.g,t,rfl,b2.lg c hc,ok.ne c hc,RN (ok.len c hc) (by decide),st,Fs c hc,gsz,λ_ l hl=>?_,λz=>absurd (z.symm.trans hb) (by decide)⟩
   refine ⟨_,e2,ak,aX (by have:=ym (L.cs.take i) t;rw [RX] at this;have:=ok.many;simp only [cj,Rr];omega),λep'=>⟨ep',?_⟩⟩
   rw [bU,et,Fm hb hl]
   congr 2
   exact qW (f:=aZ.V) (l:=l) hnot
 ·rintro J2 ⟨e2,rfl⟩
  rw [Rr,Rr,RY]
  refine hNq _ _ ?_
  clear hNq Nq
  simp_all! []
  refine ⟨D,_,e2,t,rfl,ak,HA ok.nd,RN (ym _ _) ok.many,st,Fj Fs,λo ho=>?_⟩
  have hoJ:J o=none:=by rw [aj (λz=>by subst z;rw [ak] at ho;cases ho)] at ho;exact ho
  rcases q with q | q
  ·exact Fg.n6 (ug hD hoJ) ak hoJ q
  ·exact Fg.less (uf (fW hD)) (q o hoJ)
def qx (n:Str) (x v:Int):PV:=.tup [.str "join",.str n,.int x,.int v]
def uP:PV:=.tup [.str "about"]
def Jn (m:Rat):PV:=.tup [.str "go",fr m]
theorem NP:(("join":Str)="go")=False:=eq_false (by decide +kernel)
theorem NM:(("about":Str)="join")=False:=eq_false (by decide +kernel)
theorem NN:(("about":Str)="leave")=False:=eq_false (by decide +kernel)
theorem NO:(("about":Str)="turn")=False:=eq_false (by decide +kernel)
theorem NL:(("about":Str)="go")=False:=eq_false (by decide +kernel)
structure Dk where
 w:Addr
 pa:Addr
 de:Addr
 cr:Addr
structure fM (cD cN cL:Addr) (J:Hq) (p:Addr) (k:Dk) (L:Ln) (ps:List ax) (ds:List PV):Prop where
 ob:J p=some (.ins cD [("water",.ref k.w),("passings",.ref k.pa),("deeds",.ref k.de),("crowns",.ref k.cr)])
 la:bj cN cL J k.w L
 pas:J k.pa=some (.lst (ps.map ax.v))
 dee:J k.de=some (.lst ds)
 cro:∃e,J k.cr=some (.dct [] e)
 np:¬ L.own k.w p
 npa:¬ L.own k.w k.pa
 nde:¬ L.own k.w k.de
 ncr:¬ L.own k.w k.cr
 pd:k.pa≠k.de
def Dk.own (k:Dk) (p:Addr) (L:Ln) (a:Addr):Prop:=L.own k.w a∨a=p∨a=k.pa∨a=k.de∨a=k.cr
theorem fM.sub {cD cN cL:Addr} {J J':Hq} {p:Addr} {k:Dk} {L:Ln} {ps:List ax} {ds:List PV} (h:fM cD cN cL J p k L ps ds) (s:Sub J J'):fM cD cN cL J' p k L ps ds :=
 ⟨s _ _ h.ob,h.la.keep λa o _ e=>s a o e,s _ _ h.pas,s _ _ h.dee,let ⟨e,z⟩:=h.cro;⟨e,s _ _ z⟩,h.np,h.npa,h.nde,h.ncr,h.pd⟩
theorem Mv.sub {J J1 J2:Hq} {S S':Addr→Prop} (h:Mv J J1 S S') (s:Sub J1 J2):Mv J J2 S S':=by
 refine ⟨λa o e n=>s _ _ (h.keep a o e n),h.own,λa z=>h.mono a ?_⟩
 cases e:J1 a with
 | none=>rfl
 | some o=>rw [s _ _ e] at z;cases z
theorem fM.next {cD cN cL:Addr} {J J1:Hq} {p:Addr} {k:Dk} {L L1:Ln} {ps ps1:List ax} {ds ds1:List PV} (h:fM cD cN cL J p k L ps ds) (b1:bj cN cL J1 k.w L1) (mv:Mv J J1 (L.own k.w) (L1.own k.w)) :
  fM cD cN cL (put (put J1 k.de (.lst ds1)) k.pa (.lst (ps1.map ax.v))) p k L1 ps1 ds1∧Mv J (put (put J1 k.de (.lst ds1)) k.pa (.lst (ps1.map ax.v))) (k.own p L) (k.own p L1):=by
 have new:∀{x o},J x=some o→¬ L.own k.w x→¬ L1.own k.w x:=λhx nx z=>by
  rcases mv.own _ z with y | y
  ·exact nx y
  ·rw [hx] at y;cases y
 obtain ⟨e,hc⟩:=h.cro
 have o1:=mv.keep _ _ h.ob h.np
 have p1:=mv.keep _ _ h.pas h.npa
 have d1:=mv.keep _ _ h.dee h.nde
 have c1:=mv.keep _ _ hc h.ncr
 have n1:=new h.ob h.np
 have n2:=new h.pas h.npa
 have n3:=new h.dee h.nde
 have n4:=new hc h.ncr
 have epd:p≠k.de:=λz=>by rw [z,d1] at o1;cases o1
 have epa:p≠k.pa:=λz=>by rw [z,p1] at o1;cases o1
 have ecd:k.cr≠k.de:=λz=>by rw [z,d1] at c1;cases c1
 have eca:k.cr≠k.pa:=λz=>by rw [z,p1] at c1;cases c1
 refine ⟨⟨by rw [aj epa,aj epd];exact o1,b1.keep λa u ow z=>by rw [aj (λy=>by subst y;exact n2 ow),aj (λy=>by subst y;exact n3 ow)];exact z,ak,by rw [aj (Ne.symm h.pd)];exact ak,⟨e,by rw [aj eca,aj ecd];exact c1⟩,n1,n2,n3,n4,h.pd⟩,?_⟩
 have m1:Mv J J1 (k.own p L) (k.own p L1):=⟨λa o e n=>mv.keep a o e λz=>n (.inl z),λa z=>z.elim (λz=>(mv.own a z).imp .inl id) λz=>.inl (.inr z),mv.mono⟩
 exact m1.trans ((jQ (S':=k.own p L1) (.inr (.inr (.inr (.inl rfl)))) λa z=>.inl z).trans (jQ (.inr (.inr (.inl rfl))) λa z=>.inl z))
abbrev fG:Stmt:=(L2.inClass (top 48) 0)
abbrev ia:List Str:=["self"]
theorem oG:L2.aw ["self"] ["self"] (L2.aq fG):=dI
def Bc (cD cN cL:Addr):cG:=λxs J Q _=>∃p,xs=[.ref p]∧J p=some (.ins cD [])∧∀J' k d e o,fM cD cN cL J' p k ⟨0,d,e,o,[],[]⟩ [] []→Mv J J' (λa=>a=p) (k.own p ⟨0,d,e,o,[],[]⟩)→Q .non J'
theorem vq {cD cN cL f:Addr} {fd:FuncData} (F:bP K "__init__" "Desk.__init__" fG f fd) (aU:df K mg "Desk" cD) (aP:aA K cD "water") (bt:aA K cD "passings") (c7:aA K cD "deeds") (cI:aA K cD "crowns") (nV:uN P w K mg base cN 1 "Lane" e9 (wL cN cL)):aH P w K mg base (cg P w) 3 f fd ia (cH K (Bc cD cN cL)):=by
 simp_arith [oG,(ai (c9 aU.cl aP (rv 0) (m_ nV B hr))
   (ai (c9 aU.cl bt (rv 0) (fF ah))
   (ai (c9 aU.cl c7 (rv 0) (fF ah))
   (ar (c9 aU.cl cI (rv 0) pT)))))]
 ·obtain ⟨p,rfl,_⟩:=h;rfl
 obtain ⟨p,rfl,hp,q⟩:=h
 refine hX ?_
 simp_all! [hp]
 intro w hw
 have nwp:w≠p:=λz=>by subst z;rw [hp] at hw;cases hw
 refine ⟨w,rfl,ak,λJ1 d e o b mv=>⟨rfl,?_⟩⟩
 have mvJ:Mv J J1 (λa=>a=p) (λa=>Ln.own ⟨0,d,e,o,[],[]⟩ w a∨a=p):=by
  refine (Mv.y_ (S:=λa=>a=p) (o:=.ins cN []) hw).trans ⟨λa u h n=>mv.keep a u h λz=>n (.inr z),λa z=>?_,mv.mono⟩
  rcases z with z | z
  ·exact (mv.own a z).imp .inr id
  ·exact .inl (.inl z)
 have hp1:J1 p=some (.ins cD []):=mv.keep _ _ (by rw [aj (Ne.symm nwp)];exact hp) (Ne.symm nwp)
 refine dJ hp1 ⟨by show (0:Nat) < 1000;decide,?_⟩
 have np:¬ Ln.own ⟨0,d,e,o,[],[]⟩ w p:=λz=>by
  rcases mv.own _ z with y | y
  ·exact nwp y.symm
  ·rw [aj (Ne.symm nwp),hp] at y;cases y
 simp_all! []
 intro pa hpa
 have npa:pa≠p:=λz=>by subst z;rw [ak] at hpa;cases hpa
 have r1:il ("passings":Str) (PV.ref pa) ([("water",.ref w)]:List (Str × PV))=([("water",.ref w),("passings",.ref pa)]:List (Str × PV)):=by rfl
 refine dJ (by rw [aj (Ne.symm npa)];exact ak) ⟨by show (1:Nat) < 1000;decide,?_⟩
 rw [r1]
 refine hNq _ _ ?_
 clear hNq Nq
 simp_all! []
 intro de hde
 have nde:de≠p:=λz=>by subst z;rw [ak] at hde;cases hde
 have r2:il ("deeds":Str) (PV.ref de) ([("water",.ref w),("passings",.ref pa)]:List (Str × PV))=([("water",.ref w),("passings",.ref pa),("deeds",.ref de)]:List (Str × PV)):=by rfl
 refine dJ (by rw [aj (Ne.symm nde)];exact ak) ⟨by show (2:Nat) < 1000;decide,?_⟩
 rw [r2]
 refine hNq _ _ ?_
 clear hNq Nq
 simp_all! []
 intro cr hcr ec
 have ncr:cr≠p:=λz=>by subst z;rw [ak] at hcr;cases hcr
 have r3:il ("crowns":Str) (PV.ref cr) ([("water",.ref w),("passings",.ref pa),("deeds",.ref de)]:List (Str × PV))=([("water",.ref w),("passings",.ref pa),("deeds",.ref de),("crowns",.ref cr)]:List (Str × PV)):=by rfl
 refine dJ (by rw [aj (Ne.symm ncr)];exact ak) ⟨by show (3:Nat) < 1000;decide,?_⟩
 rw [r3]
 have AG:de≠pa:=λz=>by subst z;rw [aj nde,ak] at hde;cases hde
 have ncd:cr≠de:=λz=>by subst z;rw [aj ncr,ak] at hcr;cases hcr
 have ncp:cr≠pa:=λz=>by subst z;rw [aj ncr,aj (Ne.symm AG),aj npa,ak] at hcr;cases hcr
 have j1:J1 pa=none:=by rw [aj npa] at hpa;exact hpa
 have j2:J1 de=none:=by rw [aj nde,aj AG,aj nde] at hde;exact hde
 have j3:J1 cr=none:=by rw [aj ncr,aj ncd,aj ncr,aj ncp,aj ncr] at hcr;exact hcr
 have key:∀x,x≠p→put (put (put (put (put (put (put J1 p (.ins cD [("water",.ref w)])) pa (.lst [])) p (.ins cD [("water",.ref w),("passings",.ref pa)])) de (.lst [])) p (.ins cD [("water",.ref w),("passings",.ref pa),("deeds",.ref de)])) cr (.dct [] ec)) p (.ins cD [("water",.ref w),("passings",.ref pa),("deeds",.ref de),("crowns",.ref cr)]) x=put (put (put J1 pa (.lst [])) de (.lst [])) cr (.dct [] ec) x:=λx nx=>by
  rw [aj nx]
  by_cases e1:x=cr
  ·subst e1;rw [ak,ak]
  rw [aj e1,aj e1,aj nx]
  by_cases e2:x=de
  ·subst e2;rw [ak,ak]
  rw [aj e2,aj e2,aj nx]
  by_cases e3:x=pa
  ·subst e3;rw [ak,ak]
  rw [aj e3,aj e3,aj nx]
 have kp:put (put (put (put (put (put (put J1 p (.ins cD [("water",.ref w)])) pa (.lst [])) p (.ins cD [("water",.ref w),("passings",.ref pa)])) de (.lst [])) p (.ins cD [("water",.ref w),("passings",.ref pa),("deeds",.ref de)])) cr (.dct [] ec)) p (.ins cD [("water",.ref w),("passings",.ref pa),("deeds",.ref de),("crowns",.ref cr)]) p=some (.ins cD [("water",.ref w),("passings",.ref pa),("deeds",.ref de),("crowns",.ref cr)]):=ak
 generalize put (put (put (put (put (put (put J1 p (.ins cD [("water",.ref w)])) pa (.lst [])) p (.ins cD [("water",.ref w),("passings",.ref pa)])) de (.lst [])) p (.ins cD [("water",.ref w),("passings",.ref pa),("deeds",.ref de)])) cr (.dct [] ec)) p (.ins cD [("water",.ref w),("passings",.ref pa),("deeds",.ref de),("crowns",.ref cr)])=J7 at key kp ⊢
 have old:∀x u,x≠p→J1 x=some u→J7 x=some u:=λx u nx e=>by
  rw [key x nx,aj (λz=>by subst z;rw [j3] at e;cases e),aj (λz=>by subst z;rw [j2] at e;cases e),aj (λz=>by subst z;rw [j1] at e;cases e)];exact e
 refine q J7 ⟨w,pa,de,cr⟩ d e o ⟨kp,b.keep λa u ow z=>old a u (λy=>by subst y;exact np ow) z,?_,?_,⟨ec,?_⟩,np,λz=>b.some z j1,λz=>b.some z j2,λz=>b.some z j3,Ne.symm AG⟩ ⟨λa u e n=>old a u n (mvJ.keep a u e n),λa z=>?_,λa z=>mvJ.mono a ?_⟩
 ·rw [key _ npa,aj (Ne.symm ncp),aj (Ne.symm AG)];exact ak
 ·rw [key _ nde,aj (Ne.symm ncd)];exact ak
 ·rw [key _ ncr];exact ak
 ·rcases z with z | z | z | z | z
  ·exact mvJ.own a (.inl z)
  ·exact .inl z
  ·subst z;exact .inr (mvJ.mono _ j1)
  ·subst z;exact .inr (mvJ.mono _ j2)
  ·subst z;exact .inr (mvJ.mono _ j3)
 ·cases e1:J1 a with
  | none=>rfl
  | some u =>
   by_cases e2:a=p
   ·subst e2;rw [kp] at z;cases z
   ·rw [old a u e2 e1] at z;cases z
theorem yW (a b c d:PV):([("water",a),("passings",b),("deeds",c),("crowns",d)]:List (Str × PV)).lookup ("water":Str)=some a:=by rfl
theorem MA (a b c d:PV):([("water",a),("passings",b),("deeds",c),("crowns",d)]:List (Str × PV)).lookup ("passings":Str)=some b:=by rfl
theorem O6 (a b c d:PV):([("water",a),("passings",b),("deeds",c),("crowns",d)]:List (Str × PV)).lookup ("deeds":Str)=some c:=by rfl
theorem O7 (a b c d:PV):([("water",a),("passings",b),("deeds",c),("crowns",d)]:List (Str × PV)).lookup ("crowns":Str)=some d:=by rfl
theorem vf (m:Str) (a b c d:PV) (h1:(m == ("water":Str))=false) (h2:(m == ("passings":Str))=false) (h3:(m == ("deeds":Str))=false) (h4:(m == ("crowns":Str))=false):([("water",a),("passings",b),("deeds",c),("crowns",d)]:List (Str × PV)).lookup m=none:=by
 simp only [SW,h1,h2,h3,h4]
abbrev iY:Stmt:=(L2.inClass (top 22) 1)
abbrev kR:List Str:=["self","moment","order"]
theorem tE:L2.aw ["self","moment","order","leading"] ["self","moment","order"] (L2.aq iY):=dI
theorem sU {f:Addr} {fd:FuncData} (F:bP K "note" "Crown.note" iY f fd):aH P w K mg base (cg P w) 1 f fd kR (cH K tM) :=
 Ib F tE (λxs J Q E h=>h.elim) (λcdv A outer s H E G xs J Q E2 hr h B=>h.elim)
abbrev iZ:Stmt:=(L2.inClass (top 48) 13)
abbrev kS:List Str:=["self","mark","names"]
theorem tF:L2.aw ["self","mark","names","order"] ["self","mark","names"] (L2.aq iZ):=dI
theorem sV {f:Addr} {fd:FuncData} (F:bP K "watch" "Desk.watch" iZ f fd):aH P w K mg base (cg P w) 1 f fd kS (cH K tM) :=
 Ib F tF (λxs J Q E h=>h.elim) (λcdv A outer s H E G xs J Q E2 hr h B=>h.elim)
abbrev gf:Stmt:=(L2.inClass (top 48) 14)
abbrev ji:List Str:=["self","mark"]
theorem pJ:L2.aw ["self","mark"] ["self","mark"] (L2.aq gf):=dI
theorem pF {f:Addr} {fd:FuncData} (F:bP K "unwatch" "Desk.unwatch" gf f fd):aH P w K mg base (cg P w) 1 f fd ji (cH K tM) :=
 Ib F pJ (λxs J Q E h=>h.elim) (λcdv A outer s H E G xs J Q E2 hr h B=>h.elim)
abbrev dS:Stmt:=(L2.inClass (top 48) 16)
abbrev ib:List Str:=["self","passings"]
theorem cR:L2.aw ["self","passings","rows","crown","moment","order"] ["self","passings"] (L2.aq dS):=dI
def Bf (cD cN cL:Addr):cG:=λxs J Q _=>∃(p:Addr) (k:Dk) (L:Ln) (ps:List ax) (ds:List PV) (bs:List ax),xs=[.ref p,.fl (bs.map ax.v)]∧fM cD cN cL J p k L ps ds∧cy L∧(∀b∈bs,0≤b.m∧b.m≤L.t∧Sz 900 b.m)∧bs.length≤900∧∀J',Sub J J'→Q .non J'
theorem oi {cD cN cL cC eN f:Addr} {fd:FuncData} (F:bP K "note_all" "Desk.note_all" dS f fd) (Z:bD mg) (aU:df K mg "Desk" cD) (aP:aA K cD "water") (cI:aA K cD "crowns") (fB:cq P w K mg base cN 7 "order_at" ig (rH cN cL eN)) (iL:cq P w K mg base cN 1 "clock" kU (yb cN cL)) (dw:cq P w K mg base cN 1 "order" gO (rG cN cL)) (iI:cq P w K mg base cC 1 "note" kR tM):aH P w K mg base (cg P w) 8 f fd ib (cH K (Bf cD cN cL)):=by
 simp_arith [cR,(ai (EK (i:=2) (L2.aq dS) ["self","passings","rows","crown","moment","order"] [("self",0)] rfl rfl rfl cR.nd rfl (Or.inl rfl) (dR (rv 1)) (λ_ _ _ _ _ _=>(bR (af (au av (rv 0) ag) (af (a9 (pl:=_) fB Dh hr (aG aU.cl aP (rv 1)) (af (au av (rv 0) ag) ah)) ah)))))
   (ai (a_ (fL PySem.F.plainAttrs_list PySem.F.slot_list_append PySem.F.type_list_append dz (rv 2) (af (bR (af (c4 (pl:=_) iL B hr (aG aU.cl aP (rv 0))) (af (c4 (pl:=_) dw B hr (aG aU.cl aP (rv 0))) ah))) ah)))
   (ar (cQ bq rfl (Hd (aG aU.cl cI (rv 0))) (ba (i:=3) cR.nd) (ar (cQ bq rfl (dR (rv 2)) (qZ (n:=2) rfl (c5 (ba (i:=4) cR.nd) (c5 (ba (i:=5) cR.nd) ni))) (ar (a_ (a9 (pl:=_) iI B hr (rv 3) (af (rv 4) (af (rv 5) ah)))))))))))]
 ·obtain ⟨p,k,L,ps,ds,bs,rfl,_⟩:=h;rfl
 obtain ⟨p,k,L,ps,ds,bs,rfl,b,ok,sb,bl,q⟩:=h
 refine hX ?_
 obtain ⟨ec,hc⟩:=b.cro
 simp_all! [zK]
 obtain ⟨g,hg⟩:∃g:PV→PV,∀y:ax,g y.v=.tup [fr y.m,.fl ((bZ y.m (gu L.cs y.m)).map .str)]:=by
  refine ⟨λx=>match x with | .tup (.tup [.int a,.int d] :: _)=>.tup [.tup [.int a,.int d],.fl ((bZ (Rat.divInt a d) (gu L.cs (Rat.divInt a d))).map .str)] | _=>.non,λy=>?_⟩
  show PV.tup [.tup [.int y.m.num,.int (y.m.den:Int)],.fl ((bZ (Rat.divInt y.m.num (y.m.den:Int)) (gu L.cs (Rat.divInt y.m.num (y.m.den:Int)))).map .str)]=_
  rw [Rat.num_divInt_den];rfl
 refine ⟨λ_=>true,g,⟨by rw [Rr];exact aX (by omega),λJ' sb'=>⟨trivial,λx hx=>⟨⟨rfl,rfl⟩,λ_=>?_⟩⟩⟩,?_⟩
 ·obtain ⟨y,hy,rfl⟩:=Ru.mp hx
  have b':=b.sub sb'
  obtain ⟨y0,y1,y2⟩:=sb y hy
  have bo:=b'.ob
  have lo:=b'.la.ob
  rw [hg]
  simp_all! [oW,bo,yW,lo]
  refine ⟨hV _ _ _ _,k.w,L,y.m,rfl,b'.la,ok.toa8,y2,λz=>z.elim (λz=>absurd z (Rat.not_lt.mpr y0)) λz=>absurd z (Rat.not_lt.mpr y1),λ_ _=>.inl ?_⟩
  exact ⟨rfl,rfl⟩
 intro r hr'
 have sJ:Sub J (put J r (.lst (((bs.map ax.v).filter λ_=>true).map g))):=Sub.put hr'
 have b':=b.sub sJ
 have bo:=b'.ob
 have lo:=b'.la.ob
 refine hNq _ _ ?_
 clear hNq Nq
 have hc':=sJ _ _ hc
 have hrr:put J r (.lst (((bs.map ax.v).filter λ_=>true).map g)) r=some (.lst (((bs.map ax.v).filter λ_=>true).map g)):=ak
 have hrl:(((bs.map ax.v).filter λ_=>true).map g).length≤900:=by rw [Rr];exact RN (S9 _ _) (by rw [Rr];exact bl)
 generalize (((bs.map ax.v).filter λ_=>true).map g)=rows at sJ b' bo lo hc' hrr hrl ⊢
 generalize hJ1:put J r (.lst rows)=J1 at sJ b' bo lo hc' hrr ⊢
 simp_all! [bo,yW,lo]
 refine ⟨⟨_,hrr⟩,hV _ _ _ _,k.w,L,rfl,b'.la,?_⟩
 simp_all! [bo,yW,lo]
 refine ⟨hV _ _ _ _,k.w,L,rfl,b'.la,.inl ?_⟩
 simp_all! [hrr]
 refine ⟨Se hrl (by decide),hNq _ _ ?_⟩
 clear hNq Nq
 subst hJ1
 rw [bU]
 have s2:Sub J (put J r (.lst (rows ++ [.tup [fr L.t,.fl (L.row.map .str)]]))):=Sub.put hr'
 have bo2:=s2 _ _ b.ob
 have hc2:=s2 _ _ hc
 have q2:=q _ s2
 generalize put J r (.lst (rows ++ [.tup [fr L.t,.fl (L.row.map .str)]]))=J2 at bo2 hc2 q2 ⊢
 simp_all! [QF,bo2,O7,hc2]
 exact dZ (λi τ J'=>J'=J2) rfl (λi τ J' z=>by rw [z];exact hc2) (λi x τ J' hx=>by cases hx) λτ J' z=>by rw [z];exact q2
abbrev fb:Stmt:=(L2.inClass (top 48) 12)
abbrev gE:List Str:=["self","deed"]
theorem gJ:L2.aw ["self","deed","word"] ["self","deed"] (L2.aq fb):=dI
def x8 (cD cN cL T:Addr):cG:=λxs J Q _=>∃(p:Addr) (k:Dk) (L:Ln) (ps:List ax) (ds:List PV) (dv:PV),xs=[.ref p,dv]∧fM cD cN cL J p k L ps ds∧cy L ∧
 ((∃n x v,dv=qx n x v∧J T=some .tab∧good n=true∧Jo x v∧n ∉ L.cs.map Cf.n∧L.row.length < 12∧L.cs.length < 100∧n.length≤sizeLine∧∀J' L',bj cN cL J' k.w L'→cy L'→L.joined n x v L'→Mv J J' (L.own k.w) (L'.own k.w)→Q (.fl []) J') ∨
  (dv=uP∧(∀c∈L.cs,c.w.length < 200)∧∀J' L',bj cN cL J' k.w L'→cy L'→L'.cs=L.cs.map (dX L.t)→L'.t=L.t→Mv J J' (L.own k.w) (L'.own k.w)→Q (.fl []) J') ∨
  (∃m:Rat,dv=Jn m∧fJ m.num m.den=true∧L.t≤m∧∀J' o',bj cN cL J' k.w { L with t:=m,o:=o',row:=bZ m L.fs }→cy { L with t:=m,o:=o',row:=bZ m L.fs }→Mv J J' (L.own k.w) (Ln.own { L with t:=m,o:=o',row:=bZ m L.fs } k.w)→Q (.fl ((bV L.t (L.fs.map (key L.t)) m).map ax.v)) J'))
theorem mO {cD cN cL T eB eF eT eU eM eP f:Addr} {fd:FuncData} (F:bP K "carry_out" "Desk.carry_out" fb f fd) (Z:bD mg) (aU:df K mg "Desk" cD) (aP:aA K cD "water") (iM:cq P w K mg base cN 8 "go_to" kW (ID cN cL eM eP)) (jM:cq P w K mg base cN 8 "join" mY (Bo cN cL T eB eF eT eU)) (iN:cq P w K mg base cN 1 "leave" kX tM) (jN:cq P w K mg base cN 1 "turn" mZ tM) (iK:cq P w K mg base cN 8 "about" kT (ya cN cL)) (iJ:cq P w K mg base cD 1 "watch" kS tM) (fY:cq P w K mg base cD 1 "unwatch" ji tM):aH P w K mg base (cg P w) 9 f fd gE (cH K (x8 cD cN cL T)):=by
 simp_arith [gJ,(ai (aE (i:=2) gJ.nd (au av (rv 1) ag))
   (ai (aY (aJ (dN hr.aV) (rv 2) b_) (ar (aD (a9 (pl:=_) iM B hr (aG aU.cl aP (rv 0)) (af (au av (rv 1) ag) ah)))) aO)
   (m8 (aY (aJ (dN hr.aV) (rv 2) b_) (ar (a_ (a9 (pl:=_) jM B hr (aG aU.cl aP (rv 0)) (af (au av (rv 1) ag) (af (au av (rv 1) ag) (af (au av (rv 1) ag) ah)))))) (ar (aY (aJ (dN hr.aV) (rv 2) b_) (ar (a_ (a9 (pl:=_) iN B hr (aG aU.cl aP (rv 0)) (af (au av (rv 1) ag) ah)))) (ar (aY (aJ (dN hr.aV) (rv 2) b_) (ar (a_ (a9 (pl:=_) jN B hr (aG aU.cl aP (rv 0)) (af (au av (rv 1) ag) (af (au av (rv 1) ag) ah))))) (ar (aY (aJ (dN hr.aV) (rv 2) b_) (ar (a_ (c4 (pl:=_) iK B hr (aG aU.cl aP (rv 0))))) (ar (aY (aJ (dN hr.aV) (rv 2) b_) (ar (a_ (a9 (pl:=_) iJ B hr (rv 0) (af (au av (rv 1) ag) (af (au av (rv 1) ag) ah))))) (ar (a_ (a9 (pl:=_) fY B hr (rv 0) (af (au av (rv 1) ag) ah)))))))))))))
   (ar (aD (m9 ah))))))]
 ·obtain ⟨p,k,L,ps,ds,dv,rfl,_⟩:=h;rfl
 obtain ⟨p,k,L,ps,ds,dv,rfl,b,ok,h⟩:=h
 have bo:=b.ob
 have lo:=b.la.ob
 refine hX ?_
 rcases h with ⟨n,x,v,rfl,hT,hg,hb,hn,hr12,hc,hl,q⟩ | ⟨rfl,hw,q⟩ | ⟨m,rfl,hg,hm,q⟩
 ·have i0:pE J (qx n x v) (.int 0)=some (.str "join"):=mx _ _
  have i1:pE J (qx n x v) (.int 1)=some (.str n):=oT _ _ _
  have i2:pE J (qx n x v) (.int 2)=some (.int x):=tS _ _ _ _
  have i3:pE J (qx n x v) (.int 3)=some (.int v):=rfl
  simp_all! [i0,NP]
  refine ⟨λ_ J'=>Q (.fl []) J',?_,λτ' J' z=>by simp_all! [];exact z⟩
  simp_all! [i1,i2,i3,bo,yW,lo]
  exact ⟨hV _ _ _ _,k.w,L,n,x,v,rfl,b.la,ok,hT,hl,hc,(λz=>by rw [hg] at z;cases z),(λ_ z=>absurd hb z),(λ_ _ z=>absurd z hn),(λ_ _ _ z=>by omega),λ_ _ _ _ J1 L1 b1 ok1 jn mv=>q J1 L1 b1 ok1 jn mv⟩
 ·have i0:pE J uP (.int 0)=some (.str "about"):=mx _ _
  simp_all! [i0,NL]
  refine ⟨λ_ J'=>Q (.fl []) J',?_,λτ' J' z=>by simp_all! [];exact z⟩
  simp_all! [NM,NN,NO,bo,yW,lo]
  exact ⟨hV _ _ _ _,k.w,L,rfl,b.la,ok,hw,λJ1 L1 b1 ok1 e t1 mv=>q J1 L1 b1 ok1 e t1 mv⟩
 ·have i0:pE J (Jn m) (.int 0)=some (.str "go"):=mx _ _
  have i1:pE J (Jn m) (.int 1)=some (fr m):=oT _ _ _
  simp_all! [i0,i1,bo,yW,lo]
  refine ⟨hV _ _ _ _,k.w,L,m.num,m.den,rfl,b.la,ok,(λz=>by rw [hg] at z;cases z),λm' h1 h2 _=>?_⟩
  obtain rfl:m'=m:=Rat.ext h1 (by omega)
  exact ⟨λz=>absurd z (Rat.not_lt.mpr hm),λ_ J3 o3 b3 ok3 mv3=>q J3 o3 b3 ok3 mv3⟩
theorem Cp (t m:Rat) (ks:List Ky) (h:(ks.map Ky.n).Nodup) (hl:ks.length≤12):(bV t ks m).length≤900:=by
 rw [← p_ h]
 have h1:=t9 t (bK t m) (ks.flatMap λa=>ks.map λb=>(a,b))
 have h2:(ks.flatMap λa=>ks.map λb=>(a,b)).length=ks.length * ks.length:=by
  rw [TV]
  have:(ks.map λa=>(ks.map λb=>(a,b)).length)=Sm ks.length ks.length:=by
   rw [TL]
   refine ⟨by rw [Rr],λb hb=>?_⟩
   obtain ⟨_,_,rfl⟩:=Ru.mp hb
   rw [Rr]
  rw [this,Tv]
 have h3:ks.length * ks.length≤12 * 12:=TQ hl hl
 omega
theorem qm {m:Rat} (h0:0≤m) (hd:m.den≤60) (h1:m.num≤1000000 * (m.den:Int)):fJ m.num m.den=true:=by
 refine decide_eq_true ⟨by omega,by have:=m.den_pos;omega,?_,Rat.num_nonneg.mpr h0,h1⟩
 have:=m.reduced
 unfold Int.gcd
 exact this
theorem BY {c q:Rat} (h:Later c q) (hc:c.den≤60):q.den≤60:=by
 rcases h with rfl | ⟨u,s,u0,u1,s0,s1,rfl⟩
 ·exact hc
 ·have:=pO (t:=(c.num * (u:Int)).fdiv (c.den:Int) + (s:Int)) (b:=(u:Int)) (by omega)
  omega
theorem DO {q:Rat}:q.num≤1000000 * (q.den:Int)↔q≤1000000:=by
 rw [Rat.le_iff]
 have h3:(1000000:Rat).num=1000000:=rfl
 have h4:((1000000:Rat).den:Int)=1:=rfl
 rw [h3,h4]
 omega
theorem zm {t m:Rat} {ks:List Ky} {x:ax} (h:x∈bV t ks m):t < x.m∧x.m≤m:=by
 obtain ⟨a,ha,b,hb,h1,h2,h3,rfl⟩:=e8.mp h
 refine ⟨?_,h3⟩
 show t < cO t a b
 unfold cO
 have:0 < (b.p - a.p) / ((a.v - b.v:Int):Rat):=qX (by grind) (by exact_mod_cast (show (0:Int) < a.v - b.v by omega))
 grind
theorem AO {L:Ln} (ok:cy L) {m:Rat} {b:ax} (h:b∈bV L.t (L.fs.map (key L.t)) m):0≤b.m∧b.m≤m∧Sz 900 b.m:=by
 obtain ⟨a,ha,c,hc,hv,hp,hm,rfl⟩:=e8.mp h
 have sz:∀{a:Ky},a∈L.fs.map (key L.t)→Sz 120 a.p∧Bd 64 a.v:=λ{a} ha=>by
  obtain ⟨x,hx,rfl⟩:=Ru.mp ha
  obtain ⟨c0,hc0,rfl⟩:=Ru.mp hx
  have hc0:=(Ln.dA.mp hc0).1
  have hm:=(Cf.fN (ok.ne c0 hc0)).2
  have hk:=ok.ck c0 hc0 _ hm
  exact ⟨(hk.at (ok.le c0 hc0 _ hm) ok.ts hk.v).Pl,.small (x:=c0.cur.v) (by have:=hk.v;omega) (by have:=hk.v;omega)⟩
 have hw:0 < a.v - c.v:=by omega
 have s1:=(sz ha).1
 have s2:=(sz hc).1
 have bw:Bd 66 (a.v - c.v):=((sz ha).2.sub (k:=66) (sz hc).2)
 have sd:Sz 241 (c.p - a.p):=s2.sub s1
 have sq:Sz 310 ((c.p - a.p) / ((a.v - c.v:Int):Rat)):=by
  have e:(c.p - a.p) / ((a.v - c.v:Int):Rat)=Rat.divInt (c.p - a.p).num (((c.p - a.p).den:Int) * (a.v - c.v)):=by
   have h1:=cast_eq (c.p - a.p)
   have h2:=cv (c.p - a.p)
   have kw:((a.v - c.v:Int):Rat)≠0:=gA (by omega)
   rw [Rat.divInt_eq_div,Rat.intCast_mul,h1]
   generalize (((c.p - a.p).den:Int):Rat)=x at h2 ⊢
   generalize ((a.v - c.v:Int):Rat)=y at kw ⊢
   grind
  rw [e]
  exact Sz.div (n:=310) (sd.num.mono (by decide)) ((Bd.mul (k:=310) sd.den bw)) (by have:=dk (c.p - a.p);exact Int.ne_of_gt (Int.mul_pos this hw))
 have pos:0 < (c.p - a.p) / ((a.v - c.v:Int):Rat):=qX (by grind) (by exact_mod_cast hw)
 have t0:=ok.t0
 refine ⟨?_,hm,?_⟩
 ·show 0≤cO L.t a c
  unfold cO;grind
 ·show Sz 900 (cO L.t a c)
  unfold cO
  exact (((oZ ok.ts).mono (n:=106) (by decide)).add (k:=420) sq).mono (by decide)
abbrev oB:Stmt:=(L2.inClass (top 48) 1)
abbrev qQ:List Str:=["self","deed"]
theorem rg:L2.aw ["self","deed","passings"] ["self","deed"] (L2.aq oB):=dI
def IB (cD cN cL T:Addr):cG:=λxs J Q _=>∃(p:Addr) (k:Dk) (L:Ln) (ps:List ax) (ds:List PV) (dv:PV),xs=[.ref p,dv]∧fM cD cN cL J p k L ps ds∧cy L∧ds.length < 1000∧ps.length≤2000 ∧
 ((∃n x v,dv=qx n x v∧J T=some .tab∧good n=true∧Jo x v∧n ∉ L.cs.map Cf.n∧L.row.length < 12∧L.cs.length < 100∧n.length≤sizeLine∧∀J' L',fM cD cN cL J' p k L' ps (ds ++ [dv])→cy L'→L.joined n x v L'→Mv J J' (k.own p L) (k.own p L')→Q (.fl []) J') ∨
  (dv=uP∧(∀c∈L.cs,c.w.length < 200)∧∀J' L',fM cD cN cL J' p k L' ps (ds ++ [dv])→cy L'→L'.cs=L.cs.map (dX L.t)→L'.t=L.t→Mv J J' (k.own p L) (k.own p L')→Q (.fl []) J') ∨
  (∃m:Rat,dv=Jn m∧fJ m.num m.den=true∧L.t≤m∧∀J' o',fM cD cN cL J' p k { L with t:=m,o:=o',row:=bZ m L.fs } (ps ++ bV L.t (L.fs.map (key L.t)) m) (ds ++ [dv])→cy { L with t:=m,o:=o',row:=bZ m L.fs }→Mv J J' (k.own p L) (k.own p { L with t:=m,o:=o',row:=bZ m L.fs })→Q (.fl ((bV L.t (L.fs.map (key L.t)) m).map ax.v)) J'))
theorem zd {cD cN cL T f:Addr} {fd:FuncData} (F:bP K "do" "Desk.do" oB f fd) (Z:bD mg) (aU:df K mg "Desk" cD) (c7:aA K cD "deeds") (bt:aA K cD "passings") (eV:cq P w K mg base cD 9 "carry_out" gE (x8 cD cN cL T)) (fz:cq P w K mg base cD 8 "note_all" ib (Bf cD cN cL)):aH P w K mg base (cg P w) 10 f fd qQ (cH K (IB cD cN cL T)):=by
 simp_arith [rg,(ai (aE (i:=2) rg.nd (a9 (pl:=_) eV B hr (rv 0) (af (rv 1) ah)))
   (ai (a_ (fL PySem.F.plainAttrs_list PySem.F.slot_list_append PySem.F.type_list_append dz (aG aU.cl c7 (rv 0)) (af (rv 1) ah)))
   (ai (a_ (fL PySem.F.plainAttrs_list PySem.F.slot_list_extend PySem.F.type_list_extend B_ (aG aU.cl bt (rv 0)) (af (rv 2) ah)))
   (ai (a_ (a9 (pl:=_) fz B hr (rv 0) (af (rv 2) ah)))
   (ar (aD (rv 2)))))))]
 ·obtain ⟨p,k,L,ps,ds,dv,rfl,_⟩:=h;rfl
 obtain ⟨p,k,L,ps,ds,dv,rfl,b,ok,dl,pl,h⟩:=h
 have bo:=b.ob
 refine hX ?_
 simp_all! [bo]
 have fin:∀(J1:Hq) (L1:Ln) (bs:List ax),bj cN cL J1 k.w L1→cy L1→Mv J J1 (L.own k.w) (L1.own k.w)→(∀y∈bs,0≤y.m∧y.m≤L1.t∧Sz 900 y.m)→bs.length≤900→(∀J',fM cD cN cL J' p k L1 (ps ++ bs) (ds ++ [dv])→Mv J J' (k.own p L) (k.own p L1)→Q (.fl (bs.map ax.v)) J')→Nq [some (.ref p),some dv,some (.fl (bs.map ax.v))] J1:=by
  intro J1 L1 bs b1 ok1 mv sb bl q
  refine hNq _ _ ?_
  clear hNq Nq
  have o1:=mv.keep _ _ b.ob b.np
  have p1:=mv.keep _ _ b.pas b.npa
  have d1:=mv.keep _ _ b.dee b.nde
  have epd:p≠k.de:=λz=>by rw [z,d1] at o1;cases o1
  obtain ⟨b2,mv2⟩:=b.next (ps1:=ps ++ bs) (ds1:=ds ++ [dv]) b1 mv
  rw [Rw] at b2 mv2
  simp_all! [o1,O6,d1]
  refine ⟨RP dl (by decide),hNq _ _ ?_⟩
  clear hNq Nq
  have o2:put J1 k.de (.lst (ds ++ [dv])) p=some (.ins cD [("water",.ref k.w),("passings",.ref k.pa),("deeds",.ref k.de),("crowns",.ref k.cr)]):=by rw [aj epd];exact o1
  have p2:put J1 k.de (.lst (ds ++ [dv])) k.pa=some (.lst (ps.map ax.v)):=by rw [aj b.pd];exact p1
  simp_all! [o2,MA,p2]
  refine ⟨_,_,_,rfl,rfl,p2,by rw [Rr,Rr];exact RN (Nat.add_le_add pl bl) (by decide),hNq _ _ ?_⟩
  clear hNq Nq
  generalize put (put J1 k.de (.lst (ds ++ [dv]))) k.pa (.lst (ps.map ax.v ++ bs.map ax.v))=J2 at b2 mv2 ⊢
  simp_all! [b2.ob]
  refine ⟨vf _ _ _ _ _ (by decide +kernel) (by decide +kernel) (by decide +kernel) (by decide +kernel),p,k,L1,ps ++ bs,ds ++ [dv],bs,rfl,b2,ok1,sb,bl,λJ' s'=>hNq _ _ ?_⟩
  clear hNq Nq
  simp_all! []
  exact q J' (b2.sub s') (mv2.sub s')
 clear hNq
 refine ⟨vf _ _ _ _ _ (by decide +kernel) (by decide +kernel) (by decide +kernel) (by decide +kernel),p,k,L,ps,ds,dv,rfl,b,ok,?_⟩
 rcases h with ⟨n,x,v,e0,hT,hg,hb,hn,hr12,hc,hl,q⟩ | ⟨e0,hw,q⟩ | ⟨m,e0,hg,hm,q⟩
 ·exact .inl ⟨n,x,v,e0,hT,hg,hb,hn,hr12,hc,hl,λJ1 L1 b1 ok1 jn mv=>fin J1 L1 [] b1 ok1 mv (by simp) (by simp) λJ' b' mv'=>q J' L1 (by rw [Sd] at b';exact b') ok1 jn mv'⟩
 ·exact .inr (.inl ⟨e0,hw,λJ1 L1 b1 ok1 e t1 mv=>fin J1 L1 [] b1 ok1 mv (by simp) (by simp) λJ' b' mv'=>q J' L1 (by rw [Sd] at b';exact b') ok1 e t1 mv'⟩)
 ·exact .inr (.inr ⟨m,e0,hg,hm,λJ1 o1 b1 ok1 mv=>fin J1 _ _ b1 ok1 mv (λy hy=>AO ok hy) (Cp _ _ _ ok.knd (by rw [Rr];have:=ok.rl;rw [ok.row,mS] at this;exact this)) λJ' b' mv'=>q J' o1 b' ok1 mv'⟩)
abbrev j7:Stmt:=(L2.inClass (top 48) 3)
abbrev mW:List Str:=["self"]
theorem wB:L2.aw ["self"] ["self"] (L2.aq j7):=dI
def Be (cD cN cL:Addr):cG:=λxs J Q _=>∃(p:Addr) (k:Dk) (L:Ln) (ps:List ax) (ds:List PV),xs=[.ref p]∧fM cD cN cL J p k L ps ds∧cy L∧∀J' p' L',Sub J J'→bj cN cL J' p' L'→cy L'→L.alike L'→(∀a,L'.own p' a→J a=none)→Q (.ref p') J'
theorem vt {cD cN cL f:Addr} {fd:FuncData} (F:bP K "lane" "Desk.lane" j7 f fd) (Z:bD mg) (aU:df K mg "Desk" cD) (aP:aA K cD "water") (jP:cq P w K mg base cN 4 "twin" m3 (Bq cN cL)):aH P w K mg base (cg P w) 5 f fd mW (cH K (Be cD cN cL)):=by
 simp_arith [wB,(ar (aD (c4 (pl:=_) jP B hr (aG aU.cl aP (rv 0)))))]
 ·obtain ⟨p,k,L,ps,ds,rfl,_⟩:=h;rfl
 obtain ⟨p,k,L,ps,ds,rfl,b,ok,q⟩:=h
 have bo:=b.ob
 have lo:=b.la.ob
 refine hX ?_
 simp_all! [bo,yW,lo]
 exact ⟨hV _ _ _ _,k.w,L,rfl,b.la,ok,q⟩
abbrev j6:Stmt:=(L2.inClass (top 48) 4)
abbrev mV:List Str:=["self"]
theorem wA:L2.aw ["self"] ["self"] (L2.aq j6):=dI
def Bb (cD cN cL:Addr):cG:=λxs J Q _=>∃(p:Addr) (k:Dk) (L:Ln) (ps:List ax) (ds:List PV),xs=[.ref p]∧fM cD cN cL J p k L ps ds∧Q (.fl (ps.map ax.v)) J
theorem vp {cD cN cL f:Addr} {fd:FuncData} (F:bP K "book" "Desk.book" j6 f fd) (Z:bD mg) (aU:df K mg "Desk" cD) (bt:aA K cD "passings"):aH P w K mg base (cg P w) 1 f fd mV (cH K (Bb cD cN cL)):=by
 simp_arith [wA,(ar (aD (ip C_ rfl Z.list boot_list (af (aG aU.cl bt (rv 0)) ah))))]
 ·obtain ⟨p,k,L,ps,ds,rfl,_⟩:=h;rfl
 obtain ⟨p,k,L,ps,ds,rfl,b,q⟩:=h
 have bo:=b.ob
 have bp:=b.pas
 refine hX ?_
 simp_all! [bo,MA,bp]
 exact q
theorem BA {t p q:Rat} {v:Int} (hv:0 < v):Rat.divInt (t.num * ((p.den:Int) * (q.den:Int) * v) + (q.num * (p.den:Int) - p.num * (q.den:Int)) * (t.den:Int)) ((t.den:Int) * ((p.den:Int) * (q.den:Int) * v))=t + (q - p) / (v:Rat):=by
 have a:=cast_eq t
 have b:=cast_eq p
 have c:=cast_eq q
 have d:=cv t
 have e:=cv p
 have f:=cv q
 have k:(v:Rat)≠0:=gA (by omega)
 rw [Rat.divInt_eq_div]
 simp only [Rat.intCast_mul,Rat.intCast_add,Rat.intCast_sub,a,b,c]
 generalize (((t.den:Int)):Rat)=x at d ⊢
 generalize (((p.den:Int)):Rat)=y at e ⊢
 generalize (((q.den:Int)):Rat)=z at f ⊢
 generalize (v:Rat)=w at k ⊢
 have h1:y * z≠0:=λh=>by rcases Rat.mul_eq_zero.mp h with h | h <;> contradiction
 have h2:y * z * w≠0:=λh=>by rcases Rat.mul_eq_zero.mp h with h | h <;> contradiction
 have h3:x * (y * z * w)≠0:=λh=>by rcases Rat.mul_eq_zero.mp h with h | h <;> contradiction
 grind
theorem nM.Ae {l:aZ} (h:nM 240 l) {t:Rat} (st:Sz 240 t):Sz 790 (l.at t):=by
 have s1:Sz 481 (t - l.m):=st.sub h.m
 have s2:Sz 545 ((t - l.m) * (l.v:Rat)):=s1.mul h.v
 exact h.p.add s2
theorem BB {t p q:Rat} {v:Int} (st:Sz 240 t) (sp:Sz 790 p) (sq:Sz 790 q) (bv:Bd 70 v) (hv:0 < v):Bd 1650 ((p.den:Int) * (q.den:Int) * v)∧Bd 1590 (q.num * (p.den:Int) - p.num * (q.den:Int))∧Bd 1900 ((t.den:Int) * ((p.den:Int) * (q.den:Int) * v))∧Sz 9000 (t + (q - p) / (v:Rat)):=by
 have h1:Bd 1650 ((p.den:Int) * (q.den:Int) * v):=.mul (.mul (k:=1580) sp.den sq.den) bv
 have h2:Bd 1590 (q.num * (p.den:Int) - p.num * (q.den:Int)):=.sub (Bd.mul (k:=1580) sq.num sp.den) (Bd.mul (k:=1580) sp.num sq.den)
 have h3:Bd 1900 ((t.den:Int) * ((p.den:Int) * (q.den:Int) * v)):=.mul st.den h1
 refine ⟨h1,h2,h3,?_⟩
 rw [← BA hv]
 have hd:0 < (t.den:Int) * ((p.den:Int) * (q.den:Int) * v):=Int.mul_pos (dk _) (Int.mul_pos (Int.mul_pos (dk _) (dk _)) hv)
 exact (Sz.div (n:=1901) (.add (Bd.mul (k:=1900) st.num h1) (Bd.mul (k:=1900) h2 st.den)) (h3.mono (by decide)) (by omega)).mono (by decide)
theorem Bv (p q:Rat):(0 < q.num * (p.den:Int) - p.num * (q.den:Int))=(p < q):=by
 rw [← nX p q];exact propext (by omega)
abbrev EM:Stmt:=(top 65)
abbrev o_:List Str:=["_law_legs","_law_clock","_law_moment"]
theorem fe:L2.aw ["_law_legs","_law_clock","_law_moment","_law_out","_law_fast","_law_here","_law_slow","_law_pace","_law_there","_law_top","_law_under","_law_when","_law_row","_law_at_here"] ["_law_legs","_law_clock","_law_moment"] (L2.aq EM):=dI
def IC:cG:=λxs J Q _=>∃(D:Addr) (fs:List (Str × aZ)) (ep:Nat) (t m:Rat),xs=[.ref D,fr t,fr m]∧J D=some (.dct (cj fs) ep)∧(fs.map (·.1)).Nodup∧fs.length≤20∧Sz 240 t∧Sz 900 m∧(∀x∈fs,nM 240 x.2)∧Q (.fl ((bV t (fs.map (key t)) m).map ax.v)) J
theorem Gv {f:Addr} {fd:FuncData} (F:bP K "_law_due" "_law_due" EM f fd) (Z:bD mg) (Fv:bF P w K mg base 2 "_law_at" lM pj) (l9:bF P w K mg base 1 "_law_low" d6 gj) (jy:bF P w K mg base 1 "_law_before" eh nB):aH P w K mg base (cg P w) 3 f fd o_ (cH K IC):=by
 simp_arith [fe,(ai (aE (i:=3) fe.nd (fF ah))
   (ai (cQ bq rfl (fP (rv 0)) (ba (i:=4) fe.nd) (ai (aE (i:=5) fe.nd (aQ Fv B hr (af (au cK (rv 0) (rv 4)) (af (rv 1) ah))))
   (ar (cQ bq rfl (fP (rv 0)) (ba (i:=6) fe.nd) (ai (aE (i:=7) fe.nd (az c8 (au av (au cK (rv 0) (rv 4)) ag) (au av (au cK (rv 0) (rv 6)) ag)))
   (ai (aE (i:=8) fe.nd (aQ Fv B hr (af (au cK (rv 0) (rv 6)) (af (rv 1) ah))))
   (ai (aE (i:=9) fe.nd (az c8 (az aT (au av (rv 8) ag) (au av (rv 5) ag)) (az aT (au av (rv 5) ag) (au av (rv 8) ag))))
   (ar (aY (dF (f_ (aJ o6 (rv 7) ag) (eu (aJ o6 (rv 9) ag)))) (ai (aE (i:=10) fe.nd (az aT (az aT (au av (rv 5) ag) (au av (rv 8) ag)) (rv 7)))
   (ai (aE (i:=11) fe.nd (aQ l9 B hr (af (az bO (az aT (au av (rv 1) ag) (rv 10)) (az aT (rv 9) (au av (rv 1) ag))) (af (az aT (au av (rv 1) ag) (rv 10)) ah))))
   (ai (aE (i:=12) fe.nd (bR (af (rv 11) (af (rv 4) (af (rv 6) ah)))))
   (ai (aE (i:=13) fe.nd ag)
   (ai (fk bq (dF (f_ (aJ gC (rv 13) (aL cJ rfl Z.len boot_len (af (rv 3) ah))) (eu (bz (aQ jy B hr (af (au av (rv 3) (rv 13)) (af (rv 12) ah))))))) (ar (aE (i:=13) fe.nd (az bO (rv 13) ag))))
   (ar (aY (aJ AM (az aT (au av (rv 11) ag) (au av (rv 2) ag)) (az aT (au av (rv 2) ag) (au av (rv 11) ag))) (ar (a_ (fL PySem.F.plainAttrs_list PySem.F.slot_list_insert PySem.F.type_list_insert hZ (rv 3) (af (rv 13) (af (rv 12) ah))))) aO))))))) aO)))))))))
   (ar (aD (rv 3))))),F]
 ·obtain ⟨D,fs,ep,t,m,rfl,_⟩:=h;rfl
 obtain ⟨D,fs,ep,t,m,rfl,hD,hnd,hlen,st,sm,sl,q⟩:=h
 refine hX ?_
 simp_all! []
 intro r hr'
 have nDr:D≠r:=by intro e;subst e;rw [hD] at hr';cases hr'
 simp_all! [aj nDr,hD]
 have hkv:(cj fs).map (λkv=>PV.str kv.1)=fs.map λx=>PV.str x.1:=by unfold cj;rw [RK];rfl
 rw [hkv]
 obtain ⟨ks,hks⟩:∃ks,fs.map (key t)=ks:=⟨_,rfl⟩
 have hkn:(ks.map Ky.n).Nodup:=by rw [← hks,cM];exact hnd
 have hkl:ks.length=fs.length:=by rw [← hks,Rr]
 have hkd:ks.Nodup:=List.Pairwise.of_map Ky.n (λa b h e=>h (by rw [e])) hkn
 have hkm:∀i (h:i < fs.length),ks[i]?=some (key t fs[i]):=λi h=>by rw [← hks,Ry,Rt h];rfl
 have hmz:∀a∈ks,∀b∈ks,b.v < a.v→Sz 9000 (cO t a b):=λa ha b hb h=>by
  rw [← hks] at ha hb
  obtain ⟨x,hx,rfl⟩:=Ru.mp ha
  obtain ⟨y,hy,rfl⟩:=Ru.mp hb
  exact (BB (v:=x.2.v - y.2.v) st ((sl x hx).Ae st) ((sl y hy).Ae st) (((sl x hx).v.sub (k:=66) (sl y hy).v).mono (by decide)) (by have:y.2.v < x.2.v:=h;omega)).2.2.2
 have hup:∀{ps:List (Ky × Ky)},(∀p∈ps,p.1∈ks∧p.2∈ks)→∀x∈bN t (bK t m) ps,Sz 9000 x.m:=λhp x hx=>by
  obtain ⟨p,hp',hc,rfl⟩:=kA _ hx
  exact hmz _ (hp p hp').1 _ (hp p hp').2 (of_decide_eq_true hc).1
 have hnew:∀{i:Nat} {l:List Ky} {y:Ky},l.Nodup→l[i]?=some y→y ∉ l.take i:=λ{i l y} hl hy hm=>by
  obtain ⟨j,hj⟩:=R5.mp hm
  rw [List.getElem?_take] at hj
  split at hj
  ·rename_i hji
   obtain ⟨h1,e1⟩:=Rv.mp hj
   obtain ⟨h2,e2⟩:=Rv.mp hy
   have:=(SG hl).mp (e1.trans e2.symm)
   omega
  ·cases hj
 have pin:∀{i j:Nat} {a:Ky},a∈ks→∀p∈((ks.take i).flatMap λa=>ks.map λb=>(a,b)) ++ (ks.take j).map (λb=>(a,b)),p.1∈ks∧p.2∈ks:=λ{i j a} ha p hp=>by
  rcases RC.mp hp with hp | hp
  ·obtain ⟨x,hx,hp⟩:=SV.mp hp
   obtain ⟨y,hy,rfl⟩:=Ru.mp hp
   exact ⟨Sg hx,hy⟩
  ·obtain ⟨y,hy,rfl⟩:=Ru.mp hp
   exact ⟨ha,Sg hy⟩
 obtain ⟨Inv,hInv⟩:∃Inv:Nat→Sr→Hq→Prop,∀i τ J',Inv i τ J'↔∃(u4 u5 u6 u7 u8 u9 u10 u11 u12 u13:Option PV),τ=[some (.ref D),some (fr t),some (fr m),some (.ref r),u4,u5,u6,u7,u8,u9,u10,u11,u12,u13]∧J'=put J r (.lst ((bN t (bK t m) ((ks.take i).flatMap λa=>ks.map λb=>(a,b))).map ax.v))∧(bN t (bK t m) ((ks.take i).flatMap λa=>ks.map λb=>(a,b))).length≤20 * i:=⟨_,λ_ _ _=>Iff.rfl⟩
 refine dZ Inv ((hInv _ _ _).mpr ⟨_,_,_,_,_,_,_,_,_,_,rfl,rfl,Rz _⟩) (λi τ J' h=>?_) ?_ ?_
 ·obtain ⟨_,_,_,_,_,_,_,_,_,_,_,rfl,_⟩:=(hInv _ _ _).mp h
  rw [aj nDr];exact hD
 ·intro i x τ J' hx hv
  obtain ⟨u4,u5,u6,u7,u8,u9,u10,u11,u12,u13,rfl,rfl,hle⟩:=(hInv _ _ _).mp hv
  clear hv
  have hi:i < fs.length:=by have:=(Rv.mp hx).1;simpa using this
  rw [Ry,Rt hi] at hx
  cases hx
  have ha:=hkm i hi
  rcases hfi:fs[i] with ⟨n,l⟩
  have hmem:(n,l)∈fs:=by rw [← hfi];exact RZ hi
  rw [hfi] at ha
  have hvn:jx (cj fs) n=some l.V:=gY (f:=aZ.V) hnd hmem
  have sll:=sl _ hmem
  have sla:=sll.Ae st
  simp_all! [aj nDr,hD,hvn]
  refine ⟨l,t,rfl,sll.m.mono (by decide),sll.p.mono (by decide),st.mono (by decide),sll.v,?_⟩
  simp_all! [aj nDr,hD,hkv]
  have hak:key t (n,l)∈ks:=RJ ha
  have eio:((ks.take (i + 1)).flatMap λa=>ks.map λb=>(a,b))=((ks.take i).flatMap λa=>ks.map λb=>(a,b)) ++ ks.map λb=>(key t (n,l),b):=by
   rw [RQ,ha,List.flatMap_append];simp
  obtain ⟨In2,hIn2⟩:∃In2:Nat→Sr→Hq→Prop,∀j τ J',In2 j τ J'↔∃(u6 u7 u8 u9 u10 u11 u12 u13:Option PV),τ=[some (.ref D),some (fr t),some (fr m),some (.ref r),some (.str n),some (fr (l.at t)),u6,u7,u8,u9,u10,u11,u12,u13]∧J'=put J r (.lst ((bN t (bK t m) (((ks.take i).flatMap λa=>ks.map λb=>(a,b)) ++ (ks.take j).map λb=>(key t (n,l),b))).map ax.v))∧(bN t (bK t m) (((ks.take i).flatMap λa=>ks.map λb=>(a,b)) ++ (ks.take j).map λb=>(key t (n,l),b))).length≤20 * i + j:=⟨_,λ_ _ _=>Iff.rfl⟩
  refine dZ In2 ((hIn2 _ _ _).mpr ⟨_,_,_,_,_,_,_,_,rfl,by simp,by simpa using hle⟩) (λj τ J' h=>?_) ?_ ?_
  ·obtain ⟨_,_,_,_,_,_,_,_,_,rfl,_⟩:=(hIn2 _ _ _).mp h
   rw [aj nDr];exact hD
  ·intro j x τ J2 hx hv
   obtain ⟨u6,u7,u8,u9,u10,u11,u12,u13,rfl,rfl,hle2⟩:=(hIn2 _ _ _).mp hv
   clear hv
   have hj:j < fs.length:=by have:=(Rv.mp hx).1;simpa using this
   rw [Ry,Rt hj] at hx
   cases hx
   have hb:=hkm j hj
   rcases hfj:fs[j] with ⟨n',l'⟩
   have hmem':(n',l')∈fs:=by rw [← hfj];exact RZ hj
   rw [hfj] at hb
   have hvn':jx (cj fs) n'=some l'.V:=gY (f:=aZ.V) hnd hmem'
   have sll':=sl _ hmem'
   have sla':=sll'.Ae st
   have hbk:key t (n',l')∈ks:=RJ hb
   have ejo:ks.take (j + 1)=ks.take j ++ [key t (n',l')]:=by rw [RQ,hb];rfl
   have ef2:bN t (bK t m) (((ks.take i).flatMap λa=>ks.map λb=>(a,b)) ++ (ks.take (j + 1)).map λb=>(key t (n,l),b))=kK t (bK t m) (bN t (bK t m) (((ks.take i).flatMap λa=>ks.map λb=>(a,b)) ++ (ks.take j).map λb=>(key t (n,l),b))) (key t (n,l),key t (n',l')):=by
    rw [ejo,Rw,← T6];exact eS _ _ _ _
   have srt:=ku t (bK t m) (((ks.take i).flatMap λa=>ks.map λb=>(a,b)) ++ (ks.take j).map λb=>(key t (n,l),b))
   have szs:=hup (pin (i:=i) (j:=j) hak)
   have hdr:c_ n n' (bN t (bK t m) (((ks.take i).flatMap λa=>ks.map λb=>(a,b)) ++ (ks.take j).map λb=>(key t (n,l),b)))=bN t (bK t m) (((ks.take i).flatMap λa=>ks.map λb=>(a,b)) ++ (ks.take j).map λb=>(key t (n,l),b)):=by
    refine BS (p:=(key t (n,l),key t (n',l'))) (xb.of hkn λp hp=>?_) λhm=>?_
    ·rcases RC.mp hp with hp | hp
     ·exact pin hak p hp
     ·rw [RF] at hp;subst hp;exact ⟨hak,hbk⟩
    ·rcases RC.mp hm with hm | hm
     ·obtain ⟨x,hx,hp⟩:=SV.mp hm
      obtain ⟨y,hy,e⟩:=Ru.mp hp
      cases e
      exact hnew hkd ha hx
     ·obtain ⟨y,hy,e⟩:=Ru.mp hm
      have:y=key t (n',l'):=(Prod.mk.inj e).2
      subst this
      exact hnew hkd hb hy
   generalize bN t (bK t m) (((ks.take i).flatMap λa=>ks.map λb=>(a,b)) ++ (ks.take j).map λb=>(key t (n,l),b))=rows at hle2 ef2 srt szs hdr ⊢
   have lX:bK t m (key t (n,l),key t (n',l'))=false→∀{v6 v7 v8 v9 v10 v11 v12 v13},In2 (j + 1) [some (.ref D),some (fr t),some (fr m),some (.ref r),some (.str n),some (fr (l.at t)),v6,v7,v8,v9,v10,v11,v12,v13] (put J r (.lst (rows.map ax.v))):=λhc _ _ _ _ _ _ _ _=>by
    have e:kK t (bK t m) rows (key t (n,l),key t (n',l'))=rows:=by unfold kK;rw [if_neg (by rw [hc];decide)]
    exact (hIn2 _ _ _).mpr ⟨_,_,_,_,_,_,_,_,rfl,by rw [ef2,e],by rw [ef2,e];omega⟩
   simp_all! [aj nDr,hD,hvn,hvn',kO]
   refine ⟨l',t,rfl,sll'.m.mono (by decide),sll'.p.mono (by decide),st.mono (by decide),sll'.v,?_⟩
   simp_all! [Bv]
   refine ⟨.of sla'.num sla.den,.of sla.num sla'.den,?_⟩
   try (refine hNq _ _ ?_;clear hNq Nq;simp_all! [Bv])
   by_cases c1n:¬ 0 < l.v - l'.v
   ·rw [if_neg c1n]
    exact lX (decide_eq_false (λz=>by have:l'.v < l.v:=z.1;omega))
   have c1:=Decidable.not_not.mp c1n
   rw [if_pos c1]
   by_cases c2n:¬ l.at t < l'.at t
   ·rw [if_neg c2n]
    exact lX (decide_eq_false (λz=>c2n z.2.1))
   have c2:=Decidable.not_not.mp c2n
   rw [if_pos c2]
   have bv:Bd 70 (l.v - l'.v):=(sll.v.sub (k:=66) sll'.v).mono (by decide)
   obtain ⟨z1,z2,z3,z4⟩:=BB st sla sla' bv c1
   have ew:t + (l'.at t - l.at t) / ((l.v - l'.v:Int):Rat)=cO t (key t (n,l)) (key t (n',l')):=rfl
   have hd:0 < (t.den:Int) * (((l.at t).den:Int) * ((l'.at t).den:Int) * (l.v - l'.v)):=Int.mul_pos (dk _) (Int.mul_pos (Int.mul_pos (dk _) (dk _)) c1)
   simp_all! []
   refine ⟨.of sla.den sla'.den,.of (Bd.mul (k:=1580) sla.den sla'.den) bv,?_⟩
   simp_all! [gj]
   refine ⟨.of st.num z1,.of z2 st.den,.of st.den z1,hd,z3.mono (by decide),?_⟩
   rw [BA c1,ew]
   rw [ew] at z4
   have hcp:∀b:Bool,bK t m (key t (n,l),key t (n',l'))=b↔decide (cO t (key t (n,l)) (key t (n',l'))≤m)=b:=λb=>by
    have:bK t m (key t (n,l),key t (n',l'))=decide (cO t (key t (n,l)) (key t (n',l'))≤m):=decide_eq_decide.mpr ⟨λz=>z.2.2,λz=>⟨by show l'.v < l.v;omega,c2,z⟩⟩
    rw [this]
   have eput:kK t (bK t m) rows (key t (n,l),key t (n',l'))=if bK t m (key t (n,l),key t (n',l'))=true then d8 ⟨cO t (key t (n,l)) (key t (n',l')),n,n'⟩ rows else rows:=by
    unfold kK
    split
    ·show d8 _ (c_ n n' rows)=_;rw [hdr];rfl
    ·rfl
   generalize cO t (key t (n,l)) (key t (n',l'))=wh at z4 hcp eput ⊢
   simp_all! [IG]
   obtain ⟨row,hrow⟩:∃row:ax,ax.mk wh n n'=row:=⟨_,rfl⟩
   have erm:row.m=wh:=by rw [← hrow]
   rw [hrow] at eput ⊢
   refine n9 (V:=ax.v) (lt:=ax.lt) (ys:=rows) (b:=row) (iO:=3) (iA:=13) (iR:=12) rfl rfl rfl (by decide) (by decide) ak (λx hx R hR=>.inr ⟨x,row,rfl,szs x hx,by rw [erm];exact z4,hR⟩) (λhx hy h k=>rO srt hx hy h k) λh hj hlow hhigh=>?_
   have cle:(wh.num * (m.den:Int)≤m.num * (wh.den:Int))=(wh≤m):=propext (Rat.le_iff wh m).symm
   have stop:¬ wh≤m→bK t m (key t (n,l),key t (n',l'))=false:=λz=>(hcp false).mpr (decide_eq_false z)
   simp_all! [ak,cle]
   refine ⟨.of z4.num sm.den,.of sm.num z4.den,?_⟩
   by_cases c6:wh≤m
   ·rw [if_pos c6]
    rw [if_pos ((hcp true).mpr (decide_eq_true c6))] at eput
    simp_all! [ak]
    refine ⟨_,h,rfl,rfl,by rw [Rr];exact hj,aX (by rw [Rr];omega),by omega,?_⟩
    rw [bU]
    refine (hIn2 _ _ _).mpr ⟨_,_,_,_,_,_,_,_,rfl,?_,by rw [ef2,eput,qo];omega⟩
    rw [ef2,eput,← uY hj hlow hhigh,Rw,RD,So,S4]
   ·rw [if_neg c6]
    exact lX (stop c6)
  ·intro τ J2 hv
   obtain ⟨u6,u7,u8,u9,u10,u11,u12,u13,rfl,rfl,hle2⟩:=(hIn2 _ _ _).mp hv
   rw [Rr,← hkl,RY,← eio] at hle2 ⊢
   exact (hInv _ _ _).mpr ⟨_,_,_,_,_,_,_,_,_,_,rfl,rfl,by omega⟩
 ·intro τ J' hv
  obtain ⟨u4,u5,u6,u7,u8,u9,u10,u11,u12,u13,rfl,rfl,hle⟩:=(hInv _ _ _).mp hv
  rw [Rr,← hkl,RY,p_ hkn,← hks]
  simp_all! []
  exact Fg.n6 (fW hr') ak hr' q
theorem o4 {l:List ax} {b:ax} (h:(l ++ [b]).Nodup):l.Nodup∧b ∉ l:=by
 rw [Ss] at h
 exact ⟨h.1,λz=>h.2.2 b z b (SF b) rfl⟩
theorem qE {l:List ax} {b:ax} (h:l.Nodup) (n:b ∉ l):(l ++ [b]).Nodup:=by
 rw [Ss]
 exact ⟨h,by simp,λx hx y hy e=>n (by rw [RF] at hy;rw [← hy,← e];exact hx)⟩
theorem ua {os:List ax} (h:os.Nodup):os.foldl (λacc b=>d8 b acc) []=mP os:=by
 refine snoc_ind (p:=λos=>os.Nodup→os.foldl (λacc b=>d8 b acc) []=mP os) (λ_=>rfl) (λos y ih h=>?_) os h
 obtain ⟨h1,h2⟩:=o4 h
 rw [SE,ih h1,ou]
 show d8 y (mP os)=xh y (mP os)
 unfold xh
 rw [if_neg (by rw [mQ];exact h2)]
def vi (c m e:Rat) (b:ax):ax:=⟨e - b.m + c,b.f,b.h⟩
theorem JI (c:Int) (p q:Rat):Rat.divInt (p.num * (q.den:Int) - q.num * (p.den:Int) + c * (p.den:Int) * (q.den:Int)) ((p.den:Int) * (q.den:Int))=p - q + (c:Rat):=by
 have a:=cast_eq p
 have b:=cast_eq q
 have d:=cv p
 have e:=cv q
 rw [Rat.divInt_eq_div]
 simp only [Rat.intCast_mul,Rat.intCast_add,Rat.intCast_sub,a,b]
 generalize (((p.den:Int)):Rat)=x at d ⊢
 generalize (((q.den:Int)):Rat)=y at e ⊢
 generalize (c:Rat)=z
 have h1:x * y≠0:=λh=>by rcases Rat.mul_eq_zero.mp h with h | h <;> contradiction
 grind
def DB (bs:List ax) (gs:List (Str × aZ)) (c m e:Rat) (x:ax):Prop:=(∃b∈bs,b.m≠m∧x=vi c m e b)∨∃a∈gs,∃b∈gs,b.2.v < a.2.v∧a.2.p=b.2.p∧x=⟨e,b.1,a.1⟩
abbrev lR:Stmt:=(top 66)
abbrev ij:List Str:=["_law_rows","_law_legs","_law_clock","_law_middle","_law_end"]
theorem bH:L2.aw ["_law_rows","_law_legs","_law_clock","_law_middle","_law_end","_law_out","_law_row","_law_top","_law_fast","_law_slow","_law_apart","_law_tidy","_law_at_here"] ["_law_rows","_law_legs","_law_clock","_law_middle","_law_end"] (L2.aq lR):=dI
def EY:cG:=λxs J Q _=>∃(bs:List ax) (D:Addr) (gs:List (Str × aZ)) (ep:Nat) (c:Int) (m e:Rat),xs=[.fl (bs.map ax.v),.ref D,.int c,fr m,fr e]∧J D=some (.dct (cj gs) ep)∧(gs.map (·.1)).Nodup∧gs.length≤12∧(∀x∈gs,nM 240 x.2)∧bs.Nodup∧bs.length≤200∧(∀b∈bs,Sz 900 b.m∧(c:Rat) < b.m)∧0≤c∧c≤1000∧Sz 240 m∧Sz 240 e ∧
 ∀ts,g9 ts→(∀x,x∈ts↔DB bs gs c m e x)→Q (.fl (ts.map ax.v)) J
theorem vG {f:Addr} {fd:FuncData} (F:bP K "_law_mirrored" "_law_mirrored" lR f fd) (Z:bD mg) (l9:bF P w K mg base 1 "_law_low" d6 gj) (jy:bF P w K mg base 1 "_law_before" eh nB):aH P w K mg base (cg P w) 2 f fd ij (cH K EY):=by
 simp_arith [bH,(ai (aE (i:=5) bH.nd (fF ah))
   (ai (cQ bq rfl (dR (rv 0)) (ba (i:=6) bH.nd) (ar (aY (aJ (fK hr.aV) (au av (rv 6) ag) (rv 3)) (ai (aE (i:=7) bH.nd (az c8 (az aT (au av (rv 4) ag) (au av (au av (rv 6) ag) ag)) (az aT (au av (au av (rv 6) ag) ag) (au av (rv 4) ag))))
   (ai (aE (i:=7) bH.nd (az bO (rv 7) (az aT (az aT (rv 2) (au av (rv 4) ag)) (au av (au av (rv 6) ag) ag))))
   (ar (a_ (fL PySem.F.plainAttrs_list PySem.F.slot_list_append PySem.F.type_list_append dz (rv 5) (af (bR (af (aQ l9 B hr (af (rv 7) (af (az aT (au av (rv 4) ag) (au av (au av (rv 6) ag) ag)) ah))) (af (au av (rv 6) ag) (af (au av (rv 6) ag) ah)))) ah)))))) aO)))
   (ai (cQ bq rfl (fP (rv 1)) (ba (i:=8) bH.nd) (ar (cQ bq rfl (fP (rv 1)) (ba (i:=9) bH.nd) (ai (aE (i:=10) bH.nd (az c8 (au av (au cK (rv 1) (rv 8)) ag) (au av (au cK (rv 1) (rv 9)) ag)))
   (ar (aY (dF (f_ (aJ o6 (rv 10) ag) (eu (aJ (dN hr.aV) (au av (au cK (rv 1) (rv 8)) ag) (au av (au cK (rv 1) (rv 9)) ag))))) (ar (a_ (fL PySem.F.plainAttrs_list PySem.F.slot_list_append PySem.F.type_list_append dz (rv 5) (af (bR (af (rv 4) (af (rv 9) (af (rv 8) ah)))) ah)))) aO))))))
   (ai (aE (i:=11) bH.nd (fF ah))
   (ai (cQ bq rfl (dR (rv 5)) (ba (i:=6) bH.nd) (ai (aE (i:=12) bH.nd ag)
   (ai (fk bq (dF (f_ (aJ gC (rv 12) (aL cJ rfl Z.len boot_len (af (rv 11) ah))) (eu (bz (aQ jy B hr (af (au av (rv 11) (rv 12)) (af (rv 6) ah))))))) (ar (aE (i:=12) bH.nd (az bO (rv 12) ag))))
   (ar (a_ (fL PySem.F.plainAttrs_list PySem.F.slot_list_insert PySem.F.type_list_insert hZ (rv 11) (af (rv 12) (af (rv 6) ah))))))))
   (ar (aD (rv 11)))))))),F]
 ·obtain ⟨bs,D,gs,ep,c,m,e,rfl,_⟩:=h;rfl
 obtain ⟨bs,D,gs,ep,c,m,e,rfl,hD,gnd,gl,gsz,bnd,bl,bsz,c0,c1,sm,se,q⟩:=h
 have hkv:(cj gs).map (λkv=>PV.str kv.1)=gs.map λx=>PV.str x.1:=by unfold cj;rw [RK];rfl
 refine hX ?_
 simp_all! []
 intro o ho
 have nDo:D≠o:=λz=>by subst z;rw [hD] at ho;cases ho
 refine hNq _ _ ?_
 clear hNq Nq
 simp_all! []
 obtain ⟨Inv,hInv⟩:∃Inv:Nat→Sr→Hq→Prop,∀i τ J',Inv i τ J'↔∃(os:List ax) (u6 u7:Option PV),τ=[some (.fl (bs.map ax.v)),some (.ref D),some (.int c),some (fr m),some (fr e),some (.ref o),u6,u7,none,none,none,none,none]∧J'=put J o (.lst (os.map ax.v))∧os.length≤i∧os.Nodup∧∀x,x∈os↔∃b∈bs.take i,b.m≠m∧x=vi c m e b:=⟨_,λ_ _ _=>Iff.rfl⟩
 refine dZ Inv ((hInv _ _ _).mpr ⟨[],_,_,rfl,rfl,Rz _,Tn,by simp⟩) (λ_ _ _ _=>trivial) ?_ ?_
 ·intro i x τ J' hx hv
  obtain ⟨os,u6,u7,rfl,rfl,ol,ond,om⟩:=(hInv _ _ _).mp hv
  clear hv
  have hi:i < bs.length:=by have:=(Rv.mp hx).1;simpa using this
  rw [Ry,Rt hi] at hx
  cases hx
  have hb:=RZ hi
  have et:bs.take (i + 1)=bs.take i ++ [bs[i]]:=by rw [RQ,Rt hi];rfl
  have hnot:bs[i] ∉ bs.take i:=λz=>by
   have h2:(bs.take (i + 1)).Nodup:=bnd.sublist (R4 _ _)
   rw [et] at h2
   exact (o4 h2).2 z
  generalize bs[i]=b at hb et hnot ⊢
  obtain ⟨sb,cb⟩:=bsz b hb
  have grow:∀x,(∃b'∈bs.take (i + 1),b'.m≠m∧x=vi c m e b')↔(∃b'∈bs.take i,b'.m≠m∧x=vi c m e b')∨(b.m≠m∧x=vi c m e b):=λx=>by
   rw [et]
   constructor
   ·rintro ⟨b',h1,h2,h3⟩
    rcases RC.mp h1 with h1 | h1
    ·exact .inl ⟨b',h1,h2,h3⟩
    ·rw [RF] at h1;subst h1;exact .inr ⟨h2,h3⟩
   ·rintro (⟨b',h1,h2,h3⟩ | ⟨h2,h3⟩)
    ·exact ⟨b',SA _ h1,h2,h3⟩
    ·exact ⟨b,RH _ (SF b),h2,h3⟩
  simp_all! [oW,qv,qw]
  split
  ·rename_i c2
   exact (hInv _ _ _).mpr ⟨os,_,_,rfl,rfl,by omega,ond,λx=>by rw [grow,om];exact ⟨.inl,λz=>z.elim id λz=>absurd c2 z.1⟩⟩
  ·rename_i c2
   have bc:Bd 64 c:=.small (by omega) (by omega)
   have k1:=Bd.mul (k:=304) bc se.den
   have k2:=Bd.mul (k:=1204) k1 sb.den
   have k3:=Bd.mul (k:=1140) se.num sb.den
   have k4:=Bd.mul (k:=1140) sb.num se.den
   have k5:=Bd.mul (k:=1140) se.den sb.den
   simp_all! [oW,qv,qw]
   refine ⟨.of se.num sb.den,.of sb.num se.den,hNq _ _ ?_⟩
   clear hNq Nq
   simp_all! [oW,qv,qw]
   refine ⟨.of bc se.den,.of k1 sb.den,hNq _ _ ?_⟩
   clear hNq Nq
   simp_all! [oW,qv,qw,gj]
   rw [JI]
   refine ⟨.of se.den sb.den,Int.mul_pos (dk _) (dk _),k5.mono (by decide),aX (by rw [Rr];omega),(hInv _ _ _).mpr ⟨os ++ [vi c m e b],_,_,rfl,by rw [bU,Rw];rfl,by rw [RL];show os.length + 1≤_;omega,qE ond λz=>?_,λx=>?_⟩⟩
   ·obtain ⟨b',h1,_,h3⟩:=(om _).mp z
    have e1:e - b.m + (c:Rat)=e - b'.m + (c:Rat):=congrArg ax.m h3
    have e2:b.f=b'.f:=congrArg ax.h h3
    have e3:b.h=b'.h:=congrArg ax.f h3
    have e4:b.m=b'.m:=by grind
    have:b=b':=by cases b;cases b';simp only at e2 e3 e4;rw [e2,e3,e4]
    exact hnot (this ▸ h1)
   ·rw [grow,RC,RF,om]
    exact ⟨λz=>z.imp id λz=>⟨c2,z⟩,λz=>z.imp id λz=>z.2⟩
 intro τ J' hv
 obtain ⟨os,u6,u7,rfl,rfl,ol,ond,om⟩:=(hInv _ _ _).mp hv
 clear hv hInv Inv
 rw [Rr] at ol
 rw [Rr,RY] at om
 have fresh:∀{b:ax} {x y:Str},(∃b∈bs,b.m≠m∧(⟨e,x,y⟩:ax)=vi c m e b)→False:=λ⟨b,h1,_,h3⟩=>by
  have e1:e=e - b.m + (c:Rat):=congrArg ax.m h3
  have:=(bsz b h1).2
  grind
 have hD2:∀v,put J o v D=some (.dct (cj gs) ep):=λv=>by rw [aj nDo];exact hD
 refine hNq _ _ ?_
 clear hNq Nq
 simp_all! [hD2,hkv]
 obtain ⟨Inv,hInv⟩:∃Inv:Nat→Sr→Hq→Prop,∀i τ J',Inv i τ J'↔∃(os:List ax) (u8 u9 u10:Option PV),τ=[some (.fl (bs.map ax.v)),some (.ref D),some (.int c),some (fr m),some (fr e),some (.ref o),u6,u7,u8,u9,u10,none,none]∧J'=put J o (.lst (os.map ax.v))∧os.length≤200 + 12 * i∧os.Nodup∧∀x,x∈os↔(∃b∈bs,b.m≠m∧x=vi c m e b)∨∃a∈gs.take i,∃b∈gs,b.2.v < a.2.v∧a.2.p=b.2.p∧x=⟨e,b.1,a.1⟩:=⟨_,λ_ _ _=>Iff.rfl⟩
 refine dZ Inv ((hInv _ _ _).mpr ⟨os,_,_,_,rfl,rfl,by omega,ond,λx=>by rw [om];simp⟩) (λi τ J' hv=>?_) ?_ ?_
 ·obtain ⟨os,u8,u9,u10,rfl,rfl,_⟩:=(hInv _ _ _).mp hv;exact hD2 _
 ·intro i x τ J' hx hv
  clear om ond ol os
  obtain ⟨os,u8,u9,u10,rfl,rfl,ol,ond,om⟩:=(hInv _ _ _).mp hv
  clear hv
  have hi:i < gs.length:=by have:=(Rv.mp hx).1;simpa using this
  rw [Ry,Rt hi] at hx
  cases hx
  have ha:=RZ hi
  have et:gs.take (i + 1)=gs.take i ++ [gs[i]]:=by rw [RQ,Rt hi];rfl
  have hnot:gs[i].1 ∉ (gs.take i).map (·.1):=λz=>by
   have h2:((gs.take (i + 1)).map (·.1)).Nodup:=gnd.sublist ((R4 _ _).map _)
   rw [et,Rw] at h2
   exact (cF h2).2 z
  generalize gs[i]=a at ha et hnot ⊢
  obtain ⟨n,l⟩:=a
  have hvn:jx (cj gs) n=some l.V:=gY (f:=aZ.V) gnd ha
  simp_all! [hD2,hkv]
  obtain ⟨W,hW⟩:∃W:Nat→Sr→Hq→Prop,∀j τ J',W j τ J'↔∃(os:List ax) (u9 u10:Option PV),τ=[some (.fl (bs.map ax.v)),some (.ref D),some (.int c),some (fr m),some (fr e),some (.ref o),u6,u7,some (.str n),u9,u10,none,none]∧J'=put J o (.lst (os.map ax.v))∧os.length≤200 + 12 * i + j∧os.Nodup∧∀x,x∈os↔((∃b∈bs,b.m≠m∧x=vi c m e b)∨∃a∈gs.take i,∃b∈gs,b.2.v < a.2.v∧a.2.p=b.2.p∧x=⟨e,b.1,a.1⟩)∨∃b∈gs.take j,b.2.v < l.v∧l.p=b.2.p∧x=⟨e,b.1,n⟩:=⟨_,λ_ _ _=>Iff.rfl⟩
  refine dZ W ((hW _ _ _).mpr ⟨os,_,_,rfl,rfl,by omega,ond,λx=>by rw [om];simp⟩) (λj τ J' hv=>?_) ?_ ?_
  ·obtain ⟨os,u9,u10,rfl,rfl,_⟩:=(hW _ _ _).mp hv;exact hD2 _
  ·intro j x τ J' hx hv
   clear om ond ol os
   obtain ⟨os,u9,u10,rfl,rfl,ol,ond,om⟩:=(hW _ _ _).mp hv
   clear hv
   have hj:j < gs.length:=by have:=(Rv.mp hx).1;simpa using this
   rw [Ry,Rt hj] at hx
   cases hx
   have hb:=RZ hj
   have ej:gs.take (j + 1)=gs.take j ++ [gs[j]]:=by rw [RQ,Rt hj];rfl
   have hnj:gs[j].1 ∉ (gs.take j).map (·.1):=λz=>by
    have h2:((gs.take (j + 1)).map (·.1)).Nodup:=gnd.sublist ((R4 _ _).map _)
    rw [ej,Rw] at h2
    exact (cF h2).2 z
   generalize gs[j]=b at hb ej hnj ⊢
   obtain ⟨n',l'⟩:=b
   have hvn':jx (cj gs) n'=some l'.V:=gY (f:=aZ.V) gnd hb
   have grow:∀x:ax,(∃b∈gs.take (j + 1),b.2.v < l.v∧l.p=b.2.p∧x=⟨e,b.1,n⟩)↔(∃b∈gs.take j,b.2.v < l.v∧l.p=b.2.p∧x=⟨e,b.1,n⟩)∨(l'.v < l.v∧l.p=l'.p∧x=⟨e,n',n⟩):=λx=>by
    rw [ej]
    constructor
    ·rintro ⟨b',h1,h2⟩
     rcases RC.mp h1 with h1 | h1
     ·exact .inl ⟨b',h1,h2⟩
     ·rw [RF] at h1;subst h1;exact .inr h2
    ·rintro (⟨b',h1,h2⟩ | h2)
     ·exact ⟨b',SA _ h1,h2⟩
     ·exact ⟨(n',l'),RH _ (SF _),h2⟩
   have no:¬ (l'.v < l.v∧l.p=l'.p)→∀u9 u10,W (j + 1) [some (.fl (bs.map ax.v)),some (.ref D),some (.int c),some (fr m),some (fr e),some (.ref o),u6,u7,some (.str n),u9,u10,none,none] (put J o (.lst (os.map ax.v))):=λz u9 u10=>(hW _ _ _).mpr ⟨os,u9,u10,rfl,rfl,by omega,ond,λx=>by rw [om,grow];exact or_congr_right ⟨.inl,λy=>y.elim id λy=>absurd ⟨y.1,y.2.1⟩ z⟩⟩
   simp_all! [hD2,hvn,hvn',kO,AB]
   split
   ·split
    ·rename_i c1 c2
     refine ⟨aX (by rw [Rr];omega),(hW _ _ _).mpr ⟨os ++ [⟨e,n',n⟩],_,_,rfl,by rw [bU,Rw];rfl,by rw [RL];show os.length + 1≤_;omega,qE ond λz=>?_,λx=>?_⟩⟩
     ·rcases (om _).mp z with (z | ⟨a,h1,b,_,_,_,h2⟩) | ⟨b,h1,_,_,h2⟩
      ·exact fresh (b:=⟨e,n',n⟩) z
      ·have:n=a.1:=congrArg ax.f h2
       exact hnot (Ru.mpr ⟨a,h1,this.symm⟩)
      ·have:n'=b.1:=congrArg ax.h h2
       exact hnj (Ru.mpr ⟨b,h1,this.symm⟩)
     ·rw [RC,RF,om,grow,or_assoc]
      exact or_congr_right (or_congr_right ⟨λz=>⟨by omega,c2,z⟩,λz=>z.2.2⟩)
    ·rename_i c1 c2
     exact no (λz=>c2 z.2) _ _
   ·rename_i c1
    exact no (λz=>c1 (by omega)) _ _
  intro τ J' hv
  clear om ond ol os
  obtain ⟨os,u9,u10,rfl,rfl,ol,ond,om⟩:=(hW _ _ _).mp hv
  rw [Rr,RY] at om
  rw [Rr] at ol
  refine (hInv _ _ _).mpr ⟨os,_,_,_,rfl,rfl,by omega,ond,λx=>?_⟩
  rw [om,et,or_assoc]
  refine or_congr_right ?_
  constructor
  ·rintro (⟨a,h1,h2⟩ | h2)
   ·exact ⟨a,SA _ h1,h2⟩
   ·exact ⟨(n,l),RH _ (SF _),h2⟩
  ·rintro ⟨a,h1,h2⟩
   rcases RC.mp h1 with h1 | h1
   ·exact .inl ⟨a,h1,h2⟩
   ·rw [RF] at h1;subst h1;exact .inr h2
 intro τ J' hv
 clear om ond ol os
 obtain ⟨os,u8,u9,u10,rfl,rfl,ol,ond,om⟩:=(hInv _ _ _).mp hv
 clear hv hInv Inv
 rw [Rr] at ol
 rw [Rr,RY] at om
 have q:=q (mP os) (qJ os) λx=>by rw [mQ];exact om x
 refine hNq _ _ ?_
 clear hNq Nq
 simp_all! []
 intro r hr'
 have nro:r≠o:=λz=>by subst z;rw [ak] at hr';cases hr'
 have hr0:J r=none:=by rw [aj nro] at hr';exact hr'
 have ho2:∀v,put (put J o (.lst (os.map ax.v))) r v o=some (.lst (os.map ax.v)):=λv=>by rw [aj (Ne.symm nro)];exact ak
 have osz:∀x∈os,Sz 9000 x.m:=λx hx=>by
  rcases (om x).mp hx with ⟨b,h1,_,rfl⟩ | ⟨a,_,b,_,_,_,rfl⟩
  ·have s1:Sz 1141 (e - b.m):=se.sub (bsz b h1).1
   have s2:Sz 64 ((c:Int):Rat):=⟨by rw [Rat.num_intCast];exact .small (by omega) (by omega),by rw [Rat.den_intCast];exact .small (x:=1) (by decide) (by decide)⟩
   exact (s1.add (k:=1300) s2).mono (by decide)
  ·exact se.mono (by decide)
 have fq:=ua ond
 refine hNq _ _ ?_
 clear hNq Nq
 simp_all! [ho2]
 obtain ⟨Inv,hInv⟩:∃Inv:Nat→Sr→Hq→Prop,∀i τ J',Inv i τ J'↔∃(u6 u12:Option PV),τ=[some (.fl (bs.map ax.v)),some (.ref D),some (.int c),some (fr m),some (fr e),some (.ref o),u6,u7,u8,u9,u10,some (.ref r),u12]∧J'=put (put J o (.lst (os.map ax.v))) r (.lst (((os.take i).foldl (λacc b=>d8 b acc) []).map ax.v)):=⟨_,λ_ _ _=>Iff.rfl⟩
 refine dZ Inv ((hInv _ _ _).mpr ⟨_,_,rfl,rfl⟩) (λi τ J' hv=>?_) ?_ ?_
 ·obtain ⟨u6,u12,rfl,rfl⟩:=(hInv _ _ _).mp hv;exact ho2 _
 ·intro i x τ J' hx hv
  obtain ⟨u6,u12,rfl,rfl⟩:=(hInv _ _ _).mp hv
  clear hv
  have hi:i < os.length:=by have:=(Rv.mp hx).1;simpa using this
  rw [Ry,Rt hi] at hx
  cases hx
  have et:os.take (i + 1)=os.take i ++ [os[i]]:=by rw [RQ,Rt hi];rfl
  have hm:=RZ hi
  have nd1:(os.take i).Nodup:=ond.sublist (R4 _ _)
  have ef:(os.take (i + 1)).foldl (λacc b=>d8 b acc) []=d8 os[i] ((os.take i).foldl (λacc b=>d8 b acc) []):=by rw [et,SE];rfl
  have e1:=ua nd1
  have szs:∀x∈(os.take i).foldl (λacc b=>d8 b acc) [],Sz 9000 x.m:=λx hx=>osz x (Sg (by rw [e1,mQ] at hx;exact hx))
  have srt:g9 ((os.take i).foldl (λacc b=>d8 b acc) []):=by rw [e1];exact qJ _
  have rl:((os.take i).foldl (λacc b=>d8 b acc) []).length≤i:=by
   have:∀xs:List ax,(xs.foldl (λacc b=>d8 b acc) []).length=xs.length:=λxs=>by
    refine snoc_ind (p:=λxs=>(xs.foldl (λacc b=>d8 b acc) []).length=xs.length) rfl (λxs y ih=>?_) xs
    rw [SE,RL,← ih]
    exact xx (lt:=ax.lt) _ _
   rw [this,RX];exact Nat.min_le_left _ _
  have sb:=osz _ hm
  generalize (os.take i).foldl (λacc b=>d8 b acc) []=rows at szs srt ef rl ⊢
  generalize os[i]=b at sb ef ⊢
  simp_all! []
  refine n9 (V:=ax.v) (lt:=ax.lt) (ys:=rows) (b:=b) (iO:=11) (iA:=12) (iR:=6) rfl rfl rfl (by decide) (by decide) ak (λx hx R hR=>.inr ⟨x,b,rfl,szs x hx,sb,hR⟩) (λhx hy h k=>rO srt hx hy h k) λj hj hlow hhigh=>?_
  simp_all! [ak]
  refine ⟨_,j,rfl,rfl,by rw [Rr];exact hj,aX (by rw [Rr];omega),by omega,?_⟩
  rw [bU]
  refine (hInv _ _ _).mpr ⟨_,_,rfl,?_⟩
  rw [ef,← uY hj hlow hhigh,Rw,RD,So,S4]
 ·intro τ J' hv
  obtain ⟨u6,u12,rfl,rfl⟩:=(hInv _ _ _).mp hv
  rw [Rr,RY,fq]
  refine hNq _ _ ?_
  simp_all! []
  exact Fg.n6 (ug ho hr0) ak hr0 q
theorem cy.L3 {L:Ln} (ok:cy L):L.fs.length≤12:=by
 have:=ok.rl
 rw [ok.row,mS] at this;exact this
def LC (t:Rat) (fs gs:List (Str × aZ)):Prop:=∀x,x∈fs.map (key t)↔x∈gs.map (key t)
def wY:List aZ→Prop
 | a :: b :: r=>b.p=a.at b.m∧wY (b :: r)
 | _=>True
theorem km:∀(ls:List aZ) (l:aZ),wY (ls ++ [l])↔wY ls∧∀k,ls.getLast?=some k→l.p=k.at l.m
 | [],l=>⟨λ_=>⟨trivial,λk h=>nomatch h⟩,λ_=>trivial⟩
 | [a],l=>⟨λh=>⟨trivial,λk e=>by cases e;exact h.1⟩,λh=>⟨h.2 a rfl,trivial⟩⟩
 | a :: b :: r,l=>by
  have ih:=km (b :: r) l
  show (b.p=a.at b.m∧wY ((b :: r) ++ [l]))↔_
  rw [ih,List.getLast?_cons_cons]
  constructor
  ·rintro ⟨h1,h2,h3⟩;exact ⟨⟨h1,h2⟩,h3⟩
  ·rintro ⟨⟨h1,h2⟩,h3⟩;exact ⟨h1,h2,h3⟩
def g8 (l l':aZ):Prop:=l.v=l'.v∧∀t,l.at t=l'.at t
theorem g8.key {l l':aZ} (h:g8 l l') (n:Str) (t:Rat):key t (n,l)=key t (n,l'):=by unfold Ov.key;simp only;rw [h.1,h.2 t]
theorem pN (l:aZ):l.at l.m=l.p:=by unfold aZ.at;grind
theorem A5 {l l':aZ} {t:Rat} (hv:l.v=l'.v) (h:l.at t=l'.at t):g8 l l':=⟨hv,λs=>by
 unfold aZ.at at h ⊢
 rw [hv] at h ⊢
 generalize (l'.v:Rat)=x at h ⊢
 grind⟩
theorem kb {rows:List aZ} {t:Rat} {v:Int} (h:wY rows) (ne:rows≠[]):wY (turned rows t v)∧∀l,rows.getLast?=some l→∀l',(turned rows t v).getLast?=some l'→g8 ⟨t,l.at t,v⟩ l':=by
 obtain ⟨ls,l,rfl⟩:∃ls l,rows=ls ++ [l]:=⟨rows.dropLast,rows.getLast ne,(R' ne).symm⟩
 obtain ⟨h1,h2⟩:=(km ls l).mp h
 have new:∀{q:List aZ},(q ++ [aZ.mk t (l.at t) v]).getLast?=some (aZ.mk t (l.at t) v):=λ{q}=>R_ ..
 rw [gL]
 simp only [R_,Option.some.injEq]
 split
 ·rename_i e
  have el:l.at t=l.p:=by rw [← e];exact pN l
  split
  ·rename_i ev
   refine ⟨h1,λl0 h0 l' h'=>?_⟩
   subst h0
   rw [h'] at ev
   have hv:l'.v=v:=Option.some.inj ev
   have hp:=h2 l' h'
   rw [e] at hp
   refine A5 (t:=t) hv.symm ?_
   show l.at t + (t - t) * (v:Rat)=_
   rw [← hp,el];grind
  ·refine ⟨(km _ _).mpr ⟨h1,λk hk=>?_⟩,λl0 h0 l' h'=>?_⟩
   ·show l.at t=k.at t
    rw [el,h2 k hk,e]
   ·subst h0
    rw [new] at h';cases h';exact ⟨rfl,λ_=>rfl⟩
 ·split
  ·rename_i ev
   refine ⟨h,λl0 h0 l' h'=>?_⟩
   subst h0
   rw [R_] at h';cases h'
   refine A5 (t:=t) ev.symm ?_
   show l.at t + (t - t) * (v:Rat)=_
   grind
  ·refine ⟨(km _ _).mpr ⟨h,λk hk=>?_⟩,λl0 h0 l' h'=>?_⟩
   ·rw [R_] at hk;cases hk;rfl
   ·subst h0
    rw [new] at h';cases h';exact ⟨rfl,λ_=>rfl⟩
structure Rl (L:Ln) (gs:List (Str × aZ)):Prop where
 nm:gs.map (·.1)=L.fs.map (·.1)
 ln:∀n l l',(n,l)∈gs→(n,l')∈L.fs→g8 l l'
 ck:∀x∈gs,rV x.2
 le:∀x∈gs,x.2.m≤L.t
 ct:∀c∈L.cs,wY c.w
theorem Rl.same {L:Ln} {gs:List (Str × aZ)} (h:Rl L gs) (t:Rat):LC t L.fs gs:=λx=>by
 have other:∀{as bs:List (Str × aZ)},as.map (·.1)=bs.map (·.1)→∀{n l},(n,l)∈as→∃l',(n,l')∈bs:=λ{as bs} e {n l} hm=>by
  have:n∈bs.map (·.1):=by rw [← e];exact Ru.mpr ⟨_,hm,rfl⟩
  obtain ⟨y,hy,e'⟩:=Ru.mp this
  exact ⟨y.2,by rw [← e'];exact hy⟩
 rw [Ru,Ru]
 constructor
 ·rintro ⟨⟨n,l⟩,hm,rfl⟩
  obtain ⟨l',hl'⟩:=other h.nm.symm hm
  exact ⟨(n,l'),hl',(h.ln n l' l hl' hm).key n t⟩
 ·rintro ⟨⟨n,l⟩,hm,rfl⟩
  obtain ⟨l',hl'⟩:=other h.nm hm
  exact ⟨(n,l'),hl',((h.ln n l l' hm hl').key n t).symm⟩
theorem Rl.sz {L:Ln} {gs:List (Str × aZ)} (h:Rl L gs):∀x∈gs,nM 240 x.2:=λx hx=>by
 have hk:=h.ck x hx
 exact ⟨hk.QK.mono (by decide),hk.Pl.mono (by decide),.small (by have:=hk.v;omega) (by have:=hk.v;omega)⟩
theorem Rl.nd {L:Ln} {gs:List (Str × aZ)} (h:Rl L gs) (ok:a8 L):(gs.map (·.1)).Nodup:=by rw [h.nm];exact ok.Lk
theorem Rl.len {L:Ln} {gs:List (Str × aZ)} (h:Rl L gs):gs.length=L.fs.length:=by have:=congrArg Sx h.nm;rw [Rr,Rr] at this;exact this
def Ff (n:Str) (t:Rat) (v:Int) (gs:List (Str × aZ)):List (Str × aZ):=gs.map λx=>if x.1=n then (x.1,⟨t,x.2.at t,v⟩) else x
def eQ (t:Rat) (gs:List (Str × aZ)):List (Str × aZ):=gs.map λx=>(x.1,⟨t,x.2.at t,-x.2.v⟩)
theorem Dr {L:Ln} {f:Cf→Cf} (hn:∀c,(f c).n=c.n∧(f c).a=c.a∧(f c).r=c.r∧(f c).g=c.g) {L':Ln} (e:L'.cs=L.cs.map f):L'.fs=L.CN.map λc=>(c.n,(f c).cur):=by
 unfold Ln.fs Ln.CN
 rw [e,TK,RK]
 have e1:(λc:Cf=>c.g.isNone) ∘ f=λc=>c.g.isNone:=by funext c;show (f c).g.isNone=_;rw [(hn c).2.2.2]
 rw [e1]
 exact R6 λc _=>by show ((f c).n,(f c).cur)=_;rw [(hn c).1]
theorem xo {c:Cf} {t:Rat} {v:Int} (h:wY c.w) (ne:c.w≠[]):g8 ⟨t,c.cur.at t,v⟩ (c.turn t v).cur:=by
 have h1:=(Cf.fN ne).1
 have h2:=(Cf.fN (c:=c.turn t v) (uB ne)).1
 exact (kb h ne).2 _ h1 _ h2
theorem g8.turn {l l':aZ} (h:g8 l l') (t:Rat) (v:Int):g8 ⟨t,l.at t,v⟩ ⟨t,l'.at t,v⟩:=by rw [h.2 t];exact ⟨rfl,λ_=>rfl⟩
theorem g8.trans {l l' l'':aZ} (h:g8 l l') (k:g8 l' l''):g8 l l'':=⟨h.1.trans k.1,λt=>(h.2 t).trans (k.2 t)⟩
theorem Rl.turn {L L':Ln} {gs:List (Str × aZ)} (h:Rl L gs) (ok:a8 L) {n:Str} {v:Int} (hv:v.natAbs≤1000) (e:L'.cs=L.cs.map (eO n L.t v)) (et:L'.t=L.t):Rl L' (Ff n L.t v gs):=by
 have hn:=Bw n L.t v
 have hfs:=Dr hn e
 have nm:(Ff n L.t v gs).map (·.1)=gs.map (·.1):=by
  unfold Ff;rw [RK];exact R6 λx _=>by show (if x.1=n then (x.1,_) else x).1=x.1;split <;> rfl
 refine ⟨?_,?_,?_,?_,?_⟩
 ·rw [nm,h.nm,hfs];unfold Ln.fs;rw [RK,RK];rfl
 ·intro m l l' hl hl'
  obtain ⟨x,hx,ex⟩:=Ru.mp hl
  rw [hfs] at hl'
  obtain ⟨c,hc,ec⟩:=Ru.mp hl'
  have hcs:=(Ln.dA.mp hc).1
  have hold:(c.n,c.cur)∈L.fs:=Ru.mpr ⟨c,hc,rfl⟩
  cases ec
  by_cases z:x.1=n
  ·rw [if_pos z] at ex
   have ex1:x.1=c.n:=(Prod.mk.inj ex).1
   have ex2:aZ.mk L.t (x.2.at L.t) v=l:=(Prod.mk.inj ex).2
   subst ex2
   have hs:=h.ln x.1 x.2 c.cur hx (by rw [ex1];exact hold)
   have zc:c.n=n:=by rw [← z];exact ex1.symm
   unfold eO
   rw [if_pos zc]
   exact (hs.turn L.t v).trans (xo (h.ct c hcs) (ok.ne c hcs))
  ·rw [if_neg z] at ex
   subst ex
   have zc:¬ c.n=n:=z
   unfold eO
   rw [if_neg zc]
   exact h.ln c.n l c.cur hx hold
 ·intro x hx
  obtain ⟨y,hy,rfl⟩:=Ru.mp hx
  split
  ·exact (h.ck y hy).at (h.le y hy) ok.ts hv
  ·exact h.ck y hy
 ·intro x hx
  rw [et]
  obtain ⟨y,hy,rfl⟩:=Ru.mp hx
  split
  ·exact Rat.le_refl
  ·exact h.le y hy
 ·intro c hc
  rw [e] at hc
  obtain ⟨c0,h0,rfl⟩:=Ru.mp hc
  unfold eO
  split
  ·exact (kb (h.ct c0 h0) (ok.ne c0 h0)).1
  ·exact h.ct c0 h0
theorem C1 (t:Rat) (c:Cf):(dX t c).n=c.n∧(dX t c).a=c.a∧(dX t c).r=c.r∧(dX t c).g=c.g:=by unfold dX;split <;> exact ⟨rfl,rfl,rfl,rfl⟩
theorem Rl.about {L L':Ln} {gs:List (Str × aZ)} (h:Rl L gs) (ok:a8 L) (e:L'.cs=L.cs.map (dX L.t)) (et:L'.t=L.t):Rl L' (eQ L.t gs):=by
 have hn:=C1 L.t
 have hfs:=Dr hn e
 have nm:(eQ L.t gs).map (·.1)=gs.map (·.1):=by
  unfold eQ;rw [RK];rfl
 refine ⟨?_,?_,?_,?_,?_⟩
 ·rw [nm,h.nm,hfs];unfold Ln.fs;rw [RK,RK];rfl
 ·intro m l l' hl hl'
  obtain ⟨x,hx,ex⟩:=Ru.mp hl
  rw [hfs] at hl'
  obtain ⟨c,hc,ec⟩:=Ru.mp hl'
  have hcs:=Ln.dA.mp hc
  have hold:(c.n,c.cur)∈L.fs:=Ru.mpr ⟨c,hc,rfl⟩
  cases ec
  obtain ⟨xn,xl⟩:=x
  cases ex
  have hs:=h.ln c.n xl c.cur hx hold
  have ea:dX L.t c=c.turn L.t (-c.cur.v):=by unfold dX;rw [if_pos (by rw [hcs.2];rfl)]
  rw [ea,hs.1]
  exact (hs.turn L.t _).trans (xo (h.ct c hcs.1) (ok.ne c hcs.1))
 ·intro x hx
  obtain ⟨y,hy,rfl⟩:=Ru.mp hx
  exact (h.ck y hy).at (h.le y hy) ok.ts (by have:=(h.ck y hy).v;omega)
 ·intro x hx
  rw [et]
  obtain ⟨y,hy,rfl⟩:=Ru.mp hx
  exact Rat.le_refl
 ·intro c hc
  rw [e] at hc
  obtain ⟨c0,h0,rfl⟩:=Ru.mp hc
  unfold dX
  split
  ·exact (kb (h.ct c0 h0) (ok.ne c0 h0)).1
  ·exact h.ct c0 h0
theorem Rl.join {L L':Ln} {gs:List (Str × aZ)} (h:Rl L gs) (ok':a8 L') {n:Str} {x v:Int} (hv:v.natAbs≤1000) (hx:x.natAbs≤1000000) (j:L.joined n x v L') (t0:0≤L.t) (ts:Sc gM MM L.t) (hnew:n ∉ L.fs.map (·.1)):Rl L' (gs ++ [(n,⟨L.t,(x:Rat),v⟩)]):=by
 obtain ⟨a,r,ecs,et⟩:=j
 have efs:L'.fs=L.fs ++ [(n,⟨L.t,(x:Rat),v⟩)]:=Aq L ecs rfl
 refine ⟨?_,?_,?_,?_,?_⟩
 ·rw [efs,Rw,Rw,h.nm]
 ·intro m l l' hl hl'
  rw [efs] at hl'
  have h1:∀{k},(n,k)∈gs→False:=λhk=>hnew (by rw [← h.nm];exact Ru.mpr ⟨_,hk,rfl⟩)
  have h2:∀{k},(n,k)∈L.fs→False:=λhk=>hnew (Ru.mpr ⟨_,hk,rfl⟩)
  rcases RC.mp hl with hl | hl <;> rcases RC.mp hl' with hl' | hl'
  ·exact h.ln m l l' hl hl'
  ·rw [RF] at hl';cases hl';exact (h1 hl).elim
  ·rw [RF] at hl;cases hl;exact (h2 hl').elim
  ·rw [RF] at hl hl';cases hl;cases hl';exact ⟨rfl,λ_=>rfl⟩
 ·intro y hy
  rcases RC.mp hy with hy | hy
  ·exact h.ck y hy
  ·rw [RF] at hy;subst hy;exact rV.new t0 ts hx hv
 ·intro y hy
  rw [et]
  rcases RC.mp hy with hy | hy
  ·exact h.le y hy
  ·rw [RF] at hy;subst hy;exact Rat.le_refl
 ·intro c hc
  rw [ecs] at hc
  rcases RC.mp hc with hc | hc
  ·exact h.ct c hc
  ·rw [RF] at hc;subst hc;exact trivial
theorem fS (l:aZ) (t m:Rat):l.at m=l.at t + (m - t) * (l.v:Rat):=by unfold aZ.at;grind
theorem y8 {l l':aZ} (t:Rat) (hv:l.v≠l'.v):dn l l'=t + (l'.at t - l.at t) / ((l.v - l'.v:Int):Rat):=by
 unfold dn aZ.at
 have k:((l.v - l'.v:Int):Rat)≠0:=gA (by omega)
 rw [Rat.intCast_sub] at k ⊢
 generalize (l.v:Rat)=x at k ⊢
 generalize (l'.v:Rat)=y at k ⊢
 grind
def Rj (t m:Rat) (x y:Str × aZ):Prop:=y.2.v < x.2.v∧x.2.at t < y.2.at t∧y.2.at m≤x.2.at m
theorem qL {fs:List (Str × aZ)} {t m:Rat} (htm:t≤m) {x:ax}:x∈bV t (fs.map (key t)) m↔∃a∈fs,∃b∈fs,Rj t m a b∧x=⟨dn a.2 b.2,a.1,b.1⟩:=by
 have mq:∀{a b:Str × aZ},b.2.v < a.2.v→dn a.2 b.2=cO t (key t a) (key t b):=λh=>mL (n:=_) (n':=_) (by omega)
 have iff:∀{a b:Str × aZ},b.2.v < a.2.v→(cO t (key t a) (key t b)≤m↔b.2.at m≤a.2.at m):=λ{a b} hv=>by
  have hp:(0:Rat) < ((a.2.v - b.2.v:Int):Rat):=by exact_mod_cast (show (0:Int) < a.2.v - b.2.v by omega)
  show t + (b.2.at t - a.2.at t) / ((a.2.v - b.2.v:Int):Rat)≤m↔_
  rw [fS a.2 t m,fS b.2 t m]
  rw [Rat.intCast_sub] at hp ⊢
  generalize (a.2.v:Rat)=x at hp ⊢
  generalize (b.2.v:Rat)=y at hp ⊢
  generalize a.2.at t=p
  generalize b.2.at t=q
  have e:(q - p) / (x - y) * (x - y)=q - p:=by grind
  generalize (q - p) / (x - y)=z at e ⊢
  constructor
  ·intro h
   have:=Rat.mul_le_mul_of_nonneg_right (c:=x - y) h (by grind)
   grind
  ·intro h
   by_cases k:t + z≤m
   ·exact k
   ·have:=Rat.mul_pos (show 0 < t + z - m by grind) hp
    grind
 rw [e8]
 constructor
 ·rintro ⟨a,ha,b,hb,h1,h2,h3,rfl⟩
  obtain ⟨a,ha2,rfl⟩:=Ru.mp ha
  obtain ⟨b,hb2,rfl⟩:=Ru.mp hb
  have h1:b.2.v < a.2.v:=h1
  exact ⟨a,ha2,b,hb2,⟨h1,h2,(iff h1).mp h3⟩,by rw [mq h1];rfl⟩
 ·rintro ⟨a,ha,b,hb,⟨h1,h2,h3⟩,rfl⟩
  exact ⟨_,Ru.mpr ⟨a,ha,rfl⟩,_,Ru.mpr ⟨b,hb,rfl⟩,h1,h2,(iff h1).mpr h3,by rw [mq h1];rfl⟩
def jw (m:Rat) (l:aZ):aZ:=⟨m,l.at m,-l.v⟩
theorem uO (m:Rat) (l:aZ) (t:Rat):(jw m l).at t=l.at (2 * m - t):=by
 show l.at m + (t - m) * ((-l.v:Int):Rat)=_
 rw [fS l m (2 * m - t),Rat.intCast_neg]
 grind
theorem mirror {gs:List (Str × aZ)} {c m e:Rat} (he:e=2 * m - c) (cm:c < m) (st:∀x∈gs,x.2.m=c) (x:ax):x∈bV m ((eQ m gs).map (key m)) e↔DB (bV c (gs.map (key c)) m) gs c m e x:=by
 have hme:m≤e:=by grind
 have pc:∀a∈gs,a.2.at c=a.2.p:=λa ha=>by unfold aZ.at;rw [st a ha];grind
 have ae:∀l:aZ,(jw m l).at e=l.at c:=λl=>by rw [uO,he];congr 1;grind
 have am:∀l:aZ,(jw m l).at m=l.at m:=λl=>by rw [uO];congr 1;grind
 have two:∀{a b:aZ},a.v < b.v→dn (jw m a) (jw m b)=e - dn b a + c∧(a.at m < b.at m→dn b a≠m)∧(b.at c=a.at c→dn (jw m a) (jw m b)=e):=λ{a b} hv=>by
  have hp:(0:Rat) < ((b.v - a.v:Int):Rat):=by exact_mod_cast (show (0:Int) < b.v - a.v by omega)
  have e1:=y8 (l:=jw m a) (l':=jw m b) m (show -a.v≠-b.v by omega)
  have e2:=y8 (l:=b) (l':=a) m (by omega)
  rw [am,am,show (jw m a).v - (jw m b).v=b.v - a.v from (show -a.v - -b.v=b.v - a.v by omega)] at e1
  rw [e1,e2]
  have s1:=fS a c m
  have s2:=fS b c m
  rw [Rat.intCast_sub] at hp ⊢
  rw [s1,s2]
  generalize (b.v:Rat)=y at hp ⊢
  generalize (a.v:Rat)=w at hp ⊢
  generalize a.at c=p
  generalize b.at c=q
  refine ⟨by grind,λh z=>?_,λh=>by grind⟩
  have z1:(p + (m - c) * w - (q + (m - c) * y)) / (y - w)=0:=by
   generalize (p + (m - c) * w - (q + (m - c) * y)) / (y - w)=u at z ⊢
   grind
  have z2:(p + (m - c) * w - (q + (m - c) * y)) / (y - w) * (y - w)=p + (m - c) * w - (q + (m - c) * y):=Rat.div_mul_cancel (by grind)
  rw [z1,Rat.zero_mul] at z2
  clear z1 z e1 e2 s1 s2 pc ae am st
  grind
 rw [qL hme]
 unfold DB
 constructor
 ·rintro ⟨a',ha',b',hb',⟨h1,h2,h3⟩,rfl⟩
  obtain ⟨a,ha,rfl⟩:=Ru.mp ha'
  obtain ⟨b,hb,rfl⟩:=Ru.mp hb'
  have hv:a.2.v < b.2.v:=by have:-b.2.v < -a.2.v:=h1;omega
  have h2:(jw m a.2).at m < (jw m b.2).at m:=h2
  have h3:(jw m b.2).at e≤(jw m a.2).at e:=h3
  rw [am,am] at h2
  rw [ae,ae] at h3
  obtain ⟨t1,t2,t3⟩:=two hv
  by_cases k:b.2.at c=a.2.at c
  ·refine .inr ⟨b,hb,a,ha,hv,by rw [← pc b hb,← pc a ha];exact k,?_⟩
   show (⟨dn (jw m a.2) (jw m b.2),a.1,b.1⟩:ax)=_
   rw [t3 k]
  ·refine .inl ⟨⟨dn b.2 a.2,b.1,a.1⟩,(qL (Rat.le_of_lt cm)).mpr ⟨b,hb,a,ha,⟨hv,by grind,Rat.le_of_lt h2⟩,rfl⟩,t2 h2,?_⟩
   show (⟨dn (jw m a.2) (jw m b.2),a.1,b.1⟩:ax)=_
   rw [t1];rfl
 ·rintro (⟨y,hy,hm,rfl⟩ | ⟨b,hb,a,ha,hv,hp,rfl⟩)
  ·obtain ⟨b,hb,a,ha,⟨hv,h2,h3⟩,rfl⟩:=(qL (Rat.le_of_lt cm)).mp hy
   obtain ⟨t1,t2,t3⟩:=two hv
   have lt:a.2.at m < b.2.at m:=by
    by_cases k:a.2.at m=b.2.at m
    ·refine absurd ?_ hm
     show dn b.2 a.2=m
     rw [y8 m (by omega),k];grind
    ·grind
   refine ⟨_,Ru.mpr ⟨a,ha,rfl⟩,_,Ru.mpr ⟨b,hb,rfl⟩,⟨show -b.2.v < -a.2.v by omega,?_,?_⟩,?_⟩
   ·show (jw m a.2).at m < (jw m b.2).at m
    rw [am,am];exact lt
   ·show (jw m b.2).at e≤(jw m a.2).at e
    rw [ae,ae];exact Rat.le_of_lt h2
   ·show _=(⟨dn (jw m a.2) (jw m b.2),a.1,b.1⟩:ax)
    rw [t1];rfl
  ·obtain ⟨t1,t2,t3⟩:=two hv
   have k:b.2.at c=a.2.at c:=by rw [pc b hb,pc a ha,hp]
   refine ⟨_,Ru.mpr ⟨a,ha,rfl⟩,_,Ru.mpr ⟨b,hb,rfl⟩,⟨show -b.2.v < -a.2.v by omega,?_,?_⟩,?_⟩
   ·show (jw m a.2).at m < (jw m b.2).at m
    rw [am,am,fS a.2 c m,fS b.2 c m,k]
    have:(0:Rat) < (m - c) * (((b.2.v - a.2.v:Int)):Rat):=Rat.mul_pos (by grind) (by exact_mod_cast (show (0:Int) < b.2.v - a.2.v by omega))
    rw [Rat.intCast_sub] at this
    grind
   ·show (jw m b.2).at e≤(jw m a.2).at e
    rw [ae,ae,k];exact Rat.le_refl
   ·show _=(⟨dn (jw m a.2) (jw m b.2),a.1,b.1⟩:ax)
    rw [t3 k]
abbrev zO:Stmt:=(top 50)
abbrev m4:List Str:=["_law_script","_law_k"]
theorem Hh:L2.aw ["_law_script","_law_k"] ["_law_script","_law_k"] (L2.aq zO):=dI
def HH (ns:List Int) (k:Int):Int:=if k < (ns.length:Int) then ns.getD k.toNat 0 else 5 + 17 * k
def Ba:cG:=λxs J Q _=>∃(ns:List Int) (k:Int),xs=[.fl (ns.map .int),.int k]∧0≤k∧k < 1000∧Q (.int (HH ns k)) J
theorem DZ {f:Addr} {fd:FuncData} (F:bP K "_law_cell" "_law_cell" zO f fd) (Z:bD mg):aH P w K mg base (cg P w) 1 f fd m4 (cH K Ba):=by
 simp_arith [Hh,(ai (aY (aJ gC (rv 1) (aL cJ rfl Z.len boot_len (af (rv 0) ah))) (ar (aD (au av (rv 0) (rv 1)))) aO)
   (ar (aD (az bO ag (az aT ag (rv 1))))))]
 ·obtain ⟨ns,k,rfl,_⟩:=h;rfl
 obtain ⟨ns,k,rfl,h0,h1,q⟩:=h
 unfold HH at q
 refine hX ?_
 simp_arith! [bE,Rr]
 split
 ·rename_i c
  rw [if_pos c] at q
  obtain ⟨j,rfl⟩:=Int.eq_ofNat_of_zero_le h0
  have hj:j < ns.length:=by omega
  refine eZ (x:=.int ns[j]) (bG (by rw [Ry,Rt hj];rfl)) ?_
  simpa [UB,hj] using q
 ·rename_i c
  rw [if_neg c] at q
  exact ⟨.of (.small (x:=17) (by decide) (by decide)) (.small (x:=k) (by omega) (by omega)),q⟩
theorem DK {c q:Rat} (h:Later c q) (c0:0≤c):q≤c + 500:=by
 rcases h with rfl | ⟨u,s,u0,u1,s0,s1,rfl⟩
 ·grind
 rw [Rat.divInt_eq_div]
 have hu:(0:Rat) < ((u:Int):Rat):=by exact_mod_cast (show (0:Int) < u by omega)
 have h1:((s:Int):Rat)≤500 * ((u:Int):Rat):=by exact_mod_cast (show (s:Int)≤500 * u by omega)
 have hd:(0:Rat) < ((c.den:Int):Rat):=by exact_mod_cast (show (0:Int) < c.den by have:=c.den_pos;omega)
 have h2:((((c.num * (u:Int)).fdiv (c.den:Int)):Int):Rat)≤c * ((u:Int):Rat):=by
  have e1:(c.num * (u:Int)).fdiv (c.den:Int) * (c.den:Int)≤c.num * u:=by
   rw [Int.fdiv_eq_ediv_of_nonneg _ (by omega)]
   exact Int.ediv_mul_le _ (by have:=c.den_pos;omega)
  have e2:((((c.num * (u:Int)).fdiv (c.den:Int)):Int):Rat) * ((c.den:Int):Rat)≤(c.num:Rat) * ((u:Int):Rat):=by
   rw [← Rat.intCast_mul,← Rat.intCast_mul];exact Rat.intCast_le_intCast.mpr e1
  have e3:(c.num:Rat)=c * ((c.den:Int):Rat):=cast_eq c
  rw [e3] at e2
  generalize ((((c.num * (u:Int)).fdiv (c.den:Int)):Int):Rat)=x at e2 ⊢
  generalize ((c.den:Int):Rat)=y at e2 hd
  generalize ((u:Int):Rat)=z at e2 ⊢
  by_cases k:c * z < x
  ·have:0 < (x - c * z) * y:=Rat.mul_pos (by grind) hd
   grind
  ·grind
 rw [Rat.intCast_add]
 generalize ((((c.num * (u:Int)).fdiv (c.den:Int)):Int):Rat)=a at h2 ⊢
 generalize ((s:Int):Rat)=x at h1 ⊢
 generalize ((u:Int):Rat)=y at h1 h2 hu ⊢
 have e:(a + x) / y * y=a + x:=by grind
 generalize (a + x) / y=z at e ⊢
 by_cases k:c + 500 < z
 ·have:0 < (z - (c + 500)) * y:=Rat.mul_pos (by grind) hu
  grind
 ·grind
theorem um (t m:Rat) (ks:List Ky) (h:(ks.map Ky.n).Nodup) (hl:ks.length≤12):(bV t ks m).length≤144:=by
 rw [← p_ h]
 have h1:=t9 t (bK t m) (ks.flatMap λa=>ks.map λb=>(a,b))
 have h2:(ks.flatMap λa=>ks.map λb=>(a,b)).length=ks.length * ks.length:=by
  rw [TV]
  have:(ks.map λa=>(ks.map λb=>(a,b)).length)=Sm ks.length ks.length:=by
   rw [TL]
   refine ⟨by rw [Rr],λb hb=>?_⟩
   obtain ⟨_,_,rfl⟩:=Ru.mp hb
   rw [Rr]
  rw [this,Tv]
 have h3:ks.length * ks.length≤12 * 12:=TQ hl hl
 omega
theorem Di (c:Int) (m:Rat):Rat.divInt (2 * m.num - c * (m.den:Int)) (m.den:Int)=2 * m - (c:Rat):=by
 have a:=cast_eq m
 have d:=cv m
 rw [Rat.divInt_eq_div]
 simp only [Rat.intCast_mul,Rat.intCast_sub,a]
 generalize (((m.den:Int)):Rat)=x at d ⊢
 generalize (c:Rat)=z
 have:((2:Int):Rat)=2:=rfl
 rw [this]
 grind
theorem F1 (c:Int) (m:Rat):(2 * m - (c:Rat)).den≤m.den:=by
 rw [← Di]
 exact pO (by have:=m.den_pos;omega)
theorem Rl.alike {L L':Ln} {gs:List (Str × aZ)} (h:Rl L gs) (al:L.alike L'):Rl L' gs:=⟨by rw [al.fs];exact h.nm,λn l l' a b=>h.ln n l l' a (by rw [al.fs] at b;exact b),h.ck,λx hx=>by rw [al.t];exact h.le x hx,λc hc=>by obtain ⟨c0,h0,_,e,_⟩:=al.ex hc;rw [← e];exact h.ct c0 h0⟩
theorem Dx {n:Str} (hg:good n=true):n.length≤sizeLine:=by
 have h8:n.cps.size≤8:=by
  unfold good at hg
  rw [R7,R7] at hg
  exact of_decide_eq_true hg.1.2
 exact RN h8 (by decide)
theorem Mv.fresh {J J':Hq} {S S':Addr→Prop} (mv:Mv J J' S S') {x:Addr} {o:HQ} (hx:J x=some o) (nx:¬ S x):¬ S' x:=λz=>by
 rcases mv.own _ z with q | q
 ·exact nx q
 ·rw [hx] at q;cases q
section
variable {cD cN cL:Addr} {J J':Hq} {p:Addr} {k:Dk} {L:Ln} {ps:List ax} {ds:List PV}
theorem fM.some (h:fM cD cN cL J p k L ps ds) {a:Addr} (o:k.own p L a):J a≠none:=λz=>by
 obtain ⟨e,hc⟩:=h.cro
 rcases o with o | rfl | rfl | rfl | rfl
 ·exact h.la.some o z
 ·rw [h.ob] at z;cases z
 ·rw [h.pas] at z;cases z
 ·rw [h.dee] at z;cases z
 ·rw [hc] at z;cases z
theorem fM.za (h:fM cD cN cL J p k L ps ds) {T:Addr} (hT:J T=Sf .tab):¬ k.own p L T:=λo=>by
 obtain ⟨e,hc⟩:=h.cro
 rcases o with o | rfl | rfl | rfl | rfl
 ·exact h.la.za hT o
 ·rw [h.ob] at hT;cases hT
 ·rw [h.pas] at hT;cases hT
 ·rw [h.dee] at hT;cases hT
 ·rw [hc] at hT;cases hT
theorem fM.put (h:fM cD cN cL J p k L ps ds) {x:Addr} {o:HQ} (nx:¬ k.own p L x):fM cD cN cL (Ov.put J x o) p k L ps ds:=by
 obtain ⟨e,hc⟩:=h.cro
 have ne:∀{a},k.own p L a→a≠x:=λow z=>nx (z ▸ ow)
 exact ⟨by rw [aj (ne (.inr (.inl rfl)))];exact h.ob,h.la.keep λa u ow z=>by rw [aj (ne (.inl ow))];exact z,by rw [aj (ne (.inr (.inr (.inl rfl))))];exact h.pas,by rw [aj (ne (.inr (.inr (.inr (.inl rfl)))))];exact h.dee,⟨e,by rw [aj (ne (.inr (.inr (.inr (.inr rfl)))))];exact hc⟩,h.np,h.npa,h.nde,h.ncr,h.pd⟩
end
theorem nil_eq:FZ (.fl [])∧m7 (.fl [])=true∧eqQ (.fl []) (.fl [])=true:=⟨⟨rfl,by decide⟩,rfl,eq_self _⟩
abbrev A4:Stmt:=(top 67)
abbrev Ki:List Str:=["_law_script"]
theorem dt:L2.aw ["_law_script","_law_head","_law_names_here","_law_desk","_law_clock","_law_legs","_law_k","_law_row","_law_place","_law_pace","_law_middle","_law_end","_law_ones","_law_others","_law_lane","_law_turned","_law_name"] ["_law_script"] (L2.aq A4):=dI
theorem Gw {cD cN cL T eC f:Addr} {fd:FuncData} (F:bP K "law" "law" A4 f fd) (Z:bD mg) (yp:bF P w K mg base 1 "_law_cell" m4 Ba) (l7:bF P w K mg base 1 "_law_digits" f7 zU) (Fx:bF P w K mg base 2 "_law_names" k7 ye) (CO:bF P w K mg base 1 "_law_placed" jU uz) (Fz:bF P w K mg base 1 "_law_paced" k9 yg) (Fw:bF P w K mg base 2 "_law_later" k6 Bk) (l9:bF P w K mg base 1 "_law_low" d6 gj) (Ls:bF P w K mg base 3 "_law_due" o_ IC) (yq:bF P w K mg base 2 "_law_mirrored" ij EY) (ly:bF P w K mg base 4 "_law_passrows" ik rJ) (yr:bF P w K mg base 2 "_law_part" iU pW) (FC:bF P w K mg base 1 "_law_words" lh Br) (Fy:bF P w K mg base 3 "_law_order" k8 yf) (yF:uN P w K mg base cD 3 "Desk" ia (Bc cD cN cL)) (eW:cq P w K mg base cD 10 "do" qQ (IB cD cN cL T)) (jL:cq P w K mg base cD 5 "lane" mW (Be cD cN cL)) (jK:cq P w K mg base cD 1 "book" mV (Bb cD cN cL)) (iQ:cq P w K mg base cN 5 "place" kZ (yd cN cL eC)) (dw:cq P w K mg base cN 1 "order" gO (rG cN cL)) :
  aH P w K mg base (cg P w) 11 f fd Ki (cH K (zV [T])):=by
 simp_arith [dt,(ai (aE (i:=1) dt.nd (aQ l7 B hr (af (aQ yp B hr (af (rv 0) (af ag ah))) (af (m9 (wg [.int 7,.int 41,.int 4,.int 400000,.int 60] rfl [.int 7,.int 41,.int 4,.int 400000,.int 60] rfl)) ah))))
   (ai (aE (i:=2) dt.nd (aQ Fx B hr (af (aQ yp B hr (af (rv 0) (af ag ah))) (af (az bO ag (au av (rv 1) ag)) ah))))
   (ai (aE (i:=3) dt.nd (m_ yF B hr))
   (ai (aE (i:=4) dt.nd (au av (rv 1) ag))
   (ai (aE (i:=5) dt.nd pT)
   (ai (aY (aJ (fK hr.aV) (a9 (pl:=_) eW B hr (rv 3) (af (bR (af b_ (af (bR (af (rv 4) (af ag ah))) ah))) ah)) (m9 ah)) (ar (aD eL)) aO)
   (ai (cQ bq rfl (iu rfl Z.range (af (aL cJ rfl Z.len boot_len (af (rv 2) ah)) ah)) (ba (i:=6) dt.nd) (ai (aE (i:=7) dt.nd (aQ l7 B hr (af (aQ yp B hr (af (rv 0) (af (az bO ag (rv 6)) ah))) (af (m9 (af ag (af ag ah))) ah))))
   (ai (aE (i:=8) dt.nd (aQ CO B hr (af (au av (rv 7) ag) (af (au av (rv 1) ag) ah))))
   (ai (aE (i:=9) dt.nd (aQ Fz B hr (af (au av (rv 7) ag) (af (au av (rv 1) ag) ah))))
   (ai (aY (aJ (fK hr.aV) (a9 (pl:=_) eW B hr (rv 3) (af (bR (af b_ (af (au av (rv 2) (rv 6)) (af (rv 8) (af (rv 9) ah))))) ah)) (m9 ah)) (ar (aD eL)) aO)
   (ar (wo wM (rv 5) (au av (rv 2) (rv 6)) (bR (af (bR (af (rv 4) (af ag ah))) (af (bR (af (rv 8) (af ag ah))) (af (rv 9) ah)))))))))))
   (ai (aE (i:=10) dt.nd (aQ Fw B hr (af (bR (af (rv 4) (af ag ah))) (af (az bO (az bO ag (az aT (az ed (au av (rv 1) ag) ag) ag)) ag) (af (au av (rv 1) ag) (af (au av (rv 1) ag) ah))))))
   (ai (aE (i:=11) dt.nd (aQ l9 B hr (af (az c8 (az aT ag (au av (rv 10) ag)) (az aT (rv 4) (au av (rv 10) ag))) (af (au av (rv 10) ag) ah))))
   (ai (aE (i:=12) dt.nd (aQ Ls B hr (af (rv 5) (af (bR (af (rv 4) (af ag ah))) (af (rv 10) ah)))))
   (ai (aE (i:=13) dt.nd (aQ yq B hr (af (rv 12) (af (rv 5) (af (rv 4) (af (rv 10) (af (rv 11) ah)))))))
   (ai (aY (dF (j0 (cW (bz (aQ ly B hr (af (a9 (pl:=_) eW B hr (rv 3) (af (bR (af b_ (af (rv 10) ah))) ah)) (af (rv 12) ah))))) (f' (aJ (fK hr.aV) (a9 (pl:=_) eW B hr (rv 3) (af (bR (af b_ ah)) ah)) (m9 ah))))) (ar (aD eL)) aO)
   (ai (aY (cW (bz (aQ ly B hr (af (a9 (pl:=_) eW B hr (rv 3) (af (bR (af b_ (af (rv 11) ah))) ah)) (af (rv 13) ah))))) (ar (aD eL)) aO)
   (ai (aE (i:=14) dt.nd (c4 (pl:=_) jL B hr (rv 3)))
   (ai (aE (i:=15) dt.nd pT)
   (ai (cQ bq rfl (fP (rv 5)) (ba (i:=16) dt.nd) (ai (aY (cW (bz (aQ yr B hr (af (a9 (pl:=_) iQ B hr (rv 14) (af (rv 16) ah)) (af (au av (au cK (rv 5) (rv 16)) ag) ah))))) (ar (aD eL)) aO)
   (ar (wo wM (rv 15) (rv 16) (bR (af (rv 11) (af (au av (au cK (rv 5) (rv 16)) ag) (af (uu oR (au av (au cK (rv 5) (rv 16)) ag)) ah))))))))
   (ai (aY (cW (bz (aQ FC B hr (af (c4 (pl:=_) dw B hr (rv 14)) (af (aQ Fy B hr (af (rv 15) (af (rv 11) ah))) ah))))) (ar (aD eL)) aO)
   (ar (aD (aQ ly B hr (af (c4 (pl:=_) jK B hr (rv 3)) (af (az GF (rv 12) (rv 13)) ah))))))))))))))))))))))]
 ·obtain ⟨ns,rfl,_⟩:=h;rfl
 obtain ⟨ns,rfl,hl,hT,hJ,q⟩:=h
 have hT:J T=some .tab:=hT T (by simp)
 refine hX ?_
 simp_all! []
 refine ⟨ns,0,rfl,by decide,by decide,_,[7,41,4,400000,60],rfl,rA (by decide),by decide,λds hD=>?_⟩
 obtain ⟨d0,ds,rfl,d00,d01,hD⟩:=hD.cons
 obtain ⟨d1,ds,rfl,d10,d11,hD⟩:=hD.cons
 obtain ⟨d2,ds,rfl,d20,d21,hD⟩:=hD.cons
 obtain ⟨d3,ds,rfl,d30,d31,hD⟩:=hD.cons
 obtain ⟨d4,ds,rfl,d40,d41,hD⟩:=hD.cons
 cases hD.nil
 simp_all! []
 refine ⟨ns,1,rfl,by decide,by decide,_,2 + d0,rfl,by omega,by omega,λnames nl nd ng=>?_⟩
 simp_all! []
 intro p hp
 refine ⟨p,rfl,ak,λJ1 k d e o b mv=>⟨rfl,hNq _ _ ?_⟩⟩
 clear hNq Nq
 have mvJ:Mv J J1 (λ_=>False) (k.own p ⟨0,d,e,o,[],[]⟩):=by
  refine (Mv.y_ (S:=λ_=>False) hp).trans ⟨λa u h n=>mv.keep a u h λz=>n (.inr z),λa z=>(mv.own a z).imp .inr id,mv.mono⟩
 have ok0:cy ⟨0,d,e,o,[],[]⟩:=⟨⟨Tn,(by simp),(by simp),(by simp),(by simp),(by simp),Rat.le_refl,Rm _,(by show 0≤100;decide),(by intro n;simp [Ln.fs,Ln.CN]),Tn,(by show 0≤12;decide)⟩,rfl⟩
 have hT1:J1 T=some .tab:=mvJ.keep _ _ hT λz=>z
 simp_all! []
 intro D hD eD
 have nD:¬ k.own p ⟨0,d,e,o,[],[]⟩ D:=λz=>b.some z hD
 refine hNq _ _ ?_
 clear hNq Nq
 have b1:=b.put nD (o:=.dct [] eD)
 have hT2:put J1 D (.dct [] eD) T=some .tab:=by rw [aj (λz=>by subst z;rw [hD] at hT1;cases hT1)];exact hT1
 have hD2:put J1 D (.dct [] eD) D=some (.dct (cj []) eD):=ak
 generalize put J1 D (.dct [] eD)=J2 at b1 hT2 hD2 ⊢
 clear mv mvJ hT hT1 b
 have bo:=b1.ob
 have hgc:fJ ((d1:Int):Rat).num (((d1:Int):Rat).den)=true:=qm (by exact_mod_cast d10) (by rw [Rat.den_intCast];decide) (by rw [Rat.num_intCast,Rat.den_intCast];show d1≤1000000 * (1:Int);omega)
 have egc:PV.tup [.str "go",.tup [.int d1,.int 1]]=Jn ((d1:Int):Rat):=rfl
 simp_all! [bo,egc]
 refine ⟨vf _ _ _ _ _ (by decide +kernel) (by decide +kernel) (by decide +kernel) (by decide +kernel),p,k,_,[],[],_,rfl,b1,ok0,(by decide),(by decide),.inr (.inr ⟨_,rfl,hgc,(by show (0:Rat)≤_;exact_mod_cast d10),λJ3 o3 b3 ok3 mv3=>?_⟩)⟩
 have hD3:=mv3.keep _ _ hD2 nD
 have nD3:=mv3.fresh hD2 nD
 have hT3:=mv3.keep _ _ hT2 (b1.za hT2)
 have epn:bV (Ln.t ⟨0,d,e,o,[],[]⟩) ((Ln.fs ⟨0,d,e,o,[],[]⟩).map (key (Ln.t ⟨0,d,e,o,[],[]⟩))) ((d1:Int):Rat)=[]:=rfl
 rw [epn] at b3 ⊢
 refine ⟨nil_eq.1,nil_eq.2.1,?_⟩
 rw [show eqQ (.fl (([]:List ax).map ax.v)) (.fl [])=true from eq_self _,if_neg (by decide)]
 refine hNq _ _ ?_
 clear hNq Nq
 obtain ⟨L1,hL1⟩:∃L1:Ln,L1={ (⟨0,d,e,o,[],[]⟩:Ln) with t:=((d1:Int):Rat),o:=o3,row:=bZ ((d1:Int):Rat) (Ln.fs ⟨0,d,e,o,[],[]⟩) }:=⟨_,rfl⟩
 have l1c:L1.cs=[]:=by rw [hL1]
 have l1t:L1.t=((d1:Int):Rat):=by rw [hL1]
 have rl1:Rl L1 []:=by
  refine ⟨?_,(by simp),(by simp),(by simp),by rw [l1c];simp⟩
  unfold Ln.fs Ln.CN;rw [l1c];rfl
 rw [← hL1] at b3 ok3 nD3
 clear mv3 hL1 hD2 hT2 b1 bo nD ok0
 simp_all! []
 obtain ⟨Inv,hInv⟩:∃Inv:Nat→Sr→Hq→Prop,∀i τ J',Inv i τ J'↔∃(L:Ln) (gs:List (Str × aZ)) (ep:Nat) (ds:List PV) (u6 u7 u8 u9:Option PV),τ=[some (.fl (ns.map .int)),some (.fl [.int d0,.int d1,.int d2,.int d3,.int d4]),some (.fl (names.map .str)),some (.ref p),some (.int d1),some (.ref D),u6,u7,u8,u9,none,none,none,none,none,none,none]∧fM cD cN cL J' p k L [] ds∧cy L∧Rl L gs∧J' D=some (.dct (cj gs) ep)∧¬ k.own p L D∧L.t=((d1:Int):Rat)∧gs.map (·.1)=names.take i∧(∀x∈gs,x.2.m=((d1:Int):Rat))∧(∀c∈L.cs,c.w.length≤1)∧L.cs.map Cf.n=names.take i∧ds.length≤1 + i∧J' T=some .tab:=⟨_,λ_ _ _=>Iff.rfl⟩
 simp only [Rr]
 refine ⟨by omega,by omega,?_⟩
 refine pP Inv ((hInv _ _ _).mpr ⟨L1,[],_,_,_,_,_,_,rfl,b3,ok3,rl1,hD3,nD3,l1t,rfl,(by simp),by rw [l1c];simp,by rw [l1c];rfl,(by simp),hT3⟩) ?_ ?_
 ·intro i τ J' hi hv
  obtain ⟨L,gs,ep,ds,u6,u7,u8,u9,rfl,bk,ok,rl,hD,nD,lt,gn,gm,wl,cn,dl,hT⟩:=(hInv _ _ _).mp hv
  clear hv b3 ok3 rl1 hD3 nD3 l1t l1c hT3
  have hi':i < names.length:=by omega
  have et:names.take (i + 1)=names.take i ++ [names[i]]:=by rw [RQ,Rt hi'];rfl
  have hnot:names[i] ∉ names.take i:=λz=>by
   have h2:(names.take (i + 1)).Nodup:=nd.sublist (R4 _ _)
   rw [et] at h2
   exact (cF h2).2 z
  have gd:=ng _ (RZ hi')
  have ha:cZ (names.map PV.str) (0 + (i:Int))=some (.str names[i]):=by rw [Int.zero_add];exact bG (by rw [Ry,Rt hi'];rfl)
  generalize names[i]=n at et hnot gd ha
  simp_all! []
  refine ⟨ns,2 + (0 + (i:Int)),rfl,by omega,by omega,_,[2000001,2001],rfl,rA (by decide),by decide,λds' hG=>?_⟩
  obtain ⟨r0,ds',rfl,r00,_,hG⟩:=hG.cons
  obtain ⟨r1,ds',rfl,r10,r11,hG⟩:=hG.cons
  cases hG.nil
  simp_all! []
  refine ⟨r0,d2,rfl,r00,λx hx=>?_⟩
  simp_all! []
  refine ⟨r1,d2,rfl,r10,r11,λv hv=>?_⟩
  have bo:=bk.ob
  have gnl:gs.length=i:=by have:=congrArg Sx gn;rw [Rr,RX] at this;omega
  have hnf:n ∉ L.fs.map (·.1):=by rw [← rl.nm,gn];exact hnot
  have rowl:L.row.length < 12:=by rw [ok.row,mS,← rl.len];omega
  have cl:L.cs.length < 100:=by have:=congrArg Sx cn;rw [Rr,RX] at this;omega
  have gnd:=rl.nd ok.toa8
  have ejv:PV.tup [.str "join",.str n,.int x,.int v]=qx n x v:=rfl
  simp_all! [ha,bo,ejv]
  refine ⟨vf _ _ _ _ _ (by decide +kernel) (by decide +kernel) (by decide +kernel) (by decide +kernel),p,k,L,[],ds,_,rfl,bk,ok,by omega,(by decide),.inl ⟨n,x,v,rfl,hT,gd,⟨hx,hv⟩,by rw [cn];exact hnot,rowl,cl,Dx gd,λJ4 L4 b4 ok4 jn mv4=>?_⟩⟩
  have hD4:=mv4.keep _ _ hD nD
  have nD4:=mv4.fresh hD nD
  have hT4:=mv4.keep _ _ hT (bk.za hT)
  have rl4:=rl.join ok4.toa8 hv hx jn ok.t0 ok.ts hnf
  obtain ⟨ja,jr,jc,jt⟩:=jn
  refine ⟨nil_eq.1,nil_eq.2.1,?_⟩
  rw [show eqQ (.fl []) (.fl [])=true from eq_self _,if_neg (by decide)]
  refine hNq _ _ ?_
  clear hNq Nq
  have elv:PV.tup [.tup [.int d1,.int 1],.tup [.int x,.int 1],.int v]=(aZ.mk ((d1:Int):Rat) (x:Rat) v).V:=rfl
  simp_all! [ha,hD4,elv]
  refine ⟨aX (by unfold cj;rw [Rr];omega),λep'=>?_⟩
  have hTD:T≠D:=λz=>by rw [z,hD4] at hT4;cases hT4
  rw [lt] at rl4
  have epu:pe (cj gs) n (aZ.mk ((d1:Int):Rat) (x:Rat) v).V=cj (gs ++ [(n,⟨((d1:Int):Rat),(x:Rat),v⟩)]):=qW (f:=aZ.V) (l:=⟨((d1:Int):Rat),(x:Rat),v⟩) (by rw [gn];exact hnot)
  refine (hInv _ _ _).mpr ⟨L4,_,ep',_,_,_,_,_,rfl,b4.put nD4,ok4,rl4,by rw [← epu];exact ak,nD4,by rw [jt];exact lt,by rw [Rw,gn,et];rfl,λy hy=>?_,λc1 hc1=>?_,by rw [jc,Rw,cn,et];rfl,by rw [RL];show ds.length + 1≤_;omega,by rw [aj hTD];exact hT4⟩
  ·rcases RC.mp hy with hy | hy
   ·exact gm y hy
   ·rw [RF] at hy;rw [hy]
  ·rw [jc] at hc1
   rcases RC.mp hc1 with hc1 | hc1
   ·exact wl c1 hc1
   ·rw [RF] at hc1;rw [hc1];exact Rz _
 ·intro τ J' hv
  obtain ⟨L,gs,ep,ds,u6,u7,u8,u9,rfl,bk,ok,rl,hD,nD,lt,gn,gm,wl,cn,dl,hT⟩:=(hInv _ _ _).mp hv
  clear hv b3 ok3 rl1 hD3 nD3 l1t l1c hT3 hInv Inv
  have gl:gs.length≤12:=by rw [rl.len];exact ok.L3
  have gnd:=rl.nd ok.toa8
  have gsz:=rl.sz
  have sc:Sz 900 ((d1:Int):Rat):=by rw [← lt];exact ok.Fu
  have z8:¬ (8 + d3.fdiv 8 * 8 + 1) % 8=0:=by rw [Int.fdiv_eq_ediv_of_nonneg _ (by decide)];omega
  have z9:0≤8 + d3.fdiv 8 * 8 + 1∧8 + d3.fdiv 8 * 8 + 1 < 2 ^ 60:=by rw [Int.fdiv_eq_ediv_of_nonneg _ (by decide)];omega
  have b9:Bd 9000 8:=(Bd.small (x:=8) (by decide) (by decide)).mono (by decide)
  have f8:0≤d3.fdiv 8∧d3.fdiv 8≤400000:=by rw [Int.fdiv_eq_ediv_of_nonneg _ (by decide)];omega
  refine hNq _ _ ?_
  clear hNq Nq
  simp_all! []
  refine ⟨⟨by decide,b9⟩,.of (.small (x:=d3.fdiv 8) (by omega) (by omega)) (.small (x:=8) (by decide) (by decide)),((d1:Int):Rat),_,d4,d2,rfl,z9.1,d40,d20,d21,z9.2,sc,λm hm hgt=>hNq _ _ ?_⟩
  clear hNq Nq
  have cm:=hgt z8
  clear hgt z8 z9
  have c0:(0:Rat)≤((d1:Int):Rat):=by exact_mod_cast d10
  have c40:((d1:Int):Rat)≤40:=by exact_mod_cast (show d1≤40 by omega)
  have md:m.den≤60:=BY hm (by rw [Rat.den_intCast];decide)
  have mu:=DK hm c0
  have gm1:fJ m.num m.den=true:=qm (Rat.le_trans c0 (Rat.le_of_lt cm)) md (DO.mpr (by grind))
  have sm:Sz 240 m:=(oZ (mF gm1).1).mono (by decide)
  obtain ⟨e,he⟩:∃e,e=2 * m - ((d1:Int):Rat):=⟨_,rfl⟩
  have ge1:fJ e.num e.den=true:=qm (by grind) (by rw [he];exact RN (F1 _ _) md) (DO.mpr (by grind))
  have se:Sz 240 e:=(oZ (mF ge1).1).mono (by decide)
  have me:m≤e:=by grind
  simp_all! [gj]
  refine ⟨.of (.small (x:=2) (by decide) (by decide)) sm.num,.of (.small (x:=d1) (by omega) (by omega)) sm.den,dk _,sm.den.mono (by decide),hNq _ _ ?_⟩
  clear hNq Nq
  rw [Di,← he]
  have bo:=bk.ob
  have epk:bV ((d1:Int):Rat) (gs.map (key ((d1:Int):Rat))) m=bV L.t (L.fs.map (key L.t)) m:=by rw [lt];exact uo λx=>(rl.same _ x).symm
  have s240:Sz 240 ((d1:Int):Rat):=by rw [← lt];exact (oZ ok.ts).mono (by decide)
  have kgn:∀t,((gs.map (key t)).map Ky.n).Nodup:=λt=>by rw [cM];exact gnd
  simp_all! []
  refine ⟨D,gs,ep,((d1:Int):Rat),m,rfl,hD,gnd,by omega,s240,sm.mono (by decide),gsz,hNq _ _ ?_⟩
  clear hNq Nq
  simp_all! []
  refine ⟨_,D,gs,ep,d1,m,e,rfl,hD,gnd,gl,gsz,(fR _ _ _).imp (λh z=>by subst z;rw [ax.DR] at h;cases h),RN (um _ _ _ (kgn _) (by rw [Rr];exact gl)) (by decide),λb hb=>⟨by rw [epk] at hb;exact (AO ok hb).2.2,(zm hb).1⟩,d10,by omega,sm,se,λts ts1 ts2=>?_⟩
  have ets:ts=bV m ((eQ m gs).map (key m)) e:=nC ts1 (fR _ _ _) λx=>(ts2 x).trans (mirror he cm gm x).symm
  subst ets
  clear ts1 ts2
  refine hNq _ _ ?_
  clear hNq Nq
  have egm:PV.tup [.str "go",fr m]=Jn m:=rfl
  have ege:PV.tup [.str "go",fr e]=Jn e:=rfl
  have eab:PV.tup [.str "about"]=uP:=rfl
  rw [epk]
  simp_all! [bo,egm]
  refine ⟨vf _ _ _ _ _ (by decide +kernel) (by decide +kernel) (by decide +kernel) (by decide +kernel),p,k,L,[],ds,_,rfl,bk,ok,by omega,(by decide),.inr (.inr ⟨m,rfl,gm1,by rw [lt];exact Rat.le_of_lt cm,λJ5 o5 b5 ok5 mv5=>?_⟩)⟩
  have l144:∀{L:Ln},cy L→∀m,(bV L.t (L.fs.map (key L.t)) m).length≤144:=λ{L} ok m=>um _ _ _ ok.knd (by rw [Rr];exact ok.L3)
  have hD5:=mv5.keep _ _ hD nD
  have nD5:=mv5.fresh hD nD
  have hT5:=mv5.keep _ _ hT (bk.za hT)
  have rl5:Rl { L with t:=m,o:=o5,row:=bZ m L.fs } gs:=⟨rl.nm,rl.ln,rl.ck,λx hx=>Rat.le_trans (rl.le x hx) (by rw [lt];exact Rat.le_of_lt cm),rl.ct⟩
  refine ⟨_,_,rfl,rfl,RN (l144 ok m) (by decide),?_⟩
  have bo5:=b5.ob
  simp_all! [bo5,eab]
  refine ⟨vf _ _ _ _ _ (by decide +kernel) (by decide +kernel) (by decide +kernel) (by decide +kernel),p,k,_,_,_,_,rfl,b5,ok5,?_,?_,.inr (.inl ⟨rfl,λc hc=>Se (wl c hc) (by decide),λJ6 L6 b6 ok6 e6 t6 mv6=>?_⟩)⟩
  ·rw [RL];show ds.length + 1 < 1000;omega
  ·rw [Tf];exact RN (l144 ok m) (by decide)
  refine ⟨nil_eq.1,nil_eq.2.1,?_⟩
  rw [show eqQ (.fl []) (.fl [])=true from eq_self _,if_neg (by decide)]
  have hD6:=mv6.keep _ _ hD5 nD5
  have nD6:=mv6.fresh hD5 nD5
  have hT6:=mv6.keep _ _ hT5 (b5.za hT5)
  have rl6:=rl5.about ok5.toa8 e6 t6
  have t6:L6.t=m:=t6
  refine hNq _ _ ?_
  clear hNq Nq
  have bo6:=b6.ob
  simp_all! [bo6,ege]
  refine ⟨vf _ _ _ _ _ (by decide +kernel) (by decide +kernel) (by decide +kernel) (by decide +kernel),p,k,L6,_,_,_,rfl,b6,ok6,?_,?_,.inr (.inr ⟨e,rfl,ge1,by rw [t6];exact me,λJ7 o7 b7 ok7 mv7=>?_⟩)⟩
  ·rw [RL,RL];show ds.length + 1 + 1 < 1000;omega
  ·rw [Tf];exact RN (l144 ok m) (by decide)
  have hD7:=mv7.keep _ _ hD6 nD6
  have nD7:=mv7.fresh hD6 nD6
  have hT7:=mv7.keep _ _ hT6 (b6.za hT6)
  have epk2:bV L6.t (L6.fs.map (key L6.t)) e=bV m ((eQ m gs).map (key m)) e:=by rw [t6];exact uo λx=>rl6.same _ x
  have l2:=l144 ok6 e
  rw [epk2] at b7 l2 ⊢
  refine ⟨_,_,rfl,rfl,RN l2 (by decide),hNq _ _ ?_⟩
  clear hNq Nq
  have rl7:Rl { L6 with t:=e,o:=o7,row:=bZ e L6.fs } (eQ m gs):=⟨rl6.nm,rl6.ln,rl6.ck,λx hx=>Rat.le_trans (rl6.le x hx) (by rw [t6];exact me),rl6.ct⟩
  obtain ⟨L7,hL7⟩:∃L7:Ln,L7={ L6 with t:=e,o:=o7,row:=bZ e L6.fs }:=⟨_,rfl⟩
  have t7:L7.t=e:=by rw [hL7]
  rw [← hL7] at b7 ok7 rl7 nD7
  have bo7:=b7.ob
  simp_all! [bo7]
  refine ⟨vf _ _ _ _ _ (by decide +kernel) (by decide +kernel) (by decide +kernel) (by decide +kernel),p,k,L7,_,_,rfl,b7,ok7,λJ8 pl L8 s8 b8 ok8 al new=>hNq _ _ ?_⟩
  clear hNq Nq
  have bk8:=b7.sub s8
  have hD8:=s8 _ _ hD7
  have hT8:=s8 _ _ hT7
  have t8:L8.t=e:=by rw [al.t,t7]
  have rl8:Rl L8 (eQ m gs):=rl7.alike al
  have gn8:=rl8.nd ok8.toa8
  simp_all! []
  intro X hX eX
  refine hNq _ _ ?_
  clear hNq Nq
  have hXD:D≠X:=λz=>by subst z;rw [hX] at hD8;cases hD8
  have hXT:T≠X:=λz=>by subst z;rw [hX] at hT8;cases hT8
  have hDX:∀v,put J8 X v D=some (.dct (cj gs) ep):=λv=>by rw [aj hXD];exact hD8
  have bX:∀v,bj cN cL (put J8 X v) pl L8:=λv=>b8.keep λa o ow z=>by rw [aj (λy=>by subst y;exact b8.some ow hX)];exact z
  have hkv:(cj gs).map (λkv=>PV.str kv.1)=gs.map λx=>PV.str x.1:=by unfold cj;rw [RK];rfl
  obtain ⟨tu,htu⟩:∃tu:Str × aZ→Str × aZ,∀x,tu x=(x.1,⟨e,x.2.p,-x.2.v⟩):=⟨_,λ_=>rfl⟩
  have tun:∀xs:List (Str × aZ),(xs.map tu).map (·.1)=xs.map (·.1):=λxs=>by rw [RK];exact R6 λx _=>by show (tu x).1=x.1;rw [htu]
  simp_all! [hDX,hkv]
  obtain ⟨W,hW⟩:∃W:Nat→Sr→Hq→Prop,∀j τ Ja,W j τ Ja↔∃(u16:Option PV) (ex:Nat),τ=[some (.fl (ns.map .int)),some (.fl [.int d0,.int d1,.int d2,.int d3,.int d4]),some (.fl (names.map .str)),some (.ref p),some (.int d1),some (.ref D),u6,u7,u8,u9,some (fr m),some (fr e),some (.fl ((bV L.t (L.fs.map (key L.t)) m).map ax.v)),some (.fl ((bV m ((eQ m gs).map (key m)) e).map ax.v)),some (.ref pl),some (.ref X),u16]∧Ja=put J8 X (.dct (cj ((gs.take j).map tu)) ex):=⟨_,λ_ _ _=>Iff.rfl⟩
  refine dZ W ((hW _ _ _).mpr ⟨_,_,rfl,rfl⟩) (λi τ Ja hv=>?_) ?_ ?_
  ·obtain ⟨u16,ex,rfl,rfl⟩:=(hW _ _ _).mp hv;exact hDX _
  ·intro j y τ Ja hy hv
   obtain ⟨u16,ex,rfl,rfl⟩:=(hW _ _ _).mp hv
   clear hv
   have hj:j < gs.length:=by have:=(Rv.mp hy).1;simpa using this
   rw [Ry,Rt hj] at hy
   cases hy
   have hmem:=RZ hj
   have et:gs.take (j + 1)=gs.take j ++ [gs[j]]:=by rw [RQ,Rt hj];rfl
   have hnot:gs[j].1 ∉ (gs.take j).map (·.1):=λz=>by
    have h2:((gs.take (j + 1)).map (·.1)).Nodup:=gnd.sublist ((R4 _ _).map _)
    rw [et,Rw] at h2
    exact (cF h2).2 z
   generalize gs[j]=y at hmem et hnot ⊢
   obtain ⟨n,l⟩:=y
   have hvn:jx (cj gs) n=some l.V:=gY (f:=aZ.V) gnd hmem
   have ma:(n,jw m l)∈eQ m gs:=Ru.mpr ⟨_,hmem,rfl⟩
   have onm:n∈L8.row:=(ok8.rm _).mpr (by rw [← rl8.nm];exact Ru.mpr ⟨_,ma,rfl⟩)
   have bl:=(bX (.dct (cj ((gs.take j).map tu)) ex)).ob
   have epl:(jw m l).at e=l.p:=by rw [uO,he,show 2 * m - (2 * m - ((d1:Int):Rat))=((d1:Int):Rat) by grind,← gm _ hmem];exact pN l
   simp_all! [bl]
   refine ⟨hV _ _ _ _,pl,L8,n,rfl,bX _,ok8.toa8,λc hc en hg=>?_,λz=>absurd onm z⟩
   have ec:c.cur.at L8.t=l.p:=by
    rw [t8,← epl]
    exact ((rl8.ln n (jw m l) c.cur ma (by rw [← en];exact Ru.mpr ⟨_,Ln.dA.mpr ⟨hc,hg⟩,rfl⟩)).2 e).symm
   rw [ec]
   simp_all! [hDX,hvn,AB]
   refine ⟨l.p,rfl,hNq _ _ ?_⟩
   clear hNq Nq
   have elv:PV.tup [fr e,fr l.p,.int (-l.v)]=(aZ.mk e l.p (-l.v)).V:=rfl
   simp_all! [hDX,hvn,AB,kO,ak,elv]
   refine ⟨aX (by unfold cj;rw [Rr,Rr,RX];omega),λep'=>(hW _ _ _).mpr ⟨_,ep',rfl,?_⟩⟩
   rw [bU,et,Rw]
   have e1:[(n,l)].map tu=[(n,⟨e,l.p,-l.v⟩)]:=by rw [RD,Sq,htu]
   rw [e1]
   exact congrArg (λz=>put J8 X (.dct z ep')) (qW (f:=aZ.V) (l:=⟨e,l.p,-l.v⟩) (by rw [tun];exact hnot))
  intro τ Ja hv
  obtain ⟨u16,ex,rfl,rfl⟩:=(hW _ _ _).mp hv
  clear hv hW W
  rw [Rr,RY]
  have bl:=(bX (.dct (cj (gs.map tu)) ex)).ob
  have hX9:put J8 X (.dct (cj (gs.map tu)) ex) X=some (.dct (cj (gs.map tu)) ex):=ak
  have b9:=bX (.dct (cj (gs.map tu)) ex)
  have bk9:=bk8.sub (Sub.put hX (o:=.dct (cj (gs.map tu)) ex))
  have hT9:put J8 X (.dct (cj (gs.map tu)) ex) T=some .tab:=by rw [aj hXT];exact hT8
  generalize put J8 X (.dct (cj (gs.map tu)) ex)=J9 at bl hX9 b9 bk9 hT9 ⊢
  refine hNq _ _ ?_
  clear hNq Nq
  simp_all! [bl]
  refine ⟨hV _ _ _ _,pl,L8,rfl,b9,.inl ?_⟩
  have eord:L8.row=bZ e (gs.map tu):=by
   rw [ok8.row,t8]
   refine congrArg (TY Ky.n) (xQ (by rw [cM];exact ok8.Lk) (by rw [cM,tun];exact gnd) λx=>?_)
   rw [rl8.same e x]
   have ek:(eQ m gs).map (key e)=(gs.map tu).map (key e):=by
    unfold eQ
    rw [RK,RK]
    refine R6 λy hy=>?_
    show key e (y.1,jw m y.2)=key e (tu y)
    rw [htu]
    unfold Ov.key
    have epl:(jw m y.2).at e=y.2.p:=by rw [uO,he,show 2 * m - (2 * m - ((d1:Int):Rat))=((d1:Int):Rat) by grind,← gm _ hy];exact pN y.2
    have ep2:(⟨e,y.2.p,-y.2.v⟩:aZ).at e=y.2.p:=pN ⟨e,y.2.p,-y.2.v⟩
    simp only [epl,ep2]
    rfl
   rw [ek]
  rw [eord]
  have Fu:∀x∈gs.map tu,nM 900 x.2:=λx hx=>by
   obtain ⟨y,hy,rfl⟩:=Ru.mp hx
   rw [htu]
   exact ⟨se.mono (by decide),(gsz y hy).p.mono (by decide),(gsz y hy).v.neg⟩
  simp_all! []
  refine ⟨X,gs.map tu,ex,e,rfl,hX9,by rw [tun];exact gnd,by rw [Rr];omega,se.mono (by decide),Fu,_,rfl,by rw [mS,Rr];omega,hNq _ _ ?_⟩
  clear hNq Nq
  have bo9:=bk9.ob
  simp_all! [bo9]
  have l1:=l144 ok m
  refine ⟨vf _ _ _ _ _ (by decide +kernel) (by decide +kernel) (by decide +kernel) (by decide +kernel),p,k,L7,_,_,rfl,bk9,?_⟩
  rw [Tf,Rw]
  exact ⟨by rw [Rr,Rr];exact RN (Nat.add_le_add l1 l2) (by decide),bV L.t (L.fs.map (key L.t)) m ++ bV m ((eQ m gs).map (key m)) e,_,by rw [Rw],by rw [Rw];rfl,by rw [RL];omega,q J9 (by simpa using hT9)⟩
end
theorem IW {P:Program} {w:World} {K:PySem.W.Frag} {mg:Str→Option Value} (Z:bD mg) (N:nW K mg) {jf:Tok} (fV:mg "FARTHEST"=some (.int 1000000 jf)) {kF:Tok} (g_:mg "FASTEST"=some (.int 1000 kF)) {nE:Tok} (jF:mg "FINEST"=some (.int 60 nE)) {nF:Tok} (jG:mg "LATEST"=some (.int 1000000 nF)) {kG:Tok} (hE:mg "LONGEST"=some (.int 8 kG)) {wQ:Tok} (qk:mg "MOST"=some (.int 12 wQ)) {pX:Tok} (mD:mg "SIGNS"=some (.str "abcdefghijklmnopqrstuvwxyz0123456789" pX)) {oV:Addr} (cS:Own K mg "BadMoment" oV) {tY:Addr} (g6:Own K mg "BadName" tY) {Df:Addr} (p8:Own K mg "Full" Df) {tZ:Addr} (g7:Own K mg "NoCraft" tZ) {qi:Addr} (dh:Own K mg "NotThere" qi) {Dg:Addr} (p9:Own K mg "Past" Dg) {An:Addr} (mj:Own K mg "Taken" An) {xq:Addr} (jz:Own K mg "TooFar" xq) (X_Log:∃C,df K mg "Log" C∧aA K C "rows"∧aA K C "gone"∧cV K C "__init__" "Log.__init__" gg∧cV K C "turn" "Log.turn" lN∧cV K C "twin" "Log.twin" lO∧cV K C "there" "Log.there" j_∧cV K C "leg_at" "Log.leg_at" jb) (X_Lane:∃C,df K mg "Lane" C∧aA K C "now"∧aA K C "logs"∧aA K C "row"∧cV K C "__init__" "Lane.__init__" fH∧cV K C "twin" "Lane.twin" gH∧cV K C "must_be_there" "Lane.must_be_there" dr∧cV K C "leg_of" "Lane.leg_of" gR∧cV K C "settle" "Lane.settle" fh∧cV K C "join" "Lane.join" j8∧cV K C "place" "Lane.place" i_∧cV K C "clock" "Lane.clock" i5∧cV K C "order" "Lane.order" i9∧cV K C "order_at" "Lane.order_at" dT∧cV K C "meets" "Lane.meets" i8∧cV K C "foretold" "Lane.foretold" fI∧cV K C "go_to" "Lane.go_to" i6∧cV K C "turn" "Lane.turn" j9∧cV K C "leave" "Lane.leave" i7∧cV K C "about" "Lane.about" i4) (X_Bells:∃C,df K mg "Bells" C∧aA K C "rows"∧cV K C "__init__" "Bells.__init__" e_∧cV K C "drop" "Bells.drop" fQ∧cV K C "put" "Bells.put" j5∧cV K C "told" "Bells.told" iX) (X_Crown:∃C,df K mg "Crown" C∧cV K C "note" "Crown.note" iY) (X_Desk:∃C,df K mg "Desk" C∧aA K C "water"∧aA K C "passings"∧aA K C "deeds"∧aA K C "crowns"∧cV K C "__init__" "Desk.__init__" fG∧cV K C "watch" "Desk.watch" iZ∧cV K C "unwatch" "Desk.unwatch" gf∧cV K C "note_all" "Desk.note_all" dS∧cV K C "carry_out" "Desk.carry_out" fb∧cV K C "do" "Desk.do" oB∧cV K C "lane" "Desk.lane" j7∧cV K C "book" "Desk.book" j6) (IL:Def K mg "_law_cell" zO) (CU:Def K mg "shared" rb) (yt:Def K mg "fraction" lP) (Lw:Def K mg "_law_low" EN) (IM:Def K mg "less" zP) (IQ:Def K mg "plus" zR) (FE:Def K mg "minus" wt) (FI:Def K mg "times" wx) (CS:Def K mg "_law_digits" q_) {gy:Addr} (gx:yy K mg "good_name" gI gy) (FF:Def K mg "_law_names" nk) (yx:Def K mg "place_on" lT) (BF:Def K mg "last_by" oC) (r8:Def K mg "lies_behind" gT) (yu:Def K mg "in_order" lQ) (r_:Def K mg "rings_ahead" gU) (BG:Def K mg "meeting" oE) (l_:Def K mg "in_lowest_terms" eA) (rZ:Def K mg "good_moment" gS) (FJ:Def K mg "_law_whole" wy) (IP:Def K mg "_law_part" zQ) (FK:Def K mg "_law_words" wz) (BH:Def K mg "_law_passrow" oF) (yw:Def K mg "_law_passrows" lS) (CT:Def K mg "_law_placed" ra) (FH:Def K mg "_law_paced" wu) (OA:Def K mg "_law_at" KA) (FD:Def K mg "_law_later" wq) (CP:Def K mg "_law_before" q9) (FG:Def K mg "_law_order" pV) (Lu:Def K mg "_law_due" EM) (yv:Def K mg "_law_mirrored" lR) {f:Addr} {fd:FuncData} (F:bP K "law" "law" A4 f fd) (base:Heap) (Bm:BMain mg base) :
  aH P w K mg base (cg P w) 11 f fd ["_law_script"] (cH K (zV [gy])):=by
 obtain ⟨xk,bx,aM,bM,pw,w_,xa,uL,sG⟩:=X_Log
 obtain ⟨I8,ay,aB,aI,aF,nS,uK,jk,p6,p7,uI,sF,sx,sE,nU,sD,nT,sy,uJ,sC,sv⟩:=X_Lane
 obtain ⟨Of,bA,aW,mh,sj,uF,sk⟩:=X_Bells
 obtain ⟨Og,CW,so⟩:=X_Crown
 obtain ⟨OI,aU,aP,bt,c7,cI,nN,su,pv,nQ,mi,yE,uH,uG⟩:=X_Desk
 have IS:=IL.dH (P:=P) (w:=w) (base:=base) (λ_ _ F=>DZ F Z) λ_ _ _ _ _ _=>jg λ_ _=>rfl
 have w9:=CU.dH (P:=P) (w:=w) (base:=base) (λ_ _ F=>zh F Z) λ_ _ _ _ _ _=>jg λ_ _=>rfl
 have iz:=yt.dH (λ_ _ F=>vE F Z cS w9) λ_ _ _ _ _ _=>jg λ_ _=>rfl
 have w8:=Lw.dH (P:=P) (w:=w) (base:=base) (λ_ _ F=>Gx F Z) λ_ _ _ _ _ _=>jg λ_ _=>rfl
 have lB:=IM.dH (P:=P) (w:=w) (base:=base) (λ_ _ F=>D0 F Z) λ_ _ _ _ _ _=>jg λ_ _=>rfl
 have IT:=IQ.dH (λ_ _ F=>D3 F Z iz) λ_ _ _ _ _ _=>jg λ_ _=>rfl
 have Ac:=FE.dH (λ_ _ F=>Cd F Z iz) λ_ _ _ _ _ _=>jg λ_ _=>rfl
 have FR:=FI.dH (λ_ _ F=>Cj F Z iz) λ_ _ _ _ _ _=>jg λ_ _=>rfl
 have wZ:=CS.dH (P:=P) (w:=w) (base:=base) (λ_ _ F=>zf F Z) λ_ _ _ _ _ _=>jg λ_ _=>rfl
 have w6:=gx.dH (P:=P) (w:=w) (base:=base) (λ_ _ _ F=>tw F Z Bm hE mD) λ_ _ _ _ _ _=>xi λ_=>rfl
 have FO:=FF.dH (λ_ _ F=>Ce F Z wZ) λ_ _ _ _ _ _=>jg λ_ _=>rfl
 have iB:=yx.dH (λ_ _ F=>vI F Z IT Ac FR) λ_ _ _ _ _ _=>jg λ_ _=>rfl
 have BJ:=BF.dH (λ_ _ F=>xM F Z lB) λ_ _ _ _ _ _=>jg λ_ _=>rfl
 have sh:=r8.dH (λ_ _ F=>pH F Z iB lB) λ_ _ _ _ _ _=>Qt λ_ _ _ _ _=>rfl
 have p5:=yu.dH (λ_ _ F=>vF F Z sh) λ_ _ _ _ _ _=>jg λ_ _=>rfl
 have tR:=pw.Ol (P:=P) (w:=w) (base:=base) bx (λ_ _ F=>xI F bx aM bM) λ_ _ _ _ _ _=>LF λ_ _ _ _=>rfl
 have lK:=w_.l6 (mg:=mg) bx.cl (λ_ _ F=>xJ F Z bx aM iB) λ_ _ _ _ _ _=>HF λ_ _ _=>rfl
 have lL:=xa.l6 (mg:=mg) bx.cl (λ_ _ F=>xK F Z bx aM bM tR) λ_ _ _ _ _ _=>xi λ_=>rfl
 have d5:=uL.l6 (mg:=mg) bx.cl (λ_ _ F=>vD F Z bx aM bM lB) λ_ _ _ _ _ _=>jg λ_ _=>rfl
 have dy:=sG.l6 (mg:=mg) bx.cl (λ_ _ F=>tq F Z bx aM dh d5 BJ) λ_ _ _ _ _ _=>jg λ_ _=>rfl
 have nV:=nS.Ol (P:=P) (w:=w) (base:=base) ay (λ_ _ F=>vw F (cL:=xk) N ay aB aI aF) λ_ _ _ _ _ _=>xi λ_=>rfl
 have jP:=uK.l6 (mg:=mg) ay.cl (λ_ _ F=>vC F Z ay aB aI aF nV lL) λ_ _ _ _ _ _=>xi λ_=>rfl
 have dm:=jk.l6 (P:=P) (w:=w) (base:=base) (mg:=mg) ay.cl (λ_ _ F=>jm F Z (cL:=xk) ay aF g7) λ_ _ _ _ _ _=>jg λ_ _=>rfl
 have bh:=p6.l6 (mg:=mg) ay.cl (λ_ _ F=>qF F Z ay aI aB dm dy) λ_ _ _ _ _ _=>jg λ_ _=>rfl
 have bL:=p7.l6 (mg:=mg) ay.cl (λ_ _ F=>qG F Z ay aF aB bh p5) λ_ _ _ _ _ _=>xi λ_=>rfl
 have jM:=uI.l6 (mg:=mg) ay.cl (λ_ _ F=>vA F Z ay aF aB aI fV g_ qk g6 jz mj p8 w6 tR bL) λ_ _ _ _ _ _=>LF λ_ _ _ _=>rfl
 have iQ:=sF.l6 (mg:=mg) ay.cl (λ_ _ F=>tm F Z ay aB bh iB) λ_ _ _ _ _ _=>jg λ_ _=>rfl
 have iL:=sx.l6 (P:=P) (w:=w) (base:=base) (mg:=mg) ay.cl (λ_ _ F=>sX F Z (cL:=xk) ay aB) λ_ _ _ _ _ _=>xi λ_=>rfl
 have dw:=sE.l6 (P:=P) (w:=w) (base:=base) (mg:=mg) ay.cl (λ_ _ F=>tj F Z (cL:=xk) ay aF) λ_ _ _ _ _ _=>xi λ_=>rfl
 have fB:=nU.l6 (mg:=mg) ay.cl (λ_ _ F=>oq F Z N ay aB aI dh d5 dy lB p5) λ_ _ _ _ _ _=>jg λ_ _=>rfl
 have si:=r_.dH (λ_ _ F=>pI F Z lB) λ_ _ _ _ _ _=>jg λ_ _=>rfl
 have uM:=mh.Ol (P:=P) (w:=w) (base:=base) bA (λ_ _ F=>sS F bA aW) λ_ _ _ _ _ _=>xi λ_=>rfl
 have iG:=sj.l6 (P:=P) (w:=w) (base:=base) (mg:=mg) bA.cl (λ_ _ F=>sQ F Z bA aW) λ_ _ _ _ _ _=>HF λ_ _ _=>rfl
 have jJ:=uF.l6 (mg:=mg) bA.cl (λ_ _ F=>vo F Z bA aW iG si) λ_ _ _ _ _ _=>LF λ_ _ _ _=>rfl
 have iH:=sk.l6 (P:=P) (w:=w) (base:=base) (mg:=mg) bA.cl (λ_ _ F=>sT F Z bA aW) λ_ _ _ _ _ _=>xi λ_=>rfl
 have BK:=BG.dH (λ_ _ F=>xN F Z N iB Ac iz) λ_ _ _ _ _ _=>jg λ_ _=>rfl
 have iP:=sD.l6 (mg:=mg) ay.cl (λ_ _ F=>s_ F Z ay aB bh BK lB) λ_ _ _ _ _ _=>HF λ_ _ _=>rfl
 have mf:=l_.dH (λ_ _ F=>kI F Z w9) λ_ _ _ _ _ _=>xi λ_=>rfl
 have sf:=rZ.dH (λ_ _ F=>pG F Z jF jG mf) λ_ _ _ _ _ _=>xi λ_=>rfl
 have fA:=nT.l6 (mg:=mg) ay.cl (λ_ _ F=>oj F Z ay aB aF cS p9 sf lB uM iP jJ iH) λ_ _ _ _ _ _=>jg λ_ _=>rfl
 have iM:=sy.l6 (mg:=mg) ay.cl (λ_ _ F=>sY F Z ay aB fA bL) λ_ _ _ _ _ _=>jg λ_ _=>rfl
 have jN:=uJ.l6 (P:=P) (w:=w) (base:=base) (mg:=mg) ay.cl (λ_ _ F=>vB F) λ_ _ _ _ _ _=>HF λ_ _ _=>rfl
 have iN:=sC.l6 (P:=P) (w:=w) (base:=base) (mg:=mg) ay.cl (λ_ _ F=>sZ F) λ_ _ _ _ _ _=>jg λ_ _=>rfl
 have iK:=sv.l6 (mg:=mg) ay.cl (λ_ _ F=>sW F Z ay aF aI aB bh lK bL) λ_ _ _ _ _ _=>xi λ_=>rfl
 have iI:=so.l6 (P:=P) (w:=w) (base:=base) (mg:=mg) CW.cl (λ_ _ F=>sU F) λ_ _ _ _ _ _=>HF λ_ _ _=>rfl
 have yF:=nN.Ol aU (λ_ _ F=>vq F aU aP bt c7 cI nV) λ_ _ _ _ _ _=>xi λ_=>rfl
 have iJ:=su.l6 (P:=P) (w:=w) (base:=base) (mg:=mg) aU.cl (λ_ _ F=>sV F) λ_ _ _ _ _ _=>HF λ_ _ _=>rfl
 have fY:=pv.l6 (P:=P) (w:=w) (base:=base) (mg:=mg) aU.cl (λ_ _ F=>pF F) λ_ _ _ _ _ _=>jg λ_ _=>rfl
 have fz:=nQ.l6 (mg:=mg) aU.cl (λ_ _ F=>oi F Z aU aP cI fB iL dw iI) λ_ _ _ _ _ _=>jg λ_ _=>rfl
 have eV:=mi.l6 (mg:=mg) aU.cl (λ_ _ F=>mO F Z aU aP iM jM iN jN iK iJ fY) λ_ _ _ _ _ _=>jg λ_ _=>rfl
 have eW:=yE.l6 (mg:=mg) aU.cl (λ_ _ F=>zd F Z aU c7 bt eV fz) λ_ _ _ _ _ _=>jg λ_ _=>rfl
 have jL:=uH.l6 (mg:=mg) aU.cl (λ_ _ F=>vt F Z aU aP jP) λ_ _ _ _ _ _=>xi λ_=>rfl
 have jK:=uG.l6 (P:=P) (w:=w) (base:=base) (mg:=mg) aU.cl (λ_ _ F=>vp F Z (cN:=I8) (cL:=xk) aU bt) λ_ _ _ _ _ _=>xi λ_=>rfl
 have FT:=FJ.dH (P:=P) (w:=w) (base:=base) (λ_ _ F=>Ck F Z) λ_ _ _ _ _ _=>xi λ_=>rfl
 have CY:=IP.dH (λ_ _ F=>D1 F Z FT) λ_ _ _ _ _ _=>jg λ_ _=>rfl
 have FU:=FK.dH (P:=P) (w:=w) (base:=base) (λ_ _ F=>Cm F Z) λ_ _ _ _ _ _=>jg λ_ _=>rfl
 have BL:=BH.dH (λ_ _ F=>xO F Z CY) λ_ _ _ _ _ _=>jg λ_ _=>rfl
 have yD:=yw.dH (λ_ _ F=>vH F Z BL) λ_ _ _ _ _ _=>jg λ_ _=>rfl
 have CZ:=CT.dH (P:=P) (w:=w) (base:=base) (λ_ _ F=>zg F Z) λ_ _ _ _ _ _=>jg λ_ _=>rfl
 have FQ:=FH.dH (P:=P) (w:=w) (base:=base) (λ_ _ F=>Ci F Z) λ_ _ _ _ _ _=>jg λ_ _=>rfl
 have Ly:=OA.dH (λ_ _ F=>JM F Z w8) λ_ _ _ _ _ _=>jg λ_ _=>rfl
 have FN:=FD.dH (λ_ _ F=>Cc F Z w8) λ_ _ _ _ _ _=>LF λ_ _ _ _=>rfl
 have pZ:=CP.dH (P:=P) (w:=w) (base:=base) (λ_ _ F=>ze F Z) λ_ _ _ _ _ _=>jg λ_ _=>rfl
 have FP:=FG.dH (λ_ _ F=>Cg F Z Ly pZ) λ_ _ _ _ _ _=>jg λ_ _=>rfl
 have Lz:=Lu.dH (λ_ _ F=>Gv F Z Ly w8 pZ) λ_ _ _ _ _ _=>HF λ_ _ _=>rfl
 have yC:=yv.dH (λ_ _ F=>vG F Z w8 pZ) λ_ _ _ _ _ _=>Qt λ_ _ _ _ _=>rfl
 exact Gw F Z IS wZ FO CZ FQ FN w8 Lz yC yD CY FU FP yF eW jL jK iQ dw
end Ov
namespace PySem.W.Fast
def tw10528033143645636637:=0
def tw2775479462983546045:=0
def tw16162198394749501989:=0
def tw4286022043759834566:=0
def tw12191086725431345872:=0
def tw383145359914106166:=0
def tw9070164452573852594:=0
def tw15144431070261207693:=0
def tw9451085938799423409:=0
def tw7617033995035939040:=0
def tw14235055582452365585:=0
def tw6673976220987324201:=0
def tw14206558185263935898:=0
def tw9269780938875283958:=0
def tw14147787364894307388:=0
def tw3090173443268694551:=0
def tw4691276754833557826:=0
def tw15692893038641478831:=0
def tw746429136192509983:=0
def tw16599611644420537360:=0
def tw12859964676656398344:=0
def tw5354666186352910506:=0
def tw14072478372519174345:=0
def tw15866432089922812625:=0
def tw11021341345623388980:=0
def tw10370764702103532075:=0
def tw13069212514300809434:=0
def tw2732894221809511223:=0
def tw2610896176008230942:=0
def tw1245500474207399316:=0
def tw9972066599124684800:=0
def tw11054681468760552613:=0
def tw3696525772248531280:=0
def tw1863139130743466872:=0
def tw16664030765096716257:=0
def tw15521897042766452766:=0
def tw1309410956668769878:=0
def tw2346224464952626837:=0
def tw9390033298582007547:=0
def tw11085782374487706849:=0
def tw8758015791264759000:=0
def tw1757128734617136947:=0
def tw2369157972894872647:=0
def tw3671552365094903878:=0
def tw6655303786311077374:=0
def tw3663029943104354181:=0
def tw674829247317371989:=0
def tw5171550174561091673:=0
def tw6949414577508918975:=0
def tw13957540957373370074:=0
def tw14579413921577341966:=0
def tw10523503070158151036:=0
def tw1293514678474796951:=0
def tw12911655260025566786:=0
def tw16841289508783661200:=0
def tw17980868019563732157:=0
def tw11211101931469025253:=0
def tw6323087371363707459:=0
def tw17776637770687330682:=0
def tw15228335974367778427:=0
def tw14507084438907629068:=0
def tw3772456732016868443:=0
def tw16245449492514188950:=0
def tw3146392898132893200:=0
def tw11615143970506776767:=0
def tw12900061236045999942:=0
def tw7215706323910107377:=0
def tw1550737938735980735:=0
def tw10438396694855996563:=0
def tw5881677254288979811:=0
def tw2139689421776334834:=0
def tw1606159851057535464:=0
def tw408319417789373404:=0
def tw10920315089841365856:=0
def tw15674963363541454490:=0
def tw3398625742744321577:=0
def tw12264721963802738801:=0
def tw2899706000351930290:=0
def tw18130716593787131824:=0
def tw4661038471080781949:=0
def tw683207142720981726:=0
def tw11806642994690942117:=0
def tw17425832018814210875:=0
def tw2556461831075017556:=0
def tw17983024200192936488:=0
def tw11164449658443317727:=0
def tw106921173053851099:=0
def tw2885990810315569002:=0
def tw8556833746482138896:=0
def tw16570066648100753743:=0
def tw8833379475975523169:=0
def tw10555110003014148969:=0
def tw8584727694515368100:=0
def tw13260848341774807663:=0
def tw10037015741143055971:=0
def tw18314203218157395924:=0
def tw12741161433890076202:=0
def tw2204841486748031336:=0
def tw7739624212665624556:=0
def tw7184416341984216429:=0
def tw16590098298881940845:=0
def tw17324528083728176473:=0
def tw7446648701589157878:=0
def tw11540579163077226470:=0
def tw7493313494926645171:=0
def tw2647137643672038071:=0
def tw1297400005272785431:=0
def tw10988287055582900473:=0
def tw7651995546135599458:=0
def tw8754896156901876261:=0
def tw7971251723573601864:=0
def tw16809300765552339138:=0
def tw577460403675679562:=0
def tw15830995117712101708:=0
def tw13238680235509470406:=0
def tw7150932119453750852:=0
def tw174276620967946111:=0
def tw6210979909160572537:=0
def tw1460416494674012088:=0
def tw8776660559421586930:=0
def tw5854513285471759081:=0
def tw3049487751564424983:=0
def tw18020393372818311238:=0
def tw3666491567154698571:=0
def tw3337795005897405311:=0
def tw6152375050235753618:=0
def tw17757776682637901494:=0
def tw10995384496803944082:=0
def tw797813925097040139:=0
def tw3417782061075133608:=0
def tw10999305880548814277:=0
def tw15702865663991594771:=0
def tw3128721185753326341:=0
def tw5514606664616975794:=0
def tw3953963510614016781:=0
def tw15682945385799394960:=0
def tw11081410969419315507:=0
def tw4144217785383723682:=0
def tw2155270257287684025:=0
def tw12018411355823888820:=0
def tw17109284649501491311:=0
def tw14403735606034255758:=0
def tw11663020328521952480:=0
def tw3705754086879485813:=0
def tw14005465800079788927:=0
def tw12371306288739757467:=0
def tw2149312233321861221:=0
def tw2975593049900422513:=0
def tw13798580003844185850:=0
def tw2570895934084792569:=0
def tw35008495674698216:=0
def tw15518192452139609374:=0
def tw12679511231245967962:=0
def tw12347618196209041808:=0
def tw2627177634659293372:=0
def tw8056826189424498876:=0
def tw16702416526471876129:=0
def tw10612596552137546825:=0
def tw9579456665486672728:=0
def tw4037422552467688215:=0
def tw16554113109044995758:=0
def tw14121663207223714535:=0
def tw9475265864604551718:=0
def tw2585914393891286198:=0
def tw5004699394718845210:=0
def tw17239423716958020592:=0
def tw7397426601772806825:=0
def tw18062705890043077597:=0
def tw14610836623156012657:=0
def tw7658116389404790639:=0
def tw17052361864976717239:=0
def tw14690156912651190030:=0
def tw4356221546764177899:=0
def tw18341676641538973232:=0
def tw4161740515401374847:=0
def tw7883063787488855642:=0
def tw14805427320215804343:=0
def tw7918539526370550164:=0
def tw7152314885251880800:=0
def tw1693288396278000025:=0
def tw16822217718444284603:=0
def tw8645612393265931143:=0
def tw13148075297949637657:=0
def tw895554333747591765:=0
def tw1673942724080990282:=0
def tw13292092952268624094:=0
def tw7511339037870836473:=0
def tw12685722022676866522:=0
def tw4928076660504372774:=0
def tw16462878745195720501:=0
def tw9308031919080704943:=0
def tw4364472065724391410:=0
def tw5872308807414050493:=0
def tw11814166293531949244:=0
def tw18202117529187458480:=0
def tw11689222487779594715:=0
def tw12279976474309032040:=0
def tw10572571049938223631:=0
def tw11599621624285637084:=0
def tw17646080608250002589:=0
def tw12334399185821988025:=0
def tw16859673858220132344:=0
def tw7324473793004036260:=0
def tw933131288509937834:=0
def tw4742983782379246558:=0
def tw12700691944978846574:=0
def tw1865716120269986152:=0
def tw16476510479688118628:=0
def tw17575483567018313763:=0
def tw11715717099468791654:=0
def tw14021626949774462833:=0
def tw8697685091513124032:=0
def tw15661881231173031618:=0
def tw5740678067485475327:=0
def tw7925884860424209604:=0
def tw16420536545037778878:=0
def tw12128287124400705176:=0
def tw3871839802092605187:=0
def tw13568863936357488836:=0
def tw638947682721805615:=0
def tw12545250180107579322:=0
def tw6376579416473532491:=0
def tw9945454512084395142:=0
def tw5158435775530809576:=0
def tw9262146742178938532:=0
def tw6763748064115374131:=0
def tw16242751980746189811:=0
def tw18193768760077315673:=0
def tw16724568557649919491:=0
def tw10726490651177981848:=0
def tw10056486935978198297:=0
def tw1680439798109268039:=0
def tw2178174160356450974:=0
def tw10946286919319320172:=0
def tw773390752605167007:=0
def tw16322925730775326255:=0
def tw17207067659632444383:=0
def tw12131310190010884080:=0
def tw10930804025228836801:=0
def tw10165211833275790524:=0
def tw10763377398099901663:=0
def tw17794893766384493470:=0
def tw16063687066495405008:=0
def tw9606427838501337626:=0
def tw17755121827461039289:=0
def tw15367086902724628124:=0
def tw14487848185777921465:=0
def tw6876977531082417905:=0
def tw10325082702158586018:=0
def tw14418694272501989748:=0
def tw4872584117759239506:=0
def tw7675471161648865617:=0
def tw6655133044249761605:=0
def tw4093004542287864788:=0
def tw13901514839202463449:=0
def tw4350729943903876152:=0
def tw15623121067795527671:=0
def tw1266246022824019411:=0
def tw10736836059091127024:=0
def tw16404140494193380649:=0
def tw2496521911133955971:=0
def tw4277166243462287296:=0
def tw2839011340057066237:=0
def tw894605148724032988:=0
def tw5591315679245887344:=0
def tw11337323214534278987:=0
def tw3877355181157814859:=0
def tw6096644990461616292:=0
def tw2556540905195344850:=0
def tw7579985064454877169:=0
def tw9386736741287855591:=0
def tw13159056563439361418:=0
def tw9998100431373428513:=0
def tw9586202357123433816:=0
def tw13967997630093242128:=0
def tw14498003121709573997:=0
def tw17248854413267543315:=0
def tw11516061563394707537:=0
def tw14207374866754590602:=0
def tw18353788251830341604:=0
def tw16366628569545223590:=0
def tw16371977498118418240:=0
def tw5219730520681425870:=0
def tw11945279245426191584:=0
def tw2580368230475534347:=0
def tw7598506483290420372:=0
def tw17352412432584484526:=0
def tw10761929440751853872:=0
def tw12879835325166414064:=0
def tw7801258988788573603:=0
def tw7382125482503499885:=0
def tw6662690035765968974:=0
def tw4964510642801668978:=0
def tw16950113548203643157:=0
def tw12837861821112183302:=0
def tw13307042556801063009:=0
def tw16457191989828377124:=0
def tw4870405033911958613:=0
def tw10670603702934343456:=0
def tw18241004605082202848:=0
def tw11883172180390498306:=0
def tw11270208018675909939:=0
def tw10213636233125581327:=0
def tw15872828035310606310:=0
def tw12277215068001900647:=0
def tw13976487063482060509:=0
def tw15238947794250309939:=0
def tw13330959688141931667:=0
def tw5295308581794371850:=0
def tw17398250046768462929:=0
def tw993180049142521930:=0
def tw16010713819050664494:=0
def tw13259808717134628858:=0
def tw1080706147428697957:=0
def tw9399474993470599566:=0
def tw7022328280852746060:=0
def tw2826577165213222318:=0
def tw1366888829024122006:=0
def tw12748433553227552060:=0
def tw3394253295572039815:=0
def tw8484643300857861766:=0
def tw17215881132239373174:=0
def tw9068937193530976174:=0
def tw5573874157086396612:=0
def tw3128538110826051318:=0
def tw15759383052629080525:=0
def tw15523146205873168632:=0
def tw14897410882744723799:=0
def tw11193764082149780644:=0
def tw10958922561279478952:=0
def tw17863027922733234316:=0
def tw16318164897536784715:=0
def tw7533549099029986424:=0
def tw4489075205541772343:=0
def tw12332313683516421254:=0
def tw6558572427306310524:=0
def tw9046851487456859473:=0
def tw3445591268790893968:=0
def tw2617584979014949523:=0
def tw383568503040938449:=0
def tw5570996679435050827:=0
def tw15822794088720245901:=0
def tw5783569331650186086:=0
def tw10681429500816103379:=0
def tw12138465873992306256:=0
def tw17788246429580057015:=0
def tw15965326658909919681:=0
def tw3484463252975385114:=0
def tw12653308851866515543:=0
def tw404155300555560243:=0
def tw17142553580819310590:=0
def tw10271309052975015257:=0
def tw14138510143262175818:=0
def tw10186423209807963353:=0
def tw311637862687993941:=0
def tw2506023371777442150:=0
def tw13334937208947161721:=0
def tw17094329698984632747:=0
def tw1384113019152690311:=0
def tw1224501923875385025:=0
def tw13923186863915557874:=0
end PySem.W.Fast
open PySem PySem.W PyProof.Rows
set_option hygiene false
local macro_rules | `(tactic| simp_arith)=>`(tactic| (dsimp only [L2.nL];refine' Ov.Je KX G ?a ?l ?c ?k;(case a=>k_is);(case l=>k_is);(case c=>k_is);(case k=>k_is)))
set_option maxRecDepth 100000 in
set_option maxHeartbeats 0 in
theorem PySem.Challenge.cw_overhaul_k48_whole_home_again_holds : PySem.Challenge.rw_overhaul_k48_whole_home_again.Holds := by
 w_on;o_law;k_head;(case hw=>w_witness2)
 k_fill
 refine Ov.Fi (l:=PySem.Challenge.rw_overhaul_k48_whole_home_again) (n:=63) (k:=11) (x:="_law_script") (sp:=Ov.EW) ["good_name"] rfl (by decide) rfl ⟨rfl,by decide,by decide⟩ (λw h Y=>PySem.W.kIn_of Y) ?Nm ?F (λtabs K H a ns hl hT hS hA hK=>⟨a,ns,rfl,hS,hl,hT,hA,hK,λ_ e=>⟨rfl,e⟩⟩)
 case Nm=>decide +kernel
 case F =>
  intro w mg fa h KX G hmg
  obtain ⟨gy,gx⟩:∃T,Ov.yy (L2.nL KX) mg "good_name" Ov.gI T:=by
   dsimp only [L2.nL]
   refine' ⟨_,Ov.F0 KX G ?ga ?gl ?gc ?gk ?gt ?gp ?gb ?ge ?go⟩
   (case ga=>k_is);(case gl=>k_is);(case gc=>k_is);(case gk=>k_is);(case gt=>k_is);(case gp=>rfl);(case gb=>kernel_rfl);(case ge=>decide);(case go=>kernel_rfl)
  have Lv:Ov.Def (L2.nL KX) mg "law" Ov.A4:=by simp_arith
  have Z:Ov.bD mg:=by
   refine' ⟨Ov.Qk.mk (PySem.W.mg_none_of KX G ?z0) (PySem.W.mg_none_of KX G ?z1) (PySem.W.mg_none_of KX G ?z2) (PySem.W.mg_none_of KX G ?z3) (PySem.W.mg_none_of KX G ?z4) (PySem.W.mg_none_of KX G ?z5) (PySem.W.mg_none_of KX G ?z6) (PySem.W.mg_none_of KX G ?z7) (PySem.W.mg_none_of KX G ?z8) (PySem.W.mg_none_of KX G ?z9),PySem.W.mg_none_of KX G ?w0,PySem.W.mg_none_of KX G ?w1,PySem.W.mg_none_of KX G ?w2,PySem.W.mg_none_of KX G ?w3,PySem.W.mg_none_of KX G ?w4⟩
   (case z0=>k_is);(case z1=>k_is);(case z2=>k_is);(case z3=>k_is);(case z4=>k_is);(case z5=>k_is);(case z6=>k_is);(case z7=>k_is);(case z8=>k_is);(case z9=>k_is);(case w0=>k_is);(case w1=>k_is);(case w2=>k_is);(case w3=>k_is);(case w4=>k_is)
  have N:Ov.nW (L2.nL KX) mg:=by
   dsimp only [L2.nL]
   refine' Ov.Ca KX G ?a ?l
   (case a=>k_is);(case l=>k_is)
  obtain ⟨oV,cS⟩:∃C,Ov.Own (L2.nL KX) mg "BadMoment" C:=by
   dsimp only [L2.nL]
   refine' ⟨_,Ov.jT KX G ?a ?b⟩
   (case a=>k_is);(case b=>kernel_rfl)
  obtain ⟨tY,g6⟩:∃C,Ov.Own (L2.nL KX) mg "BadName" C:=by
   dsimp only [L2.nL]
   refine' ⟨_,Ov.jT KX G ?a ?b⟩
   (case a=>k_is);(case b=>kernel_rfl)
  obtain ⟨Df,p8⟩:∃C,Ov.Own (L2.nL KX) mg "Full" C:=by
   dsimp only [L2.nL]
   refine' ⟨_,Ov.jT KX G ?a ?b⟩
   (case a=>k_is);(case b=>kernel_rfl)
  obtain ⟨tZ,g7⟩:∃C,Ov.Own (L2.nL KX) mg "NoCraft" C:=by
   dsimp only [L2.nL]
   refine' ⟨_,Ov.jT KX G ?a ?b⟩
   (case a=>k_is);(case b=>kernel_rfl)
  obtain ⟨qi,dh⟩:∃C,Ov.Own (L2.nL KX) mg "NotThere" C:=by
   dsimp only [L2.nL]
   refine' ⟨_,Ov.jT KX G ?a ?b⟩
   (case a=>k_is);(case b=>kernel_rfl)
  obtain ⟨Dg,p9⟩:∃C,Ov.Own (L2.nL KX) mg "Past" C:=by
   dsimp only [L2.nL]
   refine' ⟨_,Ov.jT KX G ?a ?b⟩
   (case a=>k_is);(case b=>kernel_rfl)
  obtain ⟨An,mj⟩:∃C,Ov.Own (L2.nL KX) mg "Taken" C:=by
   dsimp only [L2.nL]
   refine' ⟨_,Ov.jT KX G ?a ?b⟩
   (case a=>k_is);(case b=>kernel_rfl)
  obtain ⟨xq,jz⟩:∃C,Ov.Own (L2.nL KX) mg "TooFar" C:=by
   dsimp only [L2.nL]
   refine' ⟨_,Ov.jT KX G ?a ?b⟩
   (case a=>k_is);(case b=>kernel_rfl)
  obtain ⟨jf,fV⟩:∃t,mg "FARTHEST"=some (.int 1000000 t):=by
   refine' Ov.const_int KX G ?cz ?cw
   (case cz=>k_is);(case cw=>kernel_rfl)
  obtain ⟨kF,g_⟩:∃t,mg "FASTEST"=some (.int 1000 t):=by
   refine' Ov.const_int KX G ?cz ?cw
   (case cz=>k_is);(case cw=>kernel_rfl)
  obtain ⟨nE,jF⟩:∃t,mg "FINEST"=some (.int 60 t):=by
   refine' Ov.const_int KX G ?cz ?cw
   (case cz=>k_is);(case cw=>kernel_rfl)
  obtain ⟨nF,jG⟩:∃t,mg "LATEST"=some (.int 1000000 t):=by
   refine' Ov.const_int KX G ?cz ?cw
   (case cz=>k_is);(case cw=>kernel_rfl)
  obtain ⟨kG,hE⟩:∃t,mg "LONGEST"=some (.int 8 t):=by
   refine' Ov.const_int KX G ?cz ?cw
   (case cz=>k_is);(case cw=>kernel_rfl)
  obtain ⟨wQ,qk⟩:∃t,mg "MOST"=some (.int 12 t):=by
   refine' Ov.const_int KX G ?cz ?cw
   (case cz=>k_is);(case cw=>kernel_rfl)
  obtain ⟨pX,mD⟩:∃t,mg "SIGNS"=some (.str "abcdefghijklmnopqrstuvwxyz0123456789" t):=by
   refine' Ov.BP KX G ?cz ?cw
   (case cz=>k_is);(case cw=>kernel_rfl)
  obtain ⟨fd,F,hb⟩:=Ov.JA Lv hmg (λ_ _ _ _ _ _ _=>rfl)
  exact ⟨fd,[gy],hb,(λT hT=>by simp only [RM,Sh,or_false] at hT;rcases hT with rfl <;> first | exact ⟨_,by simp,_,gx⟩),λbase _ _ Bm=>Ov.B0 (Ov.IW Z N fV g_ jF jG hE qk mD cS g6 p8 g7 dh p9 mj jz (by dsimp only [L2.nL];refine' ⟨_,Ov.mH KX G ?a ?pg ?hd ?po ?sa ?mk ?kc,?n0,?n1,Ov.a7 ?m0a ?m0i ?m0l ?m0c ?m0k,Ov.a7 ?m1a ?m1i ?m1l ?m1c ?m1k,Ov.a7 ?m2a ?m2i ?m2l ?m2c ?m2k,Ov.a7 ?m3a ?m3i ?m3l ?m3c ?m3k,Ov.a7 ?m4a ?m4i ?m4l ?m4c ?m4k⟩;(case a=>k_is);(case pg=>k_is);(case hd=>k_is);(case po=>k_is);(case sa=>k_is);(case mk=>k_is);(case kc=>k_is);(case n0=>(show PySem.W.findIn _ _ _=_;k_is));(case n1=>(show PySem.W.findIn _ _ _=_;k_is));(case m0a=>k_is);(case m0i=>k_is);(case m0l=>k_is);(case m0c=>k_is);(case m0k=>k_is);(case m1a=>k_is);(case m1i=>k_is);(case m1l=>k_is);(case m1c=>k_is);(case m1k=>k_is);(case m2a=>k_is);(case m2i=>k_is);(case m2l=>k_is);(case m2c=>k_is);(case m2k=>k_is);(case m3a=>k_is);(case m3i=>k_is);(case m3l=>k_is);(case m3c=>k_is);(case m3k=>k_is);(case m4a=>k_is);(case m4i=>k_is);(case m4l=>k_is);(case m4c=>k_is);(case m4k=>k_is)) (by dsimp only [L2.nL];refine' ⟨_,Ov.mH KX G ?a ?pg ?hd ?po ?sa ?mk ?kc,?n0,?n1,?n2,Ov.a7 ?m0a ?m0i ?m0l ?m0c ?m0k,Ov.a7 ?m1a ?m1i ?m1l ?m1c ?m1k,Ov.a7 ?m2a ?m2i ?m2l ?m2c ?m2k,Ov.a7 ?m3a ?m3i ?m3l ?m3c ?m3k,Ov.a7 ?m4a ?m4i ?m4l ?m4c ?m4k,Ov.a7 ?m5a ?m5i ?m5l ?m5c ?m5k,Ov.a7 ?m6a ?m6i ?m6l ?m6c ?m6k,Ov.a7 ?m7a ?m7i ?m7l ?m7c ?m7k,Ov.a7 ?m8a ?m8i ?m8l ?m8c ?m8k,Ov.a7 ?m9a ?m9i ?m9l ?m9c ?m9k,Ov.a7 ?m10a ?m10i ?m10l ?m10c ?m10k,Ov.a7 ?m11a ?m11i ?m11l ?m11c ?m11k,Ov.a7 ?m12a ?m12i ?m12l ?m12c ?m12k,Ov.a7 ?m13a ?m13i ?m13l ?m13c ?m13k,Ov.a7 ?m14a ?m14i ?m14l ?m14c ?m14k,Ov.a7 ?m15a ?m15i ?m15l ?m15c ?m15k⟩;(case a=>k_is);(case pg=>k_is);(case hd=>k_is);(case po=>k_is);(case sa=>k_is);(case mk=>k_is);(case kc=>k_is);(case n0=>(show PySem.W.findIn _ _ _=_;k_is));(case n1=>(show PySem.W.findIn _ _ _=_;k_is));(case n2=>(show PySem.W.findIn _ _ _=_;k_is));(case m0a=>k_is);(case m0i=>k_is);(case m0l=>k_is);(case m0c=>k_is);(case m0k=>k_is);(case m1a=>k_is);(case m1i=>k_is);(case m1l=>k_is);(case m1c=>k_is);(case m1k=>k_is);(case m2a=>k_is);(case m2i=>k_is);(case m2l=>k_is);(case m2c=>k_is);(case m2k=>k_is);(case m3a=>k_is);(case m3i=>k_is);(case m3l=>k_is);(case m3c=>k_is);(case m3k=>k_is);(case m4a=>k_is);(case m4i=>k_is);(case m4l=>k_is);(case m4c=>k_is);(case m4k=>k_is);(case m5a=>k_is);(case m5i=>k_is);(case m5l=>k_is);(case m5c=>k_is);(case m5k=>k_is);(case m6a=>k_is);(case m6i=>k_is);(case m6l=>k_is);(case m6c=>k_is);(case m6k=>k_is);(case m7a=>k_is);(case m7i=>k_is);(case m7l=>k_is);(case m7c=>k_is);(case m7k=>k_is);(case m8a=>k_is);(case m8i=>k_is);(case m8l=>k_is);(case m8c=>k_is);(case m8k=>k_is);(case m9a=>k_is);(case m9i=>k_is);(case m9l=>k_is);(case m9c=>k_is);(case m9k=>k_is);(case m10a=>k_is);(case m10i=>k_is);(case m10l=>k_is);(case m10c=>k_is);(case m10k=>k_is);(case m11a=>k_is);(case m11i=>k_is);(case m11l=>k_is);(case m11c=>k_is);(case m11k=>k_is);(case m12a=>k_is);(case m12i=>k_is);(case m12l=>k_is);(case m12c=>k_is);(case m12k=>k_is);(case m13a=>k_is);(case m13i=>k_is);(case m13l=>k_is);(case m13c=>k_is);(case m13k=>k_is);(case m14a=>k_is);(case m14i=>k_is);(case m14l=>k_is);(case m14c=>k_is);(case m14k=>k_is);(case m15a=>k_is);(case m15i=>k_is);(case m15l=>k_is);(case m15c=>k_is);(case m15k=>k_is)) (by dsimp only [L2.nL];refine' ⟨_,Ov.mH KX G ?a ?pg ?hd ?po ?sa ?mk ?kc,?n0,Ov.a7 ?m0a ?m0i ?m0l ?m0c ?m0k,Ov.a7 ?m1a ?m1i ?m1l ?m1c ?m1k,Ov.a7 ?m2a ?m2i ?m2l ?m2c ?m2k,Ov.a7 ?m3a ?m3i ?m3l ?m3c ?m3k⟩;(case a=>k_is);(case pg=>k_is);(case hd=>k_is);(case po=>k_is);(case sa=>k_is);(case mk=>k_is);(case kc=>k_is);(case n0=>(show PySem.W.findIn _ _ _=_;k_is));(case m0a=>k_is);(case m0i=>k_is);(case m0l=>k_is);(case m0c=>k_is);(case m0k=>k_is);(case m1a=>k_is);(case m1i=>k_is);(case m1l=>k_is);(case m1c=>k_is);(case m1k=>k_is);(case m2a=>k_is);(case m2i=>k_is);(case m2l=>k_is);(case m2c=>k_is);(case m2k=>k_is);(case m3a=>k_is);(case m3i=>k_is);(case m3l=>k_is);(case m3c=>k_is);(case m3k=>k_is)) (by dsimp only [L2.nL];refine' ⟨_,Ov.mH KX G ?a ?pg ?hd ?po ?sa ?mk ?kc,Ov.a7 ?m0a ?m0i ?m0l ?m0c ?m0k⟩;(case a=>k_is);(case pg=>k_is);(case hd=>k_is);(case po=>k_is);(case sa=>k_is);(case mk=>k_is);(case kc=>k_is);(case m0a=>k_is);(case m0i=>k_is);(case m0l=>k_is);(case m0c=>k_is);(case m0k=>k_is)) (by dsimp only [L2.nL];refine' ⟨_,Ov.mH KX G ?a ?pg ?hd ?po ?sa ?mk ?kc,?n0,?n1,?n2,?n3,Ov.a7 ?m0a ?m0i ?m0l ?m0c ?m0k,Ov.a7 ?m1a ?m1i ?m1l ?m1c ?m1k,Ov.a7 ?m2a ?m2i ?m2l ?m2c ?m2k,Ov.a7 ?m3a ?m3i ?m3l ?m3c ?m3k,Ov.a7 ?m4a ?m4i ?m4l ?m4c ?m4k,Ov.a7 ?m5a ?m5i ?m5l ?m5c ?m5k,Ov.a7 ?m6a ?m6i ?m6l ?m6c ?m6k,Ov.a7 ?m7a ?m7i ?m7l ?m7c ?m7k⟩;(case a=>k_is);(case pg=>k_is);(case hd=>k_is);(case po=>k_is);(case sa=>k_is);(case mk=>k_is);(case kc=>k_is);(case n0=>(show PySem.W.findIn _ _ _=_;k_is));(case n1=>(show PySem.W.findIn _ _ _=_;k_is));(case n2=>(show PySem.W.findIn _ _ _=_;k_is));(case n3=>(show PySem.W.findIn _ _ _=_;k_is));(case m0a=>k_is);(case m0i=>k_is);(case m0l=>k_is);(case m0c=>k_is);(case m0k=>k_is);(case m1a=>k_is);(case m1i=>k_is);(case m1l=>k_is);(case m1c=>k_is);(case m1k=>k_is);(case m2a=>k_is);(case m2i=>k_is);(case m2l=>k_is);(case m2c=>k_is);(case m2k=>k_is);(case m3a=>k_is);(case m3i=>k_is);(case m3l=>k_is);(case m3c=>k_is);(case m3k=>k_is);(case m4a=>k_is);(case m4i=>k_is);(case m4l=>k_is);(case m4c=>k_is);(case m4k=>k_is);(case m5a=>k_is);(case m5i=>k_is);(case m5l=>k_is);(case m5c=>k_is);(case m5k=>k_is);(case m6a=>k_is);(case m6i=>k_is);(case m6l=>k_is);(case m6c=>k_is);(case m6k=>k_is);(case m7a=>k_is);(case m7i=>k_is);(case m7l=>k_is);(case m7c=>k_is);(case m7k=>k_is)) (by simp_arith) (by simp_arith) (by simp_arith) (by simp_arith) (by simp_arith) (by simp_arith) (by simp_arith) (by simp_arith) (by simp_arith) gx (by simp_arith) (by simp_arith) (by simp_arith) (by simp_arith) (by simp_arith) (by simp_arith) (by simp_arith) (by simp_arith) (by simp_arith) (by simp_arith) (by simp_arith) (by simp_arith) (by simp_arith) (by simp_arith) (by simp_arith) (by simp_arith) (by simp_arith) (by simp_arith) (by simp_arith) (by simp_arith) (by simp_arith) (by simp_arith) F base Bm)⟩
