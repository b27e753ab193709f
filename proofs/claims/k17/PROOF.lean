import PyProof.Rows.All
import Wide.All
import OpenK.AllK
import Wide.FinOn
import Lean
import PyProof.EqAt
import PyProof.EqKinds
import PyProof.TupleCall
import PyProof.NeKinds
import PyProof.CompFree
import PyProof.CompMap
import PyProof.ListRange
import PyProof.Rows.SortWalk
import PyProof.ExcArgsOwn
import PyProof.ExcAttrAll.ValueError
import KE.KTryMore
import PyProof.GenCompD
import PyProof.StrWalks
import PyProof.ConsumeS
import PyProof.StrOps2
import KE.KRevIter
import PyProof.ZipIter
import PyProof.DictWalks
import PyProof.DictCompW
import PyProof.DictRoads
import PyProof.MeetsDictList
import KE.KDictList
import PyProof.EnumFor
import PyProof.EnumMake
import PyProof.WalksEnum
import KE.KDictOf
import KE.KxMul
import PySem.Challenge.RW_overhaul_k17_joining_refused
noncomputable section
set_option compiler.extract_closed false
set_option Elab.async false
set_option linter.all false
set_option maxRecDepth 100000
open List renaming length_map→R6,getElem?_eq_getElem→R7,getElem?_eq_some_iff→R8,mem_of_getElem?→R9,mem_map→R_,size_toArray→Sa,getElem?_map→Sb,map_cons→Sd,mem_append→Se,mem_cons→Sf,mem_filter→Sg,mem_append_right→Sh,mem_singleton→Si,map_append→Sk,map_map→Sl,mem_cons_of_mem→Sm,length_append→So,replicate→Sq,length_cons→Sv,mem_iff_getElem?→Sx,length_take→Sy,mem_cons_self→SD,getElem?_set_self→SE,not_mem_nil→SF,getElem?_cons_succ→SH,lookup_cons→SI,filter_cons→SJ,take_add_one→SK,getElem_of_mem→SM,getElem?_eq_none→SN,take_length→SO,getElem?_set_ne→SQ,mem_of_mem_take→SR,range→SS,getElem?_zip_eq_some→SU,pairwise_iff_getElem→SV,getElem_mem→SW,getLast?_concat→SX,replicate_succ→SY,filter_eq_self→S2,filter_map→S3,getElem_map→S4,dropLast_concat_getLast→S5,nodup_cons→S6,take_of_length_le→S7,getElem?_append_right→S8,getElem_inj→S9,length_drop→S_,length→Tc,getElem?_append_left→Td,mem_append_left→Te,append_nil→Tf,nodup_append→Tg,map_nil→Th,map_take→Ti,map_congr_left→Tj,all_eq_true→Tn,mem_range→Tq,length_filter_le→Ts,cons_lt_cons_iff→Tt,length_filter_lt_length_iff_exists→Tu,take_sublist→Tv,flatten_cons→Tw,filterMap_cons→TB,filter_sublist→TC,length_set→TF,any_cons→TH,getElem?_cons_zero→TJ,filter_append→TK,length_zip→TL,pairwise_cons→TM,getElem?_tail→TQ,map_drop→TR,lookup→TU,length_range→TX,drop_zero→TY,length_replicate→T1,mem_of_mem_drop→T2,length_nil→T4,mem_map_of_mem→T6,exists_cons_of_ne_nil→T7,mem_filterMap→T9,getElem?_drop→T_,getElem?_eq_none_iff→T',drop_eq_getElem_cons→Ua,reverse_cons→Uc,foldl_append→Ud,getElem?_replicate→Ue,lookup_eq_some_iff→Ug,filter_eq_nil_iff→Ui,of_mem_zip→Uk,dropLast_eq_take→Ul,filter_nil→Um,head?_cons→Uq,take_append_drop→Us,pairwise_append→Ut,take_zero→Uu,drop_succ_cons→Uv,getElem?_range→Uw,all_cons→Uy,zip_cons_cons→Uz,drop_sublist→UE,nil_lt_cons→UK,mem_flatMap→UL,forIn_cons→UO,foldl_cons→UQ,map→U1,getD→Vb
open Nat renaming le_refl→R',lt_of_lt_of_le→Sn,le_trans→Su,ne_of_lt→Sw,zero_le→SG,lt_irrefl→Ta,lt_of_le_of_lt→Tb,le_add_right→To,lt_succ_self→Tz,lt_or_eq_of_le→TN,not_lt_zero→T3,le_of_lt→T8,mul_div_cancel_left→Uh,ne_of_gt→Uj,lt_or_ge→Up,min_eq_left→Ur,lt_trichotomy→UC,min_self→UG,mul_comm→UH
open Bool renaming false_ne_true→Sj,false_eq_true→Ss,and_eq_true→SA,eq_iff_iff→Tr,and_true→Tx,eq_false_iff→TV,and_false→TZ,decide_and→T5,beq_eq_decide_eq→Uo,or_false→Ux,not_eq_true'→UA
open Option renaming some→S1,isSome_iff_exists→Ub,getD_none→UI,map_some→UP
namespace L2
open PySem PySem.Spec PyProof.Rows
abbrev Key:=Sum Int Str
def IC:Key→Value→Bool
 | .inl k,v=>Value.isInt k v
 | .inr x,v=>Value.isStrOf x v
def PC (w:World):Key→Int
 | .inl k=>hashInt k
 | .inr x=>hashStr w x
theorem cA:∀{k:Key} {v:Value},IC k v=true→(∃i t,k=Sum.inl i∧v=Value.int i t)∨(∃x t,k=Sum.inr x∧v=Value.str x t)
 | .inl i,v,h=>by
  obtain ⟨t,e⟩:=Value.isInt_shape (k:=i) (v:=v) h
  exact .inl ⟨i,t,rfl,e⟩
 | .inr x,v,h=>by
  obtain ⟨t,e⟩:=Value.isStrOf_shape (x:=x) (v:=v) h
  exact .inr ⟨x,t,rfl,e⟩
theorem Kd (a b:Int):decide ((Sum.inl a:Key)=Sum.inl b)=(a == b):=by
 by_cases e:a=b
 ·subst e;simp
 ·have h:¬ (Sum.inl a:Key)=Sum.inl b:=λq=>e (Sum.inl.inj q)
  rw [decide_eq_false h]
  exact (beq_eq_false_iff_ne.mpr e).symm
theorem Kg (a b:Str):decide ((Sum.inr a:Key)=Sum.inr b)=decide (a=b):=by
 by_cases e:a=b
 ·subst e;simp
 ·have h:¬ (Sum.inr a:Key)=Sum.inr b:=λq=>e (Sum.inr.inj q)
  rw [decide_eq_false h,decide_eq_false e]
theorem Ke (a:Int) (b:Str):decide ((Sum.inl a:Key)=Sum.inr b)=false:=decide_eq_false (λq=>nomatch q)
theorem Kf (a:Str) (b:Int):decide ((Sum.inr a:Key)=Sum.inl b)=false:=decide_eq_false (λq=>nomatch q)
def GF (prog:Program) (w:World):PySem.KeyKind prog w Key where
 is:=IC
 hash:=PC w
 inj:=λv a b ha hb=>by
  rcases cA ha with ⟨i,t,rfl,rfl⟩ | ⟨x,t,rfl,rfl⟩
  ·rcases cA hb with ⟨j,u,rfl,e⟩ | ⟨y,u,rfl,e⟩
   ·injection e with e1 _;rw [e1]
   ·exact nomatch e
  ·rcases cA hb with ⟨j,u,rfl,e⟩ | ⟨y,u,rfl,e⟩
   ·exact nomatch e
   ·injection e with e1 _;rw [e1]
 byValue:=λk v h=>by
  rcases cA h with ⟨i,t,rfl,rfl⟩ | ⟨x,t,rfl,rfl⟩ <;> rfl
 pyHash:=λhv h=>by
  rcases cA hv with ⟨i,t,rfl,rfl⟩ | ⟨x,t,rfl,rfl⟩
  ·exact wpAny_pyHash_int h
  ·exact wpAny_pyHash_str h
 eqBool:=λhu hv h=>by
  rcases cA hu with ⟨i,t,rfl,rfl⟩ | ⟨x,t,rfl,rfl⟩
  ·rcases cA hv with ⟨j,u,rfl,rfl⟩ | ⟨y,u,rfl,rfl⟩
   ·rw [Kd] at h;exact wpAny_eqBool_int h
   ·rw [Ke] at h;exact SeqAt.EqAt.int_str i t y u _ _ _ _ h
  ·rcases cA hv with ⟨j,u,rfl,rfl⟩ | ⟨y,u,rfl,rfl⟩
   ·rw [Kf] at h;exact SeqAt.EqAt.str_int x t j u _ _ _ _ h
   ·rw [Kg] at h;exact wpAny_eqBool_str h
 «strs»:=λk x t v h=>by
  rcases cA h with ⟨i,u,rfl,e⟩ | ⟨y,u,rfl,e⟩
  ·exact nomatch e
  ·injection e with e1 _
   subst e1
   cases v <;> rfl
end L2
namespace L2
open PySem PySem.Spec PyProof.Rows
inductive V where
 | non | bl (b:Bool) | int (i:Int) | str (x:Str) | byt (b:Array UInt8) | flt (b:UInt64) | ref (a:Addr) | ty (n:String)
 deriving DecidableEq
def RelV:V→Value→Prop
 | .non,u=>u=Value.none
 | .bl b,u=>u=Value.bool b
 | .int i,u=>∃t,u=Value.int i t
 | .str x,u=>∃t,u=Value.str x t
 | .byt b,u=>∃t,u=Value.bytes b t
 | .flt b,u=>∃t,u=Value.float b t
 | .ref a,u=>u=Value.ref a
 | .ty n,u=>u=Value.type n
abbrev Vals:List V→List Value→Prop:=Paired RelV
theorem Vals.length {xs:List V} {us:List Value} (r:Vals xs us):xs.length=us.length:=Paired.length r
theorem Vals.get:∀{xs:List V} {us:List Value} {i:Nat} {x:V},Vals xs us→xs[i]?=some x→∃u,us[i]?=some u∧RelV x u
 | _,_,_,_,.nil,e=>by simp at e
 | _,_,0,_,.cons r _,e=>by simp at e;subst e;exact ⟨_,rfl,r⟩
 | _,_,i + 1,x,.cons _ t,e=>by
  obtain ⟨u,h1,h2⟩:=Vals.get (i:=i) (x:=x) t (by simpa using e)
  exact ⟨u,by simpa using h1,h2⟩
theorem Vals.set {x:V} {u:Value} (r:RelV x u):∀{xs:List V} {us:List Value} (i:Nat),Vals xs us→Vals (xs.set i x) (us.set i u)
 | _,_,_,.nil=>.nil
 | _,_,0,.cons _ t=>.cons r t
 | _,_,i + 1,.cons q t=>.cons q (Vals.set r i t)
theorem Vals.append:∀{xs ys:List V} {us ws:List Value},Vals xs us→Vals ys ws→Vals (xs ++ ys) (us ++ ws)
 | _,_,_,_,.nil,s=>s
 | _,_,_,_,.cons r t,s=>.cons r (Vals.append t s)
theorem Vals.take:∀{xs:List V} {us:List Value} (n:Nat),Vals xs us→Vals (xs.take n) (us.take n)
 | _,_,0,_=>.nil
 | _,_,_ + 1,.nil=>.nil
 | _,_,n + 1,.cons r t=>.cons r (Vals.take n t)
theorem Vals.drop:∀{xs:List V} {us:List Value} (n:Nat),Vals xs us→Vals (xs.drop n) (us.drop n)
 | _,_,0,r=>r
 | _,_,_ + 1,.nil=>.nil
 | _,_,n + 1,.cons _ t=>Vals.drop n t
def rX:Option V→Option Value→Prop
 | some v,some u=>RelV v u
 | none,none=>True
 | _,_=>False
def KV {κ:Type}:List (κ × V)→List (κ × Value)→Prop:=Paired λ(p:κ × V) (q:κ × Value)=>p.1=q.1∧RelV p.2 q.2
def kV:Key→V
 | .inl i=>.int i
 | .inr x=>.str x
inductive HO where
 | lst (xs:List V)
 | tup (xs:List V)
 | dK (kvs:List (Key × V)) | dE (kvs:List (Str × V)) (ep:Nat)
 | set (S:Int→Bool) (n:Nat)
 | ins (C dx:Addr) (fs:List (Str × V))
 | own (x:Addr)
 | xd (fs:List (Str × V))
 | met (f x:Addr)
 | L7 (lo hi:Int)
 | oY (o:Obj) (u:HO)
 | tbl (ps:Array Value)
 | ext (φ:Heap→Prop)
abbrev Hp:=Addr→Option HO
def upd (H:Hp) (a:Addr) (o:HO):Hp:=λb=>if b=a then some o else H b
theorem aA {H:Hp} {a:Addr} {o:HO}:upd H a o a=some o:=by unfold upd;rw [if_pos rfl]
theorem aF {H:Hp} {a b:Addr} {o:HO} (h:b≠a):upd H a o b=H b:=by unfold upd;rw [if_neg h]
theorem bz {H:Hp} {a b:Addr} {o:HO} (h:H a=some o) (h':H b=none):a≠b:=by
 intro e;subst e;rw [h] at h';cases h'
section
variable (P:Program) (w:World)
def dm (H:Hp) (h:Heap) (a:Addr):HO→Prop
 | .lst xs=>xs.length≤sizeLine∧∃(its:List Value) (n:Nat),Vals xs its∧h.get? a=some { cls:=.type "list",data:=.seq its.toArray n }
 | .tup xs=>xs.length≤sizeLine∧∃its:List Value,Vals xs its∧IsTup h a its.toArray
 | .dK kvs=>kvs.length≤sizeLine∧(a == sysModules)=false∧∃vs,KV kvs vs∧h.DictOf (GF P w) a vs
 | .dE kvs ep=>kvs.length≤sizeLine∧(a == sysModules)=false∧∃vs,KV kvs vs∧h.DictAt (strKind P w) a vs ep
 | .set S n=>h.SetOf (intKind P w) a S n
 | .ins C dx fs=>H dx=some (.own a)∧fs.length≤1000∧dx≠a∧h.get? a=some (PySem.W.instObj C dx) ∧
   ∃mA,h.Ns1 dx mA∧(∀f,rX (fs.lookup f) (mA f))∧PySem.Within mA (fs.map (·.1))
 | .own _=>∃o,h.get? a=some o
 | .xd fs=>∃mA,h.Ns1 a mA∧∀f,rX (fs.lookup f) (mA f)
 | .L7 lo hi=>∃t u v,h.get? a=some { cls:=.type "range",data:=.fields #[.int lo t,.int hi u,.int 1 v] }
 | .oY o u=>h.get? a=some o∧dm H h a u
 | .tbl ps=>h.get? a=some { cls:=.none,data:=.fields ps }
 | .met f x=>h.get? a=some (PySem.W.methodObj (.ref f) (.ref x))
 | .ext φ=>φ h∧(∃o,h.get? a=some o)∧∀h1 h2:Heap,φ h1→(∀o,h1.get? a=some o→h2.get? a=some o)→φ h2
def lV (H:Hp) (h:Heap):Prop:=∀a o,H a=some o→dm P w H h a o
end
section
variable {P:Program} {w:World} {H H':Hp} {h h':Heap} {a:Addr} {o:HO}
theorem dm.lt (x:dm P w H h a o):a < h.objs.size:=by
 cases o with
 | lst xs=>obtain ⟨_,_,_,_,e⟩:=x;exact Heap.lt_size e
 | tup xs=>obtain ⟨_,_,_,p⟩:=x;exact p.lt
 | dK kvs=>obtain ⟨_,_,_,_,o,_,_,e,_⟩:=x;exact Heap.lt_size e
 | dE kvs ep=>obtain ⟨_,_,_,_,o,_,e,_⟩:=x;exact Heap.lt_size e
 | set S n=>obtain ⟨o,_,_,_,e,_⟩:=x;exact Heap.lt_size e
 | ins C dx fs=>obtain ⟨_,_,_,e,_⟩:=x;exact Heap.lt_size e
 | own y=>obtain ⟨_,e⟩:=x;exact Heap.lt_size e
 | xd fs=>obtain ⟨_,⟨_,_,_,e,_⟩,_⟩:=x;exact Heap.lt_size e
 | L7 lo hi=>obtain ⟨_,_,_,e⟩:=x;exact Heap.lt_size e
 | oY ob u=>obtain ⟨e,_⟩:=x;exact Heap.lt_size e
 | tbl ps=>exact Heap.lt_size (show h.get? a=some _ from x)
 | met f y=>exact Heap.lt_size (show h.get? a=some _ from x)
 | ext φ=>obtain ⟨_,⟨_,e⟩,_⟩:=x;exact Heap.lt_size e
theorem dm.n_ (x:dm P w H h a o) (k:∀b u,(b=a∨H b=some (.own a))→h.get? b=some u→h'.get? b=some u)
  (ho:∀b,H b=some (.own a)→H' b=some (.own a)) (ht:∀b xs,H b=some (.tup xs)→H' b=some (.tup xs)):dm P w H' h' a o:=by
 induction o with
 | lst xs=>obtain ⟨z,its,n,r,e⟩:=x;exact ⟨z,its,n,r,k _ _ (.inl rfl) e⟩
 | tup xs=>obtain ⟨z,its,r,ob,e,c⟩:=x;exact ⟨z,its,r,ob,k _ _ (.inl rfl) e,c⟩
 | dK kvs=>obtain ⟨z,y,vs,r,ob,es,ep,e,c⟩:=x;exact ⟨z,y,vs,r,ob,es,ep,k _ _ (.inl rfl) e,c⟩
 | dE kvs ep=>obtain ⟨z,y,vs,r,ob,es,e,c⟩:=x;exact ⟨z,y,vs,r,ob,es,k _ _ (.inl rfl) e,c⟩
 | set S n=>obtain ⟨ob,es,ep,t,e,c⟩:=x;exact ⟨ob,es,ep,t,k _ _ (.inl rfl) e,c⟩
 | ins C dx fs =>
  obtain ⟨d,z,ne,e,mA,⟨od,es,ep,e2,c⟩,r⟩:=x
  exact ⟨ho _ d,z,ne,k _ _ (.inl rfl) e,mA,⟨od,es,ep,k _ _ (.inr d) e2,c⟩,r⟩
 | own y=>obtain ⟨ob,e⟩:=x;exact ⟨ob,k _ _ (.inl rfl) e⟩
 | xd fs=>obtain ⟨mA,⟨od,es,ep,e,c⟩,r⟩:=x;exact ⟨mA,⟨od,es,ep,k _ _ (.inl rfl) e,c⟩,r⟩
 | L7 lo hi=>obtain ⟨t,u,v,e⟩:=x;exact ⟨t,u,v,k _ _ (.inl rfl) e⟩
 | oY ob u ih=>obtain ⟨e,q⟩:=x;exact ⟨k _ _ (.inl rfl) e,ih q⟩
 | tbl ps =>
  have e:h.get? a=some { cls:=.none,data:=.fields ps }:=x
  show h'.get? a=some { cls:=.none,data:=.fields ps }
  exact k a _ (.inl rfl) e
 | met f y =>
  have e:h.get? a=some (PySem.W.methodObj (.ref f) (.ref y)):=x
  show h'.get? a=some (PySem.W.methodObj (.ref f) (.ref y))
  exact k a _ (.inl rfl) e
 | ext φ=>obtain ⟨p,⟨o,e⟩,st⟩:=x;exact ⟨st _ _ p λo q=>k _ _ (.inl rfl) q,⟨o,k _ _ (.inl rfl) e⟩,st⟩
theorem lV.lt (x:lV P w H h) (e:H a=some o):a < h.objs.size:=(x a o e).lt
theorem lV.fresh (x:lV P w H h) (e:h.objs.size≤a):H a=none:=by
 cases q:H a with
 | none=>rfl
 | some u=>exact absurd (Sn (x.lt q) e) (Ta _)
theorem lV.kept (x:lV P w H h) (k:∀b u,h.get? b=some u→h'.get? b=some u):lV P w H h':=λa o e =>
 (x a o e).n_ (λb u _ q=>k b u q) (λ_ q=>q) λ_ _ q=>q
theorem lV.laid (x:lV P w H h) (k:∀b u,h.get? b=some u→h'.get? b=some u) (hp:h.objs.size≤a) (new:dm P w (upd H a o) h' a o):lV P w (upd H a o) h':=λb u e=>by
 have hn:=x.fresh hp
 by_cases hb:b=a
 ·subst hb;rw [aA] at e;cases e;exact new
 ·rw [aF hb] at e
  exact (x b u e).n_ (λc v _ q=>k c v q) (λc q=>by rw [aF (bz q hn)];exact q) λc xs q=>by rw [aF (bz q hn)];exact q
end
def Rd (H:Hp) (a:Addr) (u:HO):Prop:=H a=some u∨∃o,H a=some (.oY o u)
theorem Rd.ok {P:Program} {w:World} {H:Hp} {h:Heap} {a:Addr} {u:HO} (r:Rd H a u) (x:lV P w H h):dm P w H h a u:=by
 rcases r with r | ⟨o,r⟩
 ·exact x a u r
 ·obtain ⟨_,q⟩:=x a _ r
  exact q
def OE:Option HO→Prop
 | some (.lst _)=>True
 | some (.dK _)=>True
 | some (.dE _ _)=>True
 | some (.set _ _)=>True
 | some (.ins _ _ _)=>True
 | some (.ext _)=>True
 | _=>False
section
variable {P:Program} {w:World} {H:Hp} {h h':Heap} {x e:Addr} {o':HO}
theorem lV.write (ok:lV P w H h) (mu:OE (H x)) (he:e=x∨H e=some (.own x)) (k:∀b u,b≠e→h.get? b=some u→h'.get? b=some u) (heo:∃u,h'.get? e=some u)
  (new:dm P w (upd H x o') h' x o'):lV P w (upd H x o') h':=λb u q=>by
 have nown:∀c y,H c=some (.own y)→c≠x:=λc y r z=>by subst z;rw [r] at mu;exact mu
 have ntup:∀c xs,H c=some (.tup xs)→c≠x:=λc xs r z=>by subst z;rw [r] at mu;exact mu
 by_cases hb:b=x
 ·subst hb;rw [aA] at q;cases q;exact new
 ·rw [aF hb] at q
  by_cases hbe:b=e
  ·have q':H b=some (.own x):=by
    rcases he with z | z
    ·exact absurd (hbe.trans z) hb
    ·rw [hbe];exact z
   rw [q] at q';cases q'
   obtain ⟨v,hv⟩:=heo
   exact ⟨v,by rw [hbe];exact hv⟩
  ·refine (ok b u q).n_ (λc v hc r=>k c v ?_ r) (λc r=>by rw [aF (nown c b r)];exact r) λc xs r=>by rw [aF (ntup c xs r)];exact r
   rcases hc with rfl | hc
   ·exact hbe
   ·rintro rfl
    rcases he with z | z
    ·exact nown c b hc z
    ·rw [hc] at z;cases z;exact hb rfl
end
structure Un (fs ex:List Addr) (H H':Hp) (h h':Heap):Prop where
 keep:∀b o,h.get? b=some o→H b=none→b ∉ fs→b ∉ ex→h'.get? b=some o
 slot:∀b o,h.get? b=some o→H b=none→b∈fs→b ∉ ex→∃sl,h'.get? b=some { o with slots:=sl }
 free:∀b o,h.get? b=some o→H b=none→b ∉ ex→H' b=none
 there:∀b o,h.get? b=some o→b ∉ ex→∃o',h'.get? b=some o'
 tups:∀b xs,H b=some (.tup xs)→H' b=some (.tup xs)
 frzs:∀b o u,H b=some (.oY o u)→H' b=some (.oY o u)
 tbls:∀b ps,H b=some (.tbl ps)→∃more,H' b=some (.tbl (ps ++ more))
section
variable {fs fs' ex ex':List Addr} {H H1 H2:Hp} {h h1 h2 h':Heap} {a x e:Addr} {o:HO}
theorem Un.any (u:Un fs ex H H1 h h1) {b:Addr} {ob:Obj} (q:h.get? b=some ob) (n:H b=none) (hx:b ∉ ex):∃sl,h1.get? b=some { ob with slots:=sl }:=by
 by_cases hb:b∈fs
 ·exact u.slot b ob q n hb hx
 ·exact ⟨ob.slots,u.keep b ob q n hb hx⟩
theorem Un.kept (k:∀b u,h.get? b=some u→h'.get? b=some u):Un fs ex H H h h' :=
 ⟨λb ob q _ _ _=>k b ob q,λb ob q _ _ _=>⟨ob.slots,k b ob q⟩,λ_ _ _ n _=>n,λb ob q _=>⟨ob,k b ob q⟩,λ_ _ q=>q,λ_ _ _ q=>q,λ_ ps q=>⟨#[],by rw [q];simp⟩⟩
theorem Un.refl:Un fs ex H H h h:=Un.kept λ_ _ q=>q
theorem Un.laid (k:∀b u,h.get? b=some u→h'.get? b=some u) (hp:h.objs.size≤a) (hn:H a=none):Un fs ex H (upd H a o) h h' where
 keep:=λb u q _ _ _=>k b u q
 slot:=λb u q _ _ _=>⟨u.slots,k b u q⟩
 free:=λb u q n _=>by rw [aF (Sw (Sn (Heap.lt_size q) hp))];exact n
 there:=λb u q _=>⟨u,k b u q⟩
 tups:=λb xs q=>by rw [aF (bz q hn)];exact q
 frzs:=λb u xs q=>by rw [aF (bz q hn)];exact q
 tbls:=λb ps q=>⟨#[],by rw [aF (bz q hn),q];simp⟩
theorem Un.write (mu:OE (H x)) (he:e=x∨H e=some (.own x)) (k:∀b u,b≠e→h.get? b=some u→h'.get? b=some u) (heo:∃u,h'.get? e=some u):Un fs ex H (upd H x o) h h':=by
 have hx:∀b,H b=none→b≠x:=λb n z=>by subst z;rw [n] at mu;exact mu
 have hb:∀b,H b=none→b≠e:=λb n z=>by
  subst z
  rcases he with r | r
  ·exact hx b n r
  ·rw [n] at r;cases r
 have hm:∀b u,H b=some u→¬ OE (some u)→b≠x:=λb u q nm z=>by subst z;rw [q] at mu;exact nm mu
 refine ⟨λb u q n _ _=>k b u (hb b n) q,λb u q n _ _=>⟨u.slots,k b u (hb b n) q⟩,λb u q n _=>by rw [aF (hx b n)];exact n,λb u q _=>?_,
  λb xs q=>by rw [aF (hm b _ q λz=>z)];exact q,λb u xs q=>by rw [aF (hm b _ q λz=>z)];exact q,λb ps q=>⟨#[],by rw [aF (hm b _ q λz=>z),q];simp⟩⟩
 by_cases hbe:b=e
 ·subst hbe;exact heo
 ·exact ⟨u,k b u hbe q⟩
end
def OZ (h:Heap) (H:Hp):List Addr:=(SS h.objs.size).filter λa=>(H a).isSome
def rY (h:Heap) (H:Hp):Heap:=PySem.W.hideAll h (OZ h H)
theorem BG (h:Heap) (H:Hp):(rY h H).objs.size=h.objs.size:=PySem.W.hideAll_size _ _
theorem Du {h:Heap} {H:Hp} {b:Addr} {o:Obj} (e:h.get? b=some o) (n:H b=none):(rY h H).get? b=some o :=
 PySem.W.hideAll_get _ e λhm=>by
  have q:(H b).isSome=true:=(Sg.mp hm).2
  rw [n] at q;simp at q
theorem GQ {h:Heap} {H:Hp} {b:Addr} {o:Obj} (e:(rY h H).get? b=some o):h.get? b=some o∧H b=none:=by
 have e':h.get? b=some o:=PySem.W.of_hideAll (OZ h H) e
 refine ⟨e',?_⟩
 cases q:H b with
 | none=>rfl
 | some x =>
  have hm:b∈OZ h H:=Sg.mpr ⟨Tq.mpr (Heap.lt_size e'),by simp [q]⟩
  have z:(rY h H).get? b=none:=PySem.W.hideAll_none (OZ h H) hm
  rw [z] at e;cases e
def FZ (g h:Heap) (L:Addr):List (Addr × Obj):=(SS h.objs.size).filterMap λa=>if a=L∨(g.get? a).isSome=true then none else (h.get? a).map λo=>(a,o)
def rest (g h:Heap) (L d:Addr):List (Addr × Obj):=(FZ g h L).filter λp=>decide (p.1≠d)
end L2
namespace L2
open PySem PySem.Spec PyProof.Rows
structure Mod (K:PySem.W.Frag) (mg:Str→Option Value) (base:Heap):Prop where
 kin:K.In base
 glob:base.Ns mainGlobals mg
 blt:∃mb,base.Ns builtinsNs mb∧∀x:Str,x≠"__name__"→mb x=bootBuiltins x
 nolimit:base.NoLimit
structure Cx where
 prog:Program
 w:World
 K:PySem.W.Frag
 mg:Str→Option Value
 base:Heap
 A:Around
 N:List Str
 s₀:Shared
 H₀:Hp
 env:Env
 outer:List Env
 stack:List Env
 ex:List Addr
 fn:Str→Bool
 calm:Bool
 pn:List (Addr × Obj)
 xe:Value→Shared→Prop
def jj (l:List Env):List Addr:=l.filterMap (·.frame)
abbrev Cx.fs (X:Cx):List Addr:=jj X.outer
def sL (sc:Scope) (x:Str):Prop:=sc.names.lookup x=some .local∨sc.names.lookup x=some .cell∨sc.names.lookup x=some .free
def Loc (sc:Scope) (x:Str):Prop:=sc.names.lookup x=some .local∨sc.names.lookup x=some .cell
def Look (env:Env) (h:Heap) (m:Str→Option Value) (x:Str) (u:Value):Prop :=
 (env.kindOf x=some .local∧m x=some u)∨((env.kindOf x=some .cell∨env.kindOf x=some .free)∧∃c,env.cells.lookup x=some c∧h.IsCell c (some u))
structure Cx.Ok (X:Cx):Prop where
 mod:Mod X.K X.mg X.base
 kind:X.env.scope.kind=.function
 glob:X.env.globals=mainGlobals
 blt:X.env.builtins=builtinsNs
 above:X.s₀.heap.objs.size≤X.env.locals
 inj:∀x y c,X.env.cells.lookup x=some c→X.env.cells.lookup y=some c→x=y
 has:∀x,(X.env.kindOf x=some .cell∨X.env.kindOf x=some .free)→∃c,X.env.cells.lookup x=some c
 cab:∀x c,X.fn x=true→X.env.cells.lookup x=some c→X.s₀.heap.objs.size≤c
 hd:X.calm=true→X.A.handled=none
 frames:X.A.frames=some X.stack
 stk:X.stack=X.outer∨(X.stack=X.env :: X.outer∧X.env.frame=some X.env.locals)
 exf:∀b∈X.ex,b≠X.env.locals∧∀x c,X.env.cells.lookup x=some c→c≠b
 bs:∀b o,X.base.get? b=some o→X.s₀.heap.get? b=some o∧X.H₀ b=none
 bsz:X.base.objs.size≤X.s₀.heap.objs.size
 noex:∀b o,X.base.get? b=some o→b ∉ X.ex
 exfs:∀b∈X.ex,b ∉ X.fs
 lj:X.s₀.heap.FunFrames X.base X.outer
 frf:∀b∈X.fs,X.H₀ b=none
structure Inv (X:Cx) (pins:List (Addr × Obj)) (σ:List (Option V)) (H:Hp) (s:Shared):Prop where
 ok:X.Ok
 os:s.os=X.s₀.os
 bare:AllBare s.gens
 base:Un X.fs X.ex X.H₀ H X.s₀.heap s.heap
 loc:∃m,s.heap.Ns X.env.locals m∧∀(i:Nat) (x:Str) (v:V),X.N[i]?=some x→σ[i]?=some (some v)→sL X.env.scope x→∃u,RelV v u∧Look X.env s.heap m x u
 cell:∀x c,X.env.cells.lookup x=some c→∃v,s.heap.IsCell c v
 free:H X.env.locals=none
 freeC:∀x c,X.env.cells.lookup x=some c→H c=none
 pin:∀p∈X.pn ++ pins,s.heap.get? p.1=some p.2∧H p.1=none∧p.1≠X.env.locals∧p.1 ∉ X.fs∧∀v,p.2.data≠.cell v
 hok:lV X.prog X.w H s.heap
 len:σ.length=X.N.length
section
variable {X:Cx} {pins:List (Addr × Obj)} {σ:List (Option V)} {H H':Hp} {s:Shared} {h':Heap}
theorem Cx.Ok.PY (ok:X.Ok) {b:Addr} {o:Obj} (e:X.base.get? b=some o):b ∉ X.fs:=λhb=>by
 have:=(ok.lj.mem hb).1
 rw [e] at this;cases this
theorem Inv.bs (I:Inv X pins σ H s):∀b o,X.base.get? b=some o→s.heap.get? b=some o∧H b=none:=λb o e =>
 ⟨I.base.keep b o (I.ok.bs b o e).1 (I.ok.bs b o e).2 (I.ok.PY e) (I.ok.noex b o e),I.base.free b o (I.ok.bs b o e).1 (I.ok.bs b o e).2 (I.ok.noex b o e)⟩
theorem Inv.bk (I:Inv X pins σ H s):∀b o,X.base.get? b=some o→s.heap.get? b=some o:=λb o e=>(I.bs b o e).1
theorem Inv.mod (I:Inv X pins σ H s):Mod X.K X.mg X.base:=I.ok.mod
theorem Inv.lp (I:Inv X pins σ H s):X.K.In s.heap:=I.ok.mod.kin.keeps I.bk
theorem Inv.nolimit (I:Inv X pins σ H s):s.heap.NoLimit:=I.ok.mod.nolimit.keeps I.bk
theorem Inv.fr (I:Inv X pins σ H s):∃m,Fr X.base X.env.locals s.heap m :=
 let ⟨m,hn,_⟩:=I.loc
 ⟨m,hn,I.bk,Su I.ok.bsz I.ok.above⟩
theorem Inv.lt (I:Inv X pins σ H s):X.env.locals < s.heap.objs.size:=let ⟨_,hn,_⟩:=I.loc;hn.lt
theorem Inv.sz (I:Inv X pins σ H s):X.s₀.heap.objs.size≤s.heap.objs.size:=Su I.ok.above (T8 I.lt)
theorem Inv.PZ (I:Inv X pins σ H s) {a:Addr} (h:s.heap.objs.size≤a):a ∉ X.fs:=λhb=>by
 obtain ⟨_,o,ho,_⟩:=I.ok.lj.mem hb
 exact absurd (Sn (Heap.lt_size ho) (Su I.sz h)) (Ta _)
theorem Inv.F8 (I:Inv X pins σ H s):∀x c,X.env.cells.lookup x=some c→c≠X.env.locals:=λx c e z=>by
 obtain ⟨v,o,ho,hd⟩:=I.cell x c e
 obtain ⟨m,⟨o',es,ep,ho',hd',_⟩,_⟩:=I.loc
 rw [z,ho'] at ho;cases ho;rw [hd'] at hd;cases hd
theorem Inv.lj (I:Inv X pins σ H s):s.heap.FunFrames X.base X.outer:=by
 have all:∀(l:List Env),(∀b∈jj l,b∈X.fs)→X.s₀.heap.FunFrames X.base l→s.heap.FunFrames X.base l:=by
  intro l
  induction l with
  | nil=>intro _ _;trivial
  | cons env r ih =>
   intro hs hl
   obtain ⟨hk,⟨L,o,hf,hn,ho,hd⟩,hr⟩:=hl
   have hL:L∈X.fs:=hs L (by unfold jj;rw [TB,hf];exact SD)
   obtain ⟨sl,e⟩:=I.base.slot L o ho (I.ok.frf L hL) hL λz=>I.ok.exfs L z hL
   exact ⟨hk,⟨L,_,hf,hn,e,hd⟩,ih (λb hb=>hs b (by unfold jj;rw [TB,hf];exact Sm _ hb)) hr⟩
 exact all X.outer (λ_ hb=>hb) I.ok.lj
theorem Inv.stack (I:Inv X pins σ H s):s.heap.FunFrames X.base X.stack:=by
 rcases I.ok.stk with e | ⟨e,hf⟩
 ·rw [e];exact I.lj
 ·rw [e]
  obtain ⟨m,hn,_⟩:=I.loc
  refine .cons (by rw [I.ok.kind];decide) hf hn ?_ I.lj
  exact Heap.get?_none_of_le (Su I.ok.bsz I.ok.above)
theorem Inv.oa (I:Inv X pins σ H s):∀b∈jj X.stack,b∈X.env.locals :: X.fs:=λb hb=>by
 rcases I.ok.stk with e | ⟨e,hf⟩
 ·rw [e] at hb;exact Sm _ hb
 ·rw [e] at hb
  unfold jj at hb
  rw [TB,hf] at hb
  exact hb
theorem Inv.vB (I:Inv X pins σ H s):∀b∈jj X.stack,H b=none:=λb hb=>by
 rcases Sf.mp (I.oa b hb) with e | hb
 ·rw [e];exact I.free
 ·obtain ⟨_,o,ho,_⟩:=I.ok.lj.mem hb
  exact I.base.free b o ho (I.ok.frf b hb) λz=>I.ok.exfs b z hb
theorem Inv.step {g':Array GenState} {t':Nat} {d':Drawn} {ch:List Addr} (I:Inv X pins σ H s)
  (hch:∀b∈ch,(b∈X.ex∨X.s₀.heap.objs.size≤b)∧b≠X.env.locals∧(∀x c,X.env.cells.lookup x=some c→c≠b)∧∀p∈X.pn ++ pins,p.1≠b)
  (keep:∀b o,b≠X.env.locals→b ∉ X.fs→b ∉ ch→s.heap.get? b=some o→H b=none→h'.get? b=some o)
  (slot:∀b o,b≠X.env.locals→b∈X.fs→b ∉ ch→s.heap.get? b=some o→H b=none→∃sl,h'.get? b=some { o with slots:=sl }) (free:∀b o,b ∉ ch→s.heap.get? b=some o→H b=none→H' b=none)
  (there:∀b o,b ∉ ch→s.heap.get? b=some o→∃o',h'.get? b=some o')
  (tups:∀b xs,H b=some (.tup xs)→H' b=some (.tup xs)) (frzs:∀b o u,H b=some (.oY o u)→H' b=some (.oY o u)) (tbls:∀b ps,H b=some (.tbl ps)→∃more,H' b=some (.tbl (ps ++ more)))
  (ns:∀m,s.heap.Ns X.env.locals m→h'.Ns X.env.locals m) (hok:lV X.prog X.w H' h') (hg:AllBare g') :
  Inv X pins σ H' { s with heap:=h',gens:=g',drawn:=d',toks:=t' }:=by
 have neL:∀b o,X.s₀.heap.get? b=some o→b≠X.env.locals:=λb o e=>Sw (Sn (Heap.lt_size e) I.ok.above)
 have neC:∀b o,X.s₀.heap.get? b=some o→b ∉ X.ex→b ∉ ch:=λb o e hx hb=>by
  rcases (hch b hb).1 with z | z
  ·exact hx z
  ·exact absurd (Sn (Heap.lt_size e) z) (Ta _)
 have cellK:∀x c,X.env.cells.lookup x=some c→∀v,s.heap.IsCell c v→h'.IsCell c v:=λx c e v ⟨o,ho,hd⟩=>by
  have nch:c ∉ ch:=λz=>(hch c z).2.2.1 x c e rfl
  by_cases hc:c∈X.fs
  ·obtain ⟨sl,q⟩:=slot c o (I.F8 x c e) hc nch ho (I.freeC x c e)
   exact ⟨_,q,hd⟩
  ·exact ⟨o,keep c o (I.F8 x c e) hc nch ho (I.freeC x c e),hd⟩
 refine ⟨I.ok,I.os,hg,⟨λb o e n hb hx=>?_,λb o e n hb hx=>?_,λb o e n hx=>?_,λb o e hx=>?_,λb xs e=>tups b xs (I.base.tups b xs e),λb o xs e=>frzs b o xs (I.base.frzs b o xs e),λb ps e=>?_⟩,?_,λx c e=>?_,?_,λx c e=>?_,λp hp=>?_,hok,I.len⟩
 ·exact keep b o (neL b o e) hb (neC b o e hx) (I.base.keep b o e n hb hx) (I.base.free b o e n hx)
 ·obtain ⟨sl,e1⟩:=I.base.slot b o e n hb hx
  obtain ⟨sl',e2⟩:=slot b _ (neL b o e) hb (neC b o e hx) e1 (I.base.free b o e n hx)
  exact ⟨sl',e2⟩
 ·obtain ⟨o',e1⟩:=I.base.there b o e hx
  exact free b o' (neC b o e hx) e1 (I.base.free b o e n hx)
 ·obtain ⟨o',e1⟩:=I.base.there b o e hx
  exact there b o' (neC b o e hx) e1
 ·obtain ⟨m1,e1⟩:=I.base.tbls b ps e
  obtain ⟨m2,e2⟩:=tbls b _ e1
  exact ⟨m1 ++ m2,by rw [e2,Array.append_assoc]⟩
 ·obtain ⟨m,hn,hl⟩:=I.loc
  refine ⟨m,ns m hn,λi x v e1 e2 e3=>?_⟩
  obtain ⟨u,r,l⟩:=hl i x v e1 e2 e3
  refine ⟨u,r,?_⟩
  rcases l with l | ⟨k,c,e,z⟩
  ·exact .inl l
  ·exact .inr ⟨k,c,e,cellK x c e _ z⟩
 ·obtain ⟨v,z⟩:=I.cell x c e
  exact ⟨v,cellK x c e v z⟩
 ·obtain ⟨m,⟨o,_,_,ho,_⟩,_⟩:=I.loc
  exact free _ o (λz=>(hch _ z).2.1 rfl) ho I.free
 ·obtain ⟨v,o,ho,hd⟩:=I.cell x c e
  exact free c o (λz=>(hch c z).2.2.1 x c e rfl) ho (I.freeC x c e)
 ·obtain ⟨e,n,ne,nf,d⟩:=I.pin p hp
  have nch:p.1 ∉ ch:=λz=>(hch p.1 z).2.2.2 p hp rfl
  exact ⟨keep p.1 p.2 ne nf nch e n,free p.1 p.2 nch e n,ne,nf,d⟩
theorem Inv.un {t':Nat} (I:Inv X pins σ H s) (u:Un X.fs [] H H' s.heap h') (hok:lV X.prog X.w H' h'):Inv X pins σ H' { s with heap:=h',toks:=t' }:=by
 obtain ⟨m,⟨o,es,ep,ho,r⟩,_⟩:=id I.loc
 obtain ⟨sl,hL⟩:=u.any ho I.free (by simp)
 exact I.step (g':=s.gens) (d':=s.drawn) (ch:=[]) (λ_ z=>nomatch z) (λb o _ hb _ e n=>u.keep b o e n hb (by simp)) (λb o _ hb _ e n=>u.slot b o e n hb (by simp)) (λb o _ e n=>u.free b o e n (by simp)) (λb o _ e=>u.there b o e (by simp)) u.tups u.frzs u.tbls (λm' hm=>by
  obtain ⟨o',es',ep',ho',r'⟩:=hm
  rw [ho] at ho';cases ho'
  exact ⟨_,es',ep',hL,r'⟩) hok I.bare
theorem Inv.call {g':Array GenState} {t':Nat} {d':Drawn} {ch:List Addr} (I:Inv X pins σ H s) (u:Un (jj X.stack) ch H H' s.heap h') (hok:lV X.prog X.w H' h') (hg:AllBare g')
  (hch:∀b∈ch,(b∈X.ex∨X.s₀.heap.objs.size≤b)∧b≠X.env.locals∧(∀x c,X.env.cells.lookup x=some c→c≠b)∧∀p∈X.pn ++ pins,p.1≠b) :
  Inv X pins σ H' { s with heap:=h',gens:=g',drawn:=d',toks:=t' }:=by
 obtain ⟨m,⟨o,es,ep,ho,r⟩,_⟩:=id I.loc
 obtain ⟨sl,hL⟩:=u.any ho I.free λz=>(hch _ z).2.1 rfl
 exact I.step (ch:=ch) hch (λb o hL hb hc e n=>u.keep b o e n (λz=>(Sf.mp (I.oa b z)).elim hL hb) hc) (λb o _ _ hc e n=>u.any e n hc) (λb o hc e n=>u.free b o e n hc) (λb o hc e=>u.there b o e hc) u.tups u.frzs u.tbls (λm' hm=>by
  obtain ⟨o',es',ep',ho',r'⟩:=hm
  rw [ho] at ho';cases ho'
  exact ⟨_,es',ep',hL,r'⟩) hok hg
theorem Inv.turned {t':Nat} {it:Addr} (I:Inv X pins σ H s) (k:∀b o,b≠it→s.heap.get? b=some o→h'.get? b=some o) (hn:H it=none) (hL:it≠X.env.locals)
  (h1:it∈X.ex∨X.s₀.heap.objs.size≤it) (h2:∀x c,X.env.cells.lookup x=some c→c≠it) (h3:∀p∈X.pn ++ pins,p.1≠it):Inv X pins σ H { s with heap:=h',toks:=t' }:=by
 have nit:∀b u,H b=some u→b≠it:=λb u e z=>by rw [z,hn] at e;cases e
 refine I.step (g':=s.gens) (d':=s.drawn) (ch:=[it]) (λb hb=>?_) (λb o _ _ hc e _=>k b o (λz=>hc (by simp [z])) e) (λb o _ _ hc e _=>⟨o.slots,k b o (λz=>hc (by simp [z])) e⟩) (λ_ _ _ _ n=>n)
  (λb o hc e=>⟨o,k b o (λz=>hc (by simp [z])) e⟩) (λ_ _ e=>e) (λ_ _ _ e=>e) (λb ps e=>⟨#[],by rw [e];simp⟩) (λm hm=>?_) (λb u e=>?_) I.bare
 ·have e:b=it:=by simpa using hb
  subst e
  exact ⟨h1,hL,h2,h3⟩
 ·obtain ⟨o,es,ep,ho,r⟩:=hm
  exact ⟨o,es,ep,k _ o (Ne.symm hL) ho,r⟩
 ·refine (I.hok b u e).n_ (λc v hc q=>k c v ?_ q) (λ_ q=>q) λ_ _ q=>q
  rcases hc with z | z
  ·rw [z];exact nit b u e
  ·exact nit c _ z
theorem Inv.tok (I:Inv X pins σ H s) (t:Nat):Inv X pins σ H { s with toks:=t }:=I.un (h':=s.heap) (t':=t) Un.refl I.hok
theorem Inv.kept {t':Nat} (I:Inv X pins σ H s) (k:∀b u,s.heap.get? b=some u→h'.get? b=some u):Inv X pins σ H { s with heap:=h',toks:=t' }:=I.un (Un.kept k) (I.hok.kept k)
theorem Inv.laid {a:Addr} {o:HO} {t':Nat} (I:Inv X pins σ H s) (k:∀b u,s.heap.get? b=some u→h'.get? b=some u) (hp:s.heap.objs.size≤a) (new:dm X.prog X.w (upd H a o) h' a o) :
  Inv X pins σ (upd H a o) { s with heap:=h',toks:=t' }:=I.un (Un.laid k hp (I.hok.fresh hp)) (I.hok.laid k hp new)
theorem Inv.write {x e:Addr} {o:HO} {t':Nat} (I:Inv X pins σ H s) (mu:OE (H x)) (he:e=x∨H e=some (.own x)) (k:∀b u,b≠e→s.heap.get? b=some u→h'.get? b=some u) (heo:∃u,h'.get? e=some u)
  (new:dm X.prog X.w (upd H x o) h' x o):Inv X pins σ (upd H x o) { s with heap:=h',toks:=t' }:=I.un (Un.write mu he k heo) (I.hok.write mu he k heo new)
theorem Inv.weak {σ':List (Option V)} (I:Inv X pins σ H s) (hl:σ'.length=σ.length) (w:∀(i:Nat) v,σ'[i]?=some (some v)→σ[i]?=some (some v)):Inv X pins σ' H s :=
 ⟨I.ok,I.os,I.bare,I.base,let ⟨m,hn,hl'⟩:=I.loc;⟨m,hn,λi x v e1 e2 e3=>hl' i x v e1 (w i v e2) e3⟩,I.cell,I.free,I.freeC,I.pin,I.hok,hl.trans I.len⟩
theorem Inv.Ao {pins':List (Addr × Obj)} (I:Inv X pins σ H s) (h:∀p∈pins',s.heap.get? p.1=some p.2∧H p.1=none∧p.1≠X.env.locals∧p.1 ∉ X.fs∧∀v,p.2.data≠.cell v):Inv X pins' σ H s :=
 ⟨I.ok,I.os,I.bare,I.base,I.loc,I.cell,I.free,I.freeC,λp hp=>(Se.mp hp).elim (λz=>I.pin p (Te _ z)) (h p),I.hok,I.len⟩
theorem qd {N:List Str} (hN:N.Nodup) {i j:Nat} {x:Str} (a:N[i]?=some x) (b:N[j]?=some x):i=j:=by
 obtain ⟨h1,e1⟩:=R8.mp a
 obtain ⟨h2,e2⟩:=R8.mp b
 exact (S9 hN).mp (e1.trans e2.symm)
theorem tP {M:Model} {A:Around} {E:Value→Shared→Prop} {i:Nat} {x:Str} {v:V} {u:Value} {Q:Unit→Shared→Prop} (I:Inv X pins σ H s) (hN:X.N.Nodup) (hi:X.N[i]?=some x) (hx:Loc X.env.scope x) (r:RelV v u)
  (h:∀s',Inv X pins (σ.set i (some v)) H s'→(∃a,Heap.SameBut a s.heap s'.heap∧(a=X.env.locals∨X.env.cells.lookup x=some a))→Q () s') (hf:X.fn x=true∨X.env.scope.names.lookup x=some .local:=by first | exact .inl rfl | exact .inr rfl | assumption):wpAny M A (storeName X.env x u) Q E s:=by
 obtain ⟨m,hn,hl⟩:=id I.loc
 have hcls:(X.env.scope.kind == .class || (X.env.scope.kind == .module && X.env.locals != X.env.globals))=false:=by rw [I.ok.kind];rfl
 have hiσ:i < σ.length:=by rw [I.len];exact (R8.mp hi).1
 have F8:=I.F8
 have tracked:∀{a:Addr} {h':Heap},(∃o,s.heap.get? a=some o∧H a=none)→Heap.SameBut a s.heap h'→lV X.prog X.w H h':=λ{a h'} ha hs b ob e=>by
  obtain ⟨_,_,hfree⟩:=ha
  refine (I.hok b ob e).n_ (λc w' hc q=>(hs.2 c ?_).trans q) (λ_ q=>q) λ_ _ q=>q
  rintro rfl
  rcases hc with rfl | hc
  ·rw [hfree] at e;cases e
  ·rw [hfree] at hc;cases hc
 rcases hx with hk | hk
 ·refine wpAny_storeName_local hk hn (λh' hn' hs=>?_) hcls
  obtain ⟨oL,_,_,hoL,_⟩:=id hn
  refine h _ ⟨I.ok,I.os,I.bare,⟨λb o e n hb hx=>?_,λb o e n hb hx=>?_,I.base.free,λb o e hx=>?_,I.base.tups,I.base.frzs,I.base.tbls⟩,⟨_,hn',λj y v' e1 e2 e3=>?_⟩,λy c e=>?_,I.free,I.freeC,λp hp=>?_,tracked ⟨oL,hoL,I.free⟩ hs,by simpa using I.len⟩ ⟨_,hs,.inl rfl⟩
  ·exact (hs.2 b (Sw (Sn (Heap.lt_size e) I.ok.above))).trans (I.base.keep b o e n hb hx)
  ·obtain ⟨sl,e1⟩:=I.base.slot b o e n hb hx
   exact ⟨sl,(hs.2 b (Sw (Sn (Heap.lt_size e) I.ok.above))).trans e1⟩
  ·obtain ⟨o',e1⟩:=I.base.there b o e hx
   exact ⟨o',(hs.2 b (Sw (Sn (Heap.lt_size e) I.ok.above))).trans e1⟩
  ·by_cases hj:j=i
   ·subst hj
    rw [hi] at e1;cases e1
    rw [SE hiσ] at e2
    cases e2
    exact ⟨u,r,.inl ⟨hk,by simp⟩⟩
   ·rw [SQ (Ne.symm hj)] at e2
    obtain ⟨u',r',q⟩:=hl j y v' e1 e2 e3
    refine ⟨u',r',?_⟩
    rcases q with ⟨k,e⟩ | ⟨k,c,e,z⟩
    ·refine .inl ⟨k,?_⟩
     have:y≠x:=λe=>hj (qd hN e1 (e ▸ hi))
     simp [this,e]
    ·exact .inr ⟨k,c,e,z.sameBut hs (F8 y c e)⟩
  ·obtain ⟨w',z⟩:=I.cell y c e
   exact ⟨w',z.sameBut hs (F8 y c e)⟩
  ·obtain ⟨e,n,ne,nf,d⟩:=I.pin p hp
   exact ⟨(hs.2 p.1 ne).trans e,n,ne,nf,d⟩
 ·have hfn:X.fn x=true:=by
   rcases hf with z | z
   ·exact z
   ·rw [z] at hk;cases hk
  obtain ⟨c,hc⟩:=I.ok.has x (.inl hk)
  obtain ⟨w',z⟩:=I.cell x c hc
  refine wpAny_storeName_cell I.ok.kind hk hc z (λh' hc' hs=>?_)
  obtain ⟨oc,hoc,hocd⟩:=id z
  refine h { s with heap:=h' } ⟨I.ok,I.os,I.bare,⟨λb o e n hb hx=>?_,λb o e n hb hx=>?_,I.base.free,λb o e hx=>?_,I.base.tups,I.base.frzs,I.base.tbls⟩,⟨m,hn.sameBut hs (Ne.symm (F8 x c hc)),λj y v' e1 e2 e3=>?_⟩,λy c' e=>?_,I.free,I.freeC,λp hp=>?_,tracked ⟨oc,hoc,I.freeC x c hc⟩ hs,by simpa using I.len⟩ ⟨c,hs,.inr hc⟩
  ·exact (hs.2 b (Sw (Sn (Heap.lt_size e) (I.ok.cab x c hfn hc)))).trans (I.base.keep b o e n hb hx)
  ·obtain ⟨sl,e1⟩:=I.base.slot b o e n hb hx
   exact ⟨sl,(hs.2 b (Sw (Sn (Heap.lt_size e) (I.ok.cab x c hfn hc)))).trans e1⟩
  ·obtain ⟨o',e1⟩:=I.base.there b o e hx
   exact ⟨o',(hs.2 b (Sw (Sn (Heap.lt_size e) (I.ok.cab x c hfn hc)))).trans e1⟩
  ·by_cases hj:j=i
   ·subst hj
    rw [hi] at e1;cases e1
    rw [SE hiσ] at e2
    cases e2
    exact ⟨u,r,.inr ⟨.inl hk,c,hc,hc'⟩⟩
   ·rw [SQ (Ne.symm hj)] at e2
    obtain ⟨u',r',q⟩:=hl j y v' e1 e2 e3
    refine ⟨u',r',?_⟩
    rcases q with q | ⟨k,c',e,z'⟩
    ·exact .inl q
    ·refine .inr ⟨k,c',e,z'.sameBut hs ?_⟩
     rintro rfl
     exact hj (qd hN e1 (I.ok.inj _ _ _ e hc ▸ hi))
  ·by_cases hcc:c'=c
   ·subst hcc;exact ⟨_,hc'⟩
   ·obtain ⟨w2,z2⟩:=I.cell y c' e
    exact ⟨w2,z2.sameBut hs hcc⟩
  ·obtain ⟨e,n,ne,nf,d⟩:=I.pin p hp
   refine ⟨(hs.2 p.1 ?_).trans e,n,ne,nf,d⟩
   intro q
   rw [q,hoc] at e
   have q':oc=p.2:=Option.some.inj e
   exact d w' (by rw [← q'];exact hocd)
theorem e_ {M:Model} {A:Around} {E:Value→Shared→Prop} {i:Nat} {x:Str} {v:V} {u:Value} {Q:Unit→Shared→Prop} (I:Inv X pins σ H s) (hN:X.N.Nodup) (hi:X.N[i]?=some x) (hx:Loc X.env.scope x) (r:RelV v u)
  (h:∀s',Inv X pins (σ.set i (some v)) H s'→Q () s') (hf:X.fn x=true∨X.env.scope.names.lookup x=some .local:=by first | exact .inl rfl | exact .inr rfl | assumption):wpAny M A (storeName X.env x u) Q E s :=
 tP I hN hi hx r (λs' I' _=>h s' I') hf
theorem Inv.C7 {s':Shared} {ch:List Addr} (I:Inv X pins σ H s) (ho:s'.os=s.os) (u:Un (jj X.stack) ch H H' s.heap s'.heap) (hok:lV X.prog X.w H' s'.heap) (hg:AllBare s'.gens)
  (hch:∀b∈ch,(b∈X.ex∨X.s₀.heap.objs.size≤b)∧b≠X.env.locals∧(∀x c,X.env.cells.lookup x=some c→c≠b)∧∀p∈X.pn ++ pins,p.1≠b):Inv X pins σ H' s':=by
 obtain ⟨h',g',d',t',o'⟩:=s'
 have e:o'=s.os:=ho
 subst e
 exact I.call (g':=g') (t':=t') (d':=d') u hok hg hch
end
abbrev XK:=Value→Option Addr→Hp→Prop
abbrev St:=List (Option V)
abbrev VK:=V→Hp→Prop
abbrev TE:=St→Hp→VK→Prop
abbrev TT:=St→Hp→(Bool→Hp→Prop)→Prop
abbrev TA:=St→Hp→(List V→Hp→Prop)→Prop
structure Ends where
 nx:St→Hp→Prop
 rt:VK
 bk:St→Hp→Prop:=λ_ _=>False
 ct:St→Hp→Prop:=λ_ _=>False
abbrev TS:=Ends→St→Hp→Prop
def EP (X:Cx) (pins:List (Addr × Obj)) (σ:St) (Q:VK) (u:Value) (s':Shared):Prop:=∃v H',Inv X pins σ H' s'∧RelV v u∧Q v H'
def TP (X:Cx) (pins:List (Addr × Obj)) (σ:St) (Q:Bool→Hp→Prop) (b:Bool) (s':Shared):Prop:=∃H',Inv X pins σ H' s'∧Q b H'
def AP (X:Cx) (pins:List (Addr × Obj)) (σ:St) (Q:List V→Hp→Prop) (us:List Value) (s':Shared):Prop:=∃vs H',Inv X pins σ H' s'∧Vals vs us∧Q vs H'
def SP (X:Cx) (pins:List (Addr × Obj)) (D:Ends) (f:Flow) (s':Shared):Prop :=
 match f with
 | .next=>∃σ' H',Inv X pins σ' H' s'∧D.nx σ' H'
 | .brk=>∃σ' H',Inv X pins σ' H' s'∧D.bk σ' H'
 | .cont=>∃σ' H',Inv X pins σ' H' s'∧D.ct σ' H'
 | .ret u=>∃v σ' H',Inv X pins σ' H' s'∧RelV v u∧D.rt v H'
def PE (X:Cx) (e:Expr) (t:TE):Prop :=
 ∀(pins:List (Addr × Obj)) (s:Shared) (σ:St) (H:Hp) (Q:VK),Inv X pins σ H s→t σ H Q→wpAny (model X.prog X.w) X.A (eval e X.env) (EP X pins σ Q) X.xe s
def PT (X:Cx) (e:Expr) (t:TT):Prop :=
 ∀(pins:List (Addr × Obj)) (s:Shared) (σ:St) (H:Hp) (Q:Bool→Hp→Prop),Inv X pins σ H s→t σ H Q→wpAny (model X.prog X.w) X.A (isTrue e X.env (eval e X.env)) (TP X pins σ Q) X.xe s
def PW (X:Cx) (e:Expr) (t:TT):Prop :=
 ∀(whole:Sem Value) (pins:List (Addr × Obj)) (s:Shared) (σ:St) (H:Hp) (Q:Bool→Hp→Prop),Inv X pins σ H s→t σ H Q→wpAny (model X.prog X.w) X.A (isTrue e X.env whole) (TP X pins σ Q) X.xe s
theorem PW.pt {X:Cx} {e:Expr} {t:TT} (h:PW X e t):PT X e t:=h _
def PA (X:Cx) (es:List Expr) (t:TA):Prop :=
 ∀(pos:Pos) (pins:List (Addr × Obj)) (s:Shared) (σ:St) (H:Hp) (Q:List V→Hp→Prop),Inv X pins σ H s→t σ H Q→wpAny (model X.prog X.w) X.A (spliced (backTo pos (starEach es X.env))) (AP X pins σ Q) X.xe s
def PS (X:Cx) (st:Stmt) (t:TS):Prop :=
 ∀(pins:List (Addr × Obj)) (s:Shared) (σ:St) (H:Hp) (D:Ends),Inv X pins σ H s→t D σ H→wpAny (model X.prog X.w) X.A (exec st X.env) (SP X pins D) X.xe s
def rj (X:Cx) (st:List Stmt) (t:TS):Prop :=
 ∀(pins:List (Addr × Obj)) (s:Shared) (σ:St) (H:Hp) (D:Ends),Inv X pins σ H s→t D σ H→wpAny (model X.prog X.w) X.A (execs st X.env) (SP X pins D) X.xe s
theorem cn {α:Type} {t:Sem α} {Q Q':α→Shared→Prop} {M:Model} {A:Around} {E:Value→Shared→Prop} {s:Shared} (h:wpAny M A t Q E s) (hQ:∀a s,Q a s→Q' a s):wpAny M A t Q' E s:=wpAny_mono h hQ λ_ _ x=>x
end L2
namespace L2
open PySem PySem.Spec PyProof.Rows
section
variable {X:Cx}
def zu (i:Nat):TE:=λσ H Q=>∃v,σ[i]?=some (some v)∧Q v H
def tC (v:V):TE:=λ_ H Q=>Q v H
theorem yV {i:Nat} {x:Str} {pos:Pos} (hN:X.N[i]?=some x) (hv:sL X.env.scope x) (hd:(x == ("__debug__":Str))=false:=by decide) (hcd:(x == ("__classdict__":Str))=false:=by decide):PE X (.Name x pos) (zu i):=by
 intro pins s σ H Q I h
 obtain ⟨v,e,h⟩:=h
 obtain ⟨m,hn,hl⟩:=I.loc
 obtain ⟨u,r,l⟩:=hl i x v hN e hv
 have fin:EP X pins σ Q u s:=⟨v,H,I,r,h⟩
 rcases l with ⟨hk,hm⟩ | ⟨hk,c,hc,hcell⟩
 ·exact wpAny_Name (wpAny_loadName_local I.ok.kind hk hn hm fin) hd
 ·rcases hk with hk | hk
  ·exact wpAny_Name (wpAny_loadName_cell I.ok.kind hk hc hcell fin) hd
  ·exact wpAny_Name (wpAny_loadName_free I.ok.kind hk hc hcell fin hcd) hd
theorem aK {i j pos}:PE X (.Constant (.int i) j pos) (tC (.int i)):=λ_ _ _ H _ I h=>wpAny_Constant_int ⟨.int i,H,I.tok _,⟨_,rfl⟩,h⟩
theorem wR {b j pos}:PE X (.Constant (.bool b) j pos) (tC (.bl b)):=λ_ _ _ H _ I h=>Constant_bool ⟨.bl b,H,I,rfl,h⟩
theorem yS {j pos}:PE X (.Constant .none j pos) (tC .non):=λ_ _ _ H _ I h=>Constant_none ⟨.non,H,I,rfl,h⟩
theorem nA {x j pos}:PE X (.Constant (.str x) j pos) (tC (.str x)):=λ_ _ _ H _ I h=>Calls.Constant_str ⟨.str x,H,I.tok _,⟨_,rfl⟩,h⟩
def Gl (X:Cx) (x:Str):Prop:=X.env.kindOf x=some .globalImplicit
theorem ki {E:Value→Shared→Prop} {pins:List (Addr × Obj)} {s:Shared} {σ:St} {H:Hp} {x:Str} {u:Value} {pos:Pos} {Q:Value→Shared→Prop} (I:Inv X pins σ H s) (hg:Gl X x) (hm:X.mg x=some u) (h:Q u s)
  (hd:(x == ("__debug__":Str))=false:=by decide):wpAny (model X.prog X.w) X.A (eval (.Name x pos) X.env) Q E s :=
 Calls.Name_function_global I.ok.kind hg (Calls.loadGlobal_global (by rw [I.ok.glob];exact I.mod.glob.keeps I.bk) hm h) hd
theorem lq {E:Value→Shared→Prop} {pins:List (Addr × Obj)} {s:Shared} {σ:St} {H:Hp} {x:Str} {u:Value} {pos:Pos} {Q:Value→Shared→Prop} (I:Inv X pins σ H s) (hg:Gl X x) (hm:X.mg x=none) (hv:bootBuiltins x=some u) (h:Q u s)
  (hn:x≠"__name__":=by decide) (hd:(x == ("__debug__":Str))=false:=by decide):wpAny (model X.prog X.w) X.A (eval (.Name x pos) X.env) Q E s:=by
 obtain ⟨mb,h1,h2⟩:=I.mod.blt
 exact Calls.Name_function_global I.ok.kind hg (Calls.loadGlobal_builtin (by rw [I.ok.glob];exact I.mod.glob.keeps I.bk) hm (by rw [I.ok.blt];exact h1.keeps I.bk) ((h2 x hn).trans hv) h) hd
theorem bG {x:Str} {v:V} {u:Value} {pos:Pos} (hg:Gl X x) (hm:X.mg x=some u) (r:RelV v u) (hd:(x == ("__debug__":Str))=false:=by decide):PE X (.Name x pos) (tC v) :=
 λ_ _ _ H _ I h=>ki I hg hm ⟨v,H,I,r,h⟩ hd
theorem mq {x:Str} {v:V} {u:Value} {pos:Pos} (hg:Gl X x) (hm:X.mg x=none) (hv:bootBuiltins x=some u) (r:RelV v u) (hn:x≠"__name__":=by decide) (hd:(x == ("__debug__":Str))=false:=by decide):PE X (.Name x pos) (tC v) :=
 λ_ _ _ H _ I h=>lq I hg hm hv ⟨v,H,I,r,h⟩ hn hd
variable {a b:Expr} {ta tb:TE} {pos:Pos}
def tB (t:TE):TT:=λσ H Q=>t σ H λx H1=>∃c,x=.bl c∧Q c H1
theorem y3 {e:Expr} {t:TE} (h:PE X e t) (he:∀whole,isTrue e X.env whole=(do let v ← whole;standAt e.pos;holding [v] (truthy v)):=by intro _;rfl):PT X e (tB t):=by
 intro pins s σ H Q I hw
 refine isTrue_plain (cn (h pins s σ H _ I hw) λv s1 ⟨x,H1,I1,r1,q1⟩=>?_) (he _)
 obtain ⟨d,rfl,q⟩:=q1
 cases r1
 exact wpAny_truthy_bool ⟨H1,I1,q⟩
variable {tA tB':TT} {rest:List Expr}
def E6 (t u:TT):TT:=λσ H Q=>t σ H λc H1=>if c=true then u σ H1 Q else Q false H1
def Og (t u:TT):TT:=λσ H Q=>t σ H λc H1=>if c=true then Q true H1 else u σ H1 Q
def HX (t:TT):TT:=λσ H Q=>t σ H λc H1=>Q (!c) H1
theorem o_ (ha:PT X a tA):PW X (.BoolOp .And [a] pos) tA:=by
 intro wh pins s σ H Q I h
 refine isTrue_and (cn (ha pins s σ H Q I h) λc s1 e=>?_)
 cases c with
 | true=>exact isTrue_and_nil e
 | false=>exact e
theorem uV (ha:PT X a tA):PW X (.BoolOp .Or [a] pos) tA:=by
 intro wh pins s σ H Q I h
 refine isTrue_or (cn (ha pins s σ H Q I h) λc s1 e=>?_)
 cases c with
 | false=>exact isTrue_or_nil e
 | true=>exact e
theorem uU (ha:PT X a tA) (hb:PW X (.BoolOp .And (b :: rest) pos) tB'):PW X (.BoolOp .And (a :: b :: rest) pos) (E6 tA tB'):=by
 intro wh pins s σ H Q I h
 refine isTrue_and (cn (ha pins s σ H _ I h) λc s1 ⟨H1,I1,q1⟩=>?_)
 cases c with
 | true=>exact hb wh pins s1 σ H1 Q I1 q1
 | false=>exact ⟨H1,I1,q1⟩
theorem Ar (ha:PT X a tA) (hb:PW X (.BoolOp .Or (b :: rest) pos) tB'):PW X (.BoolOp .Or (a :: b :: rest) pos) (Og tA tB'):=by
 intro wh pins s σ H Q I h
 refine isTrue_or (cn (ha pins s σ H _ I h) λc s1 ⟨H1,I1,q1⟩=>?_)
 cases c with
 | true=>exact ⟨H1,I1,q1⟩
 | false=>exact hb wh pins s1 σ H1 Q I1 q1
theorem y0 (ha:PT X a tA):PT X (.UnaryOp .Not a pos) (HX tA):=by
 intro pins s σ H Q I h
 exact isTrue_not (ha pins s σ H (λc H1=>Q (!c) H1) I h)
def A3 (ta tb:TE):TE:=λσ H Q=>ta σ H λx H1=>∃c,x=.bl c∧if c=true then tb σ H1 Q else Q (.bl false) H1
def HY (ta tb:TE):TE:=λσ H Q=>ta σ H λx H1=>∃c,x=.bl c∧if c=true then Q (.bl true) H1 else tb σ H1 Q
def A6 (ta:TE):TE:=λσ H Q=>ta σ H λx H1=>∃c,x=.bl c∧Q (.bl (!c)) H1
theorem yU {op} {t:TE} (h:PE X a t):PE X (.BoolOp op [a] pos) t:=λpins s σ H Q I hw=>BoolOp_one (h pins s σ H Q I hw)
theorem yR (ha:PE X a ta) (hb:PE X (.BoolOp .And (b :: rest) pos) tb):PE X (.BoolOp .And (a :: b :: rest) pos) (A3 ta tb):=by
 intro pins s σ H Q I h
 refine BoolOp_and (cn (ha pins s σ H _ I h) λv s1 ⟨x,H1,I1,r1,q1⟩=>?_)
 obtain ⟨c,rfl,q1⟩:=q1
 cases r1
 refine wpAny_truthy_bool ?_
 cases c with
 | true=>exact hb pins s1 σ H1 Q I1 q1
 | false=>exact ⟨.bl false,H1,I1,rfl,q1⟩
theorem Eh (ha:PE X a ta) (hb:PE X (.BoolOp .Or (b :: rest) pos) tb):PE X (.BoolOp .Or (a :: b :: rest) pos) (HY ta tb):=by
 intro pins s σ H Q I h
 refine BoolOp_or (cn (ha pins s σ H _ I h) λv s1 ⟨x,H1,I1,r1,q1⟩=>?_)
 obtain ⟨c,rfl,q1⟩:=q1
 cases r1
 refine wpAny_truthy_bool ?_
 cases c with
 | false=>exact hb pins s1 σ H1 Q I1 q1
 | true=>exact ⟨.bl true,H1,I1,rfl,q1⟩
theorem yT (ha:PE X a ta):PE X (.UnaryOp .Not a pos) (A6 ta):=by
 intro pins s σ H Q I h
 refine UnaryOp_ (cn (ha pins s σ H _ I h) λv s1 ⟨x,H1,I1,r1,q1⟩=>?_)
 obtain ⟨c,rfl,q1⟩:=q1
 cases r1
 exact not_of (wpAny_truthy_bool ⟨.bl (!c),H1,I1,rfl,q1⟩)
def OV (t:TT) (ta tb:TE):TE:=λσ H Q=>t σ H λc H1=>if c=true then ta σ H1 Q else tb σ H1 Q
theorem qr {c:Expr} (hc:PT X c tA) (ha:PE X a ta) (hb:PE X b tb):PE X (.IfExp c a b pos) (OV tA ta tb):=by
 intro pins s σ H Q I h
 refine wpAny_IfExp (cn (hc pins s σ H _ I h) λd s1 ⟨H1,I1,q1⟩=>?_)
 cases d with
 | true=>exact ha pins s1 σ H1 Q I1 q1
 | false=>exact hb pins s1 σ H1 Q I1 q1
end
end L2
namespace L2
open PySem PySem.Spec PyProof.Rows
def cP (K:PySem.W.Frag) (H:Hp) (a:Addr) (xs:List V):Prop :=
 Rd H a (.lst xs) ∨
  ∃(o:Obj) (its:Array Value) (n:Nat),K.lookup a=some o∧o.cls=.type "list"∧o.dict=none∧o.data=.seq its n∧its.size≤sizeLine∧Vals xs its.toList
def fv (K:PySem.W.Frag) (H:Hp) (a:Addr) (xs:List V):Prop :=
 Rd H a (.tup xs) ∨
  ∃(o:Obj) (its:Array Value) (n:Nat),K.lookup a=some o∧o.cls=.type "tuple"∧o.data=.seq its n∧its.size≤sizeLine∧Vals xs its.toList
def O8:Value→Option V
 | .none=>some .non
 | .bool b=>some (.bl b)
 | .int i _=>some (.int i)
 | .str x _=>some (.str x)
 | .bytes b _=>some (.byt b)
 | .float b _=>some (.flt b)
 | .ref a=>some (.ref a)
 | .type n=>some (.ty n)
 | _=>none
theorem RelV.abs {x:V} {u:Value} (r:RelV x u):O8 u=some x:=by
 cases x with
 | non=>cases r;rfl
 | bl _=>cases r;rfl
 | int _=>obtain ⟨t,rfl⟩:=r;rfl
 | str _=>obtain ⟨t,rfl⟩:=r;rfl
 | byt _=>obtain ⟨t,rfl⟩:=r;rfl
 | flt _=>obtain ⟨t,rfl⟩:=r;rfl
 | ref _=>cases r;rfl
 | ty _=>cases r;rfl
theorem RelV.inj {x y:V} {u:Value} (r:RelV x u) (q:RelV y u):x=y:=Option.some.inj (r.abs.symm.trans q.abs)
theorem Vals.inj:∀{xs ys:List V} {us:List Value},Vals xs us→Vals ys us→xs=ys
 | _,_,_,.nil,.nil=>rfl
 | _,_,_,.cons r t,.cons r' t'=>by rw [r.inj r',Vals.inj t t']
section
variable {X:Cx} {pins:List (Addr × Obj)} {σ:St} {H:Hp} {s:Shared} {a:Addr} {xs ys:List V}
theorem cP.of {K:PySem.W.Frag} (h:H a=some (.lst xs)):cP K H a xs:=.inl (.inl h)
theorem fv.of {K:PySem.W.Frag} (h:H a=some (.tup xs)):fv K H a xs:=.inl (.inl h)
theorem Inv.list (I:Inv X pins σ H s) (h:cP X.K H a xs):∃its:List Value,Vals xs its∧PlainL s.heap a its.toArray∧xs.length≤sizeLine:=by
 rcases h with h | ⟨o,its,n,hk,hc,hd,hs,hz,r⟩
 ·obtain ⟨z,its,n,r,e⟩:=h.ok I.hok
  exact ⟨its,r,⟨_,n,e,rfl,rfl,rfl⟩,z⟩
 ·refine ⟨its.toList,r,⟨o,n,I.lp a o hk,hc,hd,by simpa using hs⟩,?_⟩
  have e:=r.length
  simp only [Array.length_toList] at e
  omega
theorem Inv.tuple (I:Inv X pins σ H s) (h:fv X.K H a xs):∃its:List Value,Vals xs its∧IsTup s.heap a its.toArray∧xs.length≤sizeLine:=by
 rcases h with h | ⟨o,its,n,hk,hc,hs,hz,r⟩
 ·obtain ⟨z,its,r,p⟩:=h.ok I.hok
  exact ⟨its,r,p,z⟩
 ·refine ⟨its.toList,r,⟨o,I.lp a o hk,hc,n,by simpa using hs⟩,?_⟩
  have e:=r.length
  simp only [Array.length_toList] at e
  omega
theorem Inv.jH (I:Inv X pins σ H s) (h:cP X.K H a xs) (h':cP X.K H a ys):xs=ys:=by
 obtain ⟨its,r,⟨o,n,e,_,_,d⟩,_⟩:=I.list h
 obtain ⟨its',r',⟨o',n',e',_,_,d'⟩,_⟩:=I.list h'
 rw [e] at e';cases e'
 rw [d] at d'
 injection d' with d1 _
 have:its=its':=by simpa using congrArg Array.toList d1
 subst this
 exact r.inj r'
theorem Inv.Cq (I:Inv X pins σ H s) (h:fv X.K H a xs) (h':fv X.K H a ys):xs=ys:=by
 obtain ⟨its,r,⟨o,e,_,n,d⟩,_⟩:=I.tuple h
 obtain ⟨its',r',⟨o',e',_,n',d'⟩,_⟩:=I.tuple h'
 rw [e] at e';cases e'
 rw [d] at d'
 injection d' with d1 _
 have:its=its':=by simpa using congrArg Array.toList d1
 subst this
 exact r.inj r'
end
abbrev Cx.rb (X:Cx) (E:Value→Shared→Prop):Cx:={ X with xe:=E }
abbrev Cx.Kt (X:Cx):Cx:=X.rb λ_ _=>False
theorem Cx.Ok.rb {X:Cx} (ok:X.Ok) (E:Value→Shared→Prop):(X.rb E).Ok :=
 ⟨ok.mod,ok.kind,ok.glob,ok.blt,ok.above,ok.inj,ok.has,ok.cab,ok.hd,ok.frames,ok.stk,ok.exf,ok.bs,ok.bsz,ok.noex,ok.exfs,ok.lj,ok.frf⟩
theorem Cx.Ok.j6 {X:Cx} {E:Value→Shared→Prop} (ok:(X.rb E).Ok):X.Ok :=
 ⟨ok.mod,ok.kind,ok.glob,ok.blt,ok.above,ok.inj,ok.has,ok.cab,ok.hd,ok.frames,ok.stk,ok.exf,ok.bs,ok.bsz,ok.noex,ok.exfs,ok.lj,ok.frf⟩
section
variable {X:Cx} {pins:List (Addr × Obj)} {σ:St} {H:Hp} {s:Shared} {E:Value→Shared→Prop}
theorem Inv.rb (I:Inv X pins σ H s) (E:Value→Shared→Prop):Inv (X.rb E) pins σ H s:=⟨I.ok.rb E,I.os,I.bare,I.base,I.loc,I.cell,I.free,I.freeC,I.pin,I.hok,I.len⟩
theorem Inv.j6 (I:Inv (X.rb E) pins σ H s):Inv X pins σ H s:=⟨I.ok.j6,I.os,I.bare,I.base,I.loc,I.cell,I.free,I.freeC,I.pin,I.hok,I.len⟩
theorem SP.j6 {D:Ends} {f:Flow} {s':Shared} (h:SP (X.rb E) pins D f s'):SP X pins D f s':=by
 cases f with
 | next=>obtain ⟨σ',H',I,q⟩:=h;exact ⟨σ',H',I.j6,q⟩
 | brk=>obtain ⟨σ',H',I,q⟩:=h;exact ⟨σ',H',I.j6,q⟩
 | cont=>obtain ⟨σ',H',I,q⟩:=h;exact ⟨σ',H',I.j6,q⟩
 | ret u=>obtain ⟨v,σ',H',I,r,q⟩:=h;exact ⟨v,σ',H',I.j6,r,q⟩
theorem rj.Kt {st:List Stmt} {t:TS} (h:rj X.Kt st t):rj X st t:=λpins s σ H D I hw =>
 wpAny_mono (h pins s σ H D (I.rb _) hw) (λ_ _ q=>q.j6) λ_ _ z=>False.elim z
end
section
variable {X:Cx} {st:Stmt} {rest:List Stmt} {t u:TS} {e:Expr} {te:TE} {pos:Pos}
def A5:TS:=λD σ H=>D.nx σ H
def H_ (t u:TS):TS:=λD σ H=>t { D with nx:=u D } σ H
theorem fm:rj X [] A5:=λ_ _ σ H _ I h=>wpAny_execs_nil ⟨σ,H,I,h⟩
theorem aU (h1:PS X st t) (h2:rj X rest u):rj X (st :: rest) (H_ t u):=by
 intro pins s σ H D I h
 refine wpAny_execs_cons (cn (h1 pins s σ H { D with nx:=u D } I h) λf s1 q=>?_)
 cases f with
 | next =>
  obtain ⟨σ',H',I',q⟩:=q
  exact h2 pins s1 σ' H' D I' q
 | ret v=>exact q
 | brk=>exact q
 | cont=>exact q
theorem bC (h1:PS X st t):rj X [st] t:=by
 intro pins s σ H D I h
 refine wpAny_execs_cons (cn (h1 pins s σ H D I h) λf s1 q=>?_)
 cases f with
 | next=>exact wpAny_execs_nil q
 | ret v=>exact q
 | brk=>exact q
 | cont=>exact q
def zr:TS:=λD σ H=>D.bk σ H
def Oc:TS:=λD σ H=>D.ct σ H
theorem qw:PS X (.Break pos) zr:=λ_ _ σ H _ I h=>wpAny_Break ⟨σ,H,I,h⟩
theorem Inv.quiet {pins:List (Addr × Obj)} {σ:St} {H:Hp} {s:Shared} (I:Inv X pins σ H s):interactive X.env=false:=by simp [interactive,I.ok.kind]
def A4 (te:TE):TS:=λD σ H=>te σ H λ_ H1=>D.nx σ H1
theorem kr (he:PE X e te) (hs:swapsWith e none pos.line X.env=pure false:=by rfl):PS X (.Expr e pos) (A4 te):=by
 intro pins s σ H D I h
 exact wpAny_Expr_any (cn (he pins s σ H _ I h) λv s1 ⟨x,H1,I1,r1,q1⟩=>⟨σ,H1,I1,q1⟩) I.quiet hs
def H0 (te:TE):TS:=λD σ H=>te σ H D.rt
theorem dH (he:PE X e te):PS X (.Return (some e) pos) (H0 te):=by
 intro pins s σ H D I h
 exact wpAny_Return_some (cn (he pins s σ H _ I h) λv s1 ⟨x,H1,I1,r1,q1⟩=>⟨x,σ,H1,I1,r1,q1⟩)
def Jt:TS:=λD _ H=>D.rt .non H
def HV (c:TT) (t u:TS):TS:=λD σ H=>c σ H λb H1=>if b=true then t D σ H1 else u D σ H1
theorem mB {c:Expr} {a b:List Stmt} {tc:TT} (hc:PT X c tc) (ha:rj X a t) (hb:rj X b u):PS X (.If c a b pos) (HV tc t u):=by
 intro pins s σ H D I h
 refine wpAny_If (cn (hc pins s σ H _ I h) λd s1 ⟨H1,I1,q1⟩=>?_)
 cases d with
 | true=>exact ha pins s1 σ H1 D I1 q1
 | false=>exact hb pins s1 σ H1 D I1 q1
def zt:TS:=λ_ _ _=>False
theorem nE {sts:List Stmt}:rj X sts zt:=λ_ _ _ _ _ _ h=>h.elim
end
abbrev TG:=V→St→Hp→(St→Hp→Prop)→Prop
abbrev oi:=List V→St→Hp→(St→Hp→Prop)→Prop
def PG (X:Cx) (target:Expr) (t:TG):Prop :=
 ∀(pins:List (Addr × Obj)) (s:Shared) (σ:St) (H:Hp) (v:V) (u:Value) (Q:St→Hp→Prop),Inv X pins σ H s→RelV v u→t v σ H Q →
  wpAny (model X.prog X.w) X.A (assign target X.env u) (λ_ s'=>∃σ' H',Inv X pins σ' H' s'∧Q σ' H') X.xe s
def Ip (X:Cx) (ts:List Expr) (t:oi):Prop :=
 ∀(pins:List (Addr × Obj)) (s:Shared) (σ:St) (H:Hp) (vs:List V) (us:List Value) (Q:St→Hp→Prop),Inv X pins σ H s→Vals vs us→t vs σ H Q →
  wpAny (model X.prog X.w) X.A (assignInOrder ((assignEach ts X.env).map (·.2)) us) (λ_ s'=>∃σ' H',Inv X pins σ' H' s'∧Q σ' H') X.xe s
abbrev il:=V→V→V→Hp→(Hp→Prop)→Prop
def ij (X:Cx) (t:il):Prop :=
 ∀(pins:List (Addr × Obj)) (s:Shared) (σ:St) (H:Hp) (o i v:V) (ov iv u:Value) (Q:Hp→Prop),Inv X pins σ H s→RelV o ov→RelV i iv→RelV v u→t o i v H Q →
  wpAny (model X.prog X.w) X.A (setItem ov iv u) (λ_ s'=>∃H',Inv X pins σ H' s'∧Q H') X.xe s
abbrev OH:=V→V→Hp→VK→Prop
def O4 (X:Cx) (op:Operator) (t:OH):Prop :=
 ∀(pins:List (Addr × Obj)) (s:Shared) (σ:St) (H:Hp) (x y:V) (v u:Value) (Q:VK),Inv X pins σ H s→RelV x v→RelV y u→t x y H Q →
  wpAny (model X.prog X.w) X.A (inplaceOp op v u) (EP X pins σ Q) X.xe s
section
variable {X:Cx} {pos:Pos}
def om (i:Nat):TG:=λv σ H Q=>Q (σ.set i (some v)) H
theorem ko {i:Nat} {x:Str} (hN:X.N.Nodup) (hi:X.N[i]?=some x) (hx:Loc X.env.scope x) (hf:X.fn x=true∨X.env.scope.names.lookup x=some .local:=by first | exact .inl rfl | exact .inr rfl | assumption):PG X (.Name x pos) (om i):=by
 intro pins s σ H v u Q I r h
 exact wpAny_assign_Name (e_ I hN hi hx r (λs' I'=>⟨_,H,I',h⟩) hf)
def Gm:oi:=λvs σ H Q=>vs=[]∧Q σ H
def zV (t:TG) (u:oi):oi:=λvs σ H Q=>∃v r,vs=v :: r∧t v σ H λσ' H'=>u r σ' H' Q
theorem uP:Ip X [] Gm:=by
 intro pins s σ H vs us Q I r h
 obtain ⟨e,h⟩:=h
 subst e
 cases r
 exact assignInOrder_nil ⟨σ,H,I,h⟩
theorem qv {e:Expr} {es:List Expr} {t:TG} {u:oi} (h1:PG X e t) (h2:Ip X es u)
  (hs:(assignEach (e :: es) X.env).map (·.2)=assign e X.env :: (assignEach es X.env).map (·.2):=by rfl):Ip X (e :: es) (zV t u):=by
 intro pins s σ H vs us Q I r h
 obtain ⟨v,vr,e1,h⟩:=h
 subst e1
 cases r with
 | cons r rr =>
  rw [hs]
  refine assignInOrder_cons (cn (h1 pins s σ H _ _ _ I r h) λ_ s1 ⟨σ1,H1,I1,q1⟩=>?_)
  exact h2 pins s1 σ1 H1 _ _ Q I1 rr q1
def Gp (K:PySem.W.Frag) (n:Nat) (t:oi):TG:=λv σ H Q=>∃a xs,v=.ref a∧fv K H a xs∧xs.length=n∧t xs σ H Q
theorem yW {es:List Expr} {k:Nat} {t:oi} {n:Nat} (hc:X.calm=true) (h:Ip X es t)
  (hn:(assignEach es X.env).length=n:=by rfl) (hst:(assignEach es X.env).findIdx? (·.1)=none:=by rfl):PG X (.Tuple es k pos) (Gp X.K n t):=by
 intro pins s σ H v u Q I r hw
 obtain ⟨a,xs,e1,hq,hl,hw⟩:=hw
 subst e1
 cases r
 obtain ⟨its,rv,ht,hz⟩:=I.tuple hq
 refine assign_Tuple_tuple (I.ok.hd hc) ht (by simp [hn,← hl,rv.length]) hst λh' hx=>?_
 have I1:Inv X pins σ H { s with heap:=h' }:=I.kept (t':=s.toks) λb o e=>hx b o (Sw (Heap.lt_size e)) e
 exact h pins _ σ H xs _ Q I1 (by simpa using rv) hw
def Gn (to ti:TE) (t:il):TG:=λv σ H Q=>to σ H λo H1=>ti σ H1 λi H2=>t o i v H2 λH3=>Q σ H3
theorem uO {o i:Expr} {to ti:TE} {t:il} (ho:PE X o to) (hi:PE X i ti) (hs:ij X t)
  (ha:∀v,assign (.Subscript o i pos) X.env v=(do
   let ov ← holding [v] (eval o X.env)
   let iv ← holding [v,ov] (eval i X.env)
   standAt pos
   holding [v,ov,iv] (setItem ov iv v)
   release [v,ov,iv] []):=by intro _;rfl):PG X (.Subscript o i pos) (Gn to ti t):=by
 intro pins s σ H v u Q I r h
 rw [ha]
 refine wpAny_bind (wpAny_holding (cn (ho pins s σ H _ I h) λov s1 ⟨x,H1,I1,r1,q1⟩=>?_))
 refine wpAny_bind (wpAny_holding (cn (hi pins s1 σ H1 _ I1 q1) λiv s2 ⟨y,H2,I2,r2,q2⟩=>?_))
 refine wpAny_bind (wpAny_standAt (wpAny_bind (wpAny_holding (cn (hs pins s2 σ H2 x y v ov iv u _ I2 r1 r2 r q2) λ_ s3 ⟨H3,I3,q3⟩=>?_))))
 exact wpAny_release ⟨σ,H3,I3,q3⟩
def xE (te:TE) (g:TG):TS:=λD σ H=>te σ H λx H1=>g x σ H1 D.nx
theorem uR {tg e:Expr} {te:TE} {g:TG} (he:PE X e te) (hg:PG X tg g) (hs:swapsWithSole [tg] e pos.line X.env=pure false:=by rfl) (hw:swappedStores [tg] e X.env=pure none:=by rfl)
  (h1:(assignEach [tg] X.env).map (·.2)=[assign tg X.env]:=by rfl):PS X (.Assign [tg] e pos) (xE te g):=by
 intro pins s σ H D I h
 refine wpAny_Assign_stores (cn (he pins s σ H _ I h) λv s1 ⟨x,H1,I1,r1,q1⟩=>?_) hs hw
 rw [h1]
 exact cn (hg pins s1 σ H1 x v _ I1 r1 q1) λ_ s2 q=>q
theorem cF {i:Nat} {x:Str} {e:Expr} {te:TE} {pos':Pos} (hN:X.N.Nodup) (hi:X.N[i]?=some x) (hx:Loc X.env.scope x) (he:PE X e te) (hs:swapsWith e (some (.Name x pos')) pos.line X.env=pure false:=by rfl) (hf:X.fn x=true∨X.env.scope.names.lookup x=some .local:=by first | exact .inl rfl | exact .inr rfl | assumption) :
  PS X (.Assign [.Name x pos'] e pos) (xE te (om i)):=by
 intro pins s σ H D I h
 refine wpAny_Assign_Name (cn (he pins s σ H _ I h) λv s1 ⟨y,H1,I1,r1,q1⟩=>?_) hs
 exact e_ I1 hN hi hx r1 (λs2 I2=>⟨_,H1,I2,q1⟩) hf
def HZ (i j:Nat) (ta:TA):TS:=λD σ H=>ta σ H λvs H1=>∃v w,vs=[v,w]∧D.nx ((σ.set i (some v)).set j (some w)) H1
theorem nC {i j:Nat} {x y:Str} {a b:Expr} {ta:TA} {px py pt:Pos} {kt k2 pt2} (hc:X.calm=true) (hN:X.N.Nodup) (hi:X.N[i]?=some x) (hj:X.N[j]?=some y) (hij:i≠j)
  (hx:X.env.scope.names.lookup x=some .local) (hy:X.env.scope.names.lookup y=some .local) (ha:PA X [a,b] ta)
  (hw:swappedStores [.Tuple [.Name x px,.Name y py] kt pt] (.Tuple [a,b] k2 pt2) X.env=pure (some [x,y]))
  (hs:swapsWithSole [.Tuple [.Name x px,.Name y py] kt pt] (.Tuple [a,b] k2 pt2) pos.line X.env=pure false:=by rfl) :
  PS X (.Assign [.Tuple [.Name x px,.Name y py] kt pt] (.Tuple [a,b] k2 pt2) pos) (HZ i j ta):=by
 intro pins s σ H D I h
 rw [exec_Assign_arm]
 refine wpAny_bind (wpAny_standAt ?_)
 rw [hs]
 refine wpAny_bind (wpAny_pure ?_)
 rw [if_neg (by decide)]
 refine wpAny_bind (Tuple_ (cn (ha _ pins s σ H _ I h) λus s1 ⟨vs,H1,I1,r1,q1⟩=>?_))
 obtain ⟨v,w,e1,q1⟩:=q1
 subst e1
 obtain ⟨u1,u2,rfl,rv,rw'⟩:∃u1 u2,us=[u1,u2]∧RelV v u1∧RelV w u2:=by
  cases r1 with
  | cons p q =>
   cases q with
   | cons p' q' =>
    cases q'
    exact ⟨_,_,rfl,p,p'⟩
 refine wpAny_newObj_type ?_ (by show 2≤sizeLine;decide)
 have I2:Inv X pins σ H1 { s1 with heap:=s1.heap.push { cls:=.type "tuple",data:=.seq [u1,u2].toArray } }:=I1.kept (t':=s1.toks) λb o e=>Heap.get?_push_of_some _ e
 rw [hw]
 refine wpAny_bind (wpAny_pure ?_)
 show wpAny (model X.prog X.w) X.A (do rule "assign.swapped-stores";let items ← unpackItems (.ref s1.heap.objs.size) 2 none;assignInOrder [λv=>bindName X.env y v,λv=>bindName X.env x v] items.reverse;pure Flow.next) _ _ _
 refine wpAny_bind (wpAny_rule (wpAny_bind (unpackItems_tuple (items:=#[u1,u2]) (I.ok.hd hc) (IsTup.new s1.heap _) λh' hx'=>?_)))
 have I3:=I2.kept (h':=h') (t':=s1.toks) λb o e=>hx' b o (Sw (Heap.lt_size e)) e
 show wpAny _ _ (assignInOrder [λv=>bindName X.env y v,λv=>bindName X.env x v] [u2,u1] >>= λ_=>pure Flow.next) _ _ _
 refine wpAny_bind (assignInOrder_cons (wpAny_bindName (e_ I3 hN hj (.inl hy) rw' (λs2 I4=>?_) (.inr hy))))
 refine assignInOrder_cons (wpAny_bindName (e_ I4 hN hi (.inl hx) rv (λs3 I5=>assignInOrder_nil (wpAny_pure ?_)) (.inr hx)))
 rw [List.set_comm _ _ (Ne.symm hij)] at I5
 exact ⟨_,H1,I5,q1⟩
def Qm (i:Nat) (te:TE) (ti:OH):TS:=λD σ H=>∃x,σ[i]?=some (some x)∧te σ H λy H1=>ti x y H1 λz H2=>D.nx (σ.set i (some z)) H2
theorem KZ {i:Nat} {x:Str} {e:Expr} {te:TE} {op:Operator} {ti:OH} {pos':Pos} (hN:X.N.Nodup) (hi:X.N[i]?=some x) (hx:Loc X.env.scope x) (he:PE X e te) (ho:O4 X op ti) (hf:X.fn x=true∨X.env.scope.names.lookup x=some .local:=by first | exact .inl rfl | exact .inr rfl | assumption) :
  PS X (.AugAssign (.Name x pos') op e pos) (Qm i te ti):=by
 intro pins s σ H D I h
 obtain ⟨v,e1,h⟩:=h
 obtain ⟨m,hn,hl⟩:=I.loc
 have vis:sL X.env.scope x:=by rcases hx with k | k;exact .inl k;exact .inr (.inl k)
 obtain ⟨u,r,l⟩:=hl i x v hi e1 vis
 refine wpAny_AugAssign_Name ?_
 have go:wpAny (model X.prog X.w) X.A (eval e X.env) (λw s₂=>wpAny (model X.prog X.w) X.A (inplaceOp op u w) (λr s₃=>wpAny (model X.prog X.w) X.A (storeName X.env x r) (λ_=>SP X pins D .next) X.xe s₃) X.xe s₂) X.xe s:=by
  refine cn (he pins s σ H _ I h) λw s1 ⟨y,H1,I1,r1,q1⟩=>?_
  refine cn (ho pins s1 σ H1 v y u w _ I1 r r1 q1) λz s2 ⟨zv,H2,I2,r2,q2⟩=>?_
  exact e_ I2 hN hi hx r2 (λs3 I3=>⟨_,H2,I3,q2⟩) hf
 rcases l with ⟨hk,hm⟩ | ⟨hk,c,hc,hcell⟩
 ·exact wpAny_loadName_local I.ok.kind hk hn hm go
 ·rcases hk with hk | hk
  ·exact wpAny_loadName_cell I.ok.kind hk hc hcell go
  ·rcases hx with k | k
   ·have:X.env.scope.names.lookup x=some .free:=hk
    rw [k] at this;cases this
   ·have:X.env.scope.names.lookup x=some .free:=hk
    rw [k] at this;cases this
def RN (f:Int→Int→Int):OH:=λx y H Q=>∃i j,x=.int i∧y=.int j∧Q (.int (f i j)) H
theorem J_:O4 X .Sub (RN λi j=>i - j):=by
 intro pins s σ H x y v u Q I r1 r2 h
 obtain ⟨i,j,e1,e2,q⟩:=h
 subst e1;subst e2
 obtain ⟨t,rfl⟩:=r1
 obtain ⟨t',rfl⟩:=r2
 exact isub_int ⟨.int _,H,I.tok _,⟨_,rfl⟩,q⟩
end
section
variable {X:Cx} {pos:Pos}
def vE (c:TT) (tb:TS):TS:=λD σ H=>∃W:Nat→St→Hp→Prop,(∃m,W m σ H)∧∀m σ H,W m σ H →
 c σ H λb H1=>if b=true then ∃N:St→Hp→Prop,(∀σ' H',N σ' H'→∃m',m' < m∧W m' σ' H')∧tb { D with nx:=N,ct:=N,bk:=D.nx } σ H1 else D.nx σ H1
theorem jU {c:Expr} {body:List Stmt} {tc:TT} {tb:TS} (hp:PassesOwn (model X.prog X.w) X.A X.env X.xe) (hc:PT X c tc) (hb:rj X body tb):PS X (.While c body [] pos) (vE tc tb):=by
 intro pins s σ H D I h
 obtain ⟨W,⟨m0,w0⟩,turn⟩:=h
 refine wpAny_While (codeAny_whileLoop (λn s'=>∃σ' H',Inv X pins σ' H' s'∧W n σ' H') ?_ m0 ⟨σ,H,I,w0⟩)
 rintro n s1 ⟨σ1,H1,I1,w1⟩
 refine wpAny_passesOwn hp (cn (hc pins s1 σ1 H1 _ I1 (turn n σ1 H1 w1)) λb s2 ⟨H2,I2,q2⟩=>?_)
 cases b with
 | true =>
  obtain ⟨N,hN,q2⟩:=q2
  rw [if_pos rfl]
  refine wpAny_passesOwn hp (cn (hb pins s2 σ1 H2 _ I2 q2) λf s3 q3=>?_)
  cases f with
  | next =>
   obtain ⟨σ3,H3,I3,n3⟩:=q3
   obtain ⟨m',hm,w3⟩:=hN σ3 H3 n3
   exact ⟨m',hm,σ3,H3,I3,w3⟩
  | cont =>
   obtain ⟨σ3,H3,I3,n3⟩:=q3
   obtain ⟨m',hm,w3⟩:=hN σ3 H3 n3
   exact ⟨m',hm,σ3,H3,I3,w3⟩
  | brk=>exact q3
  | ret v=>exact q3
 | false =>
  rw [if_neg Sj]
  exact wpAny_execs_nil ⟨σ1,H2,I2,q2⟩
end
structure It where
 go:Nat→Hp→Prop
 yld:Nat→Hp→V→Hp→Prop
 stop:Nat→Hp→Prop
def jt (X:Cx) (pins:List (Addr × Obj)) (H:Hp) (b:Addr):Prop :=
 H b=none∧b≠X.env.locals∧b ∉ X.fs∧(b∈X.ex∨X.s₀.heap.objs.size≤b)∧(∀x c,X.env.cells.lookup x=some c→c≠b)∧∀p∈X.pn ++ pins,p.1≠b
theorem Inv.BE {X:Cx} {pins:List (Addr × Obj)} {σ:St} {H H':Hp} {s:Shared} {b:Addr} (I:Inv X pins σ H s) (hb:s.heap.objs.size≤b) (hn:H' b=none):jt X pins H' b:=by
 refine ⟨hn,Uj (Sn I.lt hb),I.PZ hb,.inr (Su I.sz hb),λx c e z=>?_,λp hp z=>?_⟩
 ·obtain ⟨v,q⟩:=I.cell x c e
  exact absurd (Sn q.lt (by rw [z];exact hb)) (Ta _)
 ·exact absurd (Sn (Heap.lt_size (I.pin p hp).1) (by rw [z];exact hb)) (Ta _)
structure Turn (P:Program) (w:World) (K:PySem.W.Frag) (tg:Expr) (J:It) (fp:List Addr) (it:Addr) (tn:Nat→Heap→Prop):Prop where
 mem:it∈fp
 obj:∀i h,tn i h→∀b∈fp,∃o,h.get? b=some o∧∀v,o.data≠.cell v
 keep:∀i h h',tn i h→(∀b∈fp,∀o,h.get? b=some o→h'.get? b=some o)→tn i h'
 item:∀(X:Cx),X.prog=P→X.w=w→X.K=K→X.calm=true→∀(i:Nat) (pins:List (Addr × Obj)) (s:Shared) (σ:St) (H:Hp) (E:Value→Shared→Prop),Inv X pins σ H s→(∀b∈fp,jt X pins H b)→tn i s.heap→J.go i H →
  wpAny (model P w) X.A (pyNext (.ref it)) (λr s1=>∃u,r=some u ∧
   wpAny (model P w) X.A (letOwnedTupleGo tg (.ref it) u) (λ_ s2=>∃x H',Inv X pins σ H' s2∧RelV x u∧J.yld i H x H'∧tn (i + 1) s2.heap∧∀b∈fp,H' b=none) E s1) E s
 done:∀(X:Cx),X.prog=P→X.w=w→X.K=K→X.calm=true→∀(i:Nat) (pins:List (Addr × Obj)) (s:Shared) (σ:St) (H:Hp) (E:Value→Shared→Prop),Inv X pins σ H s→(∀b∈fp,jt X pins H b)→tn i s.heap→J.stop i H →
  wpAny (model P w) X.A (pyNext (.ref it)) (λr s1=>r=none∧Inv X pins σ H s1) E s
 self:∀(A:Around) (i:Nat) (s:Shared) (Q:Value→Shared→Prop) (E:Value→Shared→Prop),tn i s.heap→Q (.ref it) s→wpAny (model P w) A (pyIter (.ref it)) Q E s
abbrev TI:=St→Hp→(It→Hp→Prop)→Prop
def Q1 (X:Cx) (pins:List (Addr × Obj)) (σ:St) (tg:Expr) (R:It→Hp→Prop) (itv:Value) (s2:Shared):Prop :=
 ∃(it:Addr) (fp:List Addr) (tn:Nat→Heap→Prop) (J:It) (H':Hp),itv=.ref it∧Inv X pins σ H' s2∧Turn X.prog X.w X.K tg J fp it tn∧tn 0 s2.heap∧(∀b∈fp,jt X pins H' b)∧R J H'
def PI (X:Cx) (tg iter:Expr) (wi:TI):Prop :=
 ∀(pins:List (Addr × Obj)) (s:Shared) (σ:St) (H:Hp) (R:It→Hp→Prop),Inv X pins σ H s→wi σ H R →
  wpAny (model X.prog X.w) X.A (eval iter X.env) (λv s1=>wpAny (model X.prog X.w) X.A (pyIter v) (Q1 X pins σ tg R) X.xe s1) X.xe s
theorem v3 {M:Model} {A:Around} {E:Value→Shared→Prop} {s:Shared} {tg:Expr} {it:Addr} {u:Value} {o:Obj} {n:String} {vs:Array Value} {Q:Unit→Shared→Prop} (ho:s.heap.get? it=some o) (hc:o.cls=.type n) (hd:o.data=.fields vs)
  (hn:["enumerate","zip","dict_itemiterator","dict_reverseitemiterator","odict_iterator","itertools.zip_longest","itertools.pairwise"].contains n=false) (hQ:Q () s):wpAny M A (letOwnedTupleGo tg (.ref it) u) Q E s:=by
 unfold letOwnedTupleGo
 cases tg <;> first
  | exact wpAny_pure hQ
  | (cases u <;> first
    | exact wpAny_pure hQ
    | (refine wpAny_bind (wpAny_load ho ?_)
       rw [hc,hd]
       show wpAny M A (if (["enumerate","zip","dict_itemiterator","dict_reverseitemiterator","odict_iterator","itertools.zip_longest","itertools.pairwise"].contains n && vs[0]? == some (rawInt _))=true then _ else _) Q E s
       rw [if_neg (by intro h;rw [hn,Bool.false_and] at h;cases h)]
       exact wpAny_pure hQ))
def FO (K:PySem.W.Frag) (a:Addr):It :=
 ⟨λi H=>∃xs x,cP K H a xs∧xs[i]?=some x,λi H x H'=>H'=H∧∀xs,cP K H a xs→xs[i]?=some x,λi H=>∃xs,cP K H a xs∧xs.length≤i⟩
def Ry (K:PySem.W.Frag) (a:Addr):It :=
 ⟨λi H=>∃xs x,fv K H a xs∧xs[i]?=some x,λi H x H'=>H'=H∧∀xs,fv K H a xs→xs[i]?=some x,λi H=>∃xs,fv K H a xs∧xs.length≤i⟩
def CL (lo:Int) (n:Nat):It:=⟨λi _=>i < n,λi H x H'=>H'=H∧x=.int (lo + i),λi _=>n≤i⟩
theorem Ct {P:Program} {w:World} {K:PySem.W.Frag} {tg:Expr} (a it:Addr):Turn P w K tg (FO K a) [it] it (λi h=>h.IsListIter it a i) where
 mem:=by simp
 obj:=λi h st b hb=>by
  have e:b=it:=by simpa using hb
  subst e
  obtain ⟨o,e,c,d⟩:=st
  exact ⟨o,e,λv z=>by rw [d] at z;cases z⟩
 keep:=λi h h' st k=>st.at λo e=>k it (by simp) o e
 item:=by
  intro X hP hw hK hc i pins s σ H E I hf st hg
  subst hP hw hK
  obtain ⟨xs,x,hq,hx⟩:=hg
  obtain ⟨its,rv,p,hz⟩:=I.list hq
  obtain ⟨u,hu,ru⟩:=rv.get hx
  obtain ⟨f0,f1,f2,f3,f4,f5⟩:=hf it (by simp)
  refine wpAny_pyNext_list_item st p.isList (x:=u) (by simpa using hu) λh' st' sb=>?_
  have I1:Inv X pins σ H { s with heap:=h' }:=I.turned (t':=s.toks) (λb o hb e=>(sb.2 b hb).trans e) f0 f1 f3 f4 f5
  obtain ⟨o,e,c,d⟩:=id st'
  exact ⟨u,rfl,v3 (s:={ s with heap:=h' }) e c d (by decide) ⟨x,H,I1,ru,⟨rfl,λys hy=>by rw [I.jH hy hq];exact hx⟩,st',λb hb=>(hf b hb).1⟩⟩
 done:=by
  intro X hP hw hK hc i pins s σ H E I hf st hg
  subst hP hw hK
  obtain ⟨xs,hq,hx⟩:=hg
  obtain ⟨its,rv,p,hz⟩:=I.list hq
  obtain ⟨f0,f1,f2,f3,f4,f5⟩:=hf it (by simp)
  have hl:=rv.length
  exact wpAny_pyNext_list_end (I.ok.hd hc) st p.isList (by simp;omega) λh' eb=>⟨rfl,I.turned (t':=s.toks) (λb o hb e=>eb b o hb e) f0 f1 f3 f4 f5⟩
 self:=λ_ _ _ _ _ st h=>wpAny_pyIter_listiter st h
theorem zw {P:Program} {w:World} {K:PySem.W.Frag} {tg:Expr} (it:Addr) (lo:Int) (n:Nat):Turn P w K tg (CL lo n) [it] it (λi h=>IsRangeIter h it (lo + (i:Nat) * 1) ((n:Int) - (i:Nat)) 1) where
 mem:=by simp
 obj:=λi h st b hb=>by
  have e:b=it:=by simpa using hb
  subst e
  exact ⟨_,st,λv z=>by
   have z':Data.fields _=Data.cell v:=z
   cases z'⟩
 keep:=λi h h' st k=>k it (by simp) _ st
 item:=by
  intro X hP hw hK hc i pins s σ H E I hf st hg
  subst hP hw hK
  obtain ⟨f0,f1,f2,f3,f4,f5⟩:=hf it (by simp)
  have W:=Walks.range (prog:=X.prog) (w:=X.w) (I.ok.hd hc) it lo 1 n
  refine W.item i s _ _ hg st λv h' tk hv st' kk=>?_
  obtain ⟨t,rfl⟩:=hv
  have I1:Inv X pins σ H { s with heap:=h',toks:=tk }:=I.turned (λb o hb e=>kk b o (by simpa using hb) e) f0 f1 f3 f4 f5
  refine ⟨_,rfl,v3 (s:={ s with heap:=h',toks:=tk }) (n:="range_iterator") st' rfl rfl (by decide) ⟨.int (lo + i),H,I1,⟨t,?_⟩,⟨rfl,rfl⟩,st',λb hb=>(hf b hb).1⟩⟩
  rw [Int.mul_one]
 done:=by
  intro X hP hw hK hc i pins s σ H E I hf st hg
  subst hP hw hK
  obtain ⟨f0,f1,f2,f3,f4,f5⟩:=hf it (by simp)
  exact wpAny_pyNext_range_end (I.ok.hd hc) st (by have:n≤i:=hg;omega) λh' eb=>⟨rfl,I.turned (t':=s.toks) (λb o hb e=>eb b o hb e) f0 f1 f3 f4 f5⟩
 self:=λ_ _ _ _ _ st h=>wpAny_pyIter_rangeiter st h
end L2
namespace L2
open PySem PySem.Spec PyProof.Rows
section
variable {X:Cx} {tg:Expr}
def zY (K:PySem.W.Frag) (tl:TE):TI:=λσ H R=>tl σ H λx H1=>∃a,x=.ref a∧(∃xs,cP K H1 a xs)∧R (FO K a) H1
def Pl (K:PySem.W.Frag) (tl:TE):TI:=λσ H R=>tl σ H λx H1=>∃a,x=.ref a∧(∃xs,fv K H1 a xs)∧R (Ry K a) H1
theorem mr {l:Expr} {tl:TE} (hl:PE X l tl):PI X tg l (zY X.K tl):=by
 intro pins s σ H R I h
 refine cn (hl pins s σ H _ I h) λv s1 ⟨x,H1,I1,r1,q1⟩=>?_
 obtain ⟨a,e,⟨xs,hq⟩,q⟩:=q1
 subst e
 cases r1
 obtain ⟨its,rv,p,hz⟩:=I1.list hq
 refine wpAny_pyIter_list p.isList ?_
 refine ⟨s1.heap.objs.size,[s1.heap.objs.size],_,_,H1,rfl,I1.kept (t':=s1.toks) λb o e=>Heap.get?_push_of_some _ e,Ct a _,⟨_,Heap.get?_push_size _ rfl,rfl,rfl⟩,λb hb=>?_,q⟩
 have e:b=s1.heap.objs.size:=by simpa using hb
 subst e
 exact I1.BE (R' _) (I1.hok.fresh (R' _))
theorem EA {pins:List (Addr × Obj)} {σ:St} {H:Hp} {s:Shared} {R:It→Hp→Prop} {E:Value→Shared→Prop} {lo hi:Int} {t u v:Tok} {tk:Nat} (I:Inv X pins σ H s) (h1:-(2 ^ 62)≤lo) (h2:lo < 2 ^ 62) (h3:-(2 ^ 62)≤hi) (h4:hi < 2 ^ 62)
  (q:R (CL lo (hi - lo).toNat) H):wpAny (model X.prog X.w) X.A (pyIter (.ref s.heap.objs.size)) (Q1 X pins σ tg R) E { s with heap:=s.heap.push { cls:=.type "range",data:=.fields #[.int lo t,.int hi u,.int 1 v] },toks:=tk }:=by
 refine wpAny_pyIter_range (IsRange.new ..) (small_one h1 h2 h3 h4) ?_
 have I1:Inv X pins σ H { s with heap:=s.heap.push { cls:=.type "range",data:=.fields #[.int lo t,.int hi u,.int 1 v] },toks:=tk }:=I.kept λb o e=>Heap.get?_push_of_some _ e
 refine ⟨(s.heap.push { cls:=.type "range",data:=.fields #[.int lo t,.int hi u,.int 1 v] }).objs.size,[(s.heap.push { cls:=.type "range",data:=.fields #[.int lo t,.int hi u,.int 1 v] }).objs.size],_,_,H,rfl,
  I1.kept (t':=tk) λb o e=>Heap.get?_push_of_some _ e,zw _ lo (hi - lo).toNat,?_,λb hb=>?_,q⟩
 ·have e1:lo + ((0:Nat):Int) * 1=lo:=by simp
  have e2:(((hi - lo).toNat:Nat):Int) - ((0:Nat):Int)=Builtin.Range.rangeSize lo hi 1:=by rw [rangeSize_one];split <;> omega
  show IsRangeIter _ _ (lo + ((0:Nat):Int) * 1) ((((hi - lo).toNat:Nat):Int) - ((0:Nat):Int)) 1
  rw [e1,e2]
  exact Heap.get?_push_size _ rfl
 ·have e:b=(s.heap.push { cls:=.type "range",data:=.fields #[.int lo t,.int hi u,.int 1 v] }).objs.size:=by simpa using hb
  subst e
  exact I1.BE (R' _) (I1.hok.fresh (R' _))
def zZ (ta:TA):TI:=λσ H R=>ta σ H λvs H1=>∃j:Int,vs=[.int j]∧-(2 ^ 62)≤j∧j < 2 ^ 62∧R (CL 0 j.toNat) H1
def Iz (ta:TA):TI:=λσ H R=>ta σ H λvs H1=>∃i j:Int,vs=[.int i,.int j]∧(-(2 ^ 62)≤i∧i < 2 ^ 62∧-(2 ^ 62)≤j∧j < 2 ^ 62)∧R (CL i (j - i).toNat) H1
theorem ft {a:Expr} {ta:TA} {p pos:Pos} (hg:Gl X "range") (hm:X.mg "range"=none) (ha:PA X [a] ta) (hs:starEach [a] X.env=[(false,eval a X.env)]:=by rfl):PI X tg (.Call (.Name "range" p) [a] [] pos) (zZ ta):=by
 intro pins s σ H R I h
 refine Call_ (lq I hg hm boot_range (PyProof.Rows.callWith_type1 (cn (ha pos pins s σ H _ I h) λus s1 ⟨vs,H1,I1,r1,q1⟩=>?_) hs rfl))
 obtain ⟨j,e,q1,q2,q⟩:=q1
 subst e
 cases r1 with
 | cons r rr =>
  cases rr
  obtain ⟨t,rfl⟩:=r
  exact call_range_1 (EA I1 (by omega) (by omega) q1 q2 (by simpa using q))
def Lq (wi:TI) (g:TG) (tb:TS):TS:=λD σ H=>wi σ H λJ H1=>∃W:Nat→Nat→St→Hp→Prop,(∃m,W 0 m σ H1)∧∀i m σ H,W i m σ H →
 (J.stop i H∧D.nx σ H)∨(J.go i H∧∃N:St→Hp→Prop,(∀σ' H',N σ' H'→∃m',m' < m∧W (i + 1) m' σ' H')∧∀x H',J.yld i H x H'→g x σ H' λσ2 H2=>tb { D with nx:=N,ct:=N,bk:=D.nx } σ2 H2)
def uQ (fp:List Addr) (h:Heap):List (Addr × Obj):=fp.filterMap λb=>(h.get? b).map λo=>(b,o)
theorem cE {fp:List Addr} {h:Heap} {b:Addr} {o:Obj} (hb:b∈fp) (e:h.get? b=some o):(b,o)∈uQ fp h:=T9.mpr ⟨b,hb,by rw [e];rfl⟩
theorem BZ {fp:List Addr} {h:Heap} {p:Addr × Obj} (hp:p∈uQ fp h):p.1∈fp∧h.get? p.1=some p.2:=by
 obtain ⟨b,hb,e⟩:=T9.mp hp
 cases q:h.get? b with
 | none=>rw [q] at e;cases e
 | some o =>
  rw [q] at e
  have e':(b,o)=p:=Option.some.inj e
  subst e'
  exact ⟨hb,q⟩
theorem Inv.pinned {pins:List (Addr × Obj)} {σ:St} {H:Hp} {s:Shared} {fp:List Addr} (I:Inv X pins σ H s) (hf:∀b∈fp,jt X pins H b) (ho:∀b∈fp,∃o,s.heap.get? b=some o∧∀v,o.data≠.cell v):Inv X (pins ++ uQ fp s.heap) σ H s :=
 I.Ao λp hp=>(Se.mp hp).elim (λz=>I.pin p (Sh _ z)) λz=>by
  obtain ⟨hb,e⟩:=BZ z
  obtain ⟨f0,f1,f2,_⟩:=hf p.1 hb
  obtain ⟨o,e',d⟩:=ho p.1 hb
  rw [e] at e';cases e'
  exact ⟨e,f0,f1,f2,d⟩
theorem Inv.fZ {pins pl:List (Addr × Obj)} {σ:St} {H:Hp} {s:Shared} (I:Inv X (pins ++ pl) σ H s):Inv X pins σ H s:=I.Ao λp hp=>I.pin p (Sh _ (Te _ hp))
theorem nB {iter:Expr} {body:List Stmt} {wi:TI} {g:TG} {tb:TS} {pos:Pos} (hp:PassesOwn (model X.prog X.w) X.A X.env X.xe) (hc:X.calm=true) (hi:PI X tg iter wi) (hg:PG X tg g) (hb:rj X body tb)
  (hs:∀x,foldedSetIterable iter X.env x=pure x:=by intro _;rfl):PS X (.For tg iter body [] pos) (Lq wi g tb):=by
 intro pins s σ H D I h
 refine wpAny_For (cn (hi pins s σ H _ I h) λv s1 h1=>cn h1 λitv s2 h2=>?_) hs
 obtain ⟨it,fp,tn,J,H2,e,I2,T,st2,f2,W,⟨m0,w0⟩,turn⟩:=h2
 subst e
 have stat:∀{H':Hp},(∀b∈fp,H' b=none)→∀b∈fp,jt X pins H' b:=λhn b hb=>⟨hn b hb,(f2 b hb).2⟩
 refine codeAny_forLoop_any (λn s'=>∃i σ' H',Inv X pins σ' H' s'∧tn i s'.heap∧(∀b∈fp,H' b=none)∧W i n σ' H') ?_ m0 ⟨0,σ,H2,I2,st2,λb hb=>(f2 b hb).1,w0⟩
 rintro n s3 ⟨i,σ3,H3,I3,st3,fr3,w3⟩
 rcases turn i n σ3 H3 w3 with ⟨stop,qn⟩ | ⟨go,N,hN,step⟩
 ·refine wpAny_passesOwn hp (cn (T.done X rfl rfl rfl hc i pins s3 σ3 H3 X.xe I3 (stat fr3) st3 stop) λr s4 ⟨hr,I4⟩=>?_)
  subst hr
  exact wpAny_execs_nil ⟨σ3,H3,I4,qn⟩
 ·refine wpAny_passesOwn hp (cn (T.item X rfl rfl rfl hc i pins s3 σ3 H3 X.xe I3 (stat fr3) st3 go) λr s4 ⟨u,hr,h4⟩=>?_)
  subst hr
  refine wpAny_passesOwn hp (cn h4 λ_ s5 ⟨x,H5,I5,r5,y5,st5,fr5⟩=>?_)
  have I5':=I5.pinned (stat fr5) (T.obj _ _ st5)
  refine wpAny_passesOwn hp (cn (hg _ s5 σ3 H5 x u _ I5' r5 (step x H5 y5)) λ_ s6 ⟨σ6,H6,I6,q6⟩=>?_)
  refine wpAny_passesOwn hp (cn (hb _ s6 σ6 H6 _ I6 q6) λf s7 q7=>?_)
  have again:∀{σ7:St} {H7:Hp},Inv X (pins ++ uQ fp s5.heap) σ7 H7 s7→N σ7 H7→∃m,m < n∧∃i σ' H',Inv X pins σ' H' s7∧tn i s7.heap∧(∀b∈fp,H' b=none)∧W i m σ' H':=λ{σ7 H7} I7 n7=>by
   obtain ⟨m',hm,w7⟩:=hN σ7 H7 n7
   refine ⟨m',hm,i + 1,σ7,H7,I7.fZ,T.keep _ _ _ st5 λb hb o e=>(I7.pin (b,o) (Sh _ (Sh _ (cE hb e)))).1,λb hb=>?_,w7⟩
   obtain ⟨o,e,d⟩:=T.obj _ _ st5 b hb
   exact (I7.pin (b,o) (Sh _ (Sh _ (cE hb e)))).2.1
  cases f with
  | next=>obtain ⟨σ7,H7,I7,n7⟩:=q7;exact again I7 n7
  | cont=>obtain ⟨σ7,H7,I7,n7⟩:=q7;exact again I7 n7
  | brk=>obtain ⟨σ7,H7,I7,q7⟩:=q7;exact ⟨σ7,H7,I7.fZ,q7⟩
  | ret v=>obtain ⟨x7,σ7,H7,I7,r7,q7⟩:=q7;exact ⟨x7,σ7,H7,I7.fZ,r7,q7⟩
end
theorem Dm {K:PySem.W.Frag} {a:Addr} {xs:List V} {g:TG} {tb:TS} {D:Ends} {σ:St} {H:Hp} (Pv:Nat→St→Hp→Prop) (h0:Pv 0 σ H) (hl:∀i σ H,i≤xs.length→Pv i σ H→cP K H a xs)
  (hs:∀i x σ H,xs[i]?=some x→Pv i σ H→g x σ H λσ2 H2=>tb { D with nx:=Pv (i + 1),ct:=Pv (i + 1),bk:=D.nx } σ2 H2) (hd:∀σ H,Pv xs.length σ H→D.nx σ H) :
  ∃W:Nat→Nat→St→Hp→Prop,(∃m,W 0 m σ H)∧∀i m σ H,W i m σ H →
   ((FO K a).stop i H∧D.nx σ H)∨((FO K a).go i H∧∃N:St→Hp→Prop,(∀σ' H',N σ' H'→∃m',m' < m∧W (i + 1) m' σ' H')∧∀x H',(FO K a).yld i H x H'→g x σ H' λσ2 H2=>tb { D with nx:=N,ct:=N,bk:=D.nx } σ2 H2):=by
 refine ⟨λi m σ H=>m=xs.length - i∧i≤xs.length∧Pv i σ H,⟨xs.length,by simp,SG _,h0⟩,?_⟩
 rintro i m σ H ⟨rfl,hi,p⟩
 have q:=hl i σ H hi p
 by_cases hlt:i < xs.length
 ·refine .inr ⟨⟨xs,xs[i],q,by simp [hlt]⟩,Pv (i + 1),λσ' H' p'=>⟨xs.length - (i + 1),by omega,rfl,hlt,p'⟩,λx H' y=>?_⟩
  obtain ⟨e,y⟩:=y
  subst e
  exact hs i x σ _ (y xs q) p
 ·have e:i=xs.length:=by omega
  subst e
  exact .inl ⟨⟨xs,q,R' _⟩,hd σ H p⟩
theorem sZ {lo:Int} {n:Nat} {g:TG} {tb:TS} {D:Ends} {σ:St} {H:Hp} (Pv:Nat→St→Hp→Prop) (h0:Pv 0 σ H)
  (hs:∀i σ H,i < n→Pv i σ H→g (.int (lo + i)) σ H λσ2 H2=>tb { D with nx:=Pv (i + 1),ct:=Pv (i + 1),bk:=D.nx } σ2 H2) (hd:∀σ H,Pv n σ H→D.nx σ H) :
  ∃W:Nat→Nat→St→Hp→Prop,(∃m,W 0 m σ H)∧∀i m σ H,W i m σ H →
   ((CL lo n).stop i H∧D.nx σ H)∨((CL lo n).go i H∧∃N:St→Hp→Prop,(∀σ' H',N σ' H'→∃m',m' < m∧W (i + 1) m' σ' H')∧∀x H',(CL lo n).yld i H x H'→g x σ H' λσ2 H2=>tb { D with nx:=N,ct:=N,bk:=D.nx } σ2 H2):=by
 refine ⟨λi m σ H=>m=n - i∧i≤n∧Pv i σ H,⟨n,by simp,SG _,h0⟩,?_⟩
 rintro i m σ H ⟨rfl,hi,p⟩
 by_cases hlt:i < n
 ·refine .inr ⟨hlt,Pv (i + 1),λσ' H' p'=>⟨n - (i + 1),by omega,rfl,hlt,p'⟩,λx H' y=>?_⟩
  obtain ⟨e,y⟩:=y
  subst e y
  exact hs i σ _ hlt p
 ·have e:i=n:=by omega
  subst e
  exact .inl ⟨R' _,hd σ H p⟩
theorem xG {c:TT} {tb:TS} {D:Ends} {σ:St} {H:Hp} (Pv:St→Hp→Prop) (μ:St→Hp→Nat) (h0:Pv σ H)
  (hs:∀σ H,Pv σ H→c σ H λb H1=>if b=true then tb { D with nx:=λσ' H'=>Pv σ' H'∧μ σ' H' < μ σ H,ct:=λσ' H'=>Pv σ' H'∧μ σ' H' < μ σ H,bk:=D.nx } σ H1 else D.nx σ H1)
  (mono:∀σ H Q Q',(∀b H1,Q b H1→Q' b H1)→c σ H Q→c σ H Q'):vE c tb D σ H:=by
 refine ⟨λm σ H=>m=μ σ H∧Pv σ H,⟨_,rfl,h0⟩,?_⟩
 rintro m σ H ⟨rfl,p⟩
 refine mono σ H _ _ (λb H1 q=>?_) (hs σ H p)
 cases b with
 | true=>exact ⟨_,λσ' H' ⟨p',l⟩=>⟨_,l,rfl,p'⟩,q⟩
 | false=>exact q
end L2
namespace L2
open PySem PySem.Spec PyProof.Rows
abbrev R2:=V→V→Hp→VK→Prop
def er (X:Cx) (f:Value→Value→Sem Value) (r:R2):Prop :=
 ∀(pins:List (Addr × Obj)) (s:Shared) (σ:St) (H:Hp) (x y:V) (v u:Value) (Q:VK),Inv X pins σ H s→RelV x v→RelV y u→r x y H Q →
  wpAny (model X.prog X.w) X.A (f v u) (EP X pins σ Q) X.xe s
def t_ (X:Cx) (f:Value→Sem Value) (r:V→Hp→VK→Prop):Prop :=
 ∀(pins:List (Addr × Obj)) (s:Shared) (σ:St) (H:Hp) (x:V) (v:Value) (Q:VK),Inv X pins σ H s→RelV x v→r x H Q →
  wpAny (model X.prog X.w) X.A (f v) (EP X pins σ Q) X.xe s
def bS (X:Cx) (f:Value) (r:List V→Hp→VK→Prop):Prop :=
 ∀(pins:List (Addr × Obj)) (s:Shared) (σ:St) (H:Hp) (xs:List V) (us:List Value) (Q:VK),Inv X pins σ H s→Vals xs us→r xs H Q →
  wpAny (model X.prog X.w) X.A (call f us) (EP X pins σ Q) X.xe s
def O7 (X:Cx) (r:V→Hp→(Bool→Hp→Prop)→Prop):Prop :=
 ∀(pins:List (Addr × Obj)) (s:Shared) (σ:St) (H:Hp) (x:V) (v:Value) (Q:Bool→Hp→Prop),Inv X pins σ H s→RelV x v→r x H Q →
  wpAny (model X.prog X.w) X.A (truthy v) (TP X pins σ Q) X.xe s
def E_ (r:R2) (ta tb:TE):TE:=λσ H Q=>ta σ H λx H1=>tb σ H1 λy H2=>r x y H2 Q
def OY (r:V→Hp→VK→Prop) (ta:TE):TE:=λσ H Q=>ta σ H λx H1=>r x H1 Q
def rI (C:Int→Int→Prop) (g:Int→Int→V):R2:=λx y H Q=>∃i j,x=.int i∧y=.int j∧C i j∧Q (g i j) H
def Ft (g:Int→Int→V):R2:=λx y H Q=>∃i j,x=.int i∧y=.int j∧Q (g i j) H
def rU (g:Int→V):V→Hp→VK→Prop:=λx H Q=>∃i,x=.int i∧Q (g i) H
section
variable {X:Cx} {a b c:Expr} {ta tb tc:TE} {pos:Pos}
theorem JL (ha:PE X a ta) (hb:PE X b tb) {pins:List (Addr × Obj)} {s:Shared} {σ:St} {H:Hp} {R:V→V→Hp→Prop} (I:Inv X pins σ H s)
  (h:ta σ H λx H1=>tb σ H1 λy H2=>R x y H2) {Q:Value→Shared→Prop} {f:Value→Value→Sem Value}
  (hf:∀v u s2 x y H2,Inv X pins σ H2 s2→RelV x v→RelV y u→R x y H2→wpAny (model X.prog X.w) X.A (f v u) Q X.xe s2) :
  wpAny (model X.prog X.w) X.A (eval a X.env) (λv s₁=>wpAny (model X.prog X.w) X.A (eval b X.env) (λu s₂=>wpAny (model X.prog X.w) X.A (f v u) Q X.xe s₂) X.xe s₁) X.xe s:=by
 refine cn (ha pins s σ H _ I h) λv s1 ⟨x,H1,I1,r1,q1⟩=>?_
 refine cn (hb pins s1 σ H1 _ I1 q1) λu s2 ⟨y,H2,I2,r2,q2⟩=>?_
 exact hf v u s2 x y H2 I2 r1 r2 q2
theorem bp {op:Operator} {r:R2} (ho:er X (binaryOp op) r) (ha:PE X a ta) (hb:PE X b tb):PE X (.BinOp a op b pos) (E_ r ta tb):=by
 intro pins s σ H Q I h
 exact wpAny_BinOp (JL ha hb I h λv u s2 x y H2 I2 rx ry q=>ho pins s2 σ H2 x y v u Q I2 rx ry q)
theorem Am {op:UnaryOp} {r:V→Hp→VK→Prop} (ho:t_ X (unaryOp op) r) (ha:PE X a ta):PE X (.UnaryOp op a pos) (OY r ta):=by
 intro pins s σ H Q I h
 exact UnaryOp_ (cn (ha pins s σ H _ I h) λv s1 ⟨x,H1,I1,r1,q1⟩=>ho pins s1 σ H1 x v Q I1 r1 q1)
theorem OR {f:Value→Value→Sem Value} {C:Int→Int→Prop} {g:Int→Int→Int}
  (rule:∀(i j:Int) (t u:Tok) (s:Shared) (Q:Value→Shared→Prop) (E:Value→Shared→Prop),C i j→Q (.int (g i j) s.toks) { s with toks:=s.toks + 1 }→wpAny (model X.prog X.w) X.A (f (.int i t) (.int j u)) Q E s) :
  er X f (rI C λi j=>.int (g i j)):=by
 intro pins s σ H x y v u Q I rx ry h
 obtain ⟨i,j,rfl,rfl,hc,q⟩:=h
 obtain ⟨t,rfl⟩:=rx
 obtain ⟨t',rfl⟩:=ry
 exact rule i j t t' s _ _ hc ⟨.int (g i j),H,I.tok _,⟨_,rfl⟩,q⟩
theorem Np {f:Value→Value→Sem Value} {g:Int→Int→Int}
  (rule:∀(i j:Int) (t u:Tok) (s:Shared) (Q:Value→Shared→Prop) (E:Value→Shared→Prop),Q (.int (g i j) s.toks) { s with toks:=s.toks + 1 }→wpAny (model X.prog X.w) X.A (f (.int i t) (.int j u)) Q E s) :
  er X f (Ft λi j=>.int (g i j)):=by
 intro pins s σ H x y v u Q I rx ry h
 obtain ⟨i,j,rfl,rfl,q⟩:=h
 obtain ⟨t,rfl⟩:=rx
 obtain ⟨t',rfl⟩:=ry
 exact rule i j t t' s _ _ ⟨.int (g i j),H,I.tok _,⟨_,rfl⟩,q⟩
theorem GX {f:Value→Value→Sem Value} {g:Int→Int→Bool}
  (rule:∀(i j:Int) (t u:Tok) (s:Shared) (Q:Value→Shared→Prop) (E:Value→Shared→Prop),Q (.bool (g i j)) s→wpAny (model X.prog X.w) X.A (f (.int i t) (.int j u)) Q E s) :
  er X f (Ft λi j=>.bl (g i j)):=by
 intro pins s σ H x y v u Q I rx ry h
 obtain ⟨i,j,rfl,rfl,q⟩:=h
 obtain ⟨t,rfl⟩:=rx
 obtain ⟨t',rfl⟩:=ry
 exact rule i j t t' s _ _ ⟨.bl (g i j),H,I,rfl,q⟩
def Jw (i j:Int):Prop:=0≤j∧j≤1000000∧i.natAbs < 2 ^ 64
theorem iJ:er X (binaryOp .Add) (Ft λi j=>.int (i + j)):=Np λ_ _ _ _ _ _ _ q=>add_int q
theorem yP:er X (binaryOp .Sub) (Ft λi j=>.int (i - j)):=Np λ_ _ _ _ _ _ _ q=>sub_int q
theorem fI:er X (binaryOp .Mod) (rI (λ_ j=>0 < j) λi j=>.int (i % j)):=OR λi j _ _ _ _ _ hc q=>by
 have h1:(0:Int) < j:=hc
 exact mod_int' (by omega) (by rw [Int.fmod_eq_emod_of_nonneg i (by omega)];exact q)
theorem yO:er X (binaryOp .Pow) (rI Jw λi j=>.int (i ^ j.toNat)):=OR λ_ _ _ _ _ _ _ hc q=>pow_int_small hc.1 hc.2.1 hc.2.2 q
theorem R5 {f:Value→Sem Value} {g:Int→Int}
  (rule:∀(i:Int) (t:Tok) (s:Shared) (Q:Value→Shared→Prop) (E:Value→Shared→Prop),Q (.int (g i) s.toks) { s with toks:=s.toks + 1 }→wpAny (model X.prog X.w) X.A (f (.int i t)) Q E s) :
  t_ X f (rU λi=>.int (g i)):=by
 intro pins s σ H x v Q I rx h
 obtain ⟨i,rfl,q⟩:=h
 obtain ⟨t,rfl⟩:=rx
 exact rule i t s _ _ ⟨.int (g i),H,I.tok _,⟨_,rfl⟩,q⟩
theorem Ff:t_ X (unaryOp .USub) (rU λi=>.int (-i)):=R5 λ_ _ _ _ _ q=>neg_int q
end
def ER:V→V→Bool
 | .non,.non=>true | .non,.int _=>true | .int _,.non=>true | .non,.bl _=>true | .bl _,.non=>true | .non,.str _=>true | .str _,.non=>true
 | .int _,.int _=>true | .bl _,.bl _=>true | .str _,.str _=>true | .byt _,.byt _=>true
 | .int _,.str _=>true | .str _,.int _=>true | .bl _,.str _=>true | .str _,.bl _=>true
 | _,_=>false
def Rp:R2:=λx y H Q=>ER x y=true∧Q (.bl (decide (x=y))) H
def Rt:R2:=λx y H Q=>ER x y=true∧Q (.bl (!decide (x=y))) H
theorem zO {i j:Int}:decide (V.int i=V.int j)=(i == j):=by
 rw [Tr]
 simp
theorem De {i j:Bool}:decide (V.bl i=V.bl j)=(i == j):=by
 rw [Tr]
 simp
theorem zP {i j:Str}:decide (V.str i=V.str j)=(i == j):=by
 rw [Tr]
 simp
theorem zN {i j:Array UInt8}:decide (V.byt i=V.byt j)=(i.toList == j.toList):=by
 rw [Tr]
 cases i
 cases j
 simp
section
variable {X:Cx} {a b c:Expr} {ta tb tc:TE} {pos:Pos}
theorem bx {pins:List (Addr × Obj)} {σ:St} {H:Hp} {s:Shared} {Q:VK} {k k':Bool} (I:Inv X pins σ H s) (q:Q (.bl k) H) (e:k=k'):EP X pins σ Q (.bool k') s:=by
 subst e
 exact ⟨.bl k,H,I,rfl,q⟩
theorem D_:er X (compareOp .Eq) Rp:=by
 intro pins s σ H x y v u Q I rx ry h
 obtain ⟨hs,q⟩:=h
 cases x with
 | non =>
  cases rx
  cases y with
  | non=>cases ry;exact PySem.EqNone.eq_none_none (bx I q (by simp))
  | bl j=>cases ry;exact PySem.EqNone.eq_none_bool (bx I q (by simp))
  | int j=>obtain ⟨t',rfl⟩:=ry;exact PySem.EqNone.eq_none_int (bx I q (by simp))
  | str j=>obtain ⟨t',rfl⟩:=ry;exact PySem.EqNone.eq_none_str (bx I q (by simp))
  | _=>exact absurd (show false=true from hs) Sj
 | bl i =>
  cases rx
  cases y with
  | non=>cases ry;exact PySem.EqNone.eq_bool_none (bx I q (by simp))
  | bl j=>cases ry;exact eq_bool (bx I q De)
  | str j=>obtain ⟨t',rfl⟩:=ry;exact PySem.EqMixed.eq_bool_str (bx I q (by simp))
  | _=>exact absurd (show false=true from hs) Sj
 | int i =>
  obtain ⟨t,rfl⟩:=rx
  cases y with
  | non=>cases ry;exact PySem.EqNone.eq_int_none (bx I q (by simp))
  | int j=>obtain ⟨t',rfl⟩:=ry;exact eq_int (bx I q zO)
  | str j=>obtain ⟨t',rfl⟩:=ry;exact PySem.EqMixed.eq_int_str (bx I q (by simp))
  | _=>exact absurd (show false=true from hs) Sj
 | str i =>
  obtain ⟨t,rfl⟩:=rx
  cases y with
  | non=>cases ry;exact PySem.EqNone.eq_str_none (bx I q (by simp))
  | bl j=>cases ry;exact PySem.EqMixed.eq_str_bool (bx I q (by simp))
  | int j=>obtain ⟨t',rfl⟩:=ry;exact PySem.EqMixed.eq_str_int (bx I q (by simp))
  | str j=>obtain ⟨t',rfl⟩:=ry;exact eq_str (bx I q zP)
  | _=>exact absurd (show false=true from hs) Sj
 | byt i =>
  obtain ⟨t,rfl⟩:=rx
  cases y with
  | byt j=>obtain ⟨t',rfl⟩:=ry;exact PySem.W.eq_bytes (bx I q zN)
  | _=>exact absurd (show false=true from hs) Sj
 | _=>cases y <;> exact absurd (show false=true from hs) Sj
theorem IU:er X (compareOp .NotEq) Rt:=by
 intro pins s σ H x y v u Q I rx ry h
 obtain ⟨hs,q⟩:=h
 cases x with
 | non =>
  cases rx
  cases y with
  | non=>cases ry;exact PySem.EqNone.ne_none_none (bx I q (by simp))
  | bl j=>cases ry;exact PySem.EqNone.ne_none_bool (bx I q (by simp))
  | int j=>obtain ⟨t',rfl⟩:=ry;exact PySem.EqNone.ne_none_int (bx I q (by simp))
  | str j=>obtain ⟨t',rfl⟩:=ry;exact PySem.EqNone.ne_none_str (bx I q (by simp))
  | _=>exact absurd (show false=true from hs) Sj
 | bl i =>
  cases rx
  cases y with
  | non=>cases ry;exact PySem.EqNone.ne_bool_none (bx I q (by simp))
  | bl j=>cases ry;exact ne_bool (bx I q (congrArg not De))
  | str j=>obtain ⟨t',rfl⟩:=ry;exact PySem.EqMixed.ne_bool_str (bx I q (by simp))
  | _=>exact absurd (show false=true from hs) Sj
 | int i =>
  obtain ⟨t,rfl⟩:=rx
  cases y with
  | non=>cases ry;exact PySem.EqNone.ne_int_none (bx I q (by simp))
  | int j=>obtain ⟨t',rfl⟩:=ry;exact ne_int (bx I q (congrArg not zO))
  | str j=>obtain ⟨t',rfl⟩:=ry;exact PySem.EqMixed.ne_int_str (bx I q (by simp))
  | _=>exact absurd (show false=true from hs) Sj
 | str i =>
  obtain ⟨t,rfl⟩:=rx
  cases y with
  | non=>cases ry;exact PySem.EqNone.ne_str_none (bx I q (by simp))
  | bl j=>cases ry;exact PySem.EqMixed.ne_str_bool (bx I q (by simp))
  | int j=>obtain ⟨t',rfl⟩:=ry;exact PySem.EqMixed.ne_str_int (bx I q (by simp))
  | str j=>obtain ⟨t',rfl⟩:=ry;exact ne_str (bx I q (congrArg not zP))
  | _=>exact absurd (show false=true from hs) Sj
 | byt i =>
  obtain ⟨t,rfl⟩:=rx
  cases y with
  | byt j=>obtain ⟨t',rfl⟩:=ry;exact PySem.W.ne_bytes (bx I q (congrArg not zN))
  | _=>exact absurd (show false=true from hs) Sj
 | _=>cases y <;> exact absurd (show false=true from hs) Sj
theorem Aj:er X (compareOp .Lt) (Ft λi j=>.bl (decide (i < j))):=GX λ_ _ _ _ _ _ _ q=>lt_int q
theorem IT:er X (compareOp .LtE) (Ft λi j=>.bl (decide (i≤j))):=GX λ_ _ _ _ _ _ _ q=>le_int q
theorem IS:er X (compareOp .Gt) (Ft λi j=>.bl (decide (j < i))):=GX λ_ _ _ _ _ _ _ q=>gt_int q
theorem IQ:er X (compareOp .GtE) (Ft λi j=>.bl (decide (j≤i))):=GX λ_ _ _ _ _ _ _ q=>ge_int q
theorem B_:er X (compareOp .Lt) (λx y H Q=>∃i j,x=.str i∧y=.str j∧Q (.bl (decide (i.cps.toList < j.cps.toList))) H):=by
 intro pins s σ H x y v u Q I rx ry h
 obtain ⟨i,j,rfl,rfl,q⟩:=h
 obtain ⟨t,rfl⟩:=rx
 obtain ⟨t',rfl⟩:=ry
 exact lt_str (bx I q rfl)
theorem KP:er X (compareOp .Is) (λx y H Q=>y=.non∧Q (.bl (decide (x=.non))) H):=by
 intro pins s σ H x y v u Q I rx ry h
 obtain ⟨rfl,q⟩:=h
 cases ry
 refine is_none_gen (bx I q ?_)
 cases x <;> first
  | (cases rx;rfl)
  | (obtain ⟨t,rfl⟩:=rx;rfl)
theorem G1:er X (compareOp .IsNot) (λx y H Q=>y=.non∧Q (.bl (!decide (x=.non))) H):=by
 intro pins s σ H x y v u Q I rx ry h
 obtain ⟨rfl,q⟩:=h
 cases ry
 refine isnot_none_gen (bx I q ?_)
 cases x <;> first
  | (cases rx;rfl)
  | (obtain ⟨t,rfl⟩:=rx;rfl)
theorem er.or {f:Value→Value→Sem Value} {r r':R2} (h:er X f r) (h':er X f r'):er X f (λx y H Q=>r x y H Q∨r' x y H Q):=by
 intro pins s σ H x y v u Q I rx ry q
 rcases q with q | q
 ·exact h pins s σ H x y v u Q I rx ry q
 ·exact h' pins s σ H x y v u Q I rx ry q
theorem eL (b:Expr) {op:CmpOp} (h:op≠.In:=by decide) (h2:op≠.NotIn:=by decide):behindInMarks op b=false:=by
 have e1:(op == CmpOp.In)=false:=by cases op <;> first | rfl | exact absurd rfl h
 have e2:(op == CmpOp.NotIn)=false:=by cases op <;> first | rfl | exact absurd rfl h2
 cases b <;> simp [behindInMarks,e1,e2]
theorem o7 {op:CmpOp} {r:R2} (ho:er X (compareOp op) r) (ha:PE X a ta) (hb:PE X b tb) (hm:behindInMarks op b=false):PE X (.Compare a [op] [b] pos) (E_ r ta tb):=by
 intro pins s σ H Q I h
 exact wpAny_Compare1 (JL ha hb I h λv u s2 x y H2 I2 rx ry q=>ho pins s2 σ H2 x y v u Q I2 rx ry q) hm
def A8 (t:TE):TT:=λσ H Q=>t σ H λx H'=>∃k,x=.bl k∧Q k H'
theorem dB {op:CmpOp} {r:R2} (ho:er X (compareOp op) r) (ha:PE X a ta) (hb:PE X b tb) (hm:behindInMarks op b=false):PT X (.Compare a [op] [b] pos) (A8 (E_ r ta tb)):=by
 intro pins s σ H Q I h
 refine wpAny_isTrue_Compare1 (cn (ha pins s σ H _ I h) λv s1 ⟨x,H1,I1,r1,q1⟩=>cn (hb pins s1 σ H1 _ I1 q1) λu s2 ⟨y,H2,I2,r2,q2⟩ =>
  cn (ho pins s2 σ H2 x y v u _ I2 r1 r2 q2) λc s3 ⟨z,H3,I3,r3,k,e,q3⟩=>?_) hm
 subst e
 cases r3
 exact wpAny_truthy_bool ⟨H3,I3,q3⟩
def E7 (r r':R2) (ta tb tc:TE):TE:=λσ H Q=>ta σ H λx H1=>tb σ H1 λy H2=>r x y H2 λz H3=>∃k,z=.bl k ∧
 (if k=true then tc σ H3 λw' H4=>r' y w' H4 Q else Q (.bl false) H3)
theorem Ee {op op':CmpOp} {r r':R2} (ho:er X (compareOp op) r) (ho':er X (compareOp op') r') (ha:PE X a ta) (hb:PE X b tb) (hc:PE X c tc)
  (hm:lastMarks [op,op'] [b,c]=false:=by with_unfolding_all rfl):PE X (.Compare a [op,op'] [b,c] pos) (E7 r r' ta tb tc):=by
 intro pins s σ H Q I h
 refine Compare_chain (cn (ha pins s σ H _ I h) λv s1 ⟨x,H1,I1,r1,q1⟩=>chain_link (cn (hb pins s1 σ H1 _ I1 q1) λu s2 ⟨y,H2,I2,r2,q2⟩ =>
  cn (ho pins s2 σ H2 x y v u _ I2 r1 r2 q2) λd s3 ⟨z,H3,I3,r3,k,e,q3⟩=>?_)) hm
 subst e
 cases r3
 refine wpAny_truthy_bool ?_
 cases k with
 | false=>exact ite_ff ⟨.bl false,H3,I3,rfl,q3⟩
 | true=>exact ite_tt (chain_last (cn (hc pins s3 σ H3 _ I3 q3) λw' s4 ⟨z',H4,I4,r4,q4⟩=>ho' pins s4 σ H4 y z' u w' Q I4 r2 r4 q4))
def JG (K:PySem.W.Frag) (x:V) (H:Hp) (k:Bool):Prop :=
 match x with
 | .non=>k=false
 | .bl b=>k=b
 | .int i=>k=(i != 0)
 | .str y=>y.length≤sizeLine∧k=((y.length:Int) != 0)
 | .byt y=>y.size≤sizeLine∧k=((y.size:Int) != 0)
 | .ref p=>(∃xs,cP K H p xs∧k=!xs.isEmpty)∨(∃xs,fv K H p xs∧k=!xs.isEmpty)∨∃kvs ep,H p=some (.dE kvs ep)∧k=!kvs.isEmpty
 | _=>False
theorem yw {κ:Type} {kvs:List (κ × V)} {vs:List (κ × Value)} (r:KV kvs vs):(!vs.isEmpty)=!kvs.isEmpty:=by
 cases r <;> rfl
theorem p8 {xs:List V} {its:List Value} (r:Vals xs its):(!its.toArray.isEmpty)=!xs.isEmpty:=by
 cases r <;> simp
theorem lz:(sizeLine:Nat) < 2 ^ 63:=by rw [sizeLine_eq];decide
theorem Lv:O7 X (λx H Q=>∃k,JG X.K x H k∧Q k H):=by
 intro pins s σ H x v Q I rx h
 obtain ⟨k,e,q⟩:=h
 have hl:=lz
 have hs:sizeLine=16777216:=sizeLine_eq
 cases x with
 | non =>
  cases rx
  have e':k=false:=e
  subst e'
  exact truthy_none ⟨H,I,q⟩
 | bl b =>
  cases rx
  have e':k=b:=e
  subst e'
  exact wpAny_truthy_bool ⟨H,I,q⟩
 | int i =>
  obtain ⟨t,rfl⟩:=rx
  have e':k=(i != 0):=e
  subst e'
  exact PySem.P.truthy_int ⟨H,I,q⟩
 | str y =>
  obtain ⟨t,rfl⟩:=rx
  obtain ⟨hy,e'⟩:y.length≤sizeLine∧k=((y.length:Int) != 0):=e
  subst e'
  exact PySem.P.truthy_str (by omega) ⟨H,I.tok _,q⟩
 | byt y =>
  obtain ⟨t,rfl⟩:=rx
  obtain ⟨hy,e'⟩:y.size≤sizeLine∧k=((y.size:Int) != 0):=e
  subst e'
  exact PySem.W.truthy_bytes (by omega) ⟨H,I.tok _,q⟩
 | ref p =>
  cases rx
  have e':(∃xs,cP X.K H p xs∧k=!xs.isEmpty)∨(∃xs,fv X.K H p xs∧k=!xs.isEmpty)∨∃kvs ep,H p=some (.dE kvs ep)∧k=!kvs.isEmpty:=e
  rcases e' with ⟨xs,hx,e'⟩ | ⟨xs,hx,e'⟩ | ⟨kvs,ep,hx,e'⟩
  ·subst e'
   obtain ⟨its,r,pl,hz⟩:=I.list hx
   have hlen:=r.length
   exact wpAny_truthy_list pl.isList (by simp only [Sa];omega) ⟨H,I.tok _,by rw [p8 r];exact q⟩
  ·subst e'
   obtain ⟨its,r,pl,hz⟩:=I.tuple hx
   have hlen:=r.length
   exact truthy_tuple pl (by simp only [Sa];omega) ⟨H,I.tok _,by rw [p8 r];exact q⟩
  ·subst e'
   obtain ⟨hz,hS,vs,r,m⟩:kvs.length≤sizeLine∧(p == sysModules)=false∧∃vs,KV kvs vs∧s.heap.DictAt (strKind X.prog X.w) p vs ep:=I.hok p _ hx
   have hlen:kvs.length=vs.length:=Paired.length r
   exact wpAny_truthy_dict hS m.dictOf (by omega) ⟨H,I.tok _,by rw [yw r];exact q⟩
 | _=>exact (show False from e).elim
theorem Ek (ha:PE X a ta) (he:∀whole,isTrue a X.env whole=(do let v ← whole;standAt a.pos;holding [v] (truthy v))) :
  PT X a (λσ H Q=>ta σ H λx H'=>∃k,JG X.K x H' k∧Q k H'):=by
 intro pins s σ H Q I h
 exact isTrue_plain (cn (ha pins s σ H _ I h) λv s1 ⟨x,H1,I1,r1,q1⟩=>Lv pins s1 σ H1 x v Q I1 r1 q1) (he _)
theorem vals1 {x:V} {us:List Value} (r:Vals [x] us):∃u,us=[u]∧RelV x u:=by
 cases r with
 | cons r1 r2=>cases r2;exact ⟨_,rfl,r1⟩
theorem vals2 {x y:V} {us:List Value} (r:Vals [x,y] us):∃u w',us=[u,w']∧RelV x u∧RelV y w':=by
 cases r with
 | cons r1 r2 =>
  cases r2 with
  | cons r3 r4=>cases r4;exact ⟨_,_,rfl,r1,r3⟩
theorem l7:bS X (.builtin "abs") (λxs H Q=>∃i,xs=[.int i]∧Q (.int (if i < 0 then -i else i)) H):=by
 intro pins s σ H xs us Q I r h
 obtain ⟨i,rfl,q⟩:=h
 obtain ⟨u,rfl,t,rfl⟩:=vals1 r
 exact call_abs_int λu tk=>⟨.int (if i < 0 then -i else i),H,I.tok _,⟨_,rfl⟩,q⟩
end
end L2
namespace L2
open PySem PySem.Spec PyProof.Rows
structure ya (h:Heap) (x dx C:Addr) (mA:Str→Option Value):Prop where
 obj:h.get? x=some (PySem.W.instObj C dx)
 ns:h.Ns1 dx mA
 ne:dx≠x
theorem BR {h:Heap} {dx:Addr} {mA:Str→Option Value} (n:h.Ns1 dx mA):∃od,h.get? dx=some od∧∀name,PySem.W.lookIn name od=some (mA name):=by
 obtain ⟨o,es,ep,ho,hd,hk,_,hm⟩:=n
 refine ⟨o,ho,λname=>?_⟩
 have e:=hm name
 unfold nsFind findBy at e
 rw [← Array.find?_toList] at e
 unfold PySem.W.lookIn
 rw [hd]
 dsimp only
 split
 ·rename_i y q
  rw [q] at e
  exact congrArg some e
 ·rename_i q
  rw [q] at e
  have a:es.toList.any (·.refKey)=false:=by
   rw [List.any_eq_false]
   intro y hy
   obtain ⟨z,t,hkey⟩:=hk y (Array.mem_toList_iff.mp hy)
   simp [DictEntry.refKey,hkey]
  have a':¬ es.toList.any (·.refKey)=true:=by rw [a];exact Sj
  rw [if_neg a']
  exact congrArg some e
theorem ya.look {h:Heap} {x dx C:Addr} {mA:Str→Option Value} (I:ya h x dx C mA):∃od,PySem.W.InstAt h x (PySem.W.instObj C dx) C (some od)∧∀name,PySem.W.lookIn name od=some (mA name) :=
 let ⟨od,ho,hl⟩:=BR I.ns
 ⟨od,⟨I.obj,rfl,rfl,ho⟩,hl⟩
section
variable {prog:Program} {w:World} {A:Around} {E:Value→Shared→Prop} {s:Shared} {K:PySem.W.Frag} {x dx C f:Addr} {mA:Str→Option Value} {name:Str} {v:Value}
theorem get_map {expr:Bool} {Q:Value→Shared→Prop} (X:K.In s.heap) (I:ya s.heap x dx C mA) (hg:PySem.W.plainGet K C name=true) (hh:PySem.W.hasDictIn K C=true)
  (ha:PySem.W.findIn K (.ref C) name=some none) (hv:mA name=some v) (hv':PySem.W.handedIn v=true) (h:Q v { s with toks:=s.toks + 1 }) :
  wpAny (model prog w) A (getAttr (.ref x) name expr) Q E s:=by
 obtain ⟨od,J,hl⟩:=I.look
 exact PySem.W.get_value X J (PySem.W.plainGet_of hg).1 (PySem.W.findObj_own hh ha rfl (by rw [hl,hv])) hv' h
theorem Ds {pl:Sem Bool} {Q:Value × List Value→Shared→Prop} (X:K.In s.heap) (I:ya s.heap x dx C mA) (hg:PySem.W.plainGet K C name=true)
  (hf:PySem.W.findIn K (.ref C) name=some (some (.ref f))) (ht:PySem.W.isFn K (.ref f)=true) (hv:mA name=none) (h:Q (.ref f,[.ref x]) s) :
  wpAny (model prog w) A (getMethod (.ref x) name pl) Q E s:=by
 obtain ⟨od,J,hl⟩:=I.look
 exact PySem.W.method_fn X J (PySem.W.plainGet_of hg).1 (PySem.W.plainGet_of hg).2 hf (beq_iff_eq.mp ht) (by show (PySem.W.lookIn name od).map (·.isSome)=some false;rw [hl,hv];rfl) h
theorem HR {ns:List Str} {Q:Unit→Shared→Prop} (X:K.In s.heap) (I:ya s.heap x dx C mA)
  (hs:PySem.W.findIn K (.ref C) "__setattr__"=some (some (.builtin "object.__setattr__"))) (hp:PySem.W.plainOver K C=true) (ht:PySem.W.takerIn K C name=some none) (hh:PySem.W.hasDictIn K C=true)
  (hw:PySem.Within mA ns) (hsz:ns.length≤sizeLine)
  (h:∀h',ya h' x dx C (λy=>if y=name then some v else mA y)→Heap.SameBut dx s.heap h'→Q () { s with heap:=h',toks:=s.toks + 2 }) :
  wpAny (model prog w) A (setAttr (.ref x) name v) Q E s:=by
 obtain ⟨od,J,hl⟩:=I.look
 refine PySem.W.set_plain X J hs (PySem.W.osa_open (s:={ s with toks:=s.toks + 1 }) (r:=none) X J hp ht λb=>?_)
 obtain ⟨cd,hc,hd'⟩:=PySem.W.any_some hh
 have hx:s.heap.get? x=some ⟨.ref C,some dx,.plain,#[]⟩:=I.obj
 refine wpAny_bind (wpAny_pure (wpAny_bind (wpAny_bind (wpAny_loadPart hx (wpAny_bind (PySem.W.Looks.here (s:={ s with toks:=s.toks + 1 }) (PySem.W.looks_clsIn X hc) ?_))))))
 rw [hd']
 refine wpAny_pure (a:=some dx) (wpAny_bind (wpAny_pure (wpAny_bind ?_)))
 refine wpAny_nsSet1 (s:={ s with toks:=s.toks + 1 }) I.ns λh' hn2 hs2=>?_
 obtain ⟨oD,esD,epD,hoD,hdD,hcD⟩:=hn2.count (PySem.Within.cons name v hw)
 refine wpAny_bind (wpAny_lookBehind hoD (by rw [hdD];exact pastItsLine_dict (Su hcD (by rw [Sv];omega))) ?_)
 exact wpAny_pure (h _ ⟨(hs2.2 _ (Ne.symm I.ne)).trans I.obj,hn2,I.ne⟩ hs2)
theorem DW {R:Result→Shared→Prop} {vs:List Value} {kw:List (Str × Value)} (X:K.In s.heap) (hm:PySem.W.makesIn K C=true)
  (hi:PySem.W.findIn K (.ref C) "__init__"=some (some (.ref f))) (hf:PySem.W.typeIn K (.ref f)=some (.type "function"))
  (h:codeAny (model prog w) (A.under (.builtin "type.__call__" ⟨.ref C :: vs,kw⟩)) (.call (.ref f) ⟨.ref (s.heap.objs.size + 1) :: vs,kw⟩) (PySem.W.InitBack (s.heap.objs.size + 1) R)
   { s with heap:=(s.heap.push PySem.W.emptyDict).push (PySem.W.instObj C s.heap.objs.size) }) :
  codeAny (model prog w) A (.call (.ref C) ⟨vs,kw⟩) R s:=by
 obtain ⟨hh,g,d,t,os⟩:=s
 exact PySem.W.make_core (PySem.W.makes_of X hm) (PySem.W.looks_findIn X hi) (λself=>PySem.W.bind_fn X self hf) (.inl rfl) h
end
def dX (f:Str) (v:V):List (Str × V)→List (Str × V)
 | []=>[(f,v)]
 | (g,x) :: r=>if g=f then (g,v) :: r else (g,x) :: dX f v r
theorem oy (f g:Str) (v:V):∀fs:List (Str × V),(dX f v fs).lookup g=if g=f then some v else fs.lookup g
 | []=>by
  show TU g [(f,v)]=_
  by_cases h:g=f
  ·have hb:(g == f)=true:=beq_iff_eq.mpr h
   simp only [TU,hb,if_pos h]
  ·have hb:(g == f)=false:=beq_eq_false_iff_ne.mpr h
   simp only [TU,hb,if_neg h]
 | (k,x) :: r=>by
  have ih:=oy f g v r
  rw [show dX f v ((k,x) :: r)=(if k=f then (k,v) :: r else (k,x) :: dX f v r) from rfl]
  by_cases hk:k=f
  ·rw [if_pos hk]
   by_cases h:g=k
   ·have hb:(g == k)=true:=beq_iff_eq.mpr h
    simp only [TU,hb,if_pos (h.trans hk)]
   ·have hb:(g == k)=false:=beq_eq_false_iff_ne.mpr h
    simp only [TU,hb,if_neg (λe:g=f=>h (e.trans hk.symm))]
  ·rw [if_neg hk]
   by_cases h:g=k
   ·have hb:(g == k)=true:=beq_iff_eq.mpr h
    simp only [TU,hb,if_neg (λe:g=f=>hk (h.symm.trans e))]
   ·have hb:(g == k)=false:=beq_eq_false_iff_ne.mpr h
    simp only [TU,hb]
    exact ih
theorem m_ (f:Str) (v:V):∀fs:List (Str × V),f∈(dX f v fs).map (·.1)∧∀g,g∈fs.map (·.1)→g∈(dX f v fs).map (·.1)
 | []=>⟨by simp [dX],λg h=>by simp at h⟩
 | (k,x) :: r=>by
  obtain ⟨i1,i2⟩:=m_ f v r
  rw [show dX f v ((k,x) :: r)=(if k=f then (k,v) :: r else (k,x) :: dX f v r) from rfl]
  by_cases hk:k=f
  ·rw [if_pos hk]
   subst hk
   exact ⟨by simp,λg h=>by simpa using h⟩
  ·rw [if_neg hk]
   refine ⟨?_,λg h=>?_⟩
   ·rw [Sd]
    exact Sm _ i1
   ·rw [Sd] at h ⊢
    rcases Sf.mp h with e | e
    ·exact Sf.mpr (.inl e)
    ·exact Sm _ (i2 g e)
theorem ou (f:Str) (v:V):∀fs:List (Str × V),(dX f v fs).length≤fs.length + 1
 | []=>by simp [dX]
 | (k,x) :: r=>by
  have ih:=ou f v r
  rw [show dX f v ((k,x) :: r)=(if k=f then (k,v) :: r else (k,x) :: dX f v r) from rfl]
  by_cases hk:k=f
  ·rw [if_pos hk,Sv,Sv];omega
  ·rw [if_neg hk,Sv,Sv];omega
theorem rX.some_of {v:V} {o:Option Value} (r:rX (some v) o):∃u,o=some u∧RelV v u:=by
 cases o with
 | none=>exact (show False from r).elim
 | some u=>exact ⟨u,rfl,r⟩
theorem rX.none_of {o:Option Value} (r:rX none o):o=none:=by
 cases o with
 | none=>rfl
 | some u=>exact (show False from r).elim
theorem BF {v:V} {u:Value} (r:RelV v u):PySem.W.handedIn u=true:=by
 cases v with
 | non=>cases (show u=Value.none from r);rfl
 | bl b=>cases (show u=Value.bool b from r);rfl
 | int i=>obtain ⟨t,e⟩:=(show ∃t,u=Value.int i t from r);cases e;rfl
 | str x=>obtain ⟨t,e⟩:=(show ∃t,u=Value.str x t from r);cases e;rfl
 | byt b=>obtain ⟨t,e⟩:=(show ∃t,u=Value.bytes b t from r);cases e;rfl
 | flt b=>obtain ⟨t,e⟩:=(show ∃t,u=Value.float b t from r);cases e;rfl
 | ref a=>cases (show u=Value.ref a from r);rfl
 | ty n=>cases (show u=Value.type n from r);rfl
section
variable {P:Program} {w:World} {H H':Hp} {h h':Heap} {a C dx:Addr} {fs fs':List (Str × V)}
theorem oZ (hok:lV P w H h) (e:H a=some (.ins C dx fs)):∃mA,ya h a dx C mA∧(∀f,rX (fs.lookup f) (mA f))∧PySem.Within mA (fs.map (·.1))∧fs.length≤1000∧H dx=some (.own a):=by
 obtain ⟨d,z,ne,ob,mA,n,r,q⟩:=(show dm P w H h a (.ins C dx fs) from hok a _ e)
 exact ⟨mA,⟨ob,n,ne⟩,r,q,z,d⟩
end
structure mS (K:PySem.W.Frag) (C:Addr):Prop where
 pg:PySem.W.plainGet K C Str.empty=true
 hd:PySem.W.hasDictIn K C=true
 po:PySem.W.plainOver K C=true
 sa:PySem.W.findIn K (.ref C) "__setattr__"=some (some (.builtin "object.__setattr__"))
theorem mS.get {K:PySem.W.Frag} {C:Addr} (c:mS K C) (f:Str):PySem.W.plainGet K C f=true:=c.pg
def aI (K:PySem.W.Frag) (C:Addr) (f:Str):Prop:=PySem.W.findIn K (.ref C) f=some none
theorem aI.Oh {K:PySem.W.Frag} {C:Addr} {f:Str} (n:aI K C f):PySem.W.takerIn K C f=some none:=by
 unfold PySem.W.takerIn
 rw [show PySem.W.findIn K (.ref C) f=some none from n]
 rfl
structure Meth (K:PySem.W.Frag) (C:Addr) (m:Str) (f:Addr):Prop where
 at_:PySem.W.findIn K (.ref C) m=some (some (.ref f))
 fn:PySem.W.isFn K (.ref f)=true
 kp:PySem.W.keepIn K (.ref f)=true
section
variable {X:Cx} {pins:List (Addr × Obj)} {σ:St} {H:Hp} {s:Shared} {a C dx:Addr} {fs:List (Str × V)} {f:Str} {v:V} {A:Around} {E:Value→Shared→Prop}
theorem yt {b:Bool} {Q:Value→Shared→Prop} (I:Inv X pins σ H s) (e:H a=some (.ins C dx fs)) (c:mS X.K C) (n:aI X.K C f) (l:fs.lookup f=some v)
  (h:∀u s',Inv X pins σ H s'→RelV v u→Q u s'):wpAny (model X.prog X.w) A (getAttr (.ref a) f b) Q E s:=by
 obtain ⟨mA,O,r,_,_,_⟩:=oZ I.hok e
 obtain ⟨u,hu,ru⟩:=rX.some_of (v:=v) (o:=mA f) (by rw [← l];exact r f)
 exact get_map I.lp O (c.get f) c.hd n hu (BF ru) (h u _ (I.tok _) ru)
theorem pZ {m:Str} {g:Addr} {pl:Sem Bool} {Q:Value × List Value→Shared→Prop} (I:Inv X pins σ H s) (e:H a=some (.ins C dx fs)) (c:mS X.K C) (k:Meth X.K C m g) (l:fs.lookup m=none)
  (h:Q (.ref g,[.ref a]) s):wpAny (model X.prog X.w) A (getMethod (.ref a) m pl) Q E s:=by
 obtain ⟨mA,O,r,_,_,_⟩:=oZ I.hok e
 have hn:mA m=none:=rX.none_of (by rw [← l];exact r m)
 exact Ds I.lp O (c.get m) k.at_ k.fn hn h
theorem zl {y:V} {u:Value} {Q:Unit→Shared→Prop} (I:Inv X pins σ H s) (e:H a=some (.ins C dx fs)) (c:mS X.K C) (n:aI X.K C f) (hl:fs.length < 1000) (ry:RelV y u)
  (h:∀s',Inv X pins σ (upd H a (.ins C dx (dX f y fs))) s'→Q () s'):wpAny (model X.prog X.w) A (setAttr (.ref a) f u) Q E s:=by
 obtain ⟨mA,O,r,wi,_,ho⟩:=oZ I.hok e
 have hz:(fs.map (·.1)).length≤sizeLine:=by rw [R6,sizeLine_eq];omega
 refine HR I.lp O c.sa c.po n.Oh c.hd wi hz λh' O' sb=>h _ ?_
 have hd:∃o,h'.get? dx=some o:=let ⟨o,_,_,e',_⟩:=O'.ns;⟨o,e'⟩
 refine I.write (x:=a) (e:=dx) (by rw [e];exact True.intro) (.inr ho) (λb q hb z=>(sb.2 b hb).trans z) hd ?_
 refine ⟨by rw [aF O.ne];exact ho,?_,O.ne,O'.obj,_,O'.ns,λg=>?_,λg hg=>?_⟩
 ·have:=ou f y fs;omega
 ·show rX ((dX f y fs).lookup g) (if g=f then some u else mA g)
  rw [oy]
  by_cases q:g=f
  ·rw [if_pos q,if_pos q];exact ry
  ·rw [if_neg q,if_neg q];exact r g
 ·by_cases q:g=f
  ·rw [q];exact (m_ f y fs).1
  ·refine (m_ f y fs).2 g (wi g λz=>hg ?_)
   show (if g=f then some u else mA g)=none
   rw [if_neg q];exact z
theorem Inv.made (I:Inv X pins σ H s):Inv X pins σ (upd (upd H s.heap.objs.size (.own (s.heap.objs.size + 1))) (s.heap.objs.size + 1) (.ins C s.heap.objs.size []))
  { s with heap:=(s.heap.push PySem.W.emptyDict).push (PySem.W.instObj C s.heap.objs.size) }:=by
 have e1:(s.heap.push PySem.W.emptyDict).get? s.heap.objs.size=some PySem.W.emptyDict:=Heap.get?_push_size s.heap rfl
 have e2:((s.heap.push PySem.W.emptyDict).push (PySem.W.instObj C s.heap.objs.size)).get? (s.heap.objs.size + 1)=some (PySem.W.instObj C s.heap.objs.size):=by
  have:=Heap.get?_push_size (s.heap.push PySem.W.emptyDict) (o:=PySem.W.instObj C s.heap.objs.size) rfl
  rwa [Heap.size_push] at this
 have e3:(s.heap.push PySem.W.emptyDict).Ns s.heap.objs.size (λ_=>none):=⟨PySem.W.emptyDict,#[],_,e1,rfl,(λe he=>absurd he (by simp)),λ_=>rfl⟩
 have I1:=I.laid (a:=s.heap.objs.size) (o:=.own (s.heap.objs.size + 1)) (h':=s.heap.push PySem.W.emptyDict) (t':=s.toks) (λb u q=>Heap.get?_push_of_some _ q) (R' _) ⟨_,e1⟩
 refine I1.laid (a:=s.heap.objs.size + 1) (o:=.ins C s.heap.objs.size []) (t':=s.toks) (λb u q=>Heap.get?_push_of_some _ q) (Nat.le_of_eq (Heap.size_push _ _)) ?_
 have ne:s.heap.objs.size≠s.heap.objs.size + 1:=Sw (Tz _)
 refine ⟨by rw [aF ne,aA],SG _,ne,e2,λ_=>none,(Heap.Ns1.of_empty e3).at λo q=>Heap.get?_push_of_some _ q,λ_=>True.intro,λy hy=>absurd rfl hy⟩
theorem F1 {prog:Program} {w:World} {env:Env} {e:Expr} {f:Str} {pos:Pos} {s:Shared} {Q:Value→Shared→Prop} (hb:attributeBase e f env (eval e env)=eval e env)
  (h:wpAny (model prog w) A (eval e env) (λo s₁=>wpAny (model prog w) A (getAttr o f true) Q E s₁) E s):wpAny (model prog w) A (eval (.Attribute e f pos) env) Q E s :=
 Attribute_any_ h (by rw [arm_eval_Attribute,hb])
end
def Qn (K:PySem.W.Frag) (ta:TE) (f:Str):TE:=λσ H Q=>ta σ H λx H1=>∃a C dx fs v,x=.ref a∧H1 a=some (.ins C dx fs)∧mS K C∧aI K C f∧fs.lookup f=some v∧Q v H1
def Ql (K:PySem.W.Frag) (ta tv:TE) (f:Str):TS:=λD σ H=>tv σ H λy H1=>ta σ H1 λx H2=>∃a C dx fs,x=.ref a∧H2 a=some (.ins C dx fs)∧mS K C∧aI K C f∧fs.length < 1000 ∧
 D.nx σ (upd H2 a (.ins C dx (dX f y fs)))
section
variable {X:Cx} {o e value:Expr} {f:Str} {pos pos' tpos:Pos} {ta tv:TE}
theorem KU (he:PE X e ta) (hb:attributeBase e f X.env (eval e X.env)=eval e X.env):PE X (.Attribute e f pos) (Qn X.K ta f):=by
 intro pins s σ H Q I h
 refine F1 hb (cn (he pins s σ H _ I h) λu s1 ⟨x,H1,I1,rx,a,C,dx,fs,v,ex,ea,c,n,l,q⟩=>?_)
 subst ex
 obtain rfl:u=Value.ref a:=rx
 exact yt I1 ea c n l λu' s2 I2 ru=>⟨v,H1,I2,ru,q⟩
theorem K0 (ha:PE X o ta) (hv:PE X value tv) (hs:swapsWith value (some (.Attribute o f pos')) pos.line X.env=pure false):PS X (.Assign [.Attribute o f pos'] value pos) (Ql X.K ta tv f):=by
 intro pins s σ H D I h
 refine plainObj_wpAny_Assign_Attribute (cn (hv pins s σ H _ I h) λu s1 ⟨y,H1,I1,ry,q⟩=>cn (ha pins s1 σ H1 _ I1 q) λov s2 ⟨x,H2,I2,rx,a,C,dx,fs,ex,ea,c,n,l,q2⟩=>?_) hs
 subst ex
 obtain rfl:ov=Value.ref a:=rx
 exact zl I2 ea c n l ry λs3 I3=>⟨σ,_,I3,q2⟩
end
section
variable {X:Cx} {pins:List (Addr × Obj)} {σ:St} {H:Hp} {s:Shared} {A:Around} {E:Value→Shared→Prop} {Q:Value→Shared→Prop} {c:Value} {b:Bool}
inductive fb (K:PySem.W.Frag) (H:Hp):V→Value→Prop where
 | non:fb K H .non (.type "NoneType")
 | bl (x:Bool):fb K H (.bl x) (.type "bool")
 | int (i:Int):fb K H (.int i) (.type "int")
 | str (x:Str):fb K H (.str x) (.type "str")
 | flt (x:UInt64):fb K H (.flt x) (.type "float")
 | lst {a:Addr} {xs:List V} (e:H a=some (.lst xs)):fb K H (.ref a) (.type "list")
 | oY {a:Addr} {o:Obj} {xs:List V} (e:H a=some (.oY o (.lst xs))):fb K H (.ref a) (.type "list")
 | tup {a:Addr} {xs:List V} (e:H a=some (.tup xs)):fb K H (.ref a) (.type "tuple")
 | dK {a:Addr} {kvs:List (Key × V)} (e:H a=some (.dK kvs)):fb K H (.ref a) (.type "dict")
 | dE {a:Addr} {kvs:List (Str × V)} {ep:Nat} (e:H a=some (.dE kvs ep)):fb K H (.ref a) (.type "dict")
 | ins {a C dx:Addr} {fs:List (Str × V)} (e:H a=some (.ins C dx fs)) (cl:mS K C) (ha:PySem.W.findIn K (.ref C) "__class__"=some (some (.builtin "object.__class__")))
   (hn:PySem.W.specialIn K (.builtin "object.__class__") "__get__"=some (some (.builtin "getset_descriptor.__get__"))) (htk:PySem.W.takesIn K (.builtin "object.__class__")=some true)
   (hm:PySem.W.mroIn K C (.type "object")=some true):fb K H (.ref a) (.ref C)
theorem BI {x:V} {u t:Value} (I:Inv X pins σ H s) (rx:RelV x u) (ty:fb X.K H x t) (e:PySem.W.kitOne X.K t c=some b) (h:∀tk,Q (.bool b) { s with toks:=tk }) :
  wpAny (model X.prog X.w) A (call (.builtin "isinstance") [u,c]) Q E s:=by
 cases ty with
 | non=>cases (show u=Value.none from rx);exact PySem.W.kia_one PySem.W.kitx_none I.lp True.intro e (λz=>nomatch z) h
 | bl y=>cases (show u=Value.bool y from rx);exact PySem.W.kia_one PySem.W.kitx_bool I.lp True.intro e (λz=>nomatch z) h
 | int i=>obtain ⟨t,q⟩:=(show ∃t,u=Value.int i t from rx);cases q;exact PySem.W.kia_one PySem.W.kitx_int I.lp True.intro e (λz=>nomatch z) h
 | str y=>obtain ⟨t,q⟩:=(show ∃t,u=Value.str y t from rx);cases q;exact PySem.W.kia_one PySem.W.kitx_str I.lp True.intro e (λz=>nomatch z) h
 | flt y=>obtain ⟨t,q⟩:=(show ∃t,u=Value.float y t from rx);cases q;exact PySem.W.kia_one PySem.W.kitx_float I.lp True.intro e (λz=>nomatch z) h
 | @lst a xs ea =>
  cases (show u=Value.ref a from rx)
  obtain ⟨_,_,n,_,h1⟩:=(show dm X.prog X.w H s.heap a (.lst xs) from I.hok a _ ea)
  exact PySem.W.kia_one PySem.W.kitx_list I.lp ⟨_,h1,rfl⟩ e (λz=>nomatch z) h
 | @oY a ob xs ea =>
  cases (show u=Value.ref a from rx)
  obtain ⟨_,_,_,n,_,h1⟩:=(show dm X.prog X.w H s.heap a (.oY ob (.lst xs)) from I.hok a _ ea)
  exact PySem.W.kia_one PySem.W.kitx_list I.lp ⟨_,h1,rfl⟩ e (λz=>nomatch z) h
 | @tup a xs ea =>
  cases (show u=Value.ref a from rx)
  obtain ⟨_,_,_,p⟩:=(show dm X.prog X.w H s.heap a (.tup xs) from I.hok a _ ea)
  obtain ⟨o,h1,h2,_⟩:=p
  exact PySem.W.kia_one PySem.W.kitx_tuple I.lp ⟨o,h1,h2⟩ e (λz=>nomatch z) h
 | @dK a kvs ea =>
  cases (show u=Value.ref a from rx)
  obtain ⟨_,_,vs,_,p⟩:=(show dm X.prog X.w H s.heap a (.dK kvs) from I.hok a _ ea)
  obtain ⟨o,es,ep,h1,h2,_⟩:=p
  exact PySem.W.kia_one PySem.W.kitx_dict I.lp ⟨o,h1,h2.1⟩ e (λz=>nomatch z) h
 | @dE a kvs ep ea =>
  cases (show u=Value.ref a from rx)
  obtain ⟨_,_,vs,_,o,es,h1,h2,_⟩:=(show dm X.prog X.w H s.heap a (.dE kvs ep) from I.hok a _ ea)
  exact PySem.W.kia_one PySem.W.kitx_dict I.lp ⟨o,h1,h2.1⟩ e (λz=>nomatch z) h
 | @ins a C dx fs ea cl ha hn htk hm =>
  cases (show u=Value.ref a from rx)
  obtain ⟨mA,O,_⟩:=oZ I.hok ea
  obtain ⟨od,J,_⟩:=O.look
  exact PySem.W.kia_one (PySem.W.kitx_own (cl.get _) cl.hd ha hn htk hm) I.lp J e (λz=>nomatch z) h
end
end L2
namespace L2
open PySem PySem.Spec PyProof.Rows
structure bK (k:Nat) (A:Around):Prop where
 hd:A.handled=none
 dp:A.depth + 3 * k + 5 < recursionLimit
 un:A.units + 16 * k + 200 < cLine
theorem bK.mono {j k:Nat} {A:Around} (r:bK k A) (h:j≤k):bK j A:=⟨r.hd,by have:=r.dp;omega,by have:=r.un;omega⟩
theorem bK.deeper {k:Nat} {A:Around} (r:bK (k + 1) A) (env:Env):bK k (A.deeper env) :=
 ⟨r.hd,by have:=r.dp;show A.depth + 1 + 3 * k + 5 < _;omega,by have:=r.un;show A.units + 3 + 16 * k + 200 < _;omega⟩
theorem yE {A:Around} {C:Addr} {us:List Value} {kw:List (Str × Value)}:(A.under (.builtin "type.__call__" ⟨.ref C :: us,kw⟩)).depth=A.depth + 1:=by
 first | rfl | simp [Around.under,Code.weight,Code.isCreation,Code.isGuard,Code.isCaller,Code.frames,Code.isFrame,guardIds]
theorem yF {A:Around} {C:Addr} {us:List Value} {kw:List (Str × Value)}:(A.under (.builtin "type.__call__" ⟨.ref C :: us,kw⟩)).units=A.units + 1:=by
 first | rfl | simp [Around.under,Code.cUnits,Code.frames,Code.isFrame]
theorem bK.make {k:Nat} {A:Around} (r:bK (k + 1) A) (C:Addr) (us:List Value) (kw:List (Str × Value)):bK k (A.under (.builtin "type.__call__" ⟨.ref C :: us,kw⟩)) :=
 ⟨r.hd,by have:=r.dp;rw [yE];omega,by have:=r.un;rw [yF];omega⟩
theorem bK.depth {k:Nat} {A:Around} (r:bK k A):A.depth < recursionLimit:=by have:=r.dp;omega
theorem bK.LD {k:Nat} {A:Around} (r:bK k A):A.units < cLine:=by have:=r.un;omega
def vD:TA:=λ_ H Q=>Q [] H
def eG (ta:TE) (tr:TA):TA:=λσ H Q=>ta σ H λx H1=>tr σ H1 λxs H2=>Q (x :: xs) H2
section
variable {X:Cx} {e:Expr} {es:List Expr} {te:TE} {t:TA} {pos:Pos}
theorem aO:PA X [] vD:=λ_ _ _ _ H Q I h=>Calls.spliced_nil ⟨[],H,I,.nil,h⟩
theorem ak (ha:PE X e te) (hr:PA X es t) (hs:starEach (e :: es) X.env=(false,eval e X.env) :: starEach es X.env:=by rfl):PA X (e :: es) (eG te t):=by
 intro pos pins s σ H Q I h
 rw [hs]
 show wpAny _ _ (spliced ((false,eval e X.env) :: backTo pos (starEach es X.env))) _ _ s
 refine Calls.spliced_cons (cn (ha pins s σ H _ I h) λu s1 ⟨x,H1,I1,r1,q1⟩=>?_)
 exact cn (hr pos pins s1 σ H1 _ I1 q1) λus s2 ⟨xs,H2,I2,r2,q2⟩=>⟨x :: xs,H2,I2,.cons r1 r2,q2⟩
def Ia (t:TA):TE:=λσ H Q=>t σ H λxs H1=>xs.length≤sizeLine∧∀p,H1 p=none→Q (.ref p) (upd H1 p (.tup xs))
def Cp (t:TA):TE:=λσ H Q=>t σ H λxs H1=>xs.length≤sizeLine∧∀p,H1 p=none→Q (.ref p) (upd H1 p (.lst xs))
theorem qs {x1} (h:PA X es t):PE X (.Tuple es x1 pos) (Ia t):=by
 intro pins s σ H Q I hq
 refine wpAny_Tuple_spliced (cn (h pos pins s σ H _ I hq) λus s1 ⟨xs,H1,I1,r,z,q⟩=>⟨by rw [← r.length];exact z,?_⟩)
 have hf:H1 s1.heap.objs.size=none:=I1.hok.fresh (R' _)
 refine ⟨.ref s1.heap.objs.size,upd H1 s1.heap.objs.size (.tup xs),I1.laid (t':=s1.toks) (λb u e=>Heap.get?_push_of_some _ e) (R' _) ?_,rfl,q _ hf⟩
 exact ⟨z,us,r,⟨_,Heap.get?_push_size _ rfl,rfl,_,rfl⟩⟩
theorem gE (h:PA X es t):PE X (.List es pos) (Cp t):=by
 intro pins s σ H Q I hq
 refine wpAny_List_spliced (cn (h pos pins s σ H _ I hq) λus s1 ⟨xs,H1,I1,r,z,q⟩=>⟨by rw [← r.length];exact z,?_⟩)
 have hf:H1 s1.heap.objs.size=none:=I1.hok.fresh (R' _)
 refine ⟨.ref s1.heap.objs.size,upd H1 s1.heap.objs.size (.lst xs),I1.laid (t':=s1.toks) (λb u e=>Heap.get?_push_of_some _ e) (R' _) ?_,rfl,q _ hf⟩
 exact ⟨z,us,0,r,Heap.get?_push_size _ rfl⟩
end
abbrev Sp:=List V→Hp→VK→XK→Prop
abbrev oV:=List Env→Hp→Shared→XK→Value→Shared→Prop
structure xV (P:Program) (w:World) (K:PySem.W.Frag) (mg:Str→Option Value) (base:Heap) (A:Around) (outer:List Env) (s:Shared) (H:Hp):Prop where
 frames:A.frames=some outer
 mod:Mod K mg base
 bs:∀b o,base.get? b=some o→s.heap.get? b=some o∧H b=none
 bsz:base.objs.size≤s.heap.objs.size
 lj:s.heap.FunFrames base outer
 frf:∀b∈jj outer,H b=none
 hok:lV P w H s.heap
 bare:AllBare s.gens
def CE (outer:List Env) (P:Program) (w:World) (H:Hp) (s:Shared) (Q:VK) (u:Value) (s':Shared):Prop :=
 ∃v H',s'.os=s.os∧AllBare s'.gens∧Un (jj outer) [] H H' s.heap s'.heap∧lV P w H' s'.heap∧RelV v u∧Q v H'
def CR (CX:oV) (outer:List Env) (P:Program) (w:World) (H:Hp) (s:Shared) (Q:VK) (E:XK) (r:Result) (s':Shared):Prop :=
 match r with
 | .ok (.ret u)=>CE outer P w H s Q u s'
 | .ok _=>False
 | .error e=>CX outer H s E e s'
structure aJ (P:Program) (w:World) (K:PySem.W.Frag) (mg:Str→Option Value) (base:Heap) (CX:oV) (k:Nat) (f:Addr) (fd:FuncData) (ps:List Str) (sp:Sp):Prop where
 len:∀vs H Q E,sp vs H Q E→vs.length=ps.length
 run:∀(A:Around) (outer:List Env) (s:Shared) (H:Hp) (args:Args) (us:List Value) (vs:List V) (Q:VK) (E:XK),bK k A→xV P w K mg base A outer s H→BindsTo s fd args (ps.zip us)→Vals vs us→sp vs H Q E →
  codeAny (model P w) A (.call (.ref f) args) (CR CX outer P w H s Q E) s
theorem aJ.imp {P:Program} {w:World} {K:PySem.W.Frag} {mg:Str→Option Value} {base:Heap} {CX:oV} {k:Nat} {f:Addr} {fd:FuncData} {ps:List Str} {sp sp':Sp} (F:aJ P w K mg base CX k f fd ps sp)
  (h:∀vs H Q E,sp' vs H Q E→sp vs H Q E):aJ P w K mg base CX k f fd ps sp' :=
 ⟨λvs H Q E q=>F.len vs H Q E (h _ _ _ _ q),λA outer s H args us vs Q E hr he hb hv hs=>F.run A outer s H args us vs Q E hr he hb hv (h _ _ _ _ hs)⟩
theorem xV.make {P:Program} {w:World} {K:PySem.W.Frag} {mg:Str→Option Value} {base:Heap} {A:Around} {outer:List Env} {s:Shared} {H:Hp} (e:xV P w K mg base A outer s H) (C:Addr) (us:List Value) (kw:List (Str × Value)) :
  xV P w K mg base (A.under (.builtin "type.__call__" ⟨.ref C :: us,kw⟩)) outer s H:=⟨by first | exact e.frames | (simpa [Around.under,Code.envs,Code.isFrame,pushEnvs] using e.frames),e.mod,e.bs,e.bsz,e.lj,e.frf,e.hok,e.bare⟩
section
variable {X:Cx} {pins:List (Addr × Obj)} {σ:St} {H:Hp} {s s':Shared}
theorem Inv.Mw (I:Inv X pins σ H s):xV X.prog X.w X.K X.mg X.base X.A X.stack s H :=
 ⟨I.ok.frames,I.ok.mod,I.bs,Su I.ok.bsz I.sz,I.stack,I.vB,I.hok,I.bare⟩
theorem Inv.after {Q:VK} {u:Value} (I:Inv X pins σ H s) (h:CE X.stack X.prog X.w H s Q u s'):EP X pins σ Q u s':=by
 obtain ⟨v,H',os,bare,un,hok,r,q⟩:=h
 obtain ⟨hh,g,d,t,os'⟩:=s'
 obtain rfl:os'=s.os:=os
 exact ⟨v,H',I.call (h':=hh) (g':=g) (d':=d) (t':=t) (ch:=[]) un hok bare (λb z=>absurd z (by simp)),r,q⟩
end
def ra (sp:Sp) (dvs:List V) (E:XK) (t:TA):TE:=λσ H Q=>t σ H λvs H1=>sp (vs ++ dvs) H1 Q E
def E9 (C:Addr) (m:Str) (sp:Sp) (dvs:List V) (E:XK) (ta:TE) (t:TA):TE:=λσ H Q=>ta σ H λx H1=>∃a dx fs,x=.ref a∧H1 a=some (.ins C dx fs)∧fs.lookup m=none ∧
 t σ H1 λvs H2=>sp (x :: (vs ++ dvs)) H2 Q E
def E8 (C:Addr) (sp:Sp) (dvs:List V) (E:XK) (t:TA):TE:=λσ H Q=>t σ H λvs H1=>∀x dx,H1 x=none→H1 dx=none→dx≠x →
 sp (.ref x :: (vs ++ dvs)) (upd (upd H1 dx (.own x)) x (.ins C dx [])) (λv H2=>v=.non∧Q (.ref x) H2) E
def Binds (K:PySem.W.Frag) (fd:FuncData) (ps:List Str) (ds:List Value):Prop :=
 ∀(s:Shared) (us:List Value),K.In s.heap→(us ++ ds).length=ps.length→BindsTo s fd ⟨us,[]⟩ (ps.zip (us ++ ds))
theorem Binds.all {K:PySem.W.Frag} {fd:FuncData} {ps:List Str} (h:∀us:List Value,us.length=ps.length→bindArgs fd ⟨us,[]⟩=pure (ps.zip us)):Binds K fd ps []:=λs us _ hl=>by
 rw [Tf] at hl ⊢
 exact .of_eq (h us hl)
def Passes (CX:oV) (X:Cx) (E:XK):Prop:=∀(pins:List (Addr × Obj)) (σ:St) (H:Hp) (s:Shared) (e:Value) (s':Shared),Inv X pins σ H s→CX X.stack H s E e s'→X.xe e s'
section
variable {X:Cx} {CX:oV} {k:Nat} {f C:Addr} {fd:FuncData} {ps:List Str} {sp:Sp} {dvs:List V} {ds:List Value} {E:XK} {x m:Str} {p pos apos:Pos} {e o:Expr} {es:List Expr} {ta:TE} {t:TA}
theorem ze {pins:List (Addr × Obj)} {σ:St} {H:Hp} {s:Shared} {Q:VK} {us:List Value} {vs:List V} (F:aJ X.prog X.w X.K X.mg X.base CX k f fd ps sp) (hr:bK k X.A) (hb:Binds X.K fd ps ds) (hd:Vals dvs ds) (hx:Passes CX X E)
  (I:Inv X pins σ H s) (r:Vals vs us) (h:sp (vs ++ dvs) H Q E):wpAny (model X.prog X.w) X.A (call (.ref f) us) (EP X pins σ Q) X.xe s:=by
 have r2:Vals (vs ++ dvs) (us ++ ds):=r.append hd
 have hl:(us ++ ds).length=ps.length:=by rw [← r2.length];exact F.len _ _ _ _ h
 refine wpAny_call (codeAny_mono (F.run X.A X.stack s H ⟨us,[]⟩ (us ++ ds) (vs ++ dvs) Q E hr I.Mw (hb s us I.lp hl) r2 h) λr s' hq=>?_)
 cases r with
 | error e=>exact hx pins σ H s e s' I hq
 | ok fl =>
  cases fl with
  | ret u=>exact I.after hq
  | next=>exact False.elim hq
  | brk=>exact False.elim hq
  | cont=>exact False.elim hq
theorem Al (F:aJ X.prog X.w X.K X.mg X.base CX k f fd ps sp) (hr:bK k X.A) (hg:Gl X x) (hm:X.mg x=some (.ref f)) (hk:PySem.W.keepIn X.K (.ref f)=true) (hb:Binds X.K fd ps ds) (hd:Vals dvs ds) (hx:Passes CX X E)
  (ha:PA X (e :: es) t) (hdb:(x == ("__debug__":Str))=false:=by decide) (he:starEach (e :: es) X.env=(false,eval e X.env) :: starEach es X.env:=by rfl) (hpl:(backTo pos (starEach es X.env)).any (·.1)=false:=by rfl) :
  PE X (.Call (.Name x p) (e :: es) [] pos) (ra sp dvs E t):=by
 intro pins s σ H Q I h
 refine wpAny_Call_Name_kw (ki I hg hm ?_ hdb)
 refine PySem.W.callWith_K (h₀:=X.base) I.ok.mod.kin hk (cn (ha pos pins s σ H _ I h) λus s1 ⟨vs,H1,I1,r,q⟩=>⟨I1.lp,?_⟩) he hpl
 exact ze F hr hb hd hx I1 r q
theorem He {pl:Sem Bool} (he:PE X o ta) (c:mS X.K C) (hm:Meth X.K C m f) (F:aJ X.prog X.w X.K X.mg X.base CX k f fd ps sp) (hr:bK k X.A) (hb:Binds X.K fd ps ds) (hd:Vals dvs ds) (hx:Passes CX X E) (ha:PA X (e :: es) t)
  (hst:starEach (e :: es) X.env=(false,eval e X.env) :: starEach es X.env:=by rfl) (hpl:(backTo pos (starEach es X.env)).any (·.1)=false:=by rfl)
  (ht:eval (.Call (.Attribute o m apos) (e :: es) [] pos) X.env=(do
   let ov ← eval o X.env
   standAt apos.atName
   let (f,first) ← holding [ov] (getMethod ov m pl)
   callWith pos f first (backTo pos (starEach (e :: es) X.env)) (backToKw pos (keywordEach [] X.env))):=by rfl) :
  PE X (.Call (.Attribute o m apos) (e :: es) [] pos) (E9 C m sp dvs E ta t):=by
 intro pins s σ H Q I h
 refine PySem.W.methodCall_KW (pl:=pl) (cn (he pins s σ H _ I h) λu s1 ⟨x,H1,I1,rx,a,dx,fs,ex,ea,l,q⟩=>?_) ht
 subst ex
 obtain rfl:u=Value.ref a:=rx
 refine pZ I1 ea c hm l ?_
 refine PySem.W.callWith_K (first:=[.ref a]) (h₀:=X.base) I.ok.mod.kin hm.kp (cn (ha pos pins s1 σ H1 _ I1 q) λus s2 ⟨vs,H2,I2,r,q2⟩=>⟨I2.lp,?_⟩) hst hpl
 exact ze (us:=.ref a :: us) (vs:=.ref a :: vs) F hr hb hd hx I2 (.cons rfl r) q2
theorem Eg {pl:Sem Bool} (he:PE X o ta) (c:mS X.K C) (hm:Meth X.K C m f) (F:aJ X.prog X.w X.K X.mg X.base CX k f fd ps sp) (hr:bK k X.A) (hb:Binds X.K fd ps ds) (hd:Vals dvs ds) (hx:Passes CX X E)
  (ht:eval (.Call (.Attribute o m apos) [] [] pos) X.env=(do
   let ov ← eval o X.env
   standAt apos.atName
   let (f,first) ← holding [ov] (getMethod ov m pl)
   callWith pos f first (backTo pos (starEach [] X.env)) (backToKw pos (keywordEach [] X.env))):=by rfl) :
  PE X (.Call (.Attribute o m apos) [] [] pos) (E9 C m sp dvs E ta vD):=by
 intro pins s σ H Q I h
 refine PySem.W.methodCall_KW (pl:=pl) (cn (he pins s σ H _ I h) λu s1 ⟨x,H1,I1,rx,a,dx,fs,ex,ea,l,q⟩=>?_) ht
 subst ex
 obtain rfl:u=Value.ref a:=rx
 refine pZ I1 ea c hm l ?_
 exact PySem.W.callWith_K0 (first:=[.ref a]) I1.lp hm.kp (ze (us:=[.ref a]) (vs:=[.ref a]) F hr hb hd hx I1 (.cons rfl .nil) q)
structure Mk (K:PySem.W.Frag) (C f:Addr):Prop where
 makes:PySem.W.makesIn K C=true
 init:PySem.W.findIn K (.ref C) "__init__"=some (some (.ref f))
 fn:PySem.W.isFn K (.ref f)=true
 kp:PySem.W.keepIn K (.ref C)=true
theorem xb {pins:List (Addr × Obj)} {σ:St} {H:Hp} {s:Shared} {Q:VK} {us:List Value} {vs:List V} (M:Mk X.K C f) (F:aJ X.prog X.w X.K X.mg X.base CX k f fd ps sp) (hr:bK (k + 1) X.A) (hb:Binds X.K fd ps ds) (hd:Vals dvs ds)
  (hx:Passes CX X E) (I:Inv X pins σ H s) (r:Vals vs us)
  (h:∀x dx,H x=none→H dx=none→dx≠x→sp (.ref x :: (vs ++ dvs)) (upd (upd H dx (.own x)) x (.ins C dx [])) (λv H2=>v=.non∧Q (.ref x) H2) E) :
  wpAny (model X.prog X.w) X.A (call (.ref C) us) (EP X pins σ Q) X.xe s:=by
 have hq:=h (s.heap.objs.size + 1) s.heap.objs.size (I.hok.fresh (Nat.le_succ _)) (I.hok.fresh (R' _)) (Sw (Tz _))
 have I2:=Inv.made (C:=C) I
 have r2:Vals (V.ref (s.heap.objs.size + 1) :: (vs ++ dvs)) (Value.ref (s.heap.objs.size + 1) :: (us ++ ds)):=.cons rfl (r.append hd)
 have hl:(Value.ref (s.heap.objs.size + 1) :: us ++ ds).length=ps.length:=by
  have e:=r2.length
  rw [F.len _ _ _ _ hq] at e
  exact e.symm
 refine wpAny_call (DW (f:=f) I.lp M.makes M.init (beq_iff_eq.mp M.fn) (codeAny_mono (F.run _ X.stack _ _ ⟨Value.ref (s.heap.objs.size + 1) :: us,[]⟩ (Value.ref (s.heap.objs.size + 1) :: (us ++ ds)) _ _ E (hr.make C us [])
  (I2.Mw.make C us []) (hb _ (Value.ref (s.heap.objs.size + 1) :: us) I2.lp hl) r2 hq) λr s' hq'=>?_))
 cases r with
 | error e=>exact hx pins σ _ _ e s' I2 hq'
 | ok fl =>
  cases fl with
  | ret u =>
   obtain ⟨v,H',I3,rv,ev,q3⟩:=I2.after hq'
   subst ev
   exact ⟨rv,⟨V.ref (s.heap.objs.size + 1),H',I3,rfl,q3⟩⟩
  | next=>exact False.elim hq'
  | brk=>exact False.elim hq'
  | cont=>exact False.elim hq'
theorem Hd (M:Mk X.K C f) (F:aJ X.prog X.w X.K X.mg X.base CX k f fd ps sp) (hr:bK (k + 1) X.A) (hg:Gl X x) (hm:X.mg x=some (.ref C)) (hb:Binds X.K fd ps ds) (hd:Vals dvs ds) (hx:Passes CX X E)
  (ha:PA X (e :: es) t) (hdb:(x == ("__debug__":Str))=false:=by decide) (he:starEach (e :: es) X.env=(false,eval e X.env) :: starEach es X.env:=by rfl) (hpl:(backTo pos (starEach es X.env)).any (·.1)=false:=by rfl) :
  PE X (.Call (.Name x p) (e :: es) [] pos) (E8 C sp dvs E t):=by
 intro pins s σ H Q I h
 refine wpAny_Call_Name_kw (ki I hg hm ?_ hdb)
 refine PySem.W.callWith_K (h₀:=X.base) I.ok.mod.kin M.kp (cn (ha pos pins s σ H _ I h) λus s1 ⟨vs,H1,I1,r,q⟩=>⟨I1.lp,?_⟩) he hpl
 exact xb M F hr hb hd hx I1 r q
theorem Ef (M:Mk X.K C f) (F:aJ X.prog X.w X.K X.mg X.base CX k f fd ps sp) (hr:bK (k + 1) X.A) (hg:Gl X x) (hm:X.mg x=some (.ref C)) (hb:Binds X.K fd ps ds) (hd:Vals dvs ds) (hx:Passes CX X E)
  (hdb:(x == ("__debug__":Str))=false:=by decide):PE X (.Call (.Name x p) [] [] pos) (E8 C sp dvs E vD):=by
 intro pins s σ H Q I h
 refine wpAny_Call_Name_kw (ki I hg hm ?_ hdb)
 exact PySem.W.callWith_K0 I.lp M.kp (xb (us:=[]) M F hr hb hd hx I .nil h)
end
section
variable {X:Cx} {CX:oV} {k:Nat} {f C:Addr} {fd:FuncData} {ps ks:List Str} {sp:Sp} {E:XK} {x m:Str} {p pos apos kpos:Pos} {e o:Expr} {es:List Expr} {kws:List Keyword} {te ta:TE} {t tk:TA} {nm:Option Str}
variable {g:List Value→List Value→List Value} {gV:List V→List V→List V}
end
structure av (N P:List Str) (sc:Scope):Prop where
 kind:sc.kind=.function
 co:sc.isCoroutine=false
 gen:sc.isGenerator=false
 nd:N.Nodup
 pre:N.take P.length=P
 par:∀x∈P,sc.names.lookup x=some .local∨sc.names.lookup x=some .cell
 nofree:∀y∈sc.names,y.2≠.free
theorem sT {kindOf:Str→Option NameKind} {x:Str}:∀{binds:List (Str × Value)} {m:Str→Option Value},(∀v,(x,v) ∉ binds)→bindL kindOf binds m x=m x
 | [],_,_=>rfl
 | (n,v) :: r,m,h=>by
  unfold bindL
  rw [sT λw hw=>h w (Sm _ hw)]
  split
  ·have:x≠n:=by rintro rfl;exact h v SD
   simp [this]
  ·rfl
theorem sQ {kindOf:Str→Option NameKind} {x:Str}:∀{binds:List (Str × Value)} {m:Str→Option Value},(∀v,(x,v) ∉ binds)→bindC kindOf binds m x=m x
 | [],_,_=>rfl
 | (n,v) :: r,m,h=>by
  unfold bindC
  rw [sQ λw hw=>h w (Sm _ hw)]
  split
  ·rfl
  ·have:x≠n:=by rintro rfl;exact h v SD
   simp [this]
theorem sS {kindOf:Str→Option NameKind} {x:Str} {v:Value}:∀{P:List Str} {vs:List Value} {i:Nat} {m:Str→Option Value},P.Nodup→P[i]?=some x→vs[i]?=some v→kindOf x=some .local →
  bindL kindOf (P.zip vs) m x=some v
 | [],_,_,_,_,h,_,_=>by simp at h
 | _ :: _,[],_,_,_,_,h,_=>by simp at h
 | p :: P,w :: vs,0,m,nd,h1,h2,hk=>by
  simp at h1 h2;subst h1;subst h2
  show bindL kindOf ((p,w) :: P.zip vs) m p=_
  unfold bindL
  rw [sT λv hv=>(S6.mp nd).1 (Uk hv).1,if_pos hk]
  simp
 | p :: P,w :: vs,i + 1,m,nd,h1,h2,hk=>by
  show bindL kindOf ((p,w) :: P.zip vs) m x=_
  unfold bindL
  exact sS (i:=i) (S6.mp nd).2 (by simpa using h1) (by simpa using h2) hk
theorem sP {kindOf:Str→Option NameKind} {x:Str} {v:Value}:∀{P:List Str} {vs:List Value} {i:Nat} {m:Str→Option Value},P.Nodup→P[i]?=some x→vs[i]?=some v→kindOf x≠some .local →
  bindC kindOf (P.zip vs) m x=some v
 | [],_,_,_,_,h,_,_=>by simp at h
 | _ :: _,[],_,_,_,_,h,_=>by simp at h
 | p :: P,w :: vs,0,m,nd,h1,h2,hk=>by
  simp at h1 h2;subst h1;subst h2
  show bindC kindOf ((p,w) :: P.zip vs) m p=_
  unfold bindC
  rw [sQ λv hv=>(S6.mp nd).1 (Uk hv).1,if_neg hk]
  simp
 | p :: P,w :: vs,i + 1,m,nd,h1,h2,hk=>by
  show bindC kindOf ((p,w) :: P.zip vs) m x=_
  unfold bindC
  exact sP (i:=i) (S6.mp nd).2 (by simpa using h1) (by simpa using h2) hk
def start (N:List Str) (vs:List V):St:=vs.map some ++ Sq (N.length - vs.length) none
def ug (CX:oV) (P:Program) (w:World) (K:PySem.W.Frag) (mg:Str→Option Value) (base:Heap) (N:List Str) (qual:Str) (scope:Scope) (f:Addr) (cd:Value) (A:Around) (outer:List Env) (s:Shared) (H:Hp) (E:XK):Cx where
 prog:=P
 w:=w
 K:=K
 mg:=mg
 base:=base
 A:=A.deeper (envOfC qual scope s.heap.objs.size f cd)
 N:=N
 s₀:=s
 H₀:=H
 env:=envOfC qual scope s.heap.objs.size f cd
 outer:=outer
 stack:=envOfC qual scope s.heap.objs.size f cd :: outer
 ex:=[]
 calm:=true
 fn:=λ_=>true
 pn:=[]
 xe:=λe s'=>wpAny (model P w) (A.deeper (envOfC qual scope s.heap.objs.size f cd)) (leaving (envOfC qual scope s.heap.objs.size f cd) e) (λ_ s''=>CX outer H s E e s'') (λe' s''=>CX outer H s E e' s'') s'
theorem vU {sc:Scope} {n:Nat} {x:Str} (h:sc.names.lookup x=some .cell):∃c,(cellsFrom n sc.names []).lookup x=some c:=by
 have q:=PySem.W.cellsFrom_some sc.names n [] (.inl h)
 exact Ub.mp q
theorem BH {CX:oV} {P:Program} {w:World} {K:PySem.W.Frag} {mg:Str→Option Value} {base:Heap} {N ps:List Str} {qual:Str} {scope:Scope} {f:Addr} {cd:Value} {A:Around} {outer:List Env} {s s1:Shared} {H:Hp} {E:XK} {us:List Value} {vs:List V}
  (S:av N ps scope) (hd:A.handled=none) (e0:xV P w K mg base A outer s H) (hl:vs.length=ps.length) (r:Vals vs us)
  (x:InCallC s s.heap.objs.size (bindL (envOfC qual scope s.heap.objs.size f cd).kindOf (ps.zip us) λ_=>none) (cellsFrom (s.heap.objs.size + 1) scope.names []) (bindC (envOfC qual scope s.heap.objs.size f cd).kindOf (ps.zip us) λ_=>none) s1) :
  Inv (ug CX P w K mg base N qual scope f cd A outer s H E) [] (start N vs) H s1:=by
 have hpl:ps.length≤N.length:=by have:=congrArg Tc S.pre;rw [Sy] at this;omega
 obtain ⟨h1,tk,rfl,hk⟩:=x.done
 have noA:∀b:Addr,b ∉ (ug CX P w K mg base N qual scope f cd A outer s H E).ex:=λb z=>absurd (show b∈([]:List Addr) from z) (by simp)
 refine ⟨⟨e0.mod,S.kind,rfl,rfl,R' _,λy z c h1 h2=>?_,λy hy=>?_,λy c _ h=>?_,λ_=>hd,Around.frames_deeper e0.frames,.inr ⟨rfl,rfl⟩,λb z=>absurd z (noA b),e0.bs,e0.bsz,λb _ _=>noA b,λb z=>absurd z (noA b),e0.lj,e0.frf⟩,
  rfl,e0.bare,Un.kept hk,⟨_,x.toInCall.ns,λi y v h1 h2 h3=>?_⟩,λy c h=>⟨_,x.cell y c h⟩,e0.hok.fresh (R' _),λy c h=>?_,λp hp=>absurd (show p∈([]:List (Addr × Obj)) from hp) (by simp),e0.hok.kept hk,?_⟩
 ·exact name_of_addr x.apart (PySem.mem_of_lookup h1) (PySem.mem_of_lookup h2)
 ·have hy:scope.names.lookup y=some .cell∨scope.names.lookup y=some .free:=hy
  rcases hy with hy | hy
  ·exact vU hy
  ·exact absurd rfl (S.nofree _ (PySem.mem_of_lookup hy))
 ·exact T8 (x.above y c (PySem.mem_of_lookup h))
 ·have hi:i < vs.length:=by
   unfold start at h2
   by_cases hi:i < vs.length
   ·exact hi
   ·rw [S8 (by simpa using hi)] at h2
    rw [Ue] at h2
    split at h2 <;> cases h2
  have ha:vs[i]?=some v:=by
   unfold start at h2
   rw [Td (by simpa using hi),Sb] at h2
   cases e:vs[i]? with
   | none=>rw [e] at h2;cases h2
   | some a=>rw [e] at h2;cases h2;rfl
  obtain ⟨u,hu,rv⟩:=r.get ha
  have hp:ps[i]?=some y:=by
   rw [← S.pre,List.getElem?_take_of_lt (by omega)];exact h1
  have ndP:ps.Nodup:=by rw [← S.pre];exact S.nd.sublist (Tv _ _)
  refine ⟨u,rv,?_⟩
  rcases S.par y (R9 hp) with k | k
  ·exact .inl ⟨k,sS ndP hp hu k⟩
  ·obtain ⟨c,e⟩:=vU (n:=s.heap.objs.size + 1) k
   refine .inr ⟨.inl k,c,e,?_⟩
   have q:=x.cell y c e
   rw [sP ndP hp hu (by show scope.names.lookup y≠_;rw [k];decide)] at q
   exact q
 ·exact e0.hok.fresh (T8 (x.above y c (PySem.mem_of_lookup h)))
 ·unfold start
  show _=N.length
  rw [So,R6,T1]
  omega
theorem Dk {CX:oV} {P:Program} {w:World} {K:PySem.W.Frag} {mg:Str→Option Value} {base:Heap} {k:Nat} {f:Addr} {name qual:Str} {params:Arguments} {body:List Stmt} {scope:Scope} {dV kV doc pm cdv ct oc:Value} {an od:Option Addr}
  {osl:Array (Option Value)} {N ps:List Str} {sp:Sp} (lk:K.lookup f=some ⟨oc,od,.func (PySem.W.fnOf name qual params body scope dV kV doc pm an cdv ct),osl⟩) (hcd:PySem.W.codeIn K cdv qual=true) (S:av N ps scope)
  (len:∀vs H Q E,sp vs H Q E→vs.length=ps.length)
  (hbody:∀(A:Around) (outer:List Env) (s:Shared) (H:Hp) (vs:List V) (Q:VK) (E:XK),bK k (A.deeper (envOfC qual scope s.heap.objs.size f cdv))→sp vs H Q E →
   ∃t,rj (ug CX P w K mg base N qual scope f cdv A outer s H E) body t∧t { nx:=λ_ H'=>Q .non H',rt:=Q } (start N vs) H) :
  aJ P w K mg base CX (k + 1) f (PySem.W.fnOf name qual params body scope dV kV doc pm an cdv ct) ps sp:=by
 refine ⟨len,λA outer s H args us vs Q E hr e0 hb r hsp=>?_⟩
 have hl:=len _ _ _ _ hsp
 have KX:K.In s.heap:=e0.mod.kin.keeps λb o e=>(e0.bs b o e).1
 have lim:s.heap.NoLimit:=e0.mod.nolimit.keeps λb o e=>(e0.bs b o e).1
 have hkind:∀y∈ps.zip us,scope.names.lookup y.1=some .local∨(scope.names.lookup y.1=some .cell∧((cellsFrom (s.heap.objs.size + 1) scope.names []).lookup y.1).isSome=true):=λ⟨n,v⟩ hy=>by
  rcases S.par n (Uk hy).1 with q | q
  ·exact .inl q
  ·exact .inr ⟨q,PySem.W.cellsFrom_some _ _ _ (.inl q)⟩
 refine codeAny_call_function hr.depth (KX _ _ lk) rfl S.co S.gen rfl (PySem.W.codeRec_of KX hcd) (hb _ _ _ _ ?_)
 refine wpAny_newFunctionEnv_cells S.kind hkind λenv he s1 x=>?_
 subst he
 refine ⟨lim.keeps x.toInCall.keep,codeAny_func ?_⟩
 obtain ⟨t,ht,hq⟩:=hbody A outer s H vs Q E (hr.deeper _) hsp
 have I:Inv (ug CX P w K mg base N qual scope f cdv A outer s H E) [] (start N vs) H s1:=BH S hr.hd e0 hl r x
 refine wpAny_mono (ht [] s1 (start N vs) H _ I hq) (λfl s' hs=>?_) λe s' hs=>hs
 have fin:∀{σ':St} {H':Hp} {v:V} {u:Value},Inv (ug CX P w K mg base N qual scope f cdv A outer s H E) [] σ' H' s'→RelV v u→Q v H'→CE outer P w H s Q u s' :=
  λ{σ' H' v u} J rv q=>⟨v,H',J.os,J.bare,J.base,J.hok,rv,q⟩
 cases fl with
 | ret u =>
  obtain ⟨v,σ',H',J,rv,q⟩:=hs
  exact fin J rv q
 | next =>
  obtain ⟨σ',H',J,q⟩:=hs
  exact fin (v:=V.non) (u:=Value.none) J rfl q
 | brk =>
  obtain ⟨_,_,_,q⟩:=hs
  exact False.elim q
 | cont =>
  obtain ⟨_,_,_,q⟩:=hs
  exact False.elim q
end L2
namespace L2
open PySem PySem.Spec PyProof.Rows
section
variable {X:Cx} {x:Str} {p pos:Pos} {e:Expr} {es:List Expr} {t:TA} {id T:String} {r:List V→Hp→VK→Prop}
def HU (r:List V→Hp→VK→Prop) (t:TA):TE:=λσ H Q=>t σ H λvs H1=>r vs H1 Q
theorem aR (hc:bS X (.builtin id) r) (hg:Gl X x) (hm:X.mg x=none) (hv:bootBuiltins x=some (.builtin id)) (ha:PA X (e :: es) t) (hn:x≠"__name__":=by decide) (hdb:(x == ("__debug__":Str))=false:=by decide)
  (he:starEach (e :: es) X.env=(false,eval e X.env) :: starEach es X.env:=by rfl) (hpl:(backTo pos (starEach es X.env)).any (·.1)=false:=by rfl):PE X (.Call (.Name x p) (e :: es) [] pos) (HU r t):=by
 intro pins s σ H Q I h
 refine wpAny_Call_Name_kw (lq I hg hm hv ?_ hn hdb)
 exact PyProof.Rows.callWith_builtin1 (cn (ha pos pins s σ H _ I h) λus s1 ⟨vs,H1,I1,r1,q1⟩=>hc pins s1 σ H1 vs us Q I1 r1 q1) he hpl
theorem nv (hc:bS X (.type T) r) (hg:Gl X x) (hm:X.mg x=none) (hv:bootBuiltins x=some (.type T)) (ha:PA X (e :: es) t) (hn:x≠"__name__":=by decide) (hdb:(x == ("__debug__":Str))=false:=by decide)
  (he:starEach (e :: es) X.env=(false,eval e X.env) :: starEach es X.env:=by rfl) (hpl:(backTo pos (starEach es X.env)).any (·.1)=false:=by rfl):PE X (.Call (.Name x p) (e :: es) [] pos) (HU r t):=by
 intro pins s σ H Q I h
 refine wpAny_Call_Name_kw (lq I hg hm hv ?_ hn hdb)
 exact PyProof.Rows.callWith_type1 (cn (ha pos pins s σ H _ I h) λus s1 ⟨vs,H1,I1,r1,q1⟩=>hc pins s1 σ H1 vs us Q I1 r1 q1) he hpl
end
end L2
namespace HT
open PySem PyProof.Rows
def lexLt:List Int→List Int→Bool
 | [],[]=>false
 | [],_ :: _=>true
 | _ :: _,[]=>false
 | x :: xs,y :: ys=>if x=y then lexLt xs ys else decide (x < y)
section
open PySem.SeqAt
open PySem.AutoSeq1 (wpAny_loadPart')
open PySem.MeetsSeq PySem.MeetsSeq2 PySem.MeetsSeq3
end
section
variable {prog:Program} {w:World} {A:Around} {E:Value→Shared→Prop} {s:Shared}
def dS (n d:Nat):Option Int→Nat
 | none=>d
 | some v=>if v < 0 then (v + (n:Int)).toNat else min v.toNat n
theorem xf (n d:Nat):dS n d none=d:=rfl
theorem pe (n d k:Nat):dS n d (some (k:Int))=min k n:=by
 show (if (k:Int) < 0 then ((k:Int) + (n:Int)).toNat else min (k:Int).toNat n)=min k n
 rw [if_neg (by omega),Int.toNat_natCast]
theorem Lg (n d:Nat) (hd:d≤n) (o:Option Int):dS n d o≤n:=by
 cases o with
 | none=>exact hd
 | some v =>
  show (if v < 0 then (v + (n:Int)).toNat else min v.toNat n)≤n
  by_cases hv:v < 0
  ·rw [if_pos hv];omega
  ·rw [if_neg hv];exact Nat.min_le_right _ _
theorem zG (v:Int) (n d:Nat):(if v < 0 then max (v + (n:Int)) 0 else min v (n:Int))=((dS n d (some v):Nat):Int):=by
 show (if v < 0 then max (v + (n:Int)) 0 else min v (n:Int))=(((if v < 0 then (v + (n:Int)).toNat else min v.toNat n):Nat):Int)
 by_cases hv:v < 0
 ·simp only [if_pos hv];omega
 ·simp only [if_neg hv];omega
theorem yd (lo hi:Option Int) (n:Nat):Builtin.Slice.sliceAdjust lo hi 1 (n:Int)=(((dS n 0 lo:Nat):Int),((dS n n hi:Nat):Int)):=by
 have h1:¬ ((1:Int) < 0):=by omega
 unfold Builtin.Slice.sliceAdjust
 simp only [h1,if_false]
 refine Prod.ext ?_ ?_
 ·cases lo with
  | none=>rfl
  | some v=>exact zG v n 0
 ·cases hi with
  | none=>rfl
  | some v=>exact zG v n n
theorem yX (i j:Nat):Builtin.Slice.slicePlaces (i:Int) (j:Int) 1=j - i:=by
 unfold Builtin.Slice.slicePlaces
 have h1:(1:Int) > 0:=by omega
 simp only [h1,if_true,Int.ediv_one]
 split <;> omega
theorem qO {v:Value} {o:Option Int} {Q:Option Int→Shared→Prop} (p:IsPart v o) (h:Q o s):wpAny (model prog w) A (Builtin.Slice.slicePartIndex v) Q E s:=by
 cases p with
 | none=>exact slicePart_none h
 | int i t=>exact slicePart_int h
theorem nZ {sl:Addr} {vl vu:Value} {lo hi:Option Int} {n:Nat} {Q:Int × Int × Nat→Shared→Prop} (hs:s.heap.IsSliceOf sl vl vu .none) (pl:IsPart vl lo) (pu:IsPart vu hi)
  (h:Q (((dS n 0 lo:Nat):Int),1,dS n n hi - dS n 0 lo) s):wpAny (model prog w) A (Builtin.Slice.sliceApplied (.ref sl) (pure (n:Int))) Q E s:=by
 obtain ⟨os,hos,hcs,hds⟩:=id hs
 unfold Builtin.Slice.sliceApplied Builtin.Slice.sliceFields
 refine wpAny_bind (wpAny_bind (wpAny_field hos hds (x:=vl) rfl (wpAny_bind (wpAny_field hos hds (x:=vu) rfl (wpAny_bind (wpAny_field hos hds (x:=.none) rfl (wpAny_pure ?_)))))))
 refine wpAny_bind (slicePart_none ?_)
 show wpAny _ _ (if ((1:Int) == 0)=true then _ else _) _ _ s
 rw [if_neg (by decide)]
 refine wpAny_bind (qO pl (wpAny_bind (qO pu (wpAny_bind (wpAny_pure ?_)))))
 show wpAny _ _ (match Builtin.Slice.sliceAdjust lo hi 1 (n:Int) with | (lo,hi)=>pure (lo,(1:Int),Builtin.Slice.slicePlaces lo hi 1)) _ _ s
 rw [yd lo hi n]
 show wpAny _ _ (pure (((dS n 0 lo:Nat):Int),(1:Int),Builtin.Slice.slicePlaces ((dS n 0 lo:Nat):Int) ((dS n n hi:Nat):Int) 1)) _ _ s
 rw [yX]
 exact wpAny_pure h
theorem Ei (xs:Array Value) (i k:Nat):((SS k).filterMap λ(m:Nat)=>xs[((i:Int) + (m:Int) * 1).toNat]?).toArray=((xs.toList.drop i).take k).toArray:=by
 have e:(λ(m:Nat)=>xs[((i:Int) + (m:Int) * 1).toNat]?)=λm=>xs[i + m]?:=by
  funext m
  have:((i:Int) + (m:Int) * 1).toNat=i + m:=by omega
  rw [this]
 rw [e]
 have:=pick_run xs i k
 rw [List.filterMap_map] at this
 have e2:((λx=>xs[x]?) ∘ λx=>i + x)=λm=>xs[i + m]?:=rfl
 rw [e2] at this
 rw [this]
theorem md {t sl:Addr} {items:Array Value} {vl vu:Value} {lo hi:Option Int} {Q:Value→Shared→Prop} (ht:IsTup s.heap t items) (hs:s.heap.IsSliceOf sl vl vu .none) (pl:IsPart vl lo) (pu:IsPart vu hi)
  (hw:¬ (dS items.size 0 lo=0∧dS items.size items.size hi=items.size))
  (h:Q (.ref s.heap.objs.size) { s with heap:=s.heap.push { cls:=.type "tuple",data:=.seq ((items.toList.drop (dS items.size 0 lo)).take (dS items.size items.size hi - dS items.size 0 lo)).toArray } })
  (hsz:items.size≤sizeLine):wpAny (model prog w) A (getItem (.ref t) (.ref sl)) Q E s:=by
 have htake:sizeOk (.seq ((items.toList.drop (dS items.size 0 lo)).take (dS items.size items.size hi - dS items.size 0 lo)).toArray):=by
  show ((items.toList.drop (dS items.size 0 lo)).take (dS items.size items.size hi - dS items.size 0 lo)).toArray.size≤sizeLine
  rw [Sa,Sy,S_,Array.length_toList]
  omega
 have hj:dS items.size items.size hi≤items.size:=Lg _ _ (R' _) hi
 obtain ⟨os,hos,hcs,hds⟩:=id hs
 have hTs:s.TypeIs (.ref sl) "slice":=⟨os,hos,hcs⟩
 unfold getItem
 try with_reducible refine wpAny_holding ?_
 first | refine wpAny_bind (wpAny_pure ?_) | skip
 refine wpAny_bind (wpAny_sequenceKey ht.typeIs (by decide) ?_)
 refine wpAny_bind (wpAny_callSpecial?_slot (name:=Str.ofString "__getitem__") ht.typeIs PyProof.Rows.slot_tuple_getitem
  (wpAny_call_entry PyProof.Rows.slot_tuple_getitem ht.typeIs entry_tuple_getitem ?_ (args_tuple_getitem _ _)))
 show wpAny _ _ (Builtin.Tuple.tupleItemsOf (.ref t) >>= _) _ _ s
 refine wpAny_bind (tupleItemsOf_ ht ?_)
 refine wpAny_bind (wpAny_typeOf hTs ?_)
 rw [if_pos (by decide)]
 refine wpAny_bind (nZ hs pl pu ?_)
 have hno:¬ ((((dS items.size 0 lo:Nat):Int) == 0 && (1:Int) == 1 && (dS items.size items.size hi - dS items.size 0 lo) == items.size)=true):=by
  intro q
  rw [SA,SA] at q
  have q1:((dS items.size 0 lo:Nat):Int)=0:=eq_of_beq q.1.1
  have q2:dS items.size items.size hi - dS items.size 0 lo=items.size:=eq_of_beq q.2
  exact hw ⟨by omega,by omega⟩
 show wpAny _ _ (if (((dS items.size 0 lo:Nat):Int) == 0 && (1:Int) == 1 && (dS items.size items.size hi - dS items.size 0 lo) == items.size)=true then _ else _) _ _ s
 rw [if_neg hno,Ei]
 first
  | exact wpAny_bind (m:=Builtin.Tuple.tupleExact _) (wpAny_newObj_type (wpAny_pure ⟨_,rfl,wpAny_pure h⟩) htake)
  | exact wpAny_bind (m:=Builtin.Tuple.tupleExact _) (wpAny_newObj_type (wpAny_bind (wpAny_pure (wpAny_pure ⟨_,rfl,wpAny_pure h⟩))) htake)
  | exact wpAny_bind (wpAny_bind (m:=Builtin.Tuple.tupleExact _) (wpAny_newObj_type (wpAny_pure (wpAny_pure ⟨_,rfl,wpAny_pure h⟩)) htake))
  | exact wpAny_bind (wpAny_bind (m:=Builtin.Tuple.tupleExact _) (wpAny_newObj_type (wpAny_pure ⟨_,rfl,wpAny_pure h⟩) htake))
end
end HT
namespace L2
open PySem PySem.Spec PyProof.Rows
abbrev TO:=St→Hp→(Option Int→Hp→Prop)→Prop
def PO (X:Cx) (e:Option Expr) (t:TO):Prop :=
 ∀(pins:List (Addr × Obj)) (s:Shared) (σ:St) (H:Hp) (Q:Option Int→Hp→Prop),Inv X pins σ H s→t σ H Q →
  wpAny (model X.prog X.w) X.A (evalPart e X.env) (λu s'=>∃o H',Inv X pins σ H' s'∧IsPart u o∧Q o H') X.xe s
def pA:TO:=λ_ H Q=>Q none H
def A7 (t:TE):TO:=λσ H Q=>t σ H λx H1=>∃i,x=.int i∧Q (some i) H1
theorem intsAre_of {ns:List Int}:∀{us:List Value},Vals (ns.map V.int) us→IntsAre us ns:=by
 induction ns with
 | nil=>intro us r;rw [Th] at r;cases r;exact .nil
 | cons n ns ih =>
  intro us r
  rw [Sd] at r
  cases r with
  | cons r1 r2 =>
   obtain ⟨t,e⟩:=r1
   subst e
   exact .cons n t (ih r2)
section
variable {X:Cx} {e:Expr} {te:TE} {lo hi:Option Expr} {tl th:TO} {pos p2:Pos}
theorem o8:PO X none pA:=by
 intro pins s σ H Q I h
 rw [evalPart_none]
 exact wpAny_pure ⟨none,H,I,.none,h⟩
theorem kq (h:PE X e te):PO X (some e) (A7 te):=by
 intro pins s σ H Q I hw
 rw [evalPart_some]
 refine cn (h pins s σ H _ I hw) λu s1 ⟨x,H1,I1,r1,q1⟩=>?_
 obtain ⟨i,rfl,q⟩:=q1
 obtain ⟨t,rfl⟩:=r1
 exact ⟨some i,H1,I1,.int i t,q⟩
def pO (X:Cx) (r:V→Option Int→Option Int→Hp→VK→Prop):Prop :=
 ∀(pins:List (Addr × Obj)) (s:Shared) (σ:St) (H:Hp) (x:V) (v vl vu:Value) (lo hi:Option Int) (sl:Addr) (Q:VK),Inv X pins σ H s→RelV x v→s.heap.IsSliceOf sl vl vu .none→IsPart vl lo→IsPart vu hi→r x lo hi H Q →
  ∃T id,typeLookup (.type T) "__getitem__"=pure (some (.builtin id))∧s.TypeIs v T∧wpAny (model X.prog X.w) X.A (getItem v (.ref sl)) (EP X pins σ Q) X.xe s
theorem pO.or {r r':V→Option Int→Option Int→Hp→VK→Prop} (h:pO X r) (h':pO X r'):pO X (λx lo hi H Q=>r x lo hi H Q∨r' x lo hi H Q):=by
 intro pins s σ H x v vl vu lo hi sl Q I rx hs pl pu q
 rcases q with q | q
 ·exact h pins s σ H x v vl vu lo hi sl Q I rx hs pl pu q
 ·exact h' pins s σ H x v vl vu lo hi sl Q I rx hs pl pu q
def OX (r:V→Option Int→Option Int→Hp→VK→Prop) (te:TE) (tl th:TO):TE:=λσ H Q=>te σ H λx H1=>tl σ H1 λl H2=>th σ H2 λu H3=>r x l u H3 Q
theorem jM {r:V→Option Int→Option Int→Hp→VK→Prop} (hr:pO X r) (he:PE X e te) (hl:PO X lo tl) (hu:PO X hi th):PE X (.Subscript e (.Slice lo hi none p2) pos) (OX r te tl th):=by
 intro pins s σ H Q I h
 refine Subscript_ (cn (he pins s σ H _ I h) λv s1 ⟨x,H1,I1,r1,q1⟩=>?_)
 refine wpAny_Slice (cn (hl pins s1 σ H1 _ I1 q1) λvl s2 ⟨l,H2,I2,pl,q2⟩=>cn (hu pins s2 σ H2 _ I2 q2) λvu s3 ⟨u,H3,I3,pu,q3⟩=>?_)
 rw [evalPart_none]
 refine wpAny_pure ?_
 have I4:Inv X pins σ H3 { s3 with heap:=s3.heap.push { cls:=.type "slice",data:=.fields #[vl,vu,.none] } }:=I3.kept (t':=s3.toks) λb ob q=>Heap.get?_push_of_some _ q
 obtain ⟨T,id,hT,ht,hg⟩:=hr pins { s3 with heap:=s3.heap.push { cls:=.type "slice",data:=.fields #[vl,vu,.none] } } σ H3 x v vl vu l u s3.heap.objs.size Q I4 r1 (Heap.IsSliceOf.new ..) pl pu q3
 show wpAny (model X.prog X.w) X.A (subscriptTail e (.Slice lo hi none p2) v (.ref s3.heap.objs.size)) (EP X pins σ Q) X.xe { s3 with heap:=s3.heap.push { cls:=.type "slice",data:=.fields #[vl,vu,.none] } }
 exact tail_any (ops:=[.ref s3.heap.objs.size,v]) ht hT hg (by with_unfolding_all rfl)
def m5 (xs:List V) (lo hi:Option Int):List V:=(xs.drop (HT.dS xs.length 0 lo)).take (HT.dS xs.length xs.length hi - HT.dS xs.length 0 lo)
theorem oj (xs:List V) (lo hi:Option Int):(m5 xs lo hi).length≤xs.length:=by
 unfold m5
 rw [Sy,S_]
 omega
def Qj (K:PySem.W.Frag):V→Option Int→Option Int→Hp→VK→Prop:=λx lo hi H Q=>∃a xs,x=.ref a∧fv K H a xs ∧
 ¬ (HT.dS xs.length 0 lo=0∧HT.dS xs.length xs.length hi=xs.length)∧∀p,H p=none→Q (.ref p) (upd H p (.tup (m5 xs lo hi)))
theorem Ll:pO X (Qj X.K):=by
 intro pins s σ H x v vl vu lo hi sl Q I rx hs pl pu h
 obtain ⟨a,xs,rfl,hx,hw,q⟩:=h
 cases rx
 obtain ⟨its,r,ht,hz⟩:=I.tuple hx
 have hlen:its.toArray.size=xs.length:=by rw [Sa];exact r.length.symm
 refine ⟨"tuple",_,PyProof.Rows.slot_tuple_getitem.lookup,ht.typeIs,?_⟩
 refine HT.md ht hs pl pu (by rw [hlen];exact hw) ?_ (by rw [hlen];exact hz)
 rw [hlen]
 refine ⟨.ref s.heap.objs.size,_,I.laid (t':=s.toks) (o:=.tup (m5 xs lo hi)) (λb ob q=>Heap.get?_push_of_some _ q) (R' _) ?_,rfl,q _ (I.hok.fresh (R' _))⟩
 exact ⟨Su (oj xs lo hi) hz,_,(r.drop (HT.dS xs.length 0 lo)).take (HT.dS xs.length xs.length hi - HT.dS xs.length 0 lo),IsTup.new _ _⟩
end
end L2
namespace L2
open PySem PySem.Spec PyProof.Rows
def DE (n:Nat) (i:Int):Option Nat:=if 0≤i then (if i < n then some i.toNat else none) else if -(n:Int)≤i then some (i + n).toNat else none
def cV {α:Type} (xs:List α) (i:Int):Option α:=(DE xs.length i).bind λj=>xs[j]?
theorem Ad {n:Nat} {i:Int} {j:Nat} (h:DE n i=some j):seqIndex? i n=some j∧j < n∧-(n:Int)≤i∧i < n:=by
 unfold DE at h
 by_cases h0:0≤i
 ·rw [if_pos h0] at h
  by_cases h1:i < n
  ·rw [if_pos h1] at h
   have e:i.toNat=j:=Option.some.inj h
   exact ⟨by rw [seqIndex_of h0 h1,e],by omega,by omega,h1⟩
  ·rw [if_neg h1] at h;cases h
 ·rw [if_neg h0] at h
  by_cases h1:-(n:Int)≤i
  ·rw [if_pos h1] at h
   have e:(i + n).toNat=j:=Option.some.inj h
   exact ⟨by rw [seqIndex_neg (by omega) h1,e],by omega,h1,by omega⟩
  ·rw [if_neg h1] at h;cases h
theorem ub {α:Type} {xs:List α} {i:Int} {v:α} (h:cV xs i=some v):∃j,seqIndex? i xs.length=some j∧xs[j]?=some v∧j < xs.length∧-(xs.length:Int)≤i∧i < xs.length:=by
 unfold cV at h
 cases e:DE xs.length i with
 | none=>rw [e] at h;cases h
 | some j =>
  rw [e] at h
  obtain ⟨h1,h2,h3,h4⟩:=Ad e
  exact ⟨j,h1,h,h2,h3,h4⟩
theorem aY {α:Type} {xs:List α} {j:Nat} {v:α} (h:xs[j]?=some v):cV xs (j:Int)=some v:=by
 have hj:j < xs.length:=(R8.mp h).1
 have e:DE xs.length (j:Int)=some j:=by
  unfold DE
  rw [if_pos (by omega),if_pos (by omega)];simp
 unfold cV;rw [e];exact h
def cJ (b:Expr):Prop:=∀o i,subscripted b false o i=operate [o,i] (getItem o i)
def og (X:Cx) (r:R2):Prop :=
 ∀(value slice:Expr) (pins:List (Addr × Obj)) (s:Shared) (σ:St) (H:Hp) (x y:V) (v u:Value) (Q:VK),Inv X pins σ H s→RelV x v→RelV y u→r x y H Q →
  subscripted slice false v u=operate [v,u] (getItem v u)→wpAny (model X.prog X.w) X.A (subscriptTail value slice v u) (EP X pins σ Q) X.xe s
def oJ (X:Cx) (id:String) (r:V→List V→Hp→VK→Prop):Prop :=
 ∀(pins:List (Addr × Obj)) (s:Shared) (σ:St) (H:Hp) (x:V) (xs:List V) (v:Value) (us:List Value) (Q:VK),Inv X pins σ H s→RelV x v→Vals xs us→r x xs H Q →
  wpAny (model X.prog X.w) X.A (call (.builtin id) (v :: us)) (EP X pins σ Q) X.xe s
section
variable {X:Cx} {a b:Expr} {ta tb:TE} {pos:Pos}
theorem og.or {r r':R2} (h:og X r) (h':og X r'):og X (λx y H Q=>r x y H Q∨r' x y H Q):=by
 intro value slice pins s σ H x y v u Q I rx ry q hs
 rcases q with q | q
 ·exact h value slice pins s σ H x y v u Q I rx ry q hs
 ·exact h' value slice pins s σ H x y v u Q I rx ry q hs
theorem oJ.or {id:String} {r r':V→List V→Hp→VK→Prop} (h:oJ X id r) (h':oJ X id r'):oJ X id (λx xs H Q=>r x xs H Q∨r' x xs H Q):=by
 intro pins s σ H x xs v us Q I rx rs q
 rcases q with q | q
 ·exact h pins s σ H x xs v us Q I rx rs q
 ·exact h' pins s σ H x xs v us Q I rx rs q
theorem cj {r:R2} (hr:og X r) (ha:PE X a ta) (hb:PE X b tb) (hs:cJ b):PE X (.Subscript a b pos) (E_ r ta tb):=by
 intro pins s σ H Q I h
 exact Subscript_ (JL ha hb I h λv u s2 x y H2 I2 rx ry q=>hr a b pins s2 σ H2 x y v u Q I2 rx ry q (hs _ _))
def NR (K:PySem.W.Frag):R2:=λx y H Q=>∃p xs i v,x=.ref p∧y=.int i∧cP K H p xs∧cV xs i=some v∧Q v H
def NT (K:PySem.W.Frag):R2:=λx y H Q=>∃p xs i v,x=.ref p∧y=.int i∧fv K H p xs∧cV xs i=some v∧Q v H
def NS:R2:=λx y H Q=>∃z i c,x=.str z∧y=.int i∧z.length≤sizeLine∧cV z.cps.toList i=some c∧Q (.str ⟨#[c]⟩) H
theorem uq:og X (NR X.K):=by
 intro value slice pins s σ H x y v u Q I rx ry h hs
 obtain ⟨p,xs,i,z,rfl,rfl,hq,he,q⟩:=h
 cases rx
 obtain ⟨t,rfl⟩:=ry
 obtain ⟨its,r,pl,hz⟩:=I.list hq
 obtain ⟨j,h1,h2,h3,h4,h5⟩:=ub he
 obtain ⟨w,ew,rw'⟩:=r.get h2
 have hl:=r.length
 have hn:=lz
 have fin:EP X pins σ Q w s:=⟨z,H,I,rw',q⟩
 by_cases h0:0≤i
 ·have hj:i.toNat=j:=by
   rw [seqIndex_of h0 h5] at h1
   exact Option.some.inj h1
  exact item_listR pl.isList h0 (by omega) (by rw [hj];simpa using ew) fin hs
 ·have hj:(i + (its.toArray.size:Int)).toNat=j:=by
   rw [seqIndex_neg (by omega) h4] at h1
   rw [Sa,← hl]
   exact Option.some.inj h1
  exact subscriptTail_builtinR (x:=w) pl.isList.typeIs slot_list_getitem.lookup
   (wpAny_getItem_list_neg (Q:=λr s'=>r=w∧EP X pins σ Q r s') pl.isList (by omega) (by rw [Sa] <;> omega) (by omega) (by rw [hj];simpa using ew) ⟨rfl,fin⟩) hs
theorem cS:og X (NT X.K):=by
 intro value slice pins s σ H x y v u Q I rx ry h hs
 obtain ⟨p,xs,i,z,rfl,rfl,hq,he,q⟩:=h
 cases rx
 obtain ⟨t,rfl⟩:=ry
 obtain ⟨its,r,pl,hz⟩:=I.tuple hq
 obtain ⟨j,h1,h2,h3,h4,h5⟩:=ub he
 obtain ⟨w,ew,rw'⟩:=r.get h2
 have hl:=r.length
 have hn:=lz
 have fin:EP X pins σ Q w s:=⟨z,H,I,rw',q⟩
 exact subscriptTail_builtinR (x:=w) pl.typeIs slot_tuple_getitem.lookup
  (getItem_tuple (j:=j) (Q:=λr s'=>r=w∧EP X pins σ Q r s') pl (by omega) (by omega) (by rw [Sa,← hl];exact h1) (by simpa using ew) ⟨rfl,fin⟩) hs
theorem DJ:og X NS:=by
 intro value slice pins s σ H x y v u Q I rx ry h hs
 obtain ⟨z,i,c,rfl,rfl,hz,he,q⟩:=h
 obtain ⟨t,rfl⟩:=rx
 obtain ⟨t',rfl⟩:=ry
 obtain ⟨j,h1,h2,h3,h4,h5⟩:=ub he
 have hl:z.cps.toList.length=z.length:=by simp [Str.length]
 rw [hl] at h1 h4 h5
 have hn:=lz
 exact tail_any (typeIs_str s z t) slot_str_getitem.lookup (getItem_str (c:=c) (by
  have e1:decide (i < -(2 ^ 63:Int))=false:=decide_eq_false (by omega)
  have e2:decide (i ≥ 2 ^ 63)=false:=decide_eq_false (by omega)
  rw [e1,e2,Ux]) (by rw [h1];simpa using h2) ⟨.str ⟨#[c]⟩,H,I.tok _,⟨_,rfl⟩,q⟩) hs
theorem yG (its:List Value) (n j:Nat) (u:Value):Obj.mapSeq (·.setIfInBounds j u) { cls:=.type "list",data:=.seq its.toArray n }={ cls:=.type "list",data:=.seq (its.set j u).toArray n }:=by
 simp [Obj.mapSeq]
theorem Inv.lst {pins:List (Addr × Obj)} {σ:St} {H:Hp} {s:Shared} {p:Addr} {xs:List V} (I:Inv X pins σ H s) (h:H p=some (.lst xs)) :
  ∃(its:List Value) (n:Nat),Vals xs its∧s.heap.get? p=some { cls:=.type "list",data:=.seq its.toArray n }∧xs.length≤sizeLine:=by
 obtain ⟨z,its,n,r,e⟩:=I.hok p _ h
 exact ⟨its,n,r,e,z⟩
theorem Inv.Kr {pins:List (Addr × Obj)} {σ:St} {H:Hp} {s:Shared} {p:Addr} {xs ys:List V} {its its':List Value} {n n':Nat} {f:Obj→Obj} (I:Inv X pins σ H s) (h:H p=some (.lst xs))
  (ho:s.heap.get? p=some { cls:=.type "list",data:=.seq its.toArray n }) (hf:f { cls:=.type "list",data:=.seq its.toArray n }={ cls:=.type "list",data:=.seq its'.toArray n' }) (r:Vals ys its') (hz:ys.length≤sizeLine) (t:Nat) :
  Inv X pins σ (upd H p (.lst ys)) { s with heap:=s.heap.update p f,toks:=t }:=by
 have e:(s.heap.update p f).get? p=some { cls:=.type "list",data:=.seq its'.toArray n' }:=by
  rw [Heap.get?_update_self f ho (by rw [hf] <;> rfl),hf]
 refine I.write (x:=p) (e:=p) (by rw [h];trivial) (.inl rfl) (λb u hb q=>(Heap.get?_update_other _ _ (Ne.symm hb)).trans q) ⟨_,e⟩ ?_
 exact ⟨hz,its',n',r,e⟩
def Jl:V→V→V→Hp→(Hp→Prop)→Prop:=λo i v H Q=>∃p xs k j,o=.ref p∧i=.int k∧H p=some (.lst xs)∧DE xs.length k=some j∧Q (upd H p (.lst (xs.set j v)))
theorem set_list:ij X Jl:=by
 intro pins s σ H o i v ov iv u Q I ro ri rv h
 obtain ⟨p,xs,k,j,rfl,rfl,hp,hj,q⟩:=h
 cases ro
 obtain ⟨t,rfl⟩:=ri
 obtain ⟨its,n,r,ho,hz⟩:=I.lst hp
 obtain ⟨h1,h2,h3,h4⟩:=Ad hj
 have hl:=r.length
 have hn:=lz
 have I':Inv X pins σ (upd H p (.lst (xs.set j v))) { s with heap:=s.heap.update p (Obj.mapSeq (·.setIfInBounds j u)) } :=
  I.Kr hp ho (yG its n j u) (r.set rv j) (by rw [TF];exact hz) s.toks
 by_cases h0:0≤k
 ·have hk:k.toNat=j:=by
   rw [seqIndex_of h0 h4] at h1
   exact Option.some.inj h1
  exact PySem.W.ki_setAt ho h0 (by omega) (by rw [Sa,← hl];exact h4) (by rw [hk];exact ⟨_,I',q⟩)
 ·have hk:(k + (its.toArray.size:Int)).toNat=j:=by
   rw [seqIndex_neg (by omega) h3] at h1
   rw [Sa,← hl]
   exact Option.some.inj h1
  exact PySem.W.ki_setBack ho (by omega) (by rw [Sa,← hl];exact h3) (by omega) (by rw [hk];exact ⟨_,I',q⟩)
theorem vo (lo hi:Option Int) (n:Nat):(sliceBounds lo hi none n).1=((HT.dS n 0 lo:Nat):Int)∧(sliceBounds lo hi none n).2.1=((HT.dS n n hi:Nat):Int)∧(sliceBounds lo hi none n).2.2=1:=by
 refine ⟨?_,?_,rfl⟩
 ·cases lo with
  | none=>simp [sliceBounds,HT.dS]
  | some i =>
   simp only [sliceBounds,HT.dS,UI,show (1:Int) > 0 by decide,if_true]
   by_cases h:i < 0
   ·simp only [h,if_true] <;> omega
   ·simp only [h,if_false] <;> omega
 ·cases hi with
  | none=>simp [sliceBounds,HT.dS]
  | some i =>
   simp only [sliceBounds,HT.dS,UI,show (1:Int) > 0 by decide,if_true]
   by_cases h:i < 0
   ·simp only [h,if_true] <;> omega
   ·simp only [h,if_false] <;> omega
theorem sG (its:List Value) (lo hi:Option Int):slicePick its.toArray lo hi none=((its.drop (HT.dS its.length 0 lo)).take (HT.dS its.length its.length hi - HT.dS its.length 0 lo)).toArray:=by
 obtain ⟨h1,h2,h3⟩:=vo lo hi its.toArray.size
 unfold slicePick
 rw [h1,h2,h3]
 simp only [sliceRange_one,pick_run,Sa] <;> rfl
def N5 (K:PySem.W.Frag):V→Option Int→Option Int→Hp→VK→Prop:=λx lo hi H Q=>∃a xs,x=.ref a∧cP K H a xs∧∀p,H p=none→Q (.ref p) (upd H p (.lst (m5 xs lo hi)))
theorem vn:pO X (N5 X.K):=by
 intro pins s σ H x v vl vu lo hi sl Q I rx hs pl pu h
 obtain ⟨a,xs,rfl,hx,q⟩:=h
 cases rx
 obtain ⟨its,r,ht,hz⟩:=I.list hx
 have hlen:=r.length
 refine ⟨"list",_,slot_list_getitem.lookup,ht.isList.typeIs,?_⟩
 refine wpAny_getItem_list_slice ht.isList hs pl pu .none (by simp) ?_ (by rw [Sa] <;> omega)
 rw [sG,← hlen]
 refine ⟨.ref s.heap.objs.size,_,I.laid (t':=s.toks) (o:=.lst (m5 xs lo hi)) (λb ob q=>Heap.get?_push_of_some _ q) (R' _) ?_,rfl,q _ (I.hok.fresh (R' _))⟩
 exact ⟨Su (oj xs lo hi) hz,_,0,(r.drop (HT.dS xs.length 0 lo)).take (HT.dS xs.length xs.length hi - HT.dS xs.length 0 lo),Heap.get?_push_size _ rfl⟩
def kJ:V→Bool
 | .non=>true
 | .bl _=>true
 | .int _=>true
 | .str _=>true
 | _=>false
def Gi:V→V→Bool
 | .non,.non=>true
 | .bl a,.bl b=>a == b
 | .bl a,.int b=>(if a then 1 else 0) == b
 | .int a,.bl b=>a == (if b then 1 else 0)
 | .int a,.int b=>a == b
 | .str a,.str b=>a == b
 | _,_=>false
theorem JU {A:Around} {s:Shared} {y x:V} {u v:Value} (ry:RelV y u) (rx:RelV x v) (fy:kJ y=true) (fx:kJ x=true):SeqAt.EqAt A s u v (Gi y x):=by
 cases y with
 | non =>
  cases ry
  cases x with
  | non=>cases rx;exact SeqAt.EqAt.same _
  | bl b=>cases rx;exact SeqAt.EqAt.none_bool b
  | int b=>obtain ⟨t,rfl⟩:=rx;exact SeqAt.EqAt.none_int b t
  | str b=>obtain ⟨t,rfl⟩:=rx;exact SeqAt.EqAt.none_str b t
  | _=>exact absurd (show false=true from fx) Sj
 | bl a =>
  cases ry
  cases x with
  | non=>cases rx;exact SeqAt.EqAt.bool_none a
  | bl b=>cases rx;exact SeqAt.EqAt.bool_bool a b
  | int b=>obtain ⟨t,rfl⟩:=rx;exact SeqAt.EqAt.bool_int a b t
  | str b=>obtain ⟨t,rfl⟩:=rx;exact SeqAt.EqAt.bool_str a b t
  | _=>exact absurd (show false=true from fx) Sj
 | int a =>
  obtain ⟨t',rfl⟩:=ry
  cases x with
  | non=>cases rx;exact SeqAt.EqAt.int_none a t'
  | bl b=>cases rx;exact SeqAt.EqAt.int_bool a t' b
  | int b=>obtain ⟨t,rfl⟩:=rx;exact SeqAt.EqAt.int_int a t' b t
  | str b=>obtain ⟨t,rfl⟩:=rx;exact SeqAt.EqAt.int_str a t' b t
  | _=>exact absurd (show false=true from fx) Sj
 | str a =>
  obtain ⟨t',rfl⟩:=ry
  cases x with
  | non=>cases rx;exact SeqAt.EqAt.str_none a t'
  | bl b=>cases rx;exact SeqAt.EqAt.str_bool a t' b
  | int b=>obtain ⟨t,rfl⟩:=rx;exact SeqAt.EqAt.str_int a t' b t
  | str b=>obtain ⟨t,rfl⟩:=rx;exact SeqAt.EqAt.str_str a t' b t
  | _=>exact absurd (show false=true from fx) Sj
 | _=>exact absurd (show false=true from fy) Sj
def Gh (x:V) (u:Value):Bool:=match u with
 | .none=>Gi .non x
 | .bool b=>Gi (.bl b) x
 | .int i _=>Gi (.int i) x
 | .str z _=>Gi (.str z) x
 | _=>false
theorem Dh {x y:V} {u:Value} (r:RelV y u) (f:kJ y=true):Gh x u=Gi y x:=by
 cases y with
 | non=>cases r;rfl
 | bl b=>cases r;rfl
 | int i=>obtain ⟨t,rfl⟩:=r;rfl
 | str z=>obtain ⟨t,rfl⟩:=r;rfl
 | _=>exact absurd (show false=true from f) Sj
theorem ua {x:V}:∀{xs:List V} {us:List Value},Vals xs us→xs.all kJ=true→us.any (Gh x)=xs.any λy=>Gi y x
 | _,_,.nil,_=>rfl
 | y :: xs,u :: us,.cons r t,f=>by
  rw [Uy,SA] at f
  rw [TH,TH,Dh r f.1,ua t f.2]
theorem qa {A:Around} {s:Shared} {x:V} {v:Value} (rx:RelV x v) (fx:kJ x=true):∀{xs:List V} {us:List Value},Vals xs us→xs.all kJ=true→∀u∈us,SeqAt.EqAt A s u v (Gh x u)
 | _,_,.nil,_=>λu hu=>by cases hu
 | y :: xs,u :: us,.cons r t,f=>λu' hu=>by
  rw [Uy,SA] at f
  rcases Sf.mp hu with rfl | hu
  ·rw [Dh r f.1];exact JU r rx f.1 fx
  ·exact qa rx fx t f.2 u' hu
def OM (x:V) (xs:List V):Bool:=xs.any λy=>Gi y x
def R0 (K:PySem.W.Frag) (neg:Bool):R2:=λx y H Q=>∃p xs,y=.ref p∧(cP K H p xs∨fv K H p xs)∧kJ x=true∧xs.all kJ=true∧Q (.bl (if neg then !OM x xs else OM x xs)) H
theorem uM:er X (compareOp .NotIn) (R0 X.K true):=by
 intro pins s σ H x y v u Q I rx ry h
 obtain ⟨p,xs,rfl,hq,fx,fs,q⟩:=h
 cases ry
 rcases hq with hq | hq
 ·obtain ⟨its,r,pl,hz⟩:=I.list hq
  refine SeqAt.notIn_listAt (Gh x) pl.isList (λw hw=>qa rx fx r fs w (by simpa using hw)) ⟨.bl _,H,I,rfl,?_⟩
  rw [show its.toArray.any (Gh x)=its.any (Gh x) by simp,ua r fs]
  exact q
 ·obtain ⟨its,r,pl,hz⟩:=I.tuple hq
  refine SeqAt.notIn_tupleAt (Gh x) pl (λw hw=>qa rx fx r fs w (by simpa using hw)) ⟨.bl _,H,I,rfl,?_⟩
  rw [show its.toArray.any (Gh x)=its.any (Gh x) by simp,ua r fs]
  exact q
theorem iu:bS X (.builtin "len") (λxs H Q=>∃p ys,xs=[.ref p]∧(cP X.K H p ys∨fv X.K H p ys)∧Q (.int ys.length) H):=by
 intro pins s σ H xs us Q I r h
 obtain ⟨p,ys,rfl,hq,q⟩:=h
 obtain ⟨u,rfl,rx⟩:=vals1 r
 cases rx
 have hn:=lz
 rcases hq with hq | hq
 ·obtain ⟨its,r',pl,hz⟩:=I.list hq
  have hlen:=r'.length
  exact Calls.call_len_list pl.isList (by simp only [Sa] <;> omega) ⟨.int ys.length,H,I.tok _,⟨s.toks + 1,by rw [Sa,hlen]⟩,q⟩
 ·obtain ⟨its,r',pl,hz⟩:=I.tuple hq
  have hlen:=r'.length
  exact len_tuple pl (by simp only [Sa] <;> omega) ⟨.int ys.length,H,I.tok _,⟨s.toks + 1,by rw [Sa,hlen]⟩,q⟩
theorem iw:bS X (.builtin "len") (λxs H Q=>∃z,xs=[.str z]∧z.length≤sizeLine∧Q (.int z.length) H):=by
 intro pins s σ H xs us Q I r h
 obtain ⟨z,rfl,hz,q⟩:=h
 obtain ⟨u,rfl,t,rfl⟩:=vals1 r
 have hn:=lz
 exact len_str (by omega) ⟨.int z.length,H,I.tok _,⟨_,rfl⟩,q⟩
theorem bS.or {f:Value} {r r':List V→Hp→VK→Prop} (h:bS X f r) (h':bS X f r'):bS X f (λxs H Q=>r xs H Q∨r' xs H Q):=by
 intro pins s σ H xs us Q I rs q
 rcases q with q | q
 ·exact h pins s σ H xs us Q I rs q
 ·exact h' pins s σ H xs us Q I rs q
theorem ud:bS X (.type "list") (λxs H Q=>∃p ys,xs=[.ref p]∧(cP X.K H p ys∨fv X.K H p ys)∧∀l,H l=none→Q (.ref l) (upd H l (.lst ys))):=by
 intro pins s σ H xs us Q I r h
 obtain ⟨p,ys,rfl,hq,q⟩:=h
 obtain ⟨u,rfl,rx⟩:=vals1 r
 cases rx
 have fin:∀(its:List Value),Vals ys its→ys.length≤sizeLine→∀(h':Heap) (c':Nat),(∀b o',s.heap.get? b=some o'→h'.get? b=some o') →
   h'.get? s.heap.objs.size=some { cls:=.type "list",dict:=none,data:=.seq its.toArray c',slots:=#[] }→EP X pins σ Q (.ref s.heap.objs.size) { s with heap:=h' }:=λits r' hz h' c' kp e =>
  ⟨.ref s.heap.objs.size,_,I.laid (t':=s.toks) kp (R' _) (show dm X.prog X.w _ h' _ (.lst ys) from ⟨hz,its,c',r',e⟩),rfl,q _ (I.hok.fresh (R' _))⟩
 rcases hq with hq | hq
 ·obtain ⟨its,r',pl,hz⟩:=I.list hq
  have hlen:=r'.length
  obtain ⟨o,ho,hc,n,hd⟩:=pl.isList
  exact call_list_seq p (.inl rfl) ho hc hd (λh' c' kp e=>fin its r' hz h' c' kp e) (by simp only [Sa] <;> omega)
 ·obtain ⟨its,r',pl,hz⟩:=I.tuple hq
  have hlen:=r'.length
  obtain ⟨o,ho,hc,n,hd⟩:=pl
  exact call_list_seq p (.inr rfl) ho hc hd (λh' c' kp e=>fin its r' hz h' c' kp e) (by simp only [Sa] <;> omega)
def Qs (K:PySem.W.Frag) (T:String) (x:V) (H:Hp):Prop:=match x with
 | .str _=>T="str"
 | .int _=>T="int"
 | .ref p=>(T="list"∧∃xs,cP K H p xs)∨(T="tuple"∧∃o,K.lookup p=some o∧o.cls=.type "tuple"∧o.dict=none) ∨
   (T="dict"∧((∃kvs,H p=some (.dK kvs))∨∃kvs ep,H p=some (.dE kvs ep)))∨(T="set"∧∃S n,H p=some (.set S n))
 | _=>False
theorem Ly {pins:List (Addr × Obj)} {σ:St} {H:Hp} {s:Shared} {T:String} {x:V} {v:Value} (I:Inv X pins σ H s) (r:RelV x v) (ty:Qs X.K T x H) :
  s.TypeIs v T∧∀a,v=.ref a→∃ob,s.heap.get? a=some ob∧ob.dict=none:=by
 cases x with
 | str z =>
  obtain ⟨t,rfl⟩:=r
  cases (show T="str" from ty)
  exact ⟨typeIs_str s z t,λ_ e=>nomatch e⟩
 | int i =>
  obtain ⟨t,rfl⟩:=r
  cases (show T="int" from ty)
  exact ⟨typeIs_int s i t,λ_ e=>nomatch e⟩
 | ref p =>
  cases r
  rcases ty with ⟨rfl,xs,hq⟩ | ⟨rfl,o,hk,hc,hd⟩ | ⟨rfl,hk⟩ | ⟨rfl,S,n,hk⟩
  ·obtain ⟨its,_,pl,_⟩:=I.list hq
   refine ⟨pl.isList.typeIs,λa e=>?_⟩
   cases e
   obtain ⟨o,n,e,c,hd,_⟩:=pl
   exact ⟨o,e,hd⟩
  ·refine ⟨⟨o,I.lp p o hk,hc⟩,λa e=>?_⟩
   cases e
   exact ⟨o,I.lp _ o hk,hd⟩
  ·have z:∃o,s.heap.get? p=some o∧o.ExactDict:=by
    rcases hk with ⟨kvs,hk⟩ | ⟨kvs,ep,hk⟩
    ·obtain ⟨_,_,_,_,o,_,_,e,ex,_⟩:=I.hok p _ hk
     exact ⟨o,e,ex⟩
    ·obtain ⟨_,_,_,_,o,_,e,ex,_⟩:=I.hok p _ hk
     exact ⟨o,e,ex⟩
   obtain ⟨o,e,ex⟩:=z
   refine ⟨⟨o,e,ex.1⟩,λa e2=>?_⟩
   cases e2
   exact ⟨o,e,ex.2.1⟩
  ·obtain ⟨o,_,_,_,e,ex,_⟩:=I.hok p _ hk
   refine ⟨⟨o,e,ex.1⟩,λa e2=>?_⟩
   cases e2
   exact ⟨o,e,ex.2.1⟩
 | _=>exact False.elim ty
def OU (K:PySem.W.Frag) (T:String) (r:V→List V→Hp→VK→Prop) (to:TE) (t:TA):TE:=λσ H Q=>to σ H λx H1=>Qs K T x H1∧t σ H1 λxs H2=>r x xs H2 Q
variable {o e:Expr} {es:List Expr} {to:TE} {t:TA} {name:Str} {apos cpos:Pos} {T id:String} {r:V→List V→Hp→VK→Prop}
theorem qp (pa:PlainAttrs T) (slot:Slot T name id) (hty:typeOf (.builtin id)=pure (.type "method_descriptor")) (hm:oJ X id r) (ho:PE X o to) (ha:PA X (e :: es) t)
  (hbase:attributeBase o name X.env (eval o X.env)=eval o X.env:=by rfl)
  (hfew:((backTo cpos (starEach (e :: es) X.env)).all (λx=>!x.1) && (backToKw cpos (keywordEach [] X.env)).all (λx=>x.1.isSome)
   && decide ((e :: es).length + ([]:List Keyword).length + (if ([]:List Keyword).isEmpty then 0 else 1) < 30))=true:=by rfl)
  (hline:(apos.endLine == cpos.line)=true:=by rfl) (hs:starEach (e :: es) X.env=(false,eval e X.env) :: starEach es X.env:=by rfl) (hplain:(backTo cpos (starEach es X.env)).any (·.1)=false:=by rfl) :
  PE X (.Call (.Attribute o name apos) (e :: es) [] cpos) (OU X.K T r to t):=by
 intro pins s σ H Q I h
 refine wpAny_Call_method_late hbase hfew hline rfl (cn (ho pins s σ H _ I h) λv s1 ⟨x,H1,I1,r1,ty,q1⟩=>?_)
 obtain ⟨h1,h2⟩:=Ly I1 r1 ty
 refine ⟨T,id,pa,slot,hty,h1,h2,?_⟩
 have hA:=ha cpos pins s1 σ H1 _ I1 q1
 rw [hs] at hA ⊢
 refine Calls.callWith_builtin (by show (false || (backTo cpos (starEach es X.env)).any (·.1))=false;rw [hplain] <;> rfl) (Calls.evalArgs_plain ?_)
 exact cn hA λus s2 ⟨vs,H2,I2,r2,q2⟩=>hm pins s2 σ H2 x vs v us Q I2 r1 r2 q2
end
end L2
namespace L2
open PySem PySem.Spec PyProof.Rows
def RF (X:Cx) (id:String) (r:V→List V→Hp→VK→Prop):Prop :=
 ∀(pins:List (Addr × Obj)) (s:Shared) (σ:St) (H:Hp) (x:V) (xs:List V) (v:Value) (us:List Value) (Q:VK),Inv X pins σ H s→RelV x v→Vals xs us→r x xs H Q →
  wpAny (model X.prog X.w) X.A (call (.builtin id) (v :: us)) (EP X pins σ Q) X.xe s
theorem Vals.one {x:V} {us:List Value} (r:Vals [x] us):∃u,us=[u]∧RelV x u:=vals1 r
theorem Vals.two {x y:V} {us:List Value} (r:Vals [x,y] us):∃u v,us=[u,v]∧RelV x u∧RelV y v:=vals2 r
theorem Vals.zero:∀{us:List Value},Vals [] us→us=[]
 | _,.nil=>rfl
theorem Vals.dropLast {xs:List V} {us:List Value} (h:Vals xs us):Vals xs.dropLast us.dropLast:=by
 induction h with
 | nil=>exact .nil
 | cons r t ih =>
  cases t with
  | nil=>exact .nil
  | cons q t'=>exact .cons r ih
theorem Vals.eraseIdx:∀{xs:List V} {us:List Value} (i:Nat),Vals xs us→Vals (xs.eraseIdx i) (us.eraseIdx i)
 | _,_,_,.nil=>.nil
 | _,_,0,.cons _ t=>t
 | _,_,i + 1,.cons r t=>.cons r (Vals.eraseIdx i t)
theorem Vals.reverse {xs:List V} {us:List Value} (h:Vals xs us):Vals xs.reverse us.reverse:=by
 induction h with
 | nil=>exact .nil
 | cons r t ih=>rw [Uc,Uc];exact Vals.append ih (.cons r .nil)
theorem Vals.rep {xs:List V} {us:List Value} (h:Vals xs us):∀k:Nat,Vals (Sq k xs).flatten (Sq k us).flatten
 | 0=>.nil
 | k + 1=>by
  rw [SY,SY,Tw,Tw]
  exact Vals.append h (Vals.rep h k)
section
variable {X:Cx} {pins:List (Addr × Obj)} {σ:St} {H:Hp} {s:Shared} {l b:Addr} {xs ys zs:List V}
theorem Inv.Kp {its its':List Value} {n:Nat} {f:Array Value→Array Value} {t':Nat} (I:Inv X pins σ H s) (hH:H l=some (.lst xs))
  (e:s.heap.get? l=some { cls:=.type "list",data:=.seq its.toArray n }) (hf:f its.toArray=its'.toArray) (hv:Vals ys its') (hz:ys.length≤sizeLine) :
  Inv X pins σ (upd H l (.lst ys)) { s with heap:=s.heap.update l (Obj.mapSeq f),toks:=t' }:=by
 have q:=PySem.IsL.update e f
 rw [hf] at q
 refine I.write (x:=l) (e:=l) (by rw [hH];exact trivial) (.inl rfl) (λb' u hb hu=>(Heap.get?_update_other s.heap (Obj.mapSeq f) (Ne.symm hb)).trans hu) ⟨_,q⟩ ?_
 exact ⟨hz,its',_,hv,q⟩
theorem Inv.M6 {its:List Value} {t':Nat} (I:Inv X pins σ H s) (hv:Vals ys its) (hz:ys.length≤sizeLine) :
  Inv X pins σ (upd H s.heap.objs.size (.lst ys)) { s with heap:=s.heap.push { cls:=.type "list",data:=.seq its.toArray },toks:=t' } :=
 I.laid (λ_ _ q=>Heap.get?_push_of_some _ q) (R' _) ⟨hz,its,0,hv,Heap.get?_push_size _ rfl⟩
theorem Inv.fresh (I:Inv X pins σ H s):H s.heap.objs.size=none:=I.hok.fresh (R' _)
theorem Inv.Kq (I:Inv X pins σ H s) (hH:H l=some (.lst xs)):xs.length≤sizeLine∧∃(its:List Value) (n:Nat),Vals xs its∧xs.length=its.length∧s.heap.get? l=some { cls:=.type "list",data:=.seq its.toArray n }:=by
 obtain ⟨z,its,n,r,e⟩:=I.hok l _ hH
 exact ⟨z,its,n,r,r.length,e⟩
end
section
variable {X:Cx}
def Aw:V→List V→Hp→VK→Prop:=λx vs H Q=>∃l xs y,x=.ref l∧vs=[y]∧H l=some (.lst xs)∧xs.length < sizeLine∧Q .non (upd H l (.lst (xs ++ [y])))
theorem g8:RF X "list.append" Aw:=by
 intro pins s σ H x vs v us Q I rx rv h
 obtain ⟨l,xs,y,rfl,rfl,hH,hz,q⟩:=h
 cases rx
 obtain ⟨u,rfl,ru⟩:=rv.one
 obtain ⟨z,its,n,r,hl,e⟩:=I.Kq hH
 refine call_meets F.slot_list_append ⟨_,e,rfl⟩ F.entry_list_append (F.args_list_append_2 _ _) (PySem.list_append l its.toArray n u (by rw [Sa];omega)) ⟨e,?_⟩
 refine ⟨.non,_,I.Kp (its':=its ++ [u]) hH e (by simp) (r.append (.cons ru .nil)) ?_,rfl,q⟩
 rw [So,List.length_singleton]
 omega
theorem len_rep {α:Type} (xs:List α) (k:Nat):(Sq k xs).flatten.length=k * xs.length:=by
 induction k with
 | zero=>simp
 | succ k ih=>rw [SY,Tw,So,ih,Nat.succ_mul,Nat.add_comm]
end
section
variable {prog:Program} {w:World} {A:Around} {E:Value→Shared→Prop} {s:Shared}
end
section
variable {X:Cx}
end
end L2
namespace Att
open PySem PySem.W PySem.Calls PyProof.Rows
theorem oN {P:Params} {h:Heap}:∀(ns:List Int) (vs:List Value),WellAll P h vs (ns.map WData.int)→IntsAre vs ns:=by
 intro ns
 induction ns with
 | nil =>
  intro vs w
  rw [Th] at w
  cases w
  exact .nil
 | cons n ns ih =>
  intro vs w
  rw [Sd] at w
  cases w with
  | cons a b =>
   cases a
   exact .cons _ _ (ih _ b)
theorem Cm {l:OpenLaw} {n:Nat} (hn:l.most=some n) {P:Params} {h:Heap} {args:List WData} {vals:List Value}
  (hpre:l.row.toRowW.claim.pre args=true) (hwl:WellAll P h vals args) :
  ∃a vs ns,vals=[Value.ref a]∧args=[WData.list (ns.map WData.int)]∧h.get? a=some { cls:=.type "list",data:=.seq vs.toArray }∧IntsAre vs ns∧ns.length≤n:=by
 have hsh:WShape.hasAll [] args [.list .int]=true:=(pre_splitW hpre).1
 have hc:l.pre.holds [] { args:=args }=true:=(pre_splitW hpre).2
 obtain ⟨d,r,rfl,h1,h2⟩:=hasAllW_cons hsh
 obtain rfl:=hasAllW_nil h2
 obtain ⟨xs,rfl,h3⟩:=hasW_list h1
 obtain ⟨ns,rfl⟩:=items_int h3
 have hlen:ns.length≤n:=by
  unfold OpenLaw.pre at hc
  have h4:(WTm.not (.lt (.lit (.int (n:Int))) (.len (.arg 0)))).holds [] { args:=[.list (ns.map .int)] }=true:=by
   have h4:=(holds_andW hc).1
   rw [hn] at h4
   exact h4
  have h5:=condW_of h4 (w_not (w_lt w_lit (w_len_list (w_arg rfl))))
  rw [R6] at h5
  refine Nat.le_of_not_lt λq=>?_
  have q':(n:Int) < ((ns.length:Nat):Int):=by omega
  first
   | (rw [decide_eq_true q'] at h5;exact absurd h5 (by decide))
   | (simp at h5;omega)
 cases hwl with
 | cons w1 w2 =>
  cases w2
  cases w1 with
  | list ho hall=>exact ⟨_,_,ns,rfl,rfl,ho,oN ns _ hall,hlen⟩
theorem Ce (l:OpenLaw) (args:List WData):l.row.toRowW.claim.post args (.bool true) args=true :=
 postW_of (r:=l.row.toRowW) (X:=(true == true))
  (show WShape.has [] (.bool true) .bool=true by first | rfl | decide | simp [WShape.has,WShape.arms,WShape.armsAll])
  (show (WTm.eq .res (.lit (.bool true))).value [] { args:=args,res:=some (.bool true),after:=args }=some (.bool (true == true)) from w_eq_bool (w_res rfl) w_lit) rfl
theorem vR {l:OpenLaw} {n:Nat} {q:Program} {loose:List Str} {XP:(Str→Option Value)→Heap→Prop} {YP:World→Heap→Prop} {d:DefRec}
  (hn:l.most=some n) (hdf:d.params.defaults=[])
  (call:∀(w:World) (s₀ s₁:Shared) (mg mb:Str→Option Value) (fa:Addr) (o:Obj) (pm cd doc:Value) (a:Addr) (vs:List Value) (ns:List Int),
   Ground q loose [] XP w s₀ mg mb s₁.heap→YP w s₁.heap →
   s₁.heap.get? fa=some o→o.data=.func (docDef d.name d.params d.body d.scope pm cd doc)→s₁.heap.CodeRec cd d.name→mg d.name=some (.ref fa) →
   s₁.heap.get? a=some { cls:=.type "list",data:=.seq vs.toArray }→IntsAre vs ns→ns.length≤n→s₁.gens=#[] →
   codeAny (model l.prog w) callerA (.call (.ref fa) ⟨[.ref a],[]⟩) (λr s'=>r=.ok (.ret (.bool true))∧OldK s₁.heap s'.heap∧s'.os=s₁.os∧AllBare s'.gens) s₁) :
  WalkO q loose XP YP l.row.toRowW d [] (λf vs=>PySem.call f vs):=by
 intro w s₀ s₁ mg mb G Y fa o pm cd doc dV kV ho hd hcd hD hmg hg args vals as hpre hlay hrd hwl hlo
 obtain rfl:dV=.none:=Dflts.none hD hdf
 obtain rfl:kV=.none:=Dflts.noKw hD
 obtain ⟨a,vs,ns,rfl,rfl,hobj,hints,hlen⟩:=Cm hn hpre hwl
 refine enter_call (codeAny_mono (call w s₀ s₁ mg mb fa o pm cd doc a vs ns G Y ho (fd_plain hd) hcd hmg hobj hints hlen hg) λr s' hq=>?_)
 obtain ⟨rfl,h2,h3,h4⟩:=hq
 exact ⟨.inl ⟨.bool true,.bool true,[],rfl,λ_=>rfl,.bool true,Ce l _,λ_=>⟨List.Pairwise.nil,λ_ hm=>(nomatch hm)⟩⟩,h2,h3,h4⟩
section
variable {prog:Program} {w:World} {A:Around} {E:Value→Shared→Prop} {s:Shared} {K:Frag}
end
end Att
namespace L2
open PySem PySem.Spec PyProof.Rows
theorem tR:∀{vs:List Value} {ns:List Int},IntsAre vs ns→Vals (ns.map V.int) vs
 | _,_,.nil=>.nil
 | _,_,.cons n t h=>.cons ⟨t,rfl⟩ (tR h)
end L2
namespace L2
open PySem PySem.Spec PyProof.Rows
abbrev CN {K:PySem.W.Frag} {h:Heap} (_:K.In h):PySem.W.Frag:=K
end L2
namespace L2
open PySem PySem.Spec PyProof.Rows
def inClass (s:Stmt) (j:Nat):Stmt:=match s with
 | .ClassDef _ _ _ body _ _ _ _ _ _ _=>body.getD j (.Pass ⟨0,0,0,0⟩)
 | _=>.Pass ⟨0,0,0,0⟩
def di (s:Stmt):Arguments:=match s with
 | .FunctionDef _ a _ _ _ _ _ _ _ _=>a
 | _=>{ posonlyargs:=[],args:=[],vararg:=none,kwonlyargs:=[],kw_defaults:=[],kwarg:=none,defaults:=[] }
def bR (s:Stmt):List Stmt:=match s with
 | .FunctionDef _ _ b _ _ _ _ _ _ _=>b
 | _=>[]
def aj (s:Stmt):Scope:=match s with
 | .FunctionDef _ _ _ _ _ _ sc _ _ _=>sc
 | _=>{ kind:=.function,names:=[],isGenerator:=false,isCoroutine:=false }
abbrev pE:oV:=λ_ _ _ _ _ _=>False
abbrev E0:XK:=λ_ _ _=>False
theorem Nt {X:Cx}:Passes pE X E0:=λ_ _ _ _ _ _ _ h=>h.elim
structure cm (K:PySem.W.Frag) (x qual:Str) (st:Stmt) (f:Addr) (fd:FuncData):Prop where
 ex:∃(oc:Value) (od:Option Addr) (kV doc pm:Value) (an:Option Addr) (cdv ct:Value) (osl:Array (Option Value)),
  fd=PySem.W.fnOf x qual (di st) (bR st) (aj st) .none kV doc pm an cdv ct∧K.lookup f=some ⟨oc,od,.func fd,osl⟩∧PySem.W.codeIn K cdv qual=true
 kp:PySem.W.keepIn K (.ref f)=true
section
variable {P:Program} {w:World} {K:PySem.W.Frag} {mg:Str→Option Value} {base:Heap}
theorem cm.ok {x qual:Str} {st:Stmt} {f:Addr} {fd:FuncData} {N ps:List Str} {k:Nat} {sp:Sp} (F:cm K x qual st f fd) (S:av N ps (aj st)) (len:∀vs H Q E,sp vs H Q E→vs.length=ps.length)
  (hbody:∀(cdv:Value) (A:Around) (outer:List Env) (s:Shared) (H:Hp) (vs:List V) (Q:VK) (E:XK),bK k (A.deeper (envOfC qual (aj st) s.heap.objs.size f cdv))→sp vs H Q E →
   ∃t,rj (ug pE P w K mg base N qual (aj st) f cdv A outer s H E).Kt (bR st) t∧t { nx:=λ_ H'=>Q .non H',rt:=Q } (start N vs) H):aJ P w K mg base pE (k + 1) f fd ps sp:=by
 obtain ⟨oc,od,kV,doc,pm,an,cdv,ct,osl,rfl,lk,hcd⟩:=F.ex
 refine Dk lk hcd S len λA outer s H vs Q E hr hsp=>?_
 obtain ⟨t,h,q⟩:=hbody cdv A outer s H vs Q E hr hsp
 exact ⟨t,h.Kt,q⟩
theorem cm.binds {x qual:Str} {st:Stmt} {f:Addr} {fd:FuncData} {ps:List Str} (F:cm K x qual st f fd)
  (h:∀(kV doc pm:Value) (an:Option Addr) (cdv ct:Value) (us:List Value),us.length=ps.length→bindArgs (PySem.W.fnOf x qual (di st) (bR st) (aj st) .none kV doc pm an cdv ct) ⟨us,[]⟩=pure (ps.zip us)):Binds K fd ps []:=by
 obtain ⟨oc,od,kV,doc,pm,an,cdv,ct,osl,rfl,lk,hcd⟩:=F.ex
 exact .all (h kV doc pm an cdv ct)
theorem yr {x qual:Str} {st:Stmt} {f:Addr} {oc:Value} {od an:Option Addr} {osl:Array (Option Value)} {kV doc pm cdv ct:Value} (l:K.lookup f=some ⟨oc,od,.func (PySem.W.fnOf x qual (di st) (bR st) (aj st) .none kV doc pm an cdv ct),osl⟩)
  (c:PySem.W.codeIn K cdv qual=true) (k:PySem.W.keepIn K (.ref f)=true):cm K x qual st f (PySem.W.fnOf x qual (di st) (bR st) (aj st) .none kV doc pm an cdv ct):=⟨⟨oc,od,kV,doc,pm,an,cdv,ct,osl,rfl,l,c⟩,k⟩
end
theorem ba {n:Nat} (h:n≤1000):n < sizeLine:=Tb h (by decide)
section
variable {X:Cx}
theorem pv (i:Nat) {x:Str} {pos:Pos} (hN:X.N[i]?=some x:=by rfl) (hv:sL X.env.scope x:=by first | exact Or.inl rfl | exact Or.inr (Or.inl rfl) | exact Or.inr (Or.inr rfl)) (hd:(x == ("__debug__":Str))=false:=by decide)
  (hcd:(x == ("__classdict__":Str))=false:=by decide):PE X (.Name x pos) (zu i):=yV hN hv hd hcd
end
theorem DD {c A B:Prop} [Decidable c] (h1:c→A) (h2:¬ c→B):if c then A else B:=by
 by_cases h:c
 ·rw [if_pos h]
  exact h1 h
 ·rw [if_neg h]
  exact h2 h
def bq (H H':Hp):Prop:=∀b o,H b=some o→H' b=some o
theorem bq.trans {H H1 H2:Hp} (a:bq H H1) (b:bq H1 H2):bq H H2:=λc o h=>b c o (a c o h)
theorem bq.free {H H':Hp} (e:bq H H') {l:Addr} (h:H' l=Option.none):H l=Option.none:=by
 cases q:H l with
 | none=>rfl
 | some o =>
  rw [e l o q] at h
  cases h
theorem bq.seq {K:PySem.W.Frag} {H H':Hp} {a:Addr} {xs:List V} (e:bq H H') (h:cP K H a xs):cP K H' a xs:=by
 rcases h with (h | ⟨o,h⟩) | h
 ·exact .inl (.inl (e _ _ h))
 ·exact .inl (.inr ⟨o,e _ _ h⟩)
 ·exact .inr h
end L2
namespace Ov
theorem vZ {a b:Int} (h:b≠0):Int.gcd b (a % b)=Int.gcd a b:=by
 have e:a=b * (a / b) + a % b:=(Int.mul_ediv_add_emod a b).symm
 have d1:((Int.gcd b (a % b):Nat):Int) ∣ a:=by
  rw [e]
  exact Int.dvd_add (Int.dvd_trans (Int.gcd_dvd_left ..) (Int.dvd_mul_right ..)) (by rw [← e];exact Int.gcd_dvd_right ..)
 have d2:((Int.gcd a b:Nat):Int) ∣ a % b:=by
  have e2:a % b=a - b * (a / b):=by omega
  rw [e2]
  exact Int.dvd_sub (Int.gcd_dvd_left ..) (Int.dvd_trans (Int.gcd_dvd_right ..) (Int.dvd_mul_right ..))
 exact Nat.dvd_antisymm (Int.dvd_gcd d1 (Int.gcd_dvd_left ..)) (Int.dvd_gcd (Int.gcd_dvd_right ..) d2)
theorem zW {a:Int} (h:0≤a):((Int.gcd a 0:Nat):Int)=a:=by
 rw [Int.gcd_zero_right];omega
theorem Gq (a b:Int):Int.gcd (if a < 0 then -a else a) (if b < 0 then -b else b)=Int.gcd a b:=by
 split <;> split <;> simp [Int.gcd_neg,Int.neg_gcd]
theorem Dp (a b:Int):Int.gcd (if a < 0 then -a else a) b=Int.gcd a b:=by
 split <;> simp [Int.gcd_neg,Int.neg_gcd]
theorem zX {t b:Int} (h:b≠0):0 < ((Int.gcd t b:Nat):Int):=by
 have:0 < Int.gcd t b:=Int.gcd_pos_of_ne_zero_right t h
 omega
theorem JY {t b:Int} (h:b≠0):Int.gcd t b≤b.natAbs:=Nat.le_of_dvd (by omega) (Int.ofNat_dvd.mp (by rw [Int.dvd_natAbs];exact Int.gcd_dvd_right ..))
theorem uA {t b:Int} (h:0 < b):t.fdiv ((Int.gcd t b:Nat):Int)=(Rat.divInt t b).num:=by
 rw [Rat.num_divInt,Int.sign_eq_one_of_pos h,Int.one_mul,Int.gcd_comm b t,Int.fdiv_eq_ediv_of_nonneg _ (Int.natCast_nonneg _)]
theorem den_pos {t b:Int} (h:0 < b):b.fdiv ((Int.gcd t b:Nat):Int)=((Rat.divInt t b).den:Int):=by
 rw [Rat.den_divInt,if_neg (by omega),Int.gcd_comm b t,Int.fdiv_eq_ediv_of_nonneg _ (Int.natCast_nonneg _)]
 rw [Int.natCast_ediv]
 congr 1
 omega
theorem Ah {t b:Int} (h:b < 0):t.fdiv (-((Int.gcd t b:Nat):Int))=(Rat.divInt t b).num:=by
 have e:t.fdiv (-((Int.gcd t b:Nat):Int))=(-t).fdiv ((Int.gcd t b:Nat):Int):=by
  have:=Int.neg_fdiv_neg (a:=-t) (b:=((Int.gcd t b:Nat):Int))
  rw [← this];simp
 rw [e,Rat.num_divInt,Int.sign_eq_neg_one_of_neg h,Int.gcd_comm b t,Int.fdiv_eq_ediv_of_nonneg _ (Int.natCast_nonneg _)]
 congr 1
 omega
theorem Ga {t b:Int} (h:b < 0):b.fdiv (-((Int.gcd t b:Nat):Int))=((Rat.divInt t b).den:Int):=by
 have e:b.fdiv (-((Int.gcd t b:Nat):Int))=(-b).fdiv ((Int.gcd t b:Nat):Int):=by
  have:=Int.neg_fdiv_neg (a:=-b) (b:=((Int.gcd t b:Nat):Int))
  rw [← this];simp
 rw [e,Rat.den_divInt,if_neg (by omega),Int.gcd_comm b t,Int.fdiv_eq_ediv_of_nonneg _ (Int.natCast_nonneg _)]
 rw [Int.natCast_ediv]
 congr 1
 omega
theorem Ag (t b:Int):(Rat.divInt t b).num.natAbs≤t.natAbs:=by
 rcases Int.lt_trichotomy b 0 with h | h | h
 ·rw [← Ah h]
  exact Int.natAbs_fdiv_le_natAbs ..
 ·subst h;simp
 ·rw [← uA h,Int.fdiv_eq_ediv_of_nonneg _ (Int.natCast_nonneg _)]
  exact Int.natAbs_ediv_le_natAbs ..
theorem uh {t b:Int} (h:b≠0):(((Rat.divInt t b).den:Int)).natAbs≤b.natAbs:=by
 rw [Rat.den_divInt,if_neg h]
 exact Nat.div_le_self ..
theorem kC (p:Rat):Rat.divInt p.num p.den=p:=Rat.num_divInt_den p
theorem eK (p:Rat):(p.den:Int)≠0:=by have:=p.den_pos;omega
theorem eJ (p:Rat):(0:Int) < p.den:=by have:=p.den_pos;omega
theorem add_eq (p q:Rat):Rat.divInt (p.num * q.den + q.num * p.den) (p.den * q.den)=p + q:=by
 rw [← Rat.divInt_add_divInt _ _ (eK p) (eK q),kC,kC]
theorem sub_eq (p q:Rat):Rat.divInt (p.num * q.den - q.num * p.den) (p.den * q.den)=p - q:=by
 rw [← Rat.divInt_sub_divInt _ _ (eK p) (eK q),kC,kC]
theorem mul_eq (p:Rat) (m:Int):Rat.divInt (p.num * m) p.den=p * m:=by
 have:=Rat.divInt_mul_divInt p.num m (d₁:=p.den) (d₂:=1)
 rw [kC,Int.mul_one] at this
 rw [← this,Rat.divInt_eq_div]
 congr 1
 grind
theorem cast_eq (p:Rat):(p.num:Rat)=p * (p.den:Int):=by
 have h:((p.den:Int):Rat)≠0:=by
  intro e
  exact eK p (by exact_mod_cast e)
 have e:=kC p
 rw [Rat.divInt_eq_div] at e
 grind
theorem dJ (p:Rat):((p.den:Int):Rat)≠0:=λe=>eK p (by exact_mod_cast e)
theorem Mq (b p m:Rat) (v:Int):Rat.divInt (p.num * (m.den * b.den) + v * (m.num * b.den - b.num * m.den) * p.den) (p.den * (m.den * b.den))=p + (m - b) * v:=by
 have h:=dJ p
 have g:=dJ b
 have k:=dJ m
 simp only [Rat.divInt_eq_div,Rat.intCast_add,Rat.intCast_sub,Rat.intCast_mul,cast_eq p,cast_eq b,cast_eq m]
 generalize ((p.den:Int):Rat)=d at h ⊢
 generalize ((b.den:Int):Rat)=e at g ⊢
 generalize ((m.den:Int):Rat)=f at k ⊢
 generalize (v:Rat)=v
 grind
theorem oq {n:Int} (h:n≠0):(n:Rat)≠0:=λe=>h (by exact_mod_cast e)
theorem K6 (g:Rat) (n:Int) (h:n≠0):Rat.divInt g.num (g.den * n)=g / n:=by
 have k:=dJ g
 have l:=oq h
 simp only [Rat.divInt_eq_div,Rat.intCast_mul,cast_eq g]
 generalize ((g.den:Int):Rat)=d at k ⊢
 generalize (n:Rat)=n at l ⊢
 grind
end Ov
namespace Ov
open PySem PySem.Spec PyProof.Rows L2
structure Bd (n:Nat) (x:Int):Prop where
 lt:x.natAbs < 2 ^ n
theorem Bd.bits {n:Nat} {x:Int} (h:Bd n x):Builtin.Int.intBits x≤n:=intBits_le_iff.mpr h.lt
theorem Bd.of {n:Nat} {x:Int} (h:Builtin.Int.intBits x≤n):Bd n x:=⟨intBits_le_iff.mp h⟩
theorem Bd.mono {m n:Nat} {x:Int} (h:Bd m x) (hmn:m≤n):Bd n x:=.of (Su h.bits hmn)
theorem Bd.neg {n:Nat} {x:Int} (h:Bd n x):Bd n (-x):=.of (intBits_neg_le h.bits)
theorem Bd.add {m n k:Nat} {x y:Int} (h:Bd m x) (g:Bd n y) (hk:max m n + 1≤k:=by decide):Bd k (x + y):=(Bd.of (intBits_add_le h.bits g.bits)).mono hk
theorem Bd.sub {m n k:Nat} {x y:Int} (h:Bd m x) (g:Bd n y) (hk:max m n + 1≤k:=by decide):Bd k (x - y):=(Bd.of (intBits_sub_le h.bits g.bits)).mono hk
theorem Bd.mul {m n k:Nat} {x y:Int} (h:Bd m x) (g:Bd n y) (hk:m + n≤k:=by decide):Bd k (x * y):=(Bd.of (intBits_mul_le h.bits g.bits)).mono hk
theorem Bd.le {n:Nat} {x y:Int} (g:Bd n y) (h:x.natAbs≤y.natAbs):Bd n x:=⟨Tb h g.lt⟩
theorem Bd.small {x:Int} (h1:-(2 ^ 64) < x) (h2:x < 2 ^ 64):Bd 64 x:=.of (intBits_le_64 h1 h2)
theorem Bd.log {n:Nat} {x:Int} (h:Bd n x) (hn:n≤9000) (h0:x≠0):x.natAbs.log2 < 9000 :=
 Sn ((Nat.log2_lt (by omega)).mpr h.lt) hn
section
variable {X:Cx}
def CM (i j:Int):Prop:=∃m n,Bd m i∧Bd n j∧m + n≤134217728
theorem CM.of {m n:Nat} {i j:Int} (h:Bd m i) (g:Bd n j) (hk:m + n≤134217728:=by decide):CM i j:=⟨m,n,h,g,hk⟩
theorem cK:er X (binaryOp .Mult) (rI CM λi j=>.int (i * j)):=OR λ_ _ _ _ _ _ _ hc q=>by
 obtain ⟨m,n,h,g,hk⟩:=hc
 exact mul_int q (IntMulOk.of_le h.bits g.bits hk)
def CQ (_ j:Int):Prop:=j≠0∧Bd 9000 j
theorem fH:er X (binaryOp .FloorDiv) (rI CQ λi j=>.int (i.fdiv j)):=OR λ_ _ _ _ _ _ _ hc q =>
 floordiv_int hc.1 q (.inl (PyProof.noPylong_of_log2 (hc.2.log (R' _) hc.1)))
def R1 (f:Bool→Bool):R2:=λx y H Q=>∃(p q:Addr) (a b c d:Int),x=.ref p∧y=.ref q∧H p=some (.tup [.int a,.int b])∧H q=some (.tup [.int c,.int d])∧Q (.bl (f (decide (a=c∧b=d)))) H
def Od (t u:TS):TS:=λD σ H=>∃M:L2.St→Hp→Prop,t { D with nx:=M } σ H∧∀σ' H',M σ' H'→u D σ' H'
theorem Ho {st:Stmt} {rest:List Stmt} {t u:TS} (h1:PS X st t) (h2:rj X rest u):rj X (st :: rest) (Od t u):=by
 intro pins s σ H D I h
 obtain ⟨M,h,k⟩:=h
 refine wpAny_execs_cons (cn (h1 pins s σ H { D with nx:=M } I h) λf s1 q=>?_)
 cases f with
 | next =>
  obtain ⟨σ',H',I',q⟩:=q
  exact h2 pins s1 σ' H' D I' (k _ _ q)
 | ret v=>exact q
 | brk=>exact q
 | cont=>exact q
end
section
variable {X:Cx}
def Jh:R2:=λx y H Q=>∃p xs i v,x=.ref p∧y=.int i∧H p=some (.lst xs)∧cV xs i=some v∧Q v H
def NU:R2:=λx y H Q=>∃p xs i v,x=.ref p∧y=.int i∧H p=some (.tup xs)∧cV xs i=some v∧Q v H
theorem fC:og X Jh:=λvalue slice pins s σ H x y v u Q I rx ry ⟨p,xs,i,z,e1,e2,h,e3,q⟩ hs =>
 uq value slice pins s σ H x y v u Q I rx ry ⟨p,xs,i,z,e1,e2,cP.of h,e3,q⟩ hs
end
theorem l5 {α:Type} (x:α) (xs:List α):cV (x :: xs) 0=some x:=aY (j:=0) rfl
theorem l6 {α:Type} (x y:α) (xs:List α):cV (x :: y :: xs) 1=some y:=aY (j:=1) rfl
theorem sM {α:Type} (x y z:α) (xs:List α):cV (x :: y :: z :: xs) 2=some z:=aY (j:=2) rfl
theorem C5 {α:Type} (x y z u:α) (xs:List α):cV (x :: y :: z :: u :: xs) 3=some u:=aY (j:=3) rfl
theorem HN (i j:Int):ER (.int i) (.int j)=true:=rfl
theorem HM (i j:Bool):ER (.bl i) (.bl j)=true:=rfl
theorem HP (i j:Str):ER (.str i) (.str j)=true:=rfl
def rh (P:Program) (w:World) (K:PySem.W.Frag) (mg:Str→Option Value) (base:Heap) (k:Nat) (x:Str) (ps:List Str) (sp:Sp):Prop :=
 ∃f fd,aJ P w K mg base pE k f fd ps sp∧Binds K fd ps []∧PySem.W.keepIn K (.ref f)=true∧mg x=some (.ref f)
theorem KS {X:Cx} {k k':Nat} {x:Str} {ps:List Str} {sp:Sp} {p pos:Pos} {e:Expr} {es:List Expr} {t:TA} (C:rh X.prog X.w X.K X.mg X.base k x ps sp) (hr:bK k' X.A) (hk:k≤k') (hg:Gl X x) (ha:PA X (e :: es) t)
  (hdb:(x == ("__debug__":Str))=false:=by decide) (he:starEach (e :: es) X.env=(false,eval e X.env) :: starEach es X.env:=by rfl) (hpl:(backTo pos (starEach es X.env)).any (·.1)=false:=by rfl) :
  PE X (.Call (.Name x p) (e :: es) [] pos) (ra sp [] E0 t):=by
 obtain ⟨f,fd,F,b,kp,m⟩:=C
 exact Al F (hr.mono hk) hg m kp b .nil Nt ha hdb he hpl
theorem dT {N P:List Str} {sc:Scope} (a:sc.kind=.function:=by rfl) (b:sc.isCoroutine=false:=by rfl) (c:sc.isGenerator=false:=by rfl) (d:N.Nodup:=by decide +kernel) (e:N.take P.length=P:=by rfl) (f:∀x∈P,sc.names.lookup x=some .local∨sc.names.lookup x=some .cell:=by decide +kernel) (g:∀y∈sc.names,y.2≠.free:=by decide +kernel):av N P sc:=⟨a,b,c,d,e,f,g⟩
def Def (K:PySem.W.Frag) (mg:Str→Option Value) (x:Str) (st:Stmt):Prop:=∃f fd,cm K x x st f fd∧mg x=some (.ref f)
theorem JS {K:PySem.W.Frag} {h:Heap} {mg:Str→Option Value} {x:Str} {st:Stmt} (X:K.In h) (G:h.Ns mainGlobals mg) {f:Addr} {od an:Option Addr} {sl:Array (Option Value)} {oc kV dc pm cd ct:Value}
  (a:PySem.W.nsIn K mainGlobals x=some (some (.ref f))) (l:K.lookup f=some ⟨oc,od,.func (PySem.W.fnOf x x (di st) (bR st) (aj st) .none kV dc pm an cd ct),sl⟩) (c:PySem.W.codeIn K cd x=true) (k:PySem.W.keepIn K (.ref f)=true) :
  Def K mg x st:=⟨f,_,yr l c k,PySem.W.mg_of X G a⟩
theorem Def.C8 {P:Program} {w:World} {K:PySem.W.Frag} {mg:Str→Option Value} {base:Heap} {x:Str} {st:Stmt} {k:Nat} {ps:List Str} {sp:Sp} (D:Def K mg x st)
  (h:∀f fd,cm K x x st f fd→aJ P w K mg base pE k f fd ps sp)
  (hb:∀(kV doc pm:Value) (an:Option Addr) (cdv ct:Value) (us:List Value),us.length=ps.length→bindArgs (PySem.W.fnOf x x (di st) (bR st) (aj st) .none kV doc pm an cdv ct) ⟨us,[]⟩=pure (ps.zip us)) :
  rh P w K mg base k x ps sp:=by
 obtain ⟨f,fd,F,m⟩:=D
 exact ⟨f,fd,h f fd F,F.binds hb,F.kp,m⟩
theorem Kh {K:PySem.W.Frag} {mg:Str→Option Value} {st:Stmt} {fa:Addr} {p:Str} (D:Def K mg "law" st) (hfa:mg "law"=some (.ref fa))
  (hb:∀(kV doc pm:Value) (an:Option Addr) (cdv ct:Value) (u:Value),bindArgs (PySem.W.fnOf "law" "law" (di st) (bR st) (aj st) .none kV doc pm an cdv ct) ⟨[u],[]⟩=pure [(p,u)]) :
  ∃fd,cm K "law" "law" st fa fd∧∀(s:Shared) (u:Value),BindsTo s fd ⟨[u],[]⟩ [(p,u)]:=by
 obtain ⟨f,fd,F,m⟩:=D
 have e:=m.symm.trans hfa
 cases e
 obtain ⟨oc,od,kV,doc,pm,an,cdv,ct,osl,rfl,lk,hcd⟩:=F.ex
 exact ⟨_,F,λs u=>.of_eq (hb kV doc pm an cdv ct u)⟩
structure Cz (mg:Str→Option Value):Prop where
 abs:mg "abs"=none
 len:mg "len"=none
 isinstance:mg "isinstance"=none
 range:mg "range"=none
 int:mg "int"=none
 bool:mg "bool"=none
 tuple:mg "tuple"=none
 list:mg "list"=none
 sorted:mg "sorted"=none
 all:mg "all"=none
theorem _root_.L2.bq.tup {K:PySem.W.Frag} {H H':Hp} {a:Addr} {xs:List V} (e:bq H H') (h:fv K H a xs):fv K H' a xs:=by
 rcases h with (h | ⟨o,h⟩) | h
 ·exact .inl (.inl (e _ _ h))
 ·exact .inl (.inr ⟨o,e _ _ h⟩)
 ·exact .inr h
theorem _root_.L2.bq.new {H:Hp} {p:Addr} (h:H p=none) (o:HO):bq H (upd H p o):=λb u q=>by rw [aF (bz q h)];exact q
theorem _root_.L2.bq.L6 {H H':Hp} {p:Addr} (h:H p=none) (e:bq H H') (o:HO):bq H (upd H' p o):=λb u q=>by rw [aF (bz q h)];exact e b u q
def LQ (K:PySem.W.Frag) (H:Hp) (a:Addr) (q:Rat):Prop:=fv K H a [.int q.num,.int q.den]
structure Sz (n:Nat) (q:Rat):Prop where
 num:Bd n q.num
 den:Bd n q.den
theorem Sz.mono {m n:Nat} {q:Rat} (h:Sz m q) (k:m≤n):Sz n q:=⟨h.num.mono k,h.den.mono k⟩
theorem HD (x y:Rat):(x.num=y.num∧(x.den:Int)=(y.den:Int))=(x=y):=propext
 ⟨λh=>Rat.ext h.1 (by have:=h.2;omega),λh=>by subst h;exact ⟨rfl,rfl⟩⟩
theorem jI (c:Str→NameKind→Bool):∀(names:List (Str × NameKind)) (y:Str),
  (names.map λ(x:Str × NameKind)=>if c x.1 x.2 then (x.1,NameKind.cell) else (x.1,x.2)).lookup y=(names.lookup y).map λk=>if c y k then NameKind.cell else k
 | [],_=>rfl
 | (n,k) :: r,y=>by
  have ih:=jI c r y
  cases hy:y == n with
  | true =>
   have e:y=n:=by simpa using hy
   subst e
   by_cases h:c y k=true <;> simp [SI,h]
  | false =>
   by_cases h:c n k=true <;> simp [SI,h,hy,ih]
theorem jV (sc:Scope) (env:Env) (y:Str):(relabel sc env).names.lookup y=(sc.names.lookup y).map λk=>if (k == .free && env.scope.kind == .function && env.kindOf y == some .cell) then NameKind.cell else k:=by
 have h:=jI (λn k=>k == .free && env.scope.kind == .function && env.kindOf n == some .cell) sc.names y
 exact h
theorem lh {env:Env}:∀(names:List (Str × NameKind)) (acc:List (Str × Addr)),(∀y∈names,y.2=.free→∃c,env.cells.lookup y.1=some c)→(∀y c,acc.lookup y=some c→env.cells.lookup y=some c) →
  ∃cl,(forIn names acc λ(x:Str × NameKind) (r:List (Str × Addr))=>match x with
   | (name,kind)=>if (kind == NameKind.free)=true then (do let c ← cellOf env name;pure (ForInStep.yield ((name,c) :: r))) else (pure (ForInStep.yield r):Sem (ForInStep (List (Str × Addr)))))=(pure cl:Sem (List (Str × Addr))) ∧
   (∀y c,cl.lookup y=some c→env.cells.lookup y=some c)∧(∀y c,acc.lookup y=some c→∃c,cl.lookup y=some c)∧∀y∈names,y.2=.free→∃c,cl.lookup y.1=some c
 | [],acc,_,ha=>⟨acc,rfl,ha,λy c e=>⟨c,e⟩,λy hy=>by cases hy⟩
 | (n,k) :: r,acc,hn,ha=>by
  by_cases hk:k=.free
  ·subst hk
   obtain ⟨c,hc⟩:=hn (n,.free) SD rfl
   obtain ⟨cl,e,h1,h2,h3⟩:=lh r ((n,c) :: acc) (λy hy=>hn y (Sm _ hy)) (λy d e=>by
    rw [SI] at e
    cases hy:y == n with
    | true =>
     rw [hy] at e
     have e1:y=n:=by simpa using hy
     subst e1
     rw [hc]
     exact e
    | false=>rw [hy] at e;exact ha y d e)
   have self:∃d,cl.lookup n=some d:=h2 n c (by simp [SI])
   refine ⟨cl,?_,h1,λy d q=>?_,λy hy hf=>?_⟩
   ·rw [UO]
    have ec:cellOf env n=pure c:=by unfold cellOf;rw [hc]
    simp only [beq_self_eq_true,if_true,ec,pure_bind]
    exact e
   ·by_cases hy:y=n
    ·subst hy;exact self
    ·exact h2 y d (by rw [List.lookup_cons];have:(y == n)=false:=by simpa using hy
                      rw [this];exact q)
   ·rcases Sf.mp hy with rfl | hy
    ·exact self
    ·exact h3 y hy hf
  ·obtain ⟨cl,e,h1,h2,h3⟩:=lh r acc (λy hy=>hn y (Sm _ hy)) ha
   refine ⟨cl,?_,h1,h2,λy hy hf=>?_⟩
   ·rw [UO]
    have hb:(k == NameKind.free)=false:=by simpa using hk
    simp only [hb,Ss,if_false,pure_bind]
    exact e
   ·rcases Sf.mp hy with rfl | hy
    ·exact absurd hf hk
    ·exact h3 y hy hf
theorem k_ {sc:Scope} {env:Env} (h:∀y∈sc.names,y.2=.free→∃c,env.cells.lookup y.1=some c) :
  ∃cl,closureFor sc env=pure cl∧(∀y c,cl.lookup y=some c→env.cells.lookup y=some c)∧∀y∈sc.names,y.2=.free→∃c,cl.lookup y.1=some c:=by
 obtain ⟨cl,e,h1,_,h3⟩:=lh sc.names [] h (λy c z=>by cases z)
 refine ⟨cl,?_,h1,h3⟩
 unfold closureFor
 have e':=congrArg (λm=>m >>= λr=>(pure r:Sem (List (Str × Addr)))) e
 simp only [pure_bind] at e'
 exact e'
abbrev de (sc osc:Scope) (N:List Str) (x:Str) (ks:List (Str × Nat)):Prop :=
 sc.kind=.function∧(∀y∈sc.names,y.2≠.cell)∧sc.names.lookup x=some .local∧(∀y∈sc.names,y.2=.local→sc.names.lookup y.1=some .local) ∧
 (∀y∈sc.names,y.2=.free→osc.names.lookup y.1=some .cell)∧(∀p∈ks,N[p.2]?=some p.1∧sc.names.lookup p.1=some .free)∧(x :: ks.map (·.1)).Nodup
def f7 (X:Cx) (sc:Scope) (cl:List (Str × Addr)) (C:Addr) (x:Str) (ks:List (Str × Nat)) (s₀:Shared) (H₀:Hp) (fp:List Addr) (pins:List (Addr × Obj)):Cx :=
 { X with N:=x :: ks.map (·.1),s₀:=s₀,H₀:=H₀,env:=compEnvC sc cl C X.env,outer:=X.stack,ex:=fp,fn:=λ_=>false,pn:=X.pn ++ pins,xe:=λ_ _=>False }
def dO (ks:List (Str × Nat)) (σ:L2.St):L2.St:=ks.map λp=>(σ[p.2]?).getD none
section
variable {X:Cx} {pins:List (Addr × Obj)} {σ:L2.St} {H:Hp} {s:Shared} {sc:Scope} {cl:List (Str × Addr)} {x:Str} {ks:List (Str × Nat)} {fp:List Addr}
theorem get_map {α β:Type} (f:α→β) (l:List α) (i:Nat):(l.map f)[i]?=(l[i]?).map f:=Sb
theorem wa (I:Inv X pins σ H s) (ok:de sc X.env.scope X.N x ks) (h1:∀y c,cl.lookup y=some c→X.env.cells.lookup y=some c) (h2:∀y∈sc.names,y.2=.free→∃c,cl.lookup y.1=some c)
  (hfp:∀b∈fp,jt X pins H b∧∃o,s.heap.get? b=some o) {h4:Heap} {m:Str→Option Value} {t':Nat} (hn:h4.Ns s.heap.objs.size m) (kp:∀b o,s.heap.get? b=some o→h4.get? b=some o) :
  Inv (f7 X sc cl s.heap.objs.size x ks s H fp pins) [] (none :: dO ks σ) H { s with heap:=h4,toks:=t' }:=by
 obtain ⟨kd,nc,lx,ll,fr,kk,nd⟩:=ok
 have fresh:H s.heap.objs.size=none:=I.hok.fresh (R' _)
 have lt:∀b o,s.heap.get? b=some o→b≠s.heap.objs.size:=λb o e=>Sw (Heap.lt_size e)
 have cellLt:∀y c,X.env.cells.lookup y=some c→c≠s.heap.objs.size:=λy c e=>by
  obtain ⟨v,o,ho,_⟩:=I.cell y c e
  exact lt c o ho
 have sub:∀b∈jj X.stack,b=X.env.locals∨b∈X.fs:=λb hb=>Sf.mp (I.oa b hb)
 have kof:∀y,(compEnvC sc cl s.heap.objs.size X.env).kindOf y=(relabel sc X.env).names.lookup y:=λy=>rfl
 have ok':(f7 X sc cl s.heap.objs.size x ks s H fp pins).Ok:={
  mod:=I.ok.mod
  kind:=kd
  glob:=I.ok.glob
  blt:=I.ok.blt
  above:=R' _
  inj:=λy z c e1 e2=>I.ok.inj y z c (h1 y c e1) (h1 z c e2)
  has:=λy hy=>by
   rw [show (f7 X sc cl s.heap.objs.size x ks s H fp pins).env.kindOf y=_ from kof y,jV] at hy
   cases e:sc.names.lookup y with
   | none=>rw [e] at hy;rcases hy with z | z <;> cases z
   | some k =>
    have hm:(y,k)∈sc.names:=by
     have:=Ug.mp e
     obtain ⟨l1,l2,q,_⟩:=this
     rw [q]
     simp
    by_cases hk:k=.free
    ·subst hk;exact h2 _ hm rfl
    ·have hb:(k == NameKind.free)=false:=by simpa using hk
     rw [e] at hy
     simp only [UP,hb,Bool.false_and,Ss,if_false] at hy
     rcases hy with z | z
     ·exact absurd (Option.some.inj z) (nc _ hm)
     ·exact absurd (Option.some.inj z) hk
  cab:=λ_ _ z=>by cases z
  hd:=λz=>I.ok.hd z
  frames:=I.ok.frames
  stk:=.inl rfl
  exf:=λb hb=>⟨lt b _ (hfp b hb).2.choose_spec,λy c e=>(hfp b hb).1.2.2.2.2.1 y c (h1 y c e)⟩
  bs:=λb o e=>I.bs b o e
  bsz:=Su I.ok.bsz I.sz
  noex:=λb o e hb=>by
   rcases (hfp b hb).1.2.2.2.1 with z | z
   ·exact I.ok.noex b o e z
   ·exact absurd (Sn (Heap.lt_size e) (Su I.ok.bsz z)) (Ta _)
  exfs:=λb hb z=>by
   rcases sub b z with e | e
   ·exact (hfp b hb).1.2.1 e
   ·exact (hfp b hb).1.2.2.1 e
  lj:=I.stack
  frf:=I.vB }
 obtain ⟨mX,hnX,hlX⟩:=I.loc
 refine ⟨ok',rfl,I.bare,Un.kept kp,⟨m,hn,λi y v e1 e2 e3=>?_⟩,λy c e=>?_,fresh,λy c e=>I.freeC y c (h1 y c e),λp hp=>?_,I.hok.kept kp,by simp [f7,dO]⟩
 ·cases i with
  | zero =>
   rw [TJ] at e2
   cases e2
  | succ i =>
   have e1':(ks.map (·.1))[i]?=some y:=by simpa [f7] using e1
   rw [SH] at e2
   unfold dO at e2
   rw [Sb] at e1' e2
   cases ep:ks[i]? with
   | none=>rw [ep] at e1';cases e1'
   | some p =>
    rw [ep] at e1' e2
    have ey:p.1=y:=Option.some.inj e1'
    have ev:(σ[p.2]?).getD none=some v:=Option.some.inj e2
    obtain ⟨kN,kf⟩:=kk p (R9 ep)
    have es:σ[p.2]?=some (some v):=by
     cases q:σ[p.2]? with
     | none=>rw [q] at ev;cases ev
     | some w=>rw [q] at ev;exact congrArg some ev
    have hm:(p.1,NameKind.free)∈sc.names:=by
     obtain ⟨l1,l2,q,_⟩:=Ug.mp kf
     rw [q]
     simp
    have oc:X.env.scope.names.lookup p.1=some .cell:=fr _ hm rfl
    obtain ⟨u,ru,lu⟩:=hlX p.2 p.1 v kN es (.inr (.inl oc))
    refine ⟨u,ru,.inr ⟨.inl ?_,?_⟩⟩
    ·rw [show (f7 X sc cl s.heap.objs.size x ks s H fp pins).env.kindOf y=_ from kof y,jV,← ey,kf]
     have k1:X.env.kindOf p.1=some .cell:=oc
     simp [I.ok.kind,k1]
    ·obtain ⟨c,hc⟩:=h2 _ hm rfl
     have hc:cl.lookup p.1=some c:=hc
     rcases lu with ⟨z,_⟩ | ⟨_,c',hc',z⟩
     ·have z':X.env.scope.names.lookup p.1=some .local:=z
      rw [oc] at z';cases z'
     ·have:=h1 _ _ hc
      rw [hc'] at this
      cases this
      obtain ⟨o,ho,hd⟩:=z
      exact ⟨_,by rw [← ey];exact hc,o,kp _ _ ho,hd⟩
 ·obtain ⟨v,o,ho,hd⟩:=I.cell y c (h1 y c e)
  exact ⟨v,o,kp _ _ ho,hd⟩
 ·rw [Tf] at hp
  obtain ⟨a1,a2,a3,a4,a5⟩:=I.pin p hp
  refine ⟨kp _ _ a1,a2,lt _ _ a1,λz=>?_,a5⟩
  rcases sub p.1 z with e | e
  ·exact a3 e
  ·exact a4 e
end
def FY (X:Cx) (ifs:List Expr) (t:TT):Prop :=
 ∀(pins:List (Addr × Obj)) (s:Shared) (σ:L2.St) (H:Hp) (Q:Bool→Hp→Prop),Inv X pins σ H s→t σ H Q →
  wpAny (model X.prog X.w) X.A (forIn ifs true λc r=>if r=true then do let ok ← isTrue c X.env (eval c X.env);pure (ForInStep.yield ok) else pure (ForInStep.yield r)) (TP X pins σ Q) X.xe s
theorem uS {X:Cx}:FY X [] (λ_ H Q=>Q true H):=λpins s σ H Q I h=>by rw [List.forIn_nil];exact wpAny_pure ⟨H,I,h⟩
theorem Ap {X:Cx} {c:Expr} {t:TT} (h:PT X c t):FY X [c] t:=λpins s σ H Q I q=>wpAny_tests_one (h pins s σ H Q I q)
section
variable {prog:Program} {w:World} {A:Around} {R:Result→Shared→Prop} {s:Shared}
theorem BS {elt iter:Expr} {ifs:List Expr} {x:Str} {px:Pos} {sc:Scope} {pos:Pos} {it acc:Value} {env:Env} (I:Nat→Shared→Prop)
  (turn:∀n s,I n s→wpAny (model prog w) A (pyNext it) (λr s₁=>match r with
   | none=>R (.ok .next) s₁
   | some v=>wpAny (model prog w) A (letOwnedTupleGo (.Name x px) it v) (λ_ s₂=>wpAny (model prog w) A (assign (.Name x px) env v) (λ_ s₃=>wpAny (model prog w) A (forIn ifs true λc r=>if r=true then do let ok ← isTrue c env (eval c env);pure (ForInStep.yield ok) else pure (ForInStep.yield r)) (λok s₃=>if ok=true then wpAny (model prog w) A (eval elt env) (λy s₄ =>
     wpAny (model prog w) A (call (.builtin "list.append") [acc,y]) (λ_ s₅=>∃m,m < n∧I m s₅) (λ_ _=>False) s₄) (λ_ _=>False) s₃ else ∃m,m < n∧I m s₃) (λ_ _=>False) s₃) (λ_ _=>False) s₂) (λ_ _=>False) s₁) (λ_ _=>False) s)
  (n:Nat) (h:I n s):codeAny (model prog w) A (.compLoop (.ListComp elt [⟨.Name x px,iter,ifs,0⟩] sc pos) 0 it acc env) R s:=by
 refine codeAny_loop rfl I (λn s hI=>?_) n h
 show wpAny _ _ ((compTurn (.ListComp elt [⟨.Name x px,iter,ifs,0⟩] sc pos) 0 it acc env).onRaise (λx=>do noteFrame x env;theTreesLotGoes x)) _ _ s
 refine wpAny_noted ?_
 rw [compTurn_list]
 have no:∀(e:Value) (s':Shared),False→notedBy (model prog w) A env (λe s'=>R (.error e) s') e s':=λ_ _ z=>z.elim
 refine wpAny_bind (wpAny_standAt (wpAny_bind (wpAny_mono (turn n s hI) (λr s₁ h₁=>?_) no)))
 cases r with
 | none=>exact wpAny_pure h₁
 | some v =>
  refine wpAny_bind (wpAny_mono h₁ (λ_ s₂ h₂=>?_) no)
  refine wpAny_bind (wpAny_mono h₂ (λ_ s₃ h₃=>wpAny_bind (wpAny_mono h₃ (λok s₃' h₃'=>?_) no)) no)
  cases ok with
  | false=>exact wpAny_pure ⟨rfl,h₃'⟩
  | true =>
   exact wpAny_bind (wpAny_bind (wpAny_mono h₃' (λy s₄ h₄=>wpAny_bind (wpAny_mono h₄ (λ_ s₅ h₅=>wpAny_pure (wpAny_pure ⟨rfl,h₅⟩)) no)) no))
end
def HW (wi:TI) (ks:List (Str × Nat)) (tc:TT) (te:TE):TE:=λσ H Q=>wi σ H λJ H1=>∀D,H1 D=none→∃W:Nat→Nat→Hp→Prop,(∃m,W 0 m (upd H1 D (.lst []))) ∧
 ∀i m H2,W i m H2→(J.stop i H2∧Q (.ref D) H2)∨(J.go i H2∧∀v H3,J.yld i H2 v H3→tc (some v :: dO ks σ) H3 λb H4=>if b=true then te (some v :: dO ks σ) H4 λy H5=>∃ys,H5 D=some (.lst ys)∧ys.length < sizeLine∧∃m',m' < m∧W (i + 1) m' (upd H5 D (.lst (ys ++ [y]))) else ∃m',m' < m∧W (i + 1) m' H4)
section
variable {X:Cx}
theorem xa {elt iter:Expr} {ifs:List Expr} {x:Str} {px:Pos} {sc:Scope} {pos:Pos} {te:TE} {tc:TT} {ks:List (Str × Nat)} {cl:List (Str × Addr)} {pins:List (Addr × Obj)} {σ:L2.St} {H:Hp} {s:Shared} {it:Addr} {fp:List Addr} {tn:Nat→Heap→Prop} {J:It} {Q:VK}
  {RR:Value→Addr→Result→Shared→Prop} {E:Value→Shared→Prop}
  (hc:X.calm=true) (ok:de sc X.env.scope X.N x ks) (h1:∀y c,cl.lookup y=some c→X.env.cells.lookup y=some c) (h2:∀y∈sc.names,y.2=.free→∃c,cl.lookup y.1=some c)
  (he:∀cl C s₀ H₀ fp pins,PE (f7 X sc cl C x ks s₀ H₀ fp pins) elt te) (hcn:∀cl C s₀ H₀ fp pins,FY (f7 X sc cl C x ks s₀ H₀ fp pins) ifs tc)
  (I:Inv X pins σ H s) (T:Turn X.prog X.w X.K (.Name x px) J fp it tn) (st:tn 0 s.heap) (f:∀b∈fp,jt X pins H b)
  (hw:∀D,H D=none→∃W:Nat→Nat→Hp→Prop,(∃m,W 0 m (upd H D (.lst [])))∧∀i m H2,W i m H2→(J.stop i H2∧Q (.ref D) H2) ∨
   (J.go i H2∧∀v H3,J.yld i H2 v H3→tc (some v :: dO ks σ) H3 λb H4=>if b=true then te (some v :: dO ks σ) H4 λy H5=>∃ys,H5 D=some (.lst ys)∧ys.length < sizeLine∧∃m',m' < m∧W (i + 1) m' (upd H5 D (.lst (ys ++ [y]))) else ∃m',m' < m∧W (i + 1) m' H4))
  (hR:∀(D C:Addr) (s':Shared) (H':Hp) (m:Str→Option Value),Inv X pins σ H' s'→Q (.ref D) H'→s'.heap.Ns C m→H' C=none→C≠X.env.locals→X.s₀.heap.objs.size≤C→(∀y c,X.env.cells.lookup y=some c→c≠C)→(∀p∈X.pn ++ pins,p.1≠C)→RR (.ref D) C (.ok .next) s') :
  wpAny (model X.prog X.w) X.A (newList []) (λacc s₃=>wpAny (model X.prog X.w) X.A (newFunctionEnv sc X.env.globals cl [] X.env.qual none .none (some X.env)) (λcenv s₄ =>
   codeAny (model X.prog X.w) X.A (.compStart (.ListComp elt [⟨.Name x px,iter,ifs,0⟩] sc pos) 0 (.ref it) acc { cenv with scope:=relabel sc X.env }) (RR acc cenv.locals) s₄) E s₃) E s:=by
 have okk:=ok
 obtain ⟨kd,nc,lx,ll,fr,kk,nd⟩:=okk
 have hD0:H s.heap.objs.size=none:=I.hok.fresh (R' _)
 obtain ⟨W,⟨m0,w0⟩,turn⟩:=hw s.heap.objs.size hD0
 refine wpAny_newObj_type ?_
 have I3:Inv X pins σ (upd H s.heap.objs.size (.lst [])) { s with heap:=s.heap.push { cls:=.type "list",dict:=none,data:=.seq ([]:List Value).toArray } } :=
  I.laid (t':=s.toks) (λb u e=>Heap.get?_push_of_some _ e) (R' _) (show dm X.prog X.w _ _ _ (.lst []) from ⟨SG _,[],0,.nil,Heap.get?_push_size _ rfl⟩)
 have st3:tn 0 (s.heap.push { cls:=.type "list",dict:=none,data:=.seq ([]:List Value).toArray }):=T.keep 0 _ _ st λb hb o e=>Heap.get?_push_of_some _ e
 generalize hD:s.heap.objs.size=D at *
 generalize hH:upd H D (.lst [])=H3 at *
 generalize hs3:({ s with heap:=s.heap.push { cls:=.type "list",dict:=none,data:=.seq ([]:List Value).toArray } }:Shared)=s3 at *
 have e3:s.heap.push { cls:=.type "list",dict:=none,data:=.seq ([]:List Value).toArray }=s3.heap:=by rw [← hs3]
 rw [e3] at st3
 have fD:∀b∈fp,b≠D:=λb hb z=>by
  obtain ⟨o,ho,_⟩:=T.obj 0 _ st b hb
  have:=Heap.lt_size ho
  rw [z,← hD] at this
  exact Ta _ this
 have f3:∀b∈fp,jt X pins H3 b:=λb hb=>⟨by rw [← hH,aF (fD b hb)];exact (f b hb).1,(f b hb).2⟩
 have g3:∀b∈fp,∃o,s3.heap.get? b=some o:=λb hb=>by
  obtain ⟨o,ho,_⟩:=T.obj 0 _ st3 b hb
  exact ⟨o,ho⟩
 refine wpAny_newFunctionEnv nc (by intro y hy;simp at hy) (λh₁ hns hsb=>?_) kd
 have kp:∀b o,s3.heap.get? b=some o→h₁.get? b=some o:=λb o e=>hsb.extBut b o (Sw (Heap.lt_size e)) (Heap.get?_push_of_some _ e)
 have J0:=wa (fp:=fp) (cl:=cl) (t':=s3.toks + ([]:List (Str × Value)).length) I3 ok h1 h2 (λb hb=>⟨f3 b hb,g3 b hb⟩) hns kp
 have st4:tn 0 h₁:=T.keep 0 _ _ st3 λb hb o e=>kp b o e
 have ltC:∀b o,s3.heap.get? b=some o→b≠s3.heap.objs.size:=λb o e=>Sw (Heap.lt_size e)
 have cC:∀y c,X.env.cells.lookup y=some c→c≠s3.heap.objs.size:=λy c e=>by
  obtain ⟨v,o,ho,_⟩:=I3.cell y c e
  exact ltC c o ho
 have pC:∀p∈X.pn ++ pins,p.1≠s3.heap.objs.size:=λp hp=>ltC _ _ (I3.pin p hp).1
 have lC:s3.heap.objs.size≠X.env.locals:=Uj I3.lt
 have fX:∀{H':Hp},(∀b∈fp,H' b=none)→∀b∈fp,jt (f7 X sc cl s3.heap.objs.size x ks s3 H3 fp pins) [] H' b:=λhn b hb=>by
  obtain ⟨o,ho⟩:=g3 b hb
  obtain ⟨_,q1,q2,q3,q4,q5⟩:=f b hb
  refine ⟨hn b hb,ltC b o ho,λz=>?_,.inl hb,λy c e=>q4 y c (h1 y c e),λp hp=>q5 p (by simpa [f7] using hp)⟩
  rcases Sf.mp (I3.oa b z) with e | e
  ·exact q1 e
  ·exact q2 e
 have back:∀{o:Option V} {H':Hp} {s':Shared},Inv (f7 X sc cl s3.heap.objs.size x ks s3 H3 fp pins) [] (o :: dO ks σ) H' s'→Inv X pins σ H' s':=λ{o H' s'} J=>by
  obtain ⟨hh,g,d,t,os'⟩:=s'
  obtain rfl:os'=s3.os:=J.os
  exact I3.call (h':=hh) (g':=g) (d':=d) (t':=t) (ch:=fp) J.base J.hok J.bare λb hb=>⟨(f b hb).2.2.2.1,(f b hb).2.1,(f b hb).2.2.2.2.1,(f b hb).2.2.2.2.2⟩
 have lookX:(relabel sc X.env).names.lookup x=some .local:=lookup_relabel_local lx
 have loop:∀s',(∃(i:Nat) (o:Option V) (H':Hp),Inv (f7 X sc cl s3.heap.objs.size x ks s3 H3 fp pins) [] (o :: dO ks σ) H' s'∧tn i s'.heap∧(∀b∈fp,H' b=none)∧W i m0 H') →
   codeAny (model X.prog X.w) X.A (.compLoop (.ListComp elt [⟨.Name x px,iter,ifs,0⟩] sc pos) 0 (.ref it) (.ref D) (compEnvC sc cl s3.heap.objs.size X.env)) (RR (.ref D) s3.heap.objs.size) s':=by
  intro s' hs'
  refine BS (λn s'=>∃(i:Nat) (o:Option V) (H':Hp),Inv (f7 X sc cl s3.heap.objs.size x ks s3 H3 fp pins) [] (o :: dO ks σ) H' s'∧tn i s'.heap∧(∀b∈fp,H' b=none)∧W i n H') ?_ m0 hs'
  rintro n s5 ⟨i,o,H5,J5,t5,n5,w5⟩
  rcases turn i n H5 w5 with ⟨stop,hq⟩ | ⟨go,step⟩
  ·refine cn (T.done (f7 X sc cl s3.heap.objs.size x ks s3 H3 fp pins) rfl rfl rfl hc i [] s5 _ H5 _ J5 (fX n5) t5 stop) λr s6 ⟨hr,J6⟩=>?_
   subst hr
   obtain ⟨m,hm,_⟩:=J6.loc
   exact hR D _ s6 H5 m (back J6) hq hm J6.free lC I3.sz cC pC
  ·refine cn (T.item (f7 X sc cl s3.heap.objs.size x ks s3 H3 fp pins) rfl rfl rfl hc i [] s5 _ H5 _ J5 (fX n5) t5 go) λr s6 ⟨u,hr,h6⟩=>?_
   subst hr
   refine cn h6 λ_ s7 ⟨v,H7,J7,r7,y7,t7,n7⟩=>?_
   have J7':=J7.pinned (fX n7) (T.obj _ _ t7)
   refine wpAny_assign_Name (e_ (X:=f7 X sc cl s3.heap.objs.size x ks s3 H3 fp pins) (i:=0) J7' nd rfl (.inl lookX) r7 (λs8 J8=>?_) (.inr lookX))
   refine cn (hcn cl s3.heap.objs.size s3 H3 fp pins _ s8 _ H7 _ J8 (step v H7 y7)) λok s8' ⟨H8,J8',q8⟩=>?_
   cases ok with
   | false =>
    simp only [Ss,if_false] at q8 ⊢
    obtain ⟨m',hm,w'⟩:=q8
    refine ⟨m',hm,i + 1,_,_,J8'.fZ,?_,?_,w'⟩
    ·exact T.keep _ _ _ t7 λb hb o e=>(J8'.pin (b,o) (Sh _ (Sh _ (cE hb e)))).1
    ·intro b hb
     obtain ⟨o,e,d⟩:=T.obj _ _ t7 b hb
     exact (J8'.pin (b,o) (Sh _ (Sh _ (cE hb e)))).2.1
   | true =>
    simp only [if_true] at q8 ⊢
    refine cn (he cl s3.heap.objs.size s3 H3 fp pins _ s8' _ H8 _ J8' q8) λy s9 ⟨vy,H9,J9,r9,ys,hys,hz,m',hm,w'⟩=>?_
    refine cn (g8 (X:=f7 X sc cl s3.heap.objs.size x ks s3 H3 fp pins) _ s9 _ H9 (.ref D) [vy] (.ref D) [y] (λ_ H'=>H'=upd H9 D (.lst (ys ++ [vy]))) J9 rfl (.cons r9 .nil) ⟨D,ys,vy,rfl,rfl,hys,hz,rfl⟩) λ_ s10 ⟨_,H10,J10,_,eH⟩=>?_
    subst eH
    refine ⟨m',hm,i + 1,_,_,J10.fZ,?_,?_,w'⟩
    ·exact T.keep _ _ _ t7 λb hb o e=>(J10.pin (b,o) (Sh _ (Sh _ (cE hb e)))).1
    ·intro b hb
     obtain ⟨o,e,d⟩:=T.obj _ _ t7 b hb
     exact (J10.pin (b,o) (Sh _ (Sh _ (cE hb e)))).2.1
 have l0:=loop _ ⟨0,none,H3,J0,st4,λb hb=>(f3 b hb).1,w0⟩
 exact codeAny_compStart_list l0 (T.self _ 0 _ _ _ st4 l0)
theorem ql {sc osc:Scope} {N:List Str} {x:Str} {ks:List (Str × Nat)} (ok:de sc osc N x ks) {pins:List (Addr × Obj)} {σ:L2.St} {H:Hp} {s:Shared} (I:Inv X pins σ H s) (ho:X.env.scope=osc):∀y∈sc.names,y.2=.free→∃c,X.env.cells.lookup y.1=some c:=λy hy hf =>
 I.ok.has y.1 (.inl (by show X.env.scope.names.lookup y.1=some .cell;rw [ho];exact ok.2.2.2.2.1 y hy hf))
theorem KW {elt iter:Expr} {ifs:List Expr} {x:Str} {px:Pos} {sc:Scope} {pos:Pos} {wi:TI} {te:TE} {tc:TT} (osc:Scope) (N:List Str) (ks:List (Str × Nat)) (hc:X.calm=true) (ho:X.env.scope=osc) (hN:X.N=N) (hi:PI X (.Name x px) iter wi)
  (he:∀cl C s₀ H₀ fp pins,PE (f7 X sc cl C x ks s₀ H₀ fp pins) elt te) (hcn:∀cl C s₀ H₀ fp pins,FY (f7 X sc cl C x ks s₀ H₀ fp pins) ifs tc) (ok:de sc osc N x ks:=by decide +kernel) (hs:∀x,foldedSetIterable iter X.env x=pure x:=by intro _;rfl) :
  PE X (.ListComp elt [⟨.Name x px,iter,ifs,0⟩] sc pos) (HW wi ks tc te):=by
 intro pins s σ H Q I hw
 obtain ⟨cl,hcl,h1,h2⟩:=k_ (ql ok I ho)
 have ok':de sc X.env.scope X.N x ks:=by rw [ho,hN];exact ok
 rw [eval_ListComp]
 refine wpAny_comprehension_free (use:=none) rfl hs hcl ok.1 ok.2.2.2.1 (cn (hi pins s σ H _ I hw) λv s1 h3=>cn h3 λitv s2 h4=>?_)
 obtain ⟨it,fp,tn,J,H2,rfl,I2,T,st2,f2,hR⟩:=h4
 refine xa (RR:=λacc C=>compPost (model X.prog X.w) X.A X.xe none (EP X pins σ Q) acc C) hc ok' h1 h2 he hcn I2 T st2 f2 hR ?_
 intro D C s' H' m J' q hn hC cl' cs cc cp
 refine ⟨m,hn,λh' hsb=>⟨.ref D,H',?_,rfl,q⟩⟩
 exact J'.turned (t':=s'.toks) (it:=C) (λb o ne e=>hsb.extBut b o ne e) hC cl' (.inr cs) cc cp
def Oe (wi:TI) (ks:List (Str × Nat)) (tc:TT) (te:TE) (i:Nat):TS:=λD σ H=>HW wi ks tc te σ H λv H1=>D.nx (σ.set i (some v)) H1
theorem yZ {elt iter:Expr} {ifs:List Expr} {x y:Str} {px py:Pos} {sc:Scope} {pos spos:Pos} {wi:TI} {te:TE} {tc:TT} {i:Nat} (osc:Scope) (N:List Str) (ks:List (Str × Nat)) (hc:X.calm=true) (ho:X.env.scope=osc) (hN:X.N=N) (hnd:X.N.Nodup) (hy:X.N[i]?=some y) (hl:Loc X.env.scope y)
  (hi:PI X (.Name x px) iter wi) (he:∀cl C s₀ H₀ fp pins,PE (f7 X sc cl C x ks s₀ H₀ fp pins) elt te) (hcn:∀cl C s₀ H₀ fp pins,FY (f7 X sc cl C x ks s₀ H₀ fp pins) ifs tc) (ok:de sc osc N x ks:=by decide +kernel) (hs:∀x,foldedSetIterable iter X.env x=pure x:=by intro _;rfl)
  (hsw:swapsWith (.ListComp elt [⟨.Name x px,iter,ifs,0⟩] sc pos) (some (.Name y py)) spos.line X.env=pure true:=by rfl) (hf:X.fn y=true∨X.env.scope.names.lookup y=some .local:=by first | exact .inl rfl | exact .inr rfl | assumption) :
  PS X (.Assign [.Name y py] (.ListComp elt [⟨.Name x px,iter,ifs,0⟩] sc pos) spos) (Oe wi ks tc te i):=by
 intro pins s σ H Dn I hw
 obtain ⟨cl,hcl,h1,h2⟩:=k_ (ql ok I ho)
 have ok':de sc X.env.scope X.N x ks:=by rw [ho,hN];exact ok
 rw [exec_Assign_Name_used _ _ _ _ hsw]
 refine wpAny_bind (wpAny_standAt (wpAny_bind ?_))
 show wpAny _ X.A (do let _ ← comprehension (.ListComp elt [⟨.Name x px,iter,ifs,0⟩] sc pos) sc X.env _ (newList []) false (eval iter X.env) (some (assign (.Name y py) X.env))) _ _ s
 refine wpAny_bind (wpAny_mono (wpAny_comprehension_free (use:=some (assign (.Name y py) X.env)) (Q:=λ_ s'=>SP X pins Dn .next s') rfl hs hcl ok.1 ok.2.2.2.1
  (cn (hi pins s σ H _ I hw) λv s1 h3=>cn h3 λitv s2 h4=>?_)) (λ_ s' hq=>wpAny_pure (wpAny_pure hq)) λ_ _ e=>e)
 obtain ⟨it,fp,tn,J,H2,rfl,I2,T,st2,f2,hR⟩:=h4
 refine xa (Q:=λv H1=>Dn.nx (σ.set i (some v)) H1) (RR:=λacc C=>compPost (model X.prog X.w) X.A X.xe (some (assign (.Name y py) X.env)) (λ_ s'=>SP X pins Dn .next s') acc C) hc ok' h1 h2 he hcn I2 T st2 f2 hR ?_
 intro D C s' H' m J' q hn hC cl' cs cc cp
 show wpAny _ X.A (assign (.Name y py) X.env (.ref D)) _ _ _
 refine wpAny_assign_Name (tP J' hnd hy hl (v:=.ref D) rfl (λs'' J'' ⟨a,hsb,ha⟩=>?_) hf)
 refine ⟨m,hn.sameBut hsb (λz=>?_),λh' hsb'=>⟨_,H',?_,q⟩⟩
 ·rcases ha with e | e
  ·exact cl' (z.trans e)
  ·exact cc _ _ e z.symm
 ·exact J''.turned (t':=s''.toks) (it:=C) (λb o ne e=>hsb'.extBut b o ne e) hC cl' (.inr cs) cc cp
def OW (wi:TI) (ks:List (Str × Nat)) (te:TE):TE:=λσ H Q=>wi σ H λJ H1=>∀D,H1 D=none→∃W:Nat→Nat→Hp→Prop,(∃m,W 0 m (upd H1 D (.lst []))) ∧
 ∀i m H2,W i m H2→(J.stop i H2∧Q (.ref D) H2)∨(J.go i H2∧∀v H3,J.yld i H2 v H3→te (some v :: dO ks σ) H3 λy H4=>∃ys,H4 D=some (.lst ys)∧ys.length < sizeLine∧∃m',m' < m∧W (i + 1) m' (upd H4 D (.lst (ys ++ [y]))))
theorem IW {elt iter:Expr} {x:Str} {px:Pos} {sc:Scope} {pos:Pos} {wi:TI} {te:TE} (osc:Scope) (N:List Str) (ks:List (Str × Nat)) (hc:X.calm=true) (ho:X.env.scope=osc) (hN:X.N=N) (hi:PI X (.Name x px) iter wi)
  (he:∀cl C s₀ H₀ fp pins,PE (f7 X sc cl C x ks s₀ H₀ fp pins) elt te) (ok:de sc osc N x ks:=by decide +kernel) (hs:∀x,foldedSetIterable iter X.env x=pure x:=by intro _;rfl) :
  PE X (.ListComp elt [⟨.Name x px,iter,[],0⟩] sc pos) (OW wi ks te):=λpins s σ H Q I hw=>KW osc N ks hc ho hN hi he (λ_ _ _ _ _ _=>uS) ok hs pins s σ H Q I hw
def Lr (wi:TI) (ks:List (Str × Nat)) (te:TE) (i:Nat):TS:=λD σ H=>OW wi ks te σ H λv H1=>D.nx (σ.set i (some v)) H1
theorem Nx {elt iter:Expr} {x y:Str} {px py:Pos} {sc:Scope} {pos spos:Pos} {wi:TI} {te:TE} {i:Nat} (osc:Scope) (N:List Str) (ks:List (Str × Nat)) (hc:X.calm=true) (ho:X.env.scope=osc) (hN:X.N=N) (hnd:X.N.Nodup) (hy:X.N[i]?=some y) (hl:Loc X.env.scope y)
  (hi:PI X (.Name x px) iter wi) (he:∀cl C s₀ H₀ fp pins,PE (f7 X sc cl C x ks s₀ H₀ fp pins) elt te) (ok:de sc osc N x ks:=by decide +kernel) (hs:∀x,foldedSetIterable iter X.env x=pure x:=by intro _;rfl)
  (hsw:swapsWith (.ListComp elt [⟨.Name x px,iter,[],0⟩] sc pos) (some (.Name y py)) spos.line X.env=pure true:=by rfl) (hf:X.fn y=true∨X.env.scope.names.lookup y=some .local:=by first | exact .inl rfl | exact .inr rfl | assumption) :
  PS X (.Assign [.Name y py] (.ListComp elt [⟨.Name x px,iter,[],0⟩] sc pos) spos) (Lr wi ks te i):=λpins s σ H D I hw=>yZ osc N ks hc ho hN hnd hy hl hi he (λ_ _ _ _ _ _=>uS) ok hs hsw hf pins s σ H D I hw
end
theorem Gx {K:PySem.W.Frag} {a D:Addr} {xs:List V} {H:Hp} {te:TE} {ks:List (Str × Nat)} {σ:L2.St} {q:Hp→Prop} (Pv:Nat→Hp→Prop) (h0:Pv 0 (upd H D (.lst []))) (hl:∀i H,i≤xs.length→Pv i H→cP K H a xs)
  (hs:∀i x H (R:VK),xs[i]?=some x→Pv i H→(∀y H4 ys,H4 D=some (.lst ys)→ys.length < sizeLine→Pv (i + 1) (upd H4 D (.lst (ys ++ [y])))→R y H4)→te (some x :: dO ks σ) H R) (hd:∀H,Pv xs.length H→q H) :
  ∃W:Nat→Nat→Hp→Prop,(∃m,W 0 m (upd H D (.lst [])))∧∀i m H2,W i m H2→((FO K a).stop i H2∧q H2) ∨
   ((FO K a).go i H2∧∀v H3,(FO K a).yld i H2 v H3→te (some v :: dO ks σ) H3 λy H4=>∃ys,H4 D=some (.lst ys)∧ys.length < sizeLine∧∃m',m' < m∧W (i + 1) m' (upd H4 D (.lst (ys ++ [y])))):=by
 refine ⟨λi m H=>m=xs.length - i∧i≤xs.length∧Pv i H,⟨xs.length,by simp,SG _,h0⟩,?_⟩
 rintro i m H2 ⟨rfl,hi,p⟩
 have hq:=hl i H2 hi p
 by_cases hlt:i < xs.length
 ·refine .inr ⟨⟨xs,xs[i],hq,by simp [hlt]⟩,λv H3 y=>?_⟩
  obtain ⟨e,y⟩:=y
  subst e
  exact hs i v _ _ (y xs hq) p λy H4 ys e1 e2 e3=>⟨ys,e1,e2,xs.length - (i + 1),by omega,rfl,hlt,e3⟩
 ·have e:i=xs.length:=by omega
  subst e
  exact .inl ⟨⟨xs,hq,R' _⟩,hd H2 p⟩
theorem DQ {lo:Int} {n:Nat} {D:Addr} {H:Hp} {te:TE} {ks:List (Str × Nat)} {σ:L2.St} {q:Hp→Prop} (Pv:Nat→Hp→Prop) (h0:Pv 0 (upd H D (.lst [])))
  (hs:∀i H (R:VK),i < n→Pv i H→(∀y H4 ys,H4 D=some (.lst ys)→ys.length < sizeLine→Pv (i + 1) (upd H4 D (.lst (ys ++ [y])))→R y H4)→te (some (.int (lo + i)) :: dO ks σ) H R) (hd:∀H,Pv n H→q H) :
  ∃W:Nat→Nat→Hp→Prop,(∃m,W 0 m (upd H D (.lst [])))∧∀i m H2,W i m H2→((CL lo n).stop i H2∧q H2) ∨
   ((CL lo n).go i H2∧∀v H3,(CL lo n).yld i H2 v H3→te (some v :: dO ks σ) H3 λy H4=>∃ys,H4 D=some (.lst ys)∧ys.length < sizeLine∧∃m',m' < m∧W (i + 1) m' (upd H4 D (.lst (ys ++ [y])))):=by
 refine ⟨λi m H=>m=n - i∧i≤n∧Pv i H,⟨n,by simp,SG _,h0⟩,?_⟩
 rintro i m H2 ⟨rfl,hi,p⟩
 by_cases hlt:i < n
 ·refine .inr ⟨hlt,λv H3 y=>?_⟩
  obtain ⟨e,y⟩:=y
  subst e y
  exact hs i _ _ hlt p λy H4 ys e1 e2 e3=>⟨ys,e1,e2,n - (i + 1),by omega,rfl,hlt,e3⟩
 ·have e:i=n:=by omega
  subst e
  exact .inl ⟨R' _,hd H2 p⟩
def one (c:Nat):Str:=⟨#[c]⟩
theorem tq:∀(cs:List Nat) (acc:Array Nat),(cs.map one).foldl (λacc (p:Str)=>acc ++ (Str.ofString "").cps ++ p.cps) acc=acc ++ cs.toArray
 | [],acc=>by simp
 | c :: cs,acc=>by
  have e:(Str.ofString "").cps=#[]:=by decide +kernel
  rw [Sd,UQ,tq cs]
  rw [e]
  show (acc ++ #[] ++ #[c]) ++ cs.toArray=_
  simp
theorem join_ones (cs:List Nat):Txt.join (Str.ofString "") (cs.map one)=⟨cs.toArray⟩:=by
 unfold Txt.join Builtin.Str.glued
 cases cs with
 | nil=>rfl
 | cons c cs =>
  simp only [Sd,Uv,TY,List.headD_cons]
  rw [tq]
  show (⟨#[c] ++ cs.toArray⟩:Str)=_
  simp
theorem i4:∀{ys:List Str} {us:List Value},Vals (ys.map V.str) us→StrsAre us ys
 | [],_,.nil=>.nil
 | y :: ys,_,.cons r rr=>by
  obtain ⟨t,rfl⟩:=r
  exact .cons y t (i4 rr)
section
variable {X:Cx}
def rJoin (K:PySem.W.Frag):V→List V→Hp→VK→Prop:=λx vs H Q=>∃z p ys,x=.str z∧vs=[.ref p]∧cP K H p (ys.map V.str)∧(ys.map (·.length)).sum + ys.length * z.length≤16777216∧Q (.str (Txt.join z ys)) H
theorem GH:oJ X "str.join" (rJoin X.K):=by
 intro pins s σ H x vs v us Q I rx rv h
 obtain ⟨z,p,ys,rfl,rfl,hp,hz,q⟩:=h
 obtain ⟨t,rfl⟩:=rx
 obtain ⟨u,rfl,ru⟩:=vals1 rv
 cases ru
 obtain ⟨its,r,pl,_⟩:=I.list hp
 exact join_list pl.isList (by simpa using i4 r) hz λt' k=>⟨.str _,H,I.tok _,⟨_,rfl⟩,q⟩
end
def ue:Expr→Option V
 | .Constant (.int i) _ _=>some (.int i)
 | .Constant (.str x) _ _=>some (.str x)
 | .Constant (.bool b) _ _=>some (.bl b)
 | _=>none
theorem qm {X:Cx}:∀{es:List Expr} (vs:List V),es.map ue=vs.map some→PA X es (λ_ H Q=>Q vs H)
 | [],[],_=>λ_ _ _ _ H Q I h=>Calls.spliced_nil ⟨[],H,I,.nil,h⟩
 | [],_ :: _,h=>by cases h
 | _ :: _,[],h=>by cases h
 | e :: es,v :: vs,h=>by
  rw [Sd,Sd] at h
  injection h with h1 h2
  have ih:=qm (X:=X) (es:=es) vs h2
  have hs:starEach (e :: es) X.env=(false,eval e X.env) :: starEach es X.env:=by
   cases e <;> first | rfl | cases h1
  have he:PE X e (tC v):=by
   cases e with
   | Constant c j pos =>
    cases c with
    | int i=>cases h1;exact aK
    | str x=>cases h1;exact nA
    | bool b=>cases h1;exact wR
    | _=>cases h1
   | _=>cases h1
  exact λpos pins s σ H Q I hq=>ak he ih hs pos pins s σ H Q I hq
end Ov
namespace Ov
open PySem PySem.Spec PyProof.Rows
open L2 (V HO Hp Inv Cx St VK TE TT TA TS TG oi TI TO il Ends sL Loc Gl Rd RelV Vals er t_ bS og pO oJ ij R2 zu tC E_ OY A8 tB E6 Og HX A3 HY A6 OV Ia Cp vD eG HU ra OU xE HZ om Gm zV Gp Gn HV vE Lq zY Pl zZ Iz H0 Jt A4 Oc zr A5 H_ zt pA A7 OX upd E0 bK cJ)
structure QE (X:Cx) (e:Expr) (t:TE):Prop where
 run:L2.PE X e t
structure QT (X:Cx) (e:Expr) (t:TT):Prop where
 run:L2.PT X e t
structure QW (X:Cx) (e:Expr) (t:TT):Prop where
 run:L2.PW X e t
structure QA (X:Cx) (es:List Expr) (t:TA):Prop where
 run:L2.PA X es t
structure QS (X:Cx) (st:Stmt) (t:TS):Prop where
 run:L2.PS X st t
structure QB (X:Cx) (st:List Stmt) (t:TS):Prop where
 run:L2.rj X st t
structure QG (X:Cx) (e:Expr) (t:TG):Prop where
 run:L2.PG X e t
structure OF (X:Cx) (es:List Expr) (t:oi):Prop where
 run:L2.Ip X es t
structure QI (X:Cx) (tg e:Expr) (t:TI):Prop where
 run:L2.PI X tg e t
structure QO (X:Cx) (e:Option Expr) (t:TO):Prop where
 run:L2.PO X e t
section
variable {X:Cx} {a b c e o:Expr} {es rest:List Expr} {ta tb te tc to:TE} {tA tB':TT} {t:TA} {pos px p p2 apos cpos:Pos} {x:Str} {i j:Nat}
theorem pv (i:Nat) {x:Str} {pos:Pos} (hN:X.N[i]?=some x:=by rfl) (hv:sL X.env.scope x:=by first | exact Or.inl rfl | exact Or.inr (Or.inl rfl) | exact Or.inr (Or.inr rfl)) (hd:(x == ("__debug__":Str))=false:=by decide)
  (hcd:(x == ("__classdict__":Str))=false:=by decide):QE X (.Name x pos) (zu i):=⟨L2.yV hN hv hd hcd⟩
theorem aK {i:Int} {j pos}:QE X (.Constant (.int i) j pos) (tC (.int i)):=⟨L2.aK⟩
theorem wR {b:Bool} {j pos}:QE X (.Constant (.bool b) j pos) (tC (.bl b)):=⟨L2.wR⟩
theorem yS {j pos}:QE X (.Constant .none j pos) (tC .non):=⟨L2.yS⟩
theorem nA {x:Str} {j pos}:QE X (.Constant (.str x) j pos) (tC (.str x)):=⟨L2.nA⟩
theorem bG {v:V} {u:Value} (hg:Gl X x) (hm:X.mg x=some u) (r:RelV v u) (hd:(x == ("__debug__":Str))=false:=by decide):QE X (.Name x pos) (tC v):=⟨L2.bG hg hm r hd⟩
theorem mq {v:V} {u:Value} (hg:Gl X x) (hm:X.mg x=none) (hv:bootBuiltins x=some u) (r:RelV v u) (hn:x≠"__name__":=by decide) (hd:(x == ("__debug__":Str))=false:=by decide):QE X (.Name x pos) (tC v):=⟨L2.mq hg hm hv r hn hd⟩
theorem bp {op:Operator} {r:R2} (ho:er X (binaryOp op) r) (ha:QE X a ta) (hb:QE X b tb):QE X (.BinOp a op b pos) (E_ r ta tb):=⟨L2.bp ho ha.run hb.run⟩
theorem Am {op:UnaryOp} {r:V→Hp→VK→Prop} (ho:t_ X (unaryOp op) r) (ha:QE X a ta):QE X (.UnaryOp op a pos) (OY r ta):=⟨L2.Am ho ha.run⟩
theorem o7 {op:CmpOp} {r:R2} (ho:er X (compareOp op) r) (ha:QE X a ta) (hb:QE X b tb) (hm:behindInMarks op b=false):QE X (.Compare a [op] [b] pos) (E_ r ta tb):=⟨L2.o7 ho ha.run hb.run hm⟩
theorem dB {op:CmpOp} {r:R2} (ho:er X (compareOp op) r) (ha:QE X a ta) (hb:QE X b tb) (hm:behindInMarks op b=false):QT X (.Compare a [op] [b] pos) (A8 (E_ r ta tb)):=⟨L2.dB ho ha.run hb.run hm⟩
theorem yU {op} (h:QE X a ta):QE X (.BoolOp op [a] pos) ta:=⟨L2.yU h.run⟩
theorem yR (ha:QE X a ta) (hb:QE X (.BoolOp .And (b :: rest) pos) tb):QE X (.BoolOp .And (a :: b :: rest) pos) (A3 ta tb):=⟨L2.yR ha.run hb.run⟩
theorem Eh (ha:QE X a ta) (hb:QE X (.BoolOp .Or (b :: rest) pos) tb):QE X (.BoolOp .Or (a :: b :: rest) pos) (HY ta tb):=⟨L2.Eh ha.run hb.run⟩
theorem yT (ha:QE X a ta):QE X (.UnaryOp .Not a pos) (A6 ta):=⟨L2.yT ha.run⟩
theorem y0 (ha:QT X a tA):QT X (.UnaryOp .Not a pos) (HX tA):=⟨L2.y0 ha.run⟩
theorem o_ (ha:QT X a tA):QW X (.BoolOp .And [a] pos) tA:=⟨L2.o_ ha.run⟩
theorem uV (ha:QT X a tA):QW X (.BoolOp .Or [a] pos) tA:=⟨L2.uV ha.run⟩
theorem uU (ha:QT X a tA) (hb:QW X (.BoolOp .And (b :: rest) pos) tB'):QW X (.BoolOp .And (a :: b :: rest) pos) (E6 tA tB'):=⟨L2.uU ha.run hb.run⟩
theorem Ar (ha:QT X a tA) (hb:QW X (.BoolOp .Or (b :: rest) pos) tB'):QW X (.BoolOp .Or (a :: b :: rest) pos) (Og tA tB'):=⟨L2.Ar ha.run hb.run⟩
theorem IY (h:QW X e tA):QT X e tA:=⟨h.run.pt⟩
theorem y3 (h:QE X e te) (he:∀whole,isTrue e X.env whole=(do let v ← whole;standAt e.pos;holding [v] (truthy v)):=by intro _;rfl):QT X e (tB te):=⟨L2.y3 h.run he⟩
theorem qr (hc:QT X c tA) (ha:QE X a ta) (hb:QE X b tb):QE X (.IfExp c a b pos) (OV tA ta tb):=⟨L2.qr hc.run ha.run hb.run⟩
theorem aO:QA X [] vD:=⟨L2.aO⟩
theorem ak (ha:QE X e te) (hr:QA X es t) (hs:starEach (e :: es) X.env=(false,eval e X.env) :: starEach es X.env:=by rfl):QA X (e :: es) (eG te t):=⟨L2.ak ha.run hr.run hs⟩
theorem Eb {es:List Expr} (vs:List V) (h:es.map ue=vs.map some):QA X es (λ_ H Q=>Q vs H):=⟨qm vs h⟩
theorem qs {x1} (h:QA X es t):QE X (.Tuple es x1 pos) (Ia t):=⟨L2.qs h.run⟩
theorem gE (h:QA X es t):QE X (.List es pos) (Cp t):=⟨L2.gE h.run⟩
theorem cj {r:R2} (hr:og X r) (ha:QE X a ta) (hb:QE X b tb) (hs:cJ b):QE X (.Subscript a b pos) (E_ r ta tb):=⟨L2.cj hr ha.run hb.run hs⟩
theorem o8:QO X none pA:=⟨L2.o8⟩
theorem kq (h:QE X e te):QO X (some e) (A7 te):=⟨L2.kq h.run⟩
theorem jM {lo hi:Option Expr} {tl th:TO} {r:V→Option Int→Option Int→Hp→VK→Prop} (hr:pO X r) (he:QE X e te) (hl:QO X lo tl) (hu:QO X hi th):QE X (.Subscript e (.Slice lo hi none p2) pos) (OX r te tl th):=⟨L2.jM hr he.run hl.run hu.run⟩
theorem aR {id:String} {r:List V→Hp→VK→Prop} (hc:bS X (.builtin id) r) (hg:Gl X x) (hm:X.mg x=none) (hv:bootBuiltins x=some (.builtin id)) (ha:QA X (e :: es) t) (hn:x≠"__name__":=by decide) (hdb:(x == ("__debug__":Str))=false:=by decide)
  (he:starEach (e :: es) X.env=(false,eval e X.env) :: starEach es X.env:=by rfl) (hpl:(backTo pos (starEach es X.env)).any (·.1)=false:=by rfl):QE X (.Call (.Name x p) (e :: es) [] pos) (HU r t):=⟨L2.aR hc hg hm hv ha.run hn hdb he hpl⟩
theorem nv {T:String} {r:List V→Hp→VK→Prop} (hc:bS X (.type T) r) (hg:Gl X x) (hm:X.mg x=none) (hv:bootBuiltins x=some (.type T)) (ha:QA X (e :: es) t) (hn:x≠"__name__":=by decide) (hdb:(x == ("__debug__":Str))=false:=by decide)
  (he:starEach (e :: es) X.env=(false,eval e X.env) :: starEach es X.env:=by rfl) (hpl:(backTo pos (starEach es X.env)).any (·.1)=false:=by rfl):QE X (.Call (.Name x p) (e :: es) [] pos) (HU r t):=⟨L2.nv hc hg hm hv ha.run hn hdb he hpl⟩
theorem wU {k k':Nat} {ps:List Str} {sp:L2.Sp} (C:rh X.prog X.w X.K X.mg X.base k x ps sp) (hr:bK k' X.A) (hk:k≤k') (hg:Gl X x) (ha:QA X (e :: es) t)
  (hdb:(x == ("__debug__":Str))=false:=by decide) (he:starEach (e :: es) X.env=(false,eval e X.env) :: starEach es X.env:=by rfl) (hpl:(backTo pos (starEach es X.env)).any (·.1)=false:=by rfl) :
  QE X (.Call (.Name x p) (e :: es) [] pos) (ra sp [] E0 t):=⟨KS C hr hk hg ha.run hdb he hpl⟩
theorem qp {name:Str} {T id:String} {r:V→List V→Hp→VK→Prop} (pa:PlainAttrs T) (slot:Slot T name id) (hty:typeOf (.builtin id)=pure (.type "method_descriptor")) (hm:oJ X id r) (ho:QE X o to) (ha:QA X (e :: es) t)
  (hbase:attributeBase o name X.env (eval o X.env)=eval o X.env:=by rfl)
  (hfew:((backTo cpos (starEach (e :: es) X.env)).all (λx=>!x.1) && (backToKw cpos (keywordEach [] X.env)).all (λx=>x.1.isSome)
   && decide ((e :: es).length + ([]:List Keyword).length + (if ([]:List Keyword).isEmpty then 0 else 1) < 30))=true:=by rfl)
  (hline:(apos.endLine == cpos.line)=true:=by rfl) (hs:starEach (e :: es) X.env=(false,eval e X.env) :: starEach es X.env:=by rfl) (hplain:(backTo cpos (starEach es X.env)).any (·.1)=false:=by rfl) :
  QE X (.Call (.Attribute o name apos) (e :: es) [] cpos) (OU X.K T r to t):=⟨L2.qp pa slot hty hm ho.run ha.run hbase hfew hline hs hplain⟩
end
section
variable {X:Cx} {st:Stmt} {rest:List Stmt} {t u:TS} {e tg:Expr} {es:List Expr} {te:TE} {pos:Pos} {g:TG}
theorem fm:QB X [] A5:=⟨L2.fm⟩
theorem aU (h1:QS X st t) (h2:QB X rest u):QB X (st :: rest) (H_ t u):=⟨L2.aU h1.run h2.run⟩
theorem bC (h1:QS X st t):QB X [st] t:=⟨L2.bC h1.run⟩
theorem wW (h1:QS X st t) (h2:QB X rest u):QB X (st :: rest) (Od t u):=⟨Ho h1.run h2.run⟩
theorem nE {sts:List Stmt}:QB X sts zt:=⟨L2.nE⟩
theorem qw:QS X (.Break pos) zr:=⟨L2.qw⟩
theorem kr (he:QE X e te) (hs:swapsWith e none pos.line X.env=pure false:=by rfl):QS X (.Expr e pos) (A4 te):=⟨L2.kr he.run hs⟩
theorem dH (he:QE X e te):QS X (.Return (some e) pos) (H0 te):=⟨L2.dH he.run⟩
theorem mB {c:Expr} {a b:List Stmt} {tc:TT} (hc:QT X c tc) (ha:QB X a t) (hb:QB X b u):QS X (.If c a b pos) (HV tc t u):=⟨L2.mB hc.run ha.run hb.run⟩
theorem jU {c:Expr} {body:List Stmt} {tc:TT} {tb:TS} (hp:PassesOwn (model X.prog X.w) X.A X.env X.xe) (hc:QT X c tc) (hb:QB X body tb):QS X (.While c body [] pos) (vE tc tb):=⟨L2.jU hp hc.run hb.run⟩
theorem ko {i:Nat} {x:Str} (hN:X.N.Nodup) (hi:X.N[i]?=some x) (hx:Loc X.env.scope x) (hf:X.fn x=true∨X.env.scope.names.lookup x=some .local:=by first | exact .inl rfl | exact .inr rfl | assumption):QG X (.Name x pos) (om i):=⟨L2.ko hN hi hx hf⟩
theorem uP:OF X [] Gm:=⟨L2.uP⟩
theorem qv {e:Expr} {es:List Expr} {t:TG} {u:oi} (h1:QG X e t) (h2:OF X es u)
  (hs:(assignEach (e :: es) X.env).map (·.2)=assign e X.env :: (assignEach es X.env).map (·.2):=by rfl):OF X (e :: es) (zV t u):=⟨L2.qv h1.run h2.run hs⟩
theorem yW {k:Nat} {t:oi} {n:Nat} (hc:X.calm=true) (h:OF X es t)
  (hn:(assignEach es X.env).length=n:=by rfl) (hst:(assignEach es X.env).findIdx? (·.1)=none:=by rfl):QG X (.Tuple es k pos) (Gp X.K n t):=⟨L2.yW hc h.run hn hst⟩
theorem uO {o i:Expr} {to ti:TE} {t:il} (ho:QE X o to) (hi:QE X i ti) (hs:ij X t)
  (ha:∀v,assign (.Subscript o i pos) X.env v=(do
   let ov ← holding [v] (eval o X.env)
   let iv ← holding [v,ov] (eval i X.env)
   standAt pos
   holding [v,ov,iv] (setItem ov iv v)
   release [v,ov,iv] []):=by intro _;rfl):QG X (.Subscript o i pos) (Gn to ti t):=⟨L2.uO ho.run hi.run hs ha⟩
theorem uR {tg e:Expr} (he:QE X e te) (hg:QG X tg g) (hs:swapsWithSole [tg] e pos.line X.env=pure false:=by rfl) (hw:swappedStores [tg] e X.env=pure none:=by rfl)
  (h1:(assignEach [tg] X.env).map (·.2)=[assign tg X.env]:=by rfl):QS X (.Assign [tg] e pos) (xE te g):=⟨L2.uR he.run hg.run hs hw h1⟩
theorem cF {i:Nat} {x:Str} {pos':Pos} (hN:X.N.Nodup) (hi:X.N[i]?=some x) (hx:Loc X.env.scope x) (he:QE X e te) (hs:swapsWith e (some (.Name x pos')) pos.line X.env=pure false:=by rfl) (hf:X.fn x=true∨X.env.scope.names.lookup x=some .local:=by first | exact .inl rfl | exact .inr rfl | assumption) :
  QS X (.Assign [.Name x pos'] e pos) (xE te (om i)):=⟨L2.cF hN hi hx he.run hs hf⟩
theorem nC {i j:Nat} {x y:Str} {a b:Expr} {ta:TA} {px py pt:Pos} {kt k2 pt2} (hc:X.calm=true) (hN:X.N.Nodup) (hi:X.N[i]?=some x) (hj:X.N[j]?=some y) (hij:i≠j)
  (hx:X.env.scope.names.lookup x=some .local) (hy:X.env.scope.names.lookup y=some .local) (ha:QA X [a,b] ta)
  (hw:swappedStores [.Tuple [.Name x px,.Name y py] kt pt] (.Tuple [a,b] k2 pt2) X.env=pure (some [x,y]))
  (hs:swapsWithSole [.Tuple [.Name x px,.Name y py] kt pt] (.Tuple [a,b] k2 pt2) pos.line X.env=pure false:=by rfl) :
  QS X (.Assign [.Tuple [.Name x px,.Name y py] kt pt] (.Tuple [a,b] k2 pt2) pos) (HZ i j ta):=⟨L2.nC hc hN hi hj hij hx hy ha.run hw hs⟩
theorem mr {l:Expr} {tl:TE} (hl:QE X l tl):QI X tg l (zY X.K tl):=⟨L2.mr hl.run⟩
theorem ft {a:Expr} {ta:TA} {p pos:Pos} (hg:Gl X "range") (hm:X.mg "range"=none) (ha:QA X [a] ta) (hs:starEach [a] X.env=[(false,eval a X.env)]:=by rfl):QI X tg (.Call (.Name "range" p) [a] [] pos) (zZ ta):=⟨L2.ft hg hm ha.run hs⟩
theorem nB {iter:Expr} {body:List Stmt} {wi:TI} {g:TG} {tb:TS} {pos:Pos} (hp:PassesOwn (model X.prog X.w) X.A X.env X.xe) (hc:X.calm=true) (hi:QI X tg iter wi) (hg:QG X tg g) (hb:QB X body tb)
  (hs:∀x,foldedSetIterable iter X.env x=pure x:=by intro _;rfl):QS X (.For tg iter body [] pos) (Lq wi g tb):=⟨L2.nB hp hc hi.run hg.run hb.run hs⟩
theorem Hc {elt iter:Expr} {x:Str} {px:Pos} {sc:Scope} {pos:Pos} {wi:TI} (osc:Scope) (N:List Str) (ks:List (Str × Nat)) (hc:X.calm=true) (ho:X.env.scope=osc) (hN:X.N=N) (hi:QI X (.Name x px) iter wi)
  (he:∀cl C s₀ H₀ fp pins,QE (f7 X sc cl C x ks s₀ H₀ fp pins) elt te) (ok:de sc osc N x ks:=by decide +kernel) (hs:∀x,foldedSetIterable iter X.env x=pure x:=by intro _;rfl) :
  QE X (.ListComp elt [⟨.Name x px,iter,[],0⟩] sc pos) (OW wi ks te):=⟨IW osc N ks hc ho hN hi.run (λcl C s₀ H₀ fp pins=>(he cl C s₀ H₀ fp pins).run) ok hs⟩
theorem Hm {elt iter:Expr} {x y:Str} {px py:Pos} {sc:Scope} {pos spos:Pos} {wi:TI} {i:Nat} (osc:Scope) (N:List Str) (ks:List (Str × Nat)) (hc:X.calm=true) (ho:X.env.scope=osc) (hN:X.N=N) (hnd:X.N.Nodup) (hy:X.N[i]?=some y) (hl:Loc X.env.scope y)
  (hi:QI X (.Name x px) iter wi) (he:∀cl C s₀ H₀ fp pins,QE (f7 X sc cl C x ks s₀ H₀ fp pins) elt te) (ok:de sc osc N x ks:=by decide +kernel) (hs:∀x,foldedSetIterable iter X.env x=pure x:=by intro _;rfl)
  (hsw:swapsWith (.ListComp elt [⟨.Name x px,iter,[],0⟩] sc pos) (some (.Name y py)) spos.line X.env=pure true:=by rfl) (hf:X.fn y=true∨X.env.scope.names.lookup y=some .local:=by first | exact .inl rfl | exact .inr rfl | assumption) :
  QS X (.Assign [.Name y py] (.ListComp elt [⟨.Name x px,iter,[],0⟩] sc pos) spos) (Lr wi ks te i):=⟨Nx osc N ks hc ho hN hnd hy hl hi.run (λcl C s₀ H₀ fp pins=>(he cl C s₀ H₀ fp pins).run) ok hs hsw hf⟩
end
end Ov
namespace Ov
open PySem PySem.Spec PyProof.Rows
open L2 (V HO Hp Inv Cx VK TE TA Vals RelV er bS cP R2 upd EP vals1 intsAre_of Gl)
section
variable {X:Cx}
end
end Ov
namespace Ov
open PySem PySem.Spec PyProof.Rows
open L2 (V HO Hp Inv Cx VK TE TA Vals RelV er bS cP fv R2 upd bq)
inductive Py where
 | non | bl (b:Bool) | int (i:Int) | str (x:Str) | tup (xs:List Py) | lst (xs:List Py)
mutual
def At (K:PySem.W.Frag) (H:Hp):Py→V→Prop
 | .non,v=>v=.non
 | .bl b,v=>v=.bl b
 | .int i,v=>v=.int i
 | .str x,v=>v=.str x
 | .tup xs,v=>∃a vs,v=.ref a∧fv K H a vs∧rp K H xs vs
 | .lst xs,v=>∃a vs,v=.ref a∧cP K H a vs∧rp K H xs vs
def rp (K:PySem.W.Frag) (H:Hp):List Py→List V→Prop
 | [],vs=>vs=[]
 | x :: xs,vs=>∃v us,vs=v :: us∧At K H x v∧rp K H xs us
end
mutual
def kg:Py→Py→Bool
 | .non,.non=>true
 | .bl a,.bl b=>a == b
 | .int a,.int b=>a == b
 | .bl a,.int b=>(if a then 1 else 0) == b
 | .int a,.bl b=>a == (if b then 1 else 0)
 | .str a,.str b=>a == b
 | .tup xs,.tup ys=>jz xs ys
 | .lst xs,.lst ys=>jz xs ys
 | _,_=>false
def jz:List Py→List Py→Bool
 | [],[]=>true
 | x :: xs,y :: ys=>kg x y && jz xs ys
 | _,_=>false
end
mutual
def dep:Py→Nat
 | .tup xs=>dG xs + 1
 | .lst xs=>dG xs + 1
 | _=>0
def dG:List Py→Nat
 | []=>0
 | x :: xs=>max (dep x) (dG xs)
end
mutual
theorem vY:∀x:Py,kg x x=true
 | .non=>rfl
 | .bl b=>by simp [kg]
 | .int b=>by simp [kg]
 | .str b=>by simp [kg]
 | .tup xs=>by simpa [kg] using m8 xs
 | .lst xs=>by simpa [kg] using m8 xs
theorem m8:∀xs:List Py,jz xs xs=true
 | []=>rfl
 | x :: xs=>by simp [jz,vY x,m8 xs]
end
mutual
theorem At.same {K:PySem.W.Frag} {H H':Hp} (e:bq H H'):∀{x:Py} {v:V},At K H x v→At K H' x v
 | .non,_,h=>h
 | .bl _,_,h=>h
 | .int _,_,h=>h
 | .str _,_,h=>h
 | .tup xs,_,⟨a,vs,e1,h,k⟩=>⟨a,vs,e1,e.tup h,rp.same e k⟩
 | .lst xs,_,⟨a,vs,e1,h,k⟩=>⟨a,vs,e1,e.seq h,rp.same e k⟩
theorem rp.same {K:PySem.W.Frag} {H H':Hp} (e:bq H H'):∀{xs:List Py} {vs:List V},rp K H xs vs→rp K H' xs vs
 | [],_,h=>h
 | _ :: _,_,⟨v,us,e1,h,k⟩=>⟨v,us,e1,At.same e h,rp.same e k⟩
end
theorem rp.length {K:PySem.W.Frag} {H:Hp}:∀{xs:List Py} {vs:List V},rp K H xs vs→xs.length=vs.length
 | [],_,h=>by cases h;rfl
 | _ :: xs,_,⟨v,us,e1,_,k⟩=>by subst e1;simp [rp.length k]
def BA (xs ys:List Py) (j:Nat):Bool:=match xs[j]?,ys[j]? with
 | some x,some y=>kg x y
 | _,_=>false
theorem iq:∀(xs ys:List Py),((SS (min xs.length ys.length)).all (BA xs ys) && (xs.length == ys.length))=jz xs ys
 | [],[]=>rfl
 | [],_ :: _=>by simp [jz]
 | _ :: _,[]=>by simp [jz]
 | x :: xs,y :: ys=>by
  have ih:=iq xs ys
  rw [Sv,Sv,Nat.succ_min_succ,List.range_succ_eq_map,Uy,List.all_map]
  have e1:(BA (x :: xs) (y :: ys) ∘ Nat.succ)=BA xs ys:=by
   funext j
   simp [BA]
  have e2:(xs.length + 1 == ys.length + 1)=(xs.length == ys.length):=by
   rw [Tr]
   simp
  rw [e1,e2,Bool.and_assoc,ih]
  simp [BA,jz]
section
variable {X:Cx} {pins:List (Addr × Obj)} {σ:L2.St} {H:Hp} {s:Shared}
mutual
theorem At.one (I:Inv X pins σ H s):∀{x y:Py} {v:V},At X.K H x v→At X.K H y v→kg x y=true
 | .non,y,v,h,k=>by cases h;cases y <;> simp_all [At,kg]
 | .bl b,y,v,h,k=>by cases h;cases y <;> simp_all [At,kg]
 | .int b,y,v,h,k=>by cases h;cases y <;> simp_all [At,kg]
 | .str b,y,v,h,k=>by cases h;cases y <;> simp_all [At,kg]
 | .tup xs,y,v,h,k=>by
  obtain ⟨a,vs,rfl,h1,h2⟩:=h
  cases y with
  | tup ys =>
   obtain ⟨b,us,e,k1,k2⟩:=k
   cases e
   cases I.Cq h1 k1
   simpa [kg] using rp.one I h2 k2
  | lst ys =>
   obtain ⟨b,us,e,k1,k2⟩:=k
   cases e
   obtain ⟨_,_,⟨o,e1,c1,_⟩,_⟩:=I.tuple h1
   obtain ⟨_,_,⟨o',n,e2,c2,_⟩,_⟩:=I.list k1
   rw [e1] at e2;cases e2;exact absurd (Value.type.inj (c1.symm.trans c2)) (by decide)
  | _=>cases k
 | .lst xs,y,v,h,k=>by
  obtain ⟨a,vs,rfl,h1,h2⟩:=h
  cases y with
  | lst ys =>
   obtain ⟨b,us,e,k1,k2⟩:=k
   cases e
   cases I.jH h1 k1
   simpa [kg] using rp.one I h2 k2
  | tup ys =>
   obtain ⟨b,us,e,k1,k2⟩:=k
   cases e
   obtain ⟨_,_,⟨o,e1,c1,_⟩,_⟩:=I.tuple k1
   obtain ⟨_,_,⟨o',n,e2,c2,_⟩,_⟩:=I.list h1
   rw [e1] at e2;cases e2;exact absurd (Value.type.inj (c1.symm.trans c2)) (by decide)
  | _=>cases k
theorem rp.one (I:Inv X pins σ H s):∀{xs ys:List Py} {vs:List V},rp X.K H xs vs→rp X.K H ys vs→jz xs ys=true
 | [],ys,vs,h,k=>by
  cases h
  cases ys with
  | nil=>rfl
  | cons y ys=>obtain ⟨_,_,e,_⟩:=k;cases e
 | x :: xs,ys,vs,h,k=>by
  obtain ⟨v,us,rfl,h1,h2⟩:=h
  cases ys with
  | nil=>cases k
  | cons y ys =>
   obtain ⟨v',us',e,k1,k2⟩:=k
   cases e
   simp [jz,At.one I h1 k1,rp.one I h2 k2]
end
mutual
theorem Pf (I:Inv X pins σ H s):∀(x y:Py) {v v':V} {u u':Value} {A:Around},At X.K H x v→At X.K H y v'→RelV v u→RelV v' u'→A.units + dep x < cLine→SeqAt.EqAt A s u u' (kg x y)
 | .non,y,v,v',u,u',A,h,k,r,r',hu=>by
  cases h;cases r
  cases y with
  | non=>cases k;cases r';exact SeqAt.EqAt.same _
  | bl b=>cases k;cases r';exact SeqAt.EqAt.none_bool _
  | int b=>cases k;obtain ⟨t,rfl⟩:=r';exact SeqAt.EqAt.none_int _ _
  | str b=>cases k;obtain ⟨t,rfl⟩:=r';exact SeqAt.EqAt.none_str _ _
  | tup ys=>obtain ⟨a,vs,rfl,h1,h2⟩:=k;cases r';obtain ⟨_,_,p,_⟩:=I.tuple h1;exact SeqAt.EqAt.none_tuple p (by simpa [dep] using hu)
  | lst ys=>obtain ⟨a,vs,rfl,h1,h2⟩:=k;cases r';obtain ⟨_,_,p,_⟩:=I.list h1;exact SeqAt.EqAt.none_list p.isList (by simpa [dep] using hu)
 | .bl x,y,v,v',u,u',A,h,k,r,r',hu=>by
  cases h;cases r
  cases y with
  | non=>cases k;cases r';exact SeqAt.EqAt.bool_none _
  | bl b=>cases k;cases r';exact SeqAt.EqAt.bool_bool _ _
  | int b=>cases k;obtain ⟨t,rfl⟩:=r';exact SeqAt.EqAt.bool_int _ _ _
  | str b=>cases k;obtain ⟨t,rfl⟩:=r';exact SeqAt.EqAt.bool_str _ _ _
  | tup ys=>obtain ⟨a,vs,rfl,h1,h2⟩:=k;cases r';obtain ⟨_,_,p,_⟩:=I.tuple h1;exact SeqAt.EqAt.bool_tuple _ p (by simpa [dep] using hu)
  | lst ys=>obtain ⟨a,vs,rfl,h1,h2⟩:=k;cases r';obtain ⟨_,_,p,_⟩:=I.list h1;exact SeqAt.EqAt.bool_list _ p.isList (by simpa [dep] using hu)
 | .int x,y,v,v',u,u',A,h,k,r,r',hu=>by
  cases h;obtain ⟨t0,rfl⟩:=r
  cases y with
  | non=>cases k;cases r';exact SeqAt.EqAt.int_none _ _
  | bl b=>cases k;cases r';exact SeqAt.EqAt.int_bool _ _ _
  | int b=>cases k;obtain ⟨t,rfl⟩:=r';exact SeqAt.EqAt.int_int _ _ _ _
  | str b=>cases k;obtain ⟨t,rfl⟩:=r';exact SeqAt.EqAt.int_str _ _ _ _
  | tup ys=>obtain ⟨a,vs,rfl,h1,h2⟩:=k;cases r';obtain ⟨_,_,p,_⟩:=I.tuple h1;exact SeqAt.EqAt.int_tuple _ _ p (by simpa [dep] using hu)
  | lst ys=>obtain ⟨a,vs,rfl,h1,h2⟩:=k;cases r';obtain ⟨_,_,p,_⟩:=I.list h1;exact SeqAt.EqAt.int_list _ _ p.isList (by simpa [dep] using hu)
 | .str x,y,v,v',u,u',A,h,k,r,r',hu=>by
  cases h;obtain ⟨t0,rfl⟩:=r
  cases y with
  | non=>cases k;cases r';exact SeqAt.EqAt.str_none _ _
  | bl b=>cases k;cases r';exact SeqAt.EqAt.str_bool _ _ _
  | int b=>cases k;obtain ⟨t,rfl⟩:=r';exact SeqAt.EqAt.str_int _ _ _ _
  | str b=>cases k;obtain ⟨t,rfl⟩:=r';exact SeqAt.EqAt.str_str _ _ _ _
  | tup ys=>obtain ⟨a,vs,rfl,h1,h2⟩:=k;cases r';obtain ⟨_,_,p,_⟩:=I.tuple h1;exact SeqAt.EqAt.str_tuple _ _ p (by simpa [dep] using hu)
  | lst ys=>obtain ⟨a,vs,rfl,h1,h2⟩:=k;cases r';obtain ⟨_,_,p,_⟩:=I.list h1;exact SeqAt.EqAt.str_list _ _ p.isList (by simpa [dep] using hu)
 | .tup xs,y,v,v',u,u',A,h,k,r,r',hu=>by
  have h0:=h
  obtain ⟨a,vs,rfl,h1,h2⟩:=h
  cases r
  obtain ⟨is,r1,p1,_⟩:=I.tuple h1
  have hu0:A.units < cLine:=by omega
  have hu1:A.in1.units + dG xs < cLine:=by
   have e:dep (.tup xs)=dG xs + 1:=by rw [dep]
   rw [e] at hu
   show A.units + 1 + dG xs < cLine
   omega
  cases y with
  | non=>cases k;cases r';exact SeqAt.EqAt.tuple_none p1 hu0
  | bl b=>cases k;cases r';exact SeqAt.EqAt.tuple_bool _ p1 hu0
  | int b=>cases k;obtain ⟨t,rfl⟩:=r';exact SeqAt.EqAt.tuple_int _ _ p1 hu0
  | str b=>cases k;obtain ⟨t,rfl⟩:=r';exact SeqAt.EqAt.tuple_str _ _ p1 hu0
  | lst ys=>obtain ⟨b,us,rfl,k1,k2⟩:=k;cases r';obtain ⟨_,_,p,_⟩:=I.list k1;exact SeqAt.EqAt.tuple_list p1 p.isList hu0
  | tup ys =>
   have k0:=k
   obtain ⟨b,us,rfl,k1,k2⟩:=k
   cases r'
   by_cases hab:a=b
   ·subst hab
    rw [At.one I h0 k0]
    exact SeqAt.EqAt.same _
   ·obtain ⟨js,r2,p2,_⟩:=I.tuple k1
    refine SeqAt.EqAt.of_refs hab ?_
    have key:=SeqAt.RcAt.tuples (e:=BA xs ys) p1 p2 hu0 λj q1 q2=>pW I xs ys h2 k2 r1 r2 hu1 j (by simpa using q1) (by simpa using q2)
    have e1:is.length=xs.length:=by rw [← r1.length,h2.length]
    have e2:js.length=ys.length:=by rw [← r2.length,k2.length]
    simp only [Sa] at key
    rw [e1,e2,iq] at key
    simpa [kg] using key
 | .lst xs,y,v,v',u,u',A,h,k,r,r',hu=>by
  have h0:=h
  obtain ⟨a,vs,rfl,h1,h2⟩:=h
  cases r
  obtain ⟨is,r1,p1,_⟩:=I.list h1
  have hu0:A.units < cLine:=by omega
  have hu1:A.in1.units + dG xs < cLine:=by
   have e:dep (.lst xs)=dG xs + 1:=by rw [dep]
   rw [e] at hu
   show A.units + 1 + dG xs < cLine
   omega
  cases y with
  | non=>cases k;cases r';exact SeqAt.EqAt.list_none p1.isList hu0
  | bl b=>cases k;cases r';exact SeqAt.EqAt.list_bool _ p1.isList hu0
  | int b=>cases k;obtain ⟨t,rfl⟩:=r';exact SeqAt.EqAt.list_int _ _ p1.isList hu0
  | str b=>cases k;obtain ⟨t,rfl⟩:=r';exact SeqAt.EqAt.list_str _ _ p1.isList hu0
  | tup ys=>obtain ⟨b,us,rfl,k1,k2⟩:=k;cases r';obtain ⟨_,_,p,_⟩:=I.tuple k1;exact SeqAt.EqAt.list_tuple p1.isList p hu0
  | lst ys =>
   have k0:=k
   obtain ⟨b,us,rfl,k1,k2⟩:=k
   cases r'
   by_cases hab:a=b
   ·subst hab
    rw [At.one I h0 k0]
    exact SeqAt.EqAt.same _
   ·obtain ⟨js,r2,p2,_⟩:=I.list k1
    refine SeqAt.EqAt.of_refs hab ?_
    have e1:is.length=xs.length:=by rw [← r1.length,h2.length]
    have e2:js.length=ys.length:=by rw [← r2.length,k2.length]
    have ae:=iq xs ys
    by_cases hl:xs.length=ys.length
    ·have key:=SeqAt.RcAt.lists (e:=BA xs ys) p1.isList p2.isList (by simp only [Sa];omega) hu0 λj q1 q2=>pW I xs ys h2 k2 r1 r2 hu1 j (by simpa using q1) (by simpa using q2)
     simp only [Sa] at key
     rw [hl,UG] at ae
     have e3:(ys.length == ys.length)=true:=by simp
     rw [e3,Tx] at ae
     rw [e1,hl,ae] at key
     simpa [kg] using key
    ·have key:=SeqAt.RcAt.lists_lengths p1.isList p2.isList (A:=A) (by simp only [Sa];rw [e1,e2];simpa using hl) hu0
     have e3:jz xs ys=false:=by
      rw [← ae]
      have:(xs.length == ys.length)=false:=by simpa using hl
      rw [this,TZ]
     simpa [kg,e3] using key
theorem pW (I:Inv X pins σ H s):∀(xs ys:List Py) {vs us:List V} {is js:List Value} {A:Around},rp X.K H xs vs→rp X.K H ys us→Vals vs is→Vals us js→A.units + dG xs < cLine→∀j (h1:j < is.length) (h2:j < js.length),SeqAt.EqAt A s is[j] js[j] (BA xs ys j)
 | [],ys,vs,us,is,js,A,h,k,r,r',hu,j,h1,h2=>by
  cases h;cases r;exact absurd h1 (T3 _)
 | x :: xs,[],vs,us,is,js,A,h,k,r,r',hu,j,h1,h2=>by
  cases k;cases r';exact absurd h2 (T3 _)
 | x :: xs,y :: ys,vs,us,is,js,A,h,k,r,r',hu,j,h1,h2=>by
  obtain ⟨v,vs',rfl,a1,a2⟩:=h
  obtain ⟨v',us',rfl,b1,b2⟩:=k
  cases r with
  | cons q1 q2 =>
   cases r' with
   | cons z1 z2 =>
    have e:dG (x :: xs)=max (dep x) (dG xs):=by rw [dG]
    rw [e] at hu
    cases j with
    | zero=>exact Pf I x y a1 b1 q1 z1 (by omega)
    | succ j =>
     have:=pW I xs ys a2 b2 q2 z2 (A:=A) (by omega) j (by simpa using h1) (by simpa using h2)
     simpa [BA] using this
end
theorem Qk (I:Inv X pins σ H s) (x y:Py) {v v':V} {u u':Value} {A:Around} (h:At X.K H x v) (k:At X.K H y v') (r:RelV v u) (r':RelV v' u') (hu:A.units + dep x < cLine):SeqAt.RcAt A s u u' (kg x y):=by
 have hu0:A.units < cLine:=by omega
 cases x with
 | non =>
  cases h;cases r
  cases y with
  | non=>cases k;cases r';exact SeqAt.RcAt.none_none
  | bl b=>cases k;cases r';exact SeqAt.RcAt.none_bool _
  | int b=>cases k;obtain ⟨t,rfl⟩:=r';exact SeqAt.RcAt.none_int _ _
  | str b=>cases k;obtain ⟨t,rfl⟩:=r';exact SeqAt.RcAt.none_str _ _
  | tup ys=>obtain ⟨b,us,rfl,k1,k2⟩:=k;cases r';obtain ⟨js,r2,p2,_⟩:=I.tuple k1;exact SeqAt.RcAt.none_tuple p2 hu0
  | lst ys=>obtain ⟨b,us,rfl,k1,k2⟩:=k;cases r';obtain ⟨js,r2,p2,_⟩:=I.list k1;exact SeqAt.RcAt.none_list p2.isList hu0
 | bl i =>
  cases h;cases r
  cases y with
  | non=>cases k;cases r';exact SeqAt.RcAt.bool_none _
  | bl b=>cases k;cases r';exact SeqAt.RcAt.bool_bool _ _
  | int b=>cases k;obtain ⟨t,rfl⟩:=r';exact SeqAt.RcAt.bool_int _ _ _
  | str b=>cases k;obtain ⟨t,rfl⟩:=r';exact SeqAt.RcAt.bool_str _ _ _
  | tup ys=>obtain ⟨b,us,rfl,k1,k2⟩:=k;cases r';obtain ⟨js,r2,p2,_⟩:=I.tuple k1;exact SeqAt.RcAt.bool_tuple _ p2 hu0
  | lst ys=>obtain ⟨b,us,rfl,k1,k2⟩:=k;cases r';obtain ⟨js,r2,p2,_⟩:=I.list k1;exact SeqAt.RcAt.bool_list _ p2.isList hu0
 | int i =>
  cases h;obtain ⟨t0,rfl⟩:=r
  cases y with
  | non=>cases k;cases r';exact SeqAt.RcAt.int_none _ _
  | bl b=>cases k;cases r';exact SeqAt.RcAt.int_bool _ _ _
  | int b=>cases k;obtain ⟨t,rfl⟩:=r';exact SeqAt.RcAt.int_int _ _ _ _
  | str b=>cases k;obtain ⟨t,rfl⟩:=r';exact SeqAt.RcAt.int_str _ _ _ _
  | tup ys=>obtain ⟨b,us,rfl,k1,k2⟩:=k;cases r';obtain ⟨js,r2,p2,_⟩:=I.tuple k1;exact SeqAt.RcAt.int_tuple _ _ p2 hu0
  | lst ys=>obtain ⟨b,us,rfl,k1,k2⟩:=k;cases r';obtain ⟨js,r2,p2,_⟩:=I.list k1;exact SeqAt.RcAt.int_list _ _ p2.isList hu0
 | str i =>
  cases h;obtain ⟨t0,rfl⟩:=r
  cases y with
  | non=>cases k;cases r';exact SeqAt.RcAt.str_none _ _
  | bl b=>cases k;cases r';exact SeqAt.RcAt.str_bool _ _ _
  | int b=>cases k;obtain ⟨t,rfl⟩:=r';exact SeqAt.RcAt.str_int _ _ _ _
  | str b=>cases k;obtain ⟨t,rfl⟩:=r';exact SeqAt.RcAt.str_str _ _ _ _
  | tup ys=>obtain ⟨b,us,rfl,k1,k2⟩:=k;cases r';obtain ⟨js,r2,p2,_⟩:=I.tuple k1;exact SeqAt.RcAt.str_tuple _ _ p2 hu0
  | lst ys=>obtain ⟨b,us,rfl,k1,k2⟩:=k;cases r';obtain ⟨js,r2,p2,_⟩:=I.list k1;exact SeqAt.RcAt.str_list _ _ p2.isList hu0
 | tup xs =>
  obtain ⟨a,vs,rfl,h1,h2⟩:=h
  cases r
  obtain ⟨is,r1,p1,_⟩:=I.tuple h1
  have hu1:A.in1.units + dG xs < cLine:=by
   have e:dep (.tup xs)=dG xs + 1:=by rw [dep]
   rw [e] at hu
   show A.units + 1 + dG xs < cLine
   omega
  cases y with
  | non=>cases k;cases r';exact SeqAt.RcAt.tuple_none p1 hu0
  | bl b=>cases k;cases r';exact SeqAt.RcAt.tuple_bool _ p1 hu0
  | int b=>cases k;obtain ⟨t,rfl⟩:=r';exact SeqAt.RcAt.tuple_int _ _ p1 hu0
  | str b=>cases k;obtain ⟨t,rfl⟩:=r';exact SeqAt.RcAt.tuple_str _ _ p1 hu0
  | tup ys =>
   obtain ⟨b,us,rfl,k1,k2⟩:=k;cases r';obtain ⟨js,r2,p2,_⟩:=I.tuple k1
   have e1:is.length=xs.length:=by rw [← r1.length,h2.length]
   have e2:js.length=ys.length:=by rw [← r2.length,k2.length]
   have ae:=iq xs ys
   have key:=SeqAt.RcAt.tuples (e:=BA xs ys) p1 p2 hu0 λj q1 q2=>pW I xs ys h2 k2 r1 r2 hu1 j (by simpa using q1) (by simpa using q2)
   simp only [Sa] at key
   rw [e1,e2,ae] at key
   simpa [kg] using key
  | lst ys=>obtain ⟨b,us,rfl,k1,k2⟩:=k;cases r';obtain ⟨js,r2,p2,_⟩:=I.list k1;exact SeqAt.RcAt.tuple_list p1 p2.isList hu0
 | lst xs =>
  obtain ⟨a,vs,rfl,h1,h2⟩:=h
  cases r
  obtain ⟨is,r1,p1,_⟩:=I.list h1
  have hu1:A.in1.units + dG xs < cLine:=by
   have e:dep (.lst xs)=dG xs + 1:=by rw [dep]
   rw [e] at hu
   show A.units + 1 + dG xs < cLine
   omega
  cases y with
  | non=>cases k;cases r';exact SeqAt.RcAt.list_none p1.isList hu0
  | bl b=>cases k;cases r';exact SeqAt.RcAt.list_bool _ p1.isList hu0
  | int b=>cases k;obtain ⟨t,rfl⟩:=r';exact SeqAt.RcAt.list_int _ _ p1.isList hu0
  | str b=>cases k;obtain ⟨t,rfl⟩:=r';exact SeqAt.RcAt.list_str _ _ p1.isList hu0
  | tup ys=>obtain ⟨b,us,rfl,k1,k2⟩:=k;cases r';obtain ⟨js,r2,p2,_⟩:=I.tuple k1;exact SeqAt.RcAt.list_tuple p1.isList p2 hu0
  | lst ys =>
   obtain ⟨b,us,rfl,k1,k2⟩:=k;cases r';obtain ⟨js,r2,p2,_⟩:=I.list k1
   have e1:is.length=xs.length:=by rw [← r1.length,h2.length]
   have e2:js.length=ys.length:=by rw [← r2.length,k2.length]
   have ae:=iq xs ys
   by_cases hl:xs.length=ys.length
   ·have key:=SeqAt.RcAt.lists (e:=BA xs ys) p1.isList p2.isList (by simp only [Sa];omega) hu0 λj q1 q2=>pW I xs ys h2 k2 r1 r2 hu1 j (by simpa using q1) (by simpa using q2)
    simp only [Sa] at key
    rw [hl,UG] at ae
    have e3:(ys.length == ys.length)=true:=by simp
    rw [e3,Tx] at ae
    rw [e1,hl,ae] at key
    simpa [kg] using key
   ·have key:=SeqAt.RcAt.lists_lengths p1.isList p2.isList (A:=A) (by simp only [Sa];rw [e1,e2];simpa using hl) hu0
    have e3:jz xs ys=false:=by
     rw [← ae]
     have:(xs.length == ys.length)=false:=by simpa using hl
     rw [this,TZ]
    simpa [kg,e3] using key
theorem N_ (I:Inv X pins σ H s) (x y:Py) {v v':V} {u u':Value} {A:Around} (h:At X.K H x v) (k:At X.K H y v') (r:RelV v u) (r':RelV v' u') (hu:A.units + dep x < cLine):SeqAt.RcNeAt A s u u' (!kg x y):=by
 have hu0:A.units < cLine:=by omega
 cases x with
 | non =>
  cases h;cases r
  cases y with
  | non=>cases k;cases r';exact SeqAt.RcNeAt.none_none
  | bl b=>cases k;cases r';exact SeqAt.RcNeAt.none_bool _
  | int b=>cases k;obtain ⟨t,rfl⟩:=r';exact SeqAt.RcNeAt.none_int _ _
  | str b=>cases k;obtain ⟨t,rfl⟩:=r';exact SeqAt.RcNeAt.none_str _ _
  | tup ys=>obtain ⟨b,us,rfl,k1,k2⟩:=k;cases r';obtain ⟨js,r2,p2,_⟩:=I.tuple k1;exact SeqAt.RcNeAt.none_tuple p2 hu0
  | lst ys=>obtain ⟨b,us,rfl,k1,k2⟩:=k;cases r';obtain ⟨js,r2,p2,_⟩:=I.list k1;exact SeqAt.RcNeAt.none_list p2.isList hu0
 | bl i =>
  cases h;cases r
  cases y with
  | non=>cases k;cases r';exact SeqAt.RcNeAt.bool_none _
  | bl b=>cases k;cases r';exact SeqAt.RcNeAt.bool_bool _ _
  | int b=>cases k;obtain ⟨t,rfl⟩:=r';exact SeqAt.RcNeAt.bool_int _ _ _
  | str b=>cases k;obtain ⟨t,rfl⟩:=r';exact SeqAt.RcNeAt.bool_str _ _ _
  | tup ys=>obtain ⟨b,us,rfl,k1,k2⟩:=k;cases r';obtain ⟨js,r2,p2,_⟩:=I.tuple k1;exact SeqAt.RcNeAt.bool_tuple _ p2 hu0
  | lst ys=>obtain ⟨b,us,rfl,k1,k2⟩:=k;cases r';obtain ⟨js,r2,p2,_⟩:=I.list k1;exact SeqAt.RcNeAt.bool_list _ p2.isList hu0
 | int i =>
  cases h;obtain ⟨t0,rfl⟩:=r
  cases y with
  | non=>cases k;cases r';exact SeqAt.RcNeAt.int_none _ _
  | bl b=>cases k;cases r';exact SeqAt.RcNeAt.int_bool _ _ _
  | int b=>cases k;obtain ⟨t,rfl⟩:=r';exact SeqAt.RcNeAt.int_int _ _ _ _
  | str b=>cases k;obtain ⟨t,rfl⟩:=r';exact SeqAt.RcNeAt.int_str _ _ _ _
  | tup ys=>obtain ⟨b,us,rfl,k1,k2⟩:=k;cases r';obtain ⟨js,r2,p2,_⟩:=I.tuple k1;exact SeqAt.RcNeAt.int_tuple _ _ p2 hu0
  | lst ys=>obtain ⟨b,us,rfl,k1,k2⟩:=k;cases r';obtain ⟨js,r2,p2,_⟩:=I.list k1;exact SeqAt.RcNeAt.int_list _ _ p2.isList hu0
 | str i =>
  cases h;obtain ⟨t0,rfl⟩:=r
  cases y with
  | non=>cases k;cases r';exact SeqAt.RcNeAt.str_none _ _
  | bl b=>cases k;cases r';exact SeqAt.RcNeAt.str_bool _ _ _
  | int b=>cases k;obtain ⟨t,rfl⟩:=r';exact SeqAt.RcNeAt.str_int _ _ _ _
  | str b=>cases k;obtain ⟨t,rfl⟩:=r';exact SeqAt.RcNeAt.str_str _ _ _ _
  | tup ys=>obtain ⟨b,us,rfl,k1,k2⟩:=k;cases r';obtain ⟨js,r2,p2,_⟩:=I.tuple k1;exact SeqAt.RcNeAt.str_tuple _ _ p2 hu0
  | lst ys=>obtain ⟨b,us,rfl,k1,k2⟩:=k;cases r';obtain ⟨js,r2,p2,_⟩:=I.list k1;exact SeqAt.RcNeAt.str_list _ _ p2.isList hu0
 | tup xs =>
  obtain ⟨a,vs,rfl,h1,h2⟩:=h
  cases r
  obtain ⟨is,r1,p1,_⟩:=I.tuple h1
  have hu1:A.in1.units + dG xs < cLine:=by
   have e:dep (.tup xs)=dG xs + 1:=by rw [dep]
   rw [e] at hu
   show A.units + 1 + dG xs < cLine
   omega
  cases y with
  | non=>cases k;cases r';exact SeqAt.RcNeAt.tuple_none p1 hu0
  | bl b=>cases k;cases r';exact SeqAt.RcNeAt.tuple_bool _ p1 hu0
  | int b=>cases k;obtain ⟨t,rfl⟩:=r';exact SeqAt.RcNeAt.tuple_int _ _ p1 hu0
  | str b=>cases k;obtain ⟨t,rfl⟩:=r';exact SeqAt.RcNeAt.tuple_str _ _ p1 hu0
  | tup ys =>
   obtain ⟨b,us,rfl,k1,k2⟩:=k;cases r';obtain ⟨js,r2,p2,_⟩:=I.tuple k1
   have e1:is.length=xs.length:=by rw [← r1.length,h2.length]
   have e2:js.length=ys.length:=by rw [← r2.length,k2.length]
   have ae:=iq xs ys
   have key:=SeqAt.RcNeAt.tuples (e:=BA xs ys) p1 p2 hu0 λj q1 q2=>pW I xs ys h2 k2 r1 r2 hu1 j (by simpa using q1) (by simpa using q2)
   simp only [Sa] at key
   rw [e1,e2,ae] at key
   simpa [kg] using key
  | lst ys=>obtain ⟨b,us,rfl,k1,k2⟩:=k;cases r';obtain ⟨js,r2,p2,_⟩:=I.list k1;exact SeqAt.RcNeAt.tuple_list p1 p2.isList hu0
 | lst xs =>
  obtain ⟨a,vs,rfl,h1,h2⟩:=h
  cases r
  obtain ⟨is,r1,p1,_⟩:=I.list h1
  have hu1:A.in1.units + dG xs < cLine:=by
   have e:dep (.lst xs)=dG xs + 1:=by rw [dep]
   rw [e] at hu
   show A.units + 1 + dG xs < cLine
   omega
  cases y with
  | non=>cases k;cases r';exact SeqAt.RcNeAt.list_none p1.isList hu0
  | bl b=>cases k;cases r';exact SeqAt.RcNeAt.list_bool _ p1.isList hu0
  | int b=>cases k;obtain ⟨t,rfl⟩:=r';exact SeqAt.RcNeAt.list_int _ _ p1.isList hu0
  | str b=>cases k;obtain ⟨t,rfl⟩:=r';exact SeqAt.RcNeAt.list_str _ _ p1.isList hu0
  | tup ys=>obtain ⟨b,us,rfl,k1,k2⟩:=k;cases r';obtain ⟨js,r2,p2,_⟩:=I.tuple k1;exact SeqAt.RcNeAt.list_tuple p1.isList p2 hu0
  | lst ys =>
   obtain ⟨b,us,rfl,k1,k2⟩:=k;cases r';obtain ⟨js,r2,p2,_⟩:=I.list k1
   have e1:is.length=xs.length:=by rw [← r1.length,h2.length]
   have e2:js.length=ys.length:=by rw [← r2.length,k2.length]
   have ae:=iq xs ys
   by_cases hl:xs.length=ys.length
   ·have key:=SeqAt.RcNeAt.lists (e:=BA xs ys) p1.isList p2.isList (by simp only [Sa];omega) hu0 λj q1 q2=>pW I xs ys h2 k2 r1 r2 hu1 j (by simpa using q1) (by simpa using q2)
    simp only [Sa] at key
    rw [hl,UG] at ae
    have e3:(ys.length == ys.length)=true:=by simp
    rw [e3,Tx] at ae
    rw [e1,hl,ae] at key
    simpa [kg] using key
   ·have key:=SeqAt.RcNeAt.lists_lengths p1.isList p2.isList (A:=A) (by simp only [Sa];rw [e1,e2];simpa using hl) hu0
    have e3:jz xs ys=false:=by
     rw [← ae]
     have:(xs.length == ys.length)=false:=by simpa using hl
     rw [this,TZ]
    simpa [kg,e3] using key
def rP (K:PySem.W.Frag) (f:Bool→Bool):R2:=λv v' H Q=>∃x y:Py,At K H x v∧At K H y v'∧dep x≤60∧Q (.bl (f (kg x y))) H
theorem KN (hu:X.A.units + 61 < cLine):er X (compareOp .Eq) (rP X.K id):=by
 intro pins s σ H x y v u Q I rx ry h
 obtain ⟨a,b,h1,h2,d,q⟩:=h
 exact Qk I a b h1 h2 rx ry (by omega) X.prog X.w X.xe _ ⟨.bl _,H,I,rfl,q⟩
theorem KQ (hu:X.A.units + 61 < cLine):er X (compareOp .NotEq) (rP X.K not):=by
 intro pins s σ H x y v u Q I rx ry h
 obtain ⟨a,b,h1,h2,d,q⟩:=h
 exact N_ I a b h1 h2 rx ry (by omega) X.prog X.w X.xe _ ⟨.bl _,H,I,rfl,q⟩
end
end Ov
namespace Ov
open PySem PySem.Spec PySem.Calls PyProof.Rows PySem.W Builtin.Getset_descriptor
def ExcAt (x D:Addr) (h:Heap):Prop:=∃ox,h.get? x=some ox∧ox.cls=.ref D
theorem ExcAt.ty {M:Model} {h:Heap} {x D:Addr} (I:ExcAt x D h):Looks M h (typeOf (.ref x)) (.ref D):=by
 obtain ⟨ox,a,b⟩:=I
 rw [← b]
 exact (Looks.ld a).andThen .now
section
variable {prog:Program} {w:World} {A:Around} {E:Value→Shared→Prop} {s:Shared} {K:Frag} {x D:Addr}
structure oK (K:Frag) (D:Addr):Prop where
 cls:(clsIn K D).isSome=true
 ga:findIn K (.ref D) "__getattribute__"=some (some (.builtin "BaseException.__getattribute__"))
 gt:findIn K (.ref D) "__getattr__"=some none
 ca:findIn K (.ref D) "__class__"=some (some (.builtin "object.__class__"))
 get:specialIn K (.builtin "object.__class__") "__get__"=some (some (.builtin "getset_descriptor.__get__"))
 tk:takesIn K (.builtin "object.__class__")=some true
 obj:mroIn K D (.type "object")=some true
 bex:subIn K (.ref D) (.type "BaseException")=some true
theorem Ik {M:Model} {h:Heap} (X:K.In h) (Z:oK K D):Looks M h (Builtin.ObjectAttr.find (.ref x) (.ref D) "__class__") (.bind (.builtin "getset_descriptor.__get__") (.builtin "object.__class__")) :=
 (looks_findIn X Z.ca).andThen ((show Looks M h (Builtin.ObjectAttr.getOf (some (.builtin "object.__class__"))) _ from looks_specialIn X Z.get).andThen
  ((show Looks M h (Builtin.ObjectAttr.dataDescriptor? (some (.builtin "object.__class__")) (some (.builtin "getset_descriptor.__get__"))) (some (.builtin "getset_descriptor.__get__",.builtin "object.__class__")) from (looks_takesIn X Z.tk).andThen .now).andThen (Looks.tag .now)))
theorem LH {tp:Value} {R:Result→Shared→Prop} (X:K.In s.heap) (Z:oK K D) (I:ExcAt x D s.heap) (h:R (.ok (.ret (.ref D))) s) :
  codeAny (model prog w) A (.call (.builtin "getset_descriptor.__get__") ⟨[.builtin "object.__class__",.ref x,tp],[]⟩) R s:=by
 obtain ⟨hh,g,dr,t,os⟩:=s
 have L0:=I.ty (M:=model prog w)
 have L1:=looks_mroIn (M:=model prog w) X Z.obj
 refine codeAny_call_builtin KF.slot_gs.plain KF.entry_gs ?_
 refine KF.slot_gs.check _ _ _ _ _ _ _ _ KF.type_class (KF.args_gs _ _ _) ?_
 unfold Builtin.«getset_descriptor.__get__» descrGet;rw [dga_obj]
 refine wpAny_bind (wpAny_pure ?_)
 unfold descrGetter descrCheckInstance descrNameAndClass isInstance;simp only [KF.owner_class]
 repeat lk
 refine ⟨Code.quiet_builtin _ (by decide +kernel),?_⟩
 refine codeAny_builtin KF.entry_class ?_
 unfold Builtin.«object.__class__» shownTypeOf;repeat lk
 exact h
theorem Fl {tk:Tok} {Q:Fin→Shared→Prop} (X:K.In s.heap) (Z:oK K D) (I:ExcAt x D s.heap) (h:Q (.done (.ret (.ref D))) s) :
  wpAny (model prog w) A (Builtin.«object.__getattribute__» ⟨[.ref x,.str "__class__" tk],[]⟩) Q E s:=by
 obtain ⟨hh,gg,d,t,os⟩:=s
 have L0:=I.ty (M:=model prog w)
 have L1:=Ik (x:=x) (M:=model prog w) X Z
 unfold Builtin.«object.__getattribute__»
 refine wpAny_bind (wpAny_pure (wpAny_bind (wpAny_pure (wpAny_bind (L0.at (wpAny_bind (L1.at ?_)))))))
 show wpAny _ _ (holding [.builtin "object.__class__"] (call (.builtin "getset_descriptor.__get__") [.builtin "object.__class__",.ref x,.ref D]) >>= ret) _ _ _
 exact wpAny_bind (wpAny_holding (wpAny_call (LH (tp:=.ref D) X Z I (wpAny_pure h))))
theorem Fi {M:Model} {nameV:Value} {Q:Unit→Shared→Prop} (X:K.In s.heap) (Z:oK K D) (I:ExcAt x D s.heap) (hq:Q () s) :
  wpAny M A (checkBuiltinCall "BaseException.__getattribute__" ⟨[.ref x,nameV],[]⟩) Q E s:=by
 have k:builtinKind "BaseException.__getattribute__"=some .slot:=by decide +kernel
 have sp:splitId "BaseException.__getattribute__"=some ("BaseException","__getattribute__"):=by decide +kernel
 have ok:=F.args_bexc_ga (.ref x) nameV
 have L1:Looks M s.heap (isInstance (.ref x) (.type "BaseException")) true:=I.ty.andThen (looks_subIn X Z.bex)
 obtain ⟨hh,gg,d,t,os⟩:=s
 simp only [checkBuiltinCall,k,sp]
 refine wpAny_bind (L1.at ?_)
 simp only [Bool.not_true,Ss,if_false]
 cases sg:Manifest.signature? "BaseException.__getattribute__" with
 | none=>exact wpAny_pure hq
 | some z =>
  unfold argsOk at ok
  rw [sg] at ok
  show wpAny _ _ (Bind.checkArgs _ z _) _ _ _
  rw [show Bind.checkArgs "BaseException.__getattribute__" z ⟨[.ref x,nameV],[]⟩=pure () from ok]
  exact wpAny_pure hq
theorem Fj {Q:Option Value→Shared→Prop} (X:K.In s.heap) (Z:oK K D) (I:ExcAt x D s.heap) (h:Q (some (.ref D)) { s with toks:=s.toks + 1 }):wpAny (model prog w) A (getAttr? (.ref x) "__class__") Q E s:=by
 obtain ⟨hh,gg,d,t,os⟩:=s
 have L0:=I.ty (M:=model prog w)
 have L1:=looks_findIn (M:=model prog w) X Z.ga
 have L2:=looks_findIn (M:=model prog w) X Z.gt
 unfold getAttr? getAttrBy? getAttrBy
 refine wpAny_bind (wpAny_mkText (wpAny_bind (wpAny_attempt (wpAny_holding ?_))))
 refine wpAny_bind (L0.at (wpAny_bind (L1.at ?_)))
 have no:(Value.builtin "BaseException.__getattribute__" == Value.builtin "object.__getattribute__")=false:=by decide +kernel
 show wpAny _ _ (if onTheHeap (.ref D) && Value.builtin "BaseException.__getattribute__" == Value.builtin "object.__getattribute__" then _ else _) _ _ _
 rw [no,TZ]
 simp only [Ss,if_false]
 unfold getAttrByItsOwn hookBefore callGetattribute boundAndCalled
 have f3:=PySem.F.attr_ValueError.ga.bind (.ref x)
 refine wpAny_bind ((show wpAny _ _ (typeLookup (Value.ref D) "__getattr__") _ _ _ from L2.at ?_))
 refine wpAny_bind (wpAny_attempt (wpAny_holding ?_))
 show wpAny _ _ (bindSpecial (Value.builtin "BaseException.__getattribute__") (Value.ref x) >>= _) _ _ _
 rw [f3]
 refine wpAny_bind (wpAny_pure ?_)
 refine wpAny_call (codeAny_call_builtin PySem.F.attr_ValueError.ga.plain PySem.F.entry_bexc_ga (Fi (s:=⟨hh,gg,d,t + 1,os⟩) X Z I (Fl (s:=⟨hh,gg,d,t + 1,os⟩) X Z I ?_)))
 exact handed_on rfl (wpAny_pure h)
theorem oK.at {h:Heap} (Z:oK K D) (X:K.In h):∃c d cd sl,h.get? D=some ⟨c,d,.cls cd,sl⟩:=by
 obtain ⟨cd,q⟩:=Ub.mp Z.cls
 unfold clsIn at q
 split at q
 ·exact ⟨_,_,_,_,X _ _ (by assumption)⟩
 ·cases q
theorem DK (Z:oK K D):KitX K (.ref x) (.ref D) (ExcAt x D) where
 ty:=λ_ _ _ I=>I.ty
 it:=λ_ _ X _=>by
  obtain ⟨c,d,cd,sl,o⟩:=Z.at X
  intro A' Q' E' s' k q
  unfold isType loadHead
  exact wpAny_bind (wpAny_loadPart (k _ _ o) (wpAny_pure q))
 ne:=λh tp dd its n sl X htp=>TV.mpr λq=>by
  obtain ⟨c,d,cd,sl',o⟩:=Z.at X
  rw [Value.ref.inj (beq_iff_eq.mp q)] at o
  cases o.symm.trans htp
 ca:=λX I k=>Fj X Z I k
end
end Ov
namespace Ov
open PySem PySem.Spec PyProof.Rows L2
structure kI (P:Program) (w:World) (outer:List Env) (H:Hp) (s:Shared) (ea:Addr) (cls:Value) (H':Hp) (s':Shared):Prop where
 os:s'.os=s.os
 bare:AllBare s'.gens
 un:Un (jj outer) [] H H' s.heap s'.heap
 hok:lV P w H' s'.heap
 fl:∃B t,Heap.FlyingW B outer ea cls (.ref t) s'.heap∧∀b o,s'.heap.get? b=some o→(H' b≠none∨∃o₀,s.heap.get? b=some o₀)→b ∉ jj outer→B.get? b=some o
def cY (P:Program) (w:World):oV:=λouter H s E e s'=>∃ea cls H',e=.ref ea∧kI P w outer H s ea cls H' s'∧E cls none H'
theorem GP {P:Program} {w:World} {H:Hp} {h:Heap} {a:Addr} {o:HO} (x:dm P w H h a o):∃ob,h.get? a=S1 ob:=by
 have lt:=x.lt
 cases o with
 | lst xs=>obtain ⟨_,_,_,_,e⟩:=x;exact ⟨_,e⟩
 | tup xs=>obtain ⟨_,_,_,ob,e,_⟩:=x;exact ⟨_,e⟩
 | dK kvs=>obtain ⟨_,_,_,_,o,_,_,e,_⟩:=x;exact ⟨_,e⟩
 | dE kvs ep=>obtain ⟨_,_,_,_,o,_,e,_⟩:=x;exact ⟨_,e⟩
 | set S n=>obtain ⟨o,_,_,_,e,_⟩:=x;exact ⟨_,e⟩
 | ins C dx fs=>obtain ⟨_,_,_,e,_⟩:=x;exact ⟨_,e⟩
 | own y=>exact x
 | xd fs=>obtain ⟨_,⟨_,_,_,e,_⟩,_⟩:=x;exact ⟨_,e⟩
 | L7 lo hi=>obtain ⟨_,_,_,e⟩:=x;exact ⟨_,e⟩
 | oY ob u=>obtain ⟨e,_⟩:=x;exact ⟨_,e⟩
 | tbl ps=>exact ⟨_,x⟩
 | met f y=>exact ⟨_,x⟩
 | ext φ=>obtain ⟨_,e,_⟩:=x;exact e
section
variable {X:Cx} {pins:List (Addr × Obj)} {σ:L2.St} {H H':Hp} {s:Shared} {ea t:Addr} {cls:Value} {B h1 h2:Heap}
theorem jE (I:Inv X pins σ H s) (un:Un (jj X.stack) [] H H' s.heap h1) {b:Addr} (hb:b∈jj X.stack):H' b=none∧∃o,h1.get? b=some o∧∀vs,o.data≠.fields vs:=by
 obtain ⟨_,o,ho,hn⟩:=I.stack.mem hb
 have n:=I.vB b hb
 obtain ⟨sl,e⟩:=un.any ho n (by simp)
 exact ⟨un.free b o ho n (by simp),_,e,hn⟩
theorem um (I:Inv X pins σ H s) (un:Un (jj X.stack) [] H H' s.heap h1) (cov:∀b o,h1.get? b=some o→(H' b≠none∨∃o₀,s.heap.get? b=some o₀)→b ∉ jj X.stack→B.get? b=some o)
  (hB:B.StaysIn h2) (up:h1.UpToSlots h2):Un (jj X.stack) [] H H' s.heap h2 where
 keep:=λb o e n hb hx=>hB b o (cov b o (un.keep b o e n hb hx) (.inr ⟨o,e⟩) hb)
 slot:=λb o e n hb hx=>by
  obtain ⟨sl,e1⟩:=un.slot b o e n hb hx
  obtain ⟨_,o',e2,hn⟩:=jE I un hb
  rw [e1] at e2;cases e2
  obtain ⟨sl',e3⟩:=up b _ e1 hn
  exact ⟨sl',e3⟩
 free:=un.free
 there:=λb o e hx=>by
  obtain ⟨o',e1⟩:=un.there b o e hx
  by_cases hb:b∈jj X.stack
  ·obtain ⟨_,o2,e2,hn⟩:=jE I un hb
   obtain ⟨sl',e3⟩:=up b _ e2 hn
   exact ⟨_,e3⟩
  ·exact ⟨o',hB b o' (cov b o' e1 (.inr ⟨o,e⟩) hb)⟩
 tups:=un.tups
 frzs:=un.frzs
 tbls:=un.tbls
theorem uk (I:Inv X pins σ H s) (un:Un (jj X.stack) [] H H' s.heap h1) (cov:∀b o,h1.get? b=some o→(H' b≠none∨∃o₀,s.heap.get? b=some o₀)→b ∉ jj X.stack→B.get? b=some o)
  (hB:B.StaysIn h2) (ok:lV X.prog X.w H' h1):lV X.prog X.w H' h2:=λa o e=>by
 have nf:∀b u,H' b=some u→b ∉ jj X.stack:=λb u q hb=>by
  have:=(jE I un hb).1
  rw [q] at this;cases this
 refine (ok a o e).n_ (λb u hb q=>?_) (λ_ q=>q) λ_ _ q=>q
 rcases hb with rfl | hb
 ·exact hB _ _ (cov _ _ q (.inl (by rw [e];exact λz=>nomatch z)) (nf _ _ e))
 ·exact hB _ _ (cov _ _ q (.inl (by rw [hb];exact λz=>nomatch z)) (nf _ _ hb))
theorem ym (un:Un (jj X.stack) [] H H' s.heap h1) (ok:lV X.prog X.w H' h1) (cov:∀b o,h1.get? b=some o→(H' b≠none∨∃o₀,s.heap.get? b=some o₀)→b ∉ jj X.stack→B.get? b=some o) (hB:B.StaysIn h2) :
  ∀b o,h2.get? b=some o→(H' b≠none∨∃o₀,s.heap.get? b=some o₀)→b ∉ jj X.stack→B.get? b=some o:=λb o e hb nb=>by
 have:∃o1,h1.get? b=some o1:=by
  rcases hb with z | ⟨o₀,z⟩
  ·cases q:H' b with
   | none=>exact absurd q z
   | some u=>exact GP (ok b u q)
  ·exact un.there b o₀ z (by simp)
 obtain ⟨o1,e1⟩:=this
 have c:=cov b o1 e1 hb nb
 have:=hB b o1 c
 rw [e] at this;cases this
 exact c
theorem kI.on {s':Shared} (I:Inv X pins σ H s) (F:kI X.prog X.w X.stack H s ea cls H' s'):∃B t,Heap.FlyingW B X.stack ea cls (.ref t) s'.heap ∧
  ∀h2,Heap.FlyingW B X.stack ea cls (.ref t) h2→s'.heap.UpToSlots h2→kI X.prog X.w X.stack H s ea cls H' { s' with heap:=h2 }:=by
 obtain ⟨B,t,fl,cov⟩:=F.fl
 exact ⟨B,t,fl,λh2 fl2 up=>⟨F.os,F.bare,um I F.un cov fl2.1 up,uk I F.un cov fl2.1 F.hok,B,t,fl2,ym F.un F.hok cov fl2.1⟩⟩
theorem zS {s2:Shared} (I:Inv X pins σ H s) (hst:X.stack=X.env :: X.outer) (hfr:X.env.frame=some X.env.locals) (hex:X.ex=[]) (os:s2.os=s.os) (bare:AllBare s2.gens) (un:Un (jj X.stack) [] H H' s.heap s2.heap)
  (ok:lV X.prog X.w H' s2.heap) (cov:∀b o,s2.heap.get? b=some o→(H' b≠none∨∃o₀,s.heap.get? b=some o₀)→b ∉ jj X.stack→B.get? b=some o) (fl:Heap.FlyingW B X.outer ea cls (.ref t) s2.heap) :
  kI X.prog X.w X.outer X.H₀ X.s₀ ea cls H' s2:=by
 have nst:∀b o,X.s₀.heap.get? b=some o→b ∉ X.fs→b ∉ jj X.stack:=λb o e nb hb=>by
  rcases Sf.mp (I.oa b hb) with z | z
  ·have:=Sn (Heap.lt_size e) I.ok.above
   rw [z] at this
   exact Ta _ this
  ·exact nb z
 have sub:∀b,b∈X.fs→b∈jj X.stack:=λb hb=>by rw [hst];unfold jj;rw [TB,hfr];exact Sm _ hb
 have nx:∀b:Addr,b ∉ X.ex:=λb=>by rw [hex];simp
 refine ⟨os.trans I.os,bare,⟨λb o e n hb _=>?_,λb o e n hb _=>?_,λb o e n _=>?_,λb o e _=>?_,λb xs q=>un.tups b xs (I.base.tups b xs q),λb o xs q=>un.frzs b o xs (I.base.frzs b o xs q),λb ps q=>?_⟩,ok,B,t,fl,λb o e hb nb=>?_⟩
 ·exact un.keep b o (I.base.keep b o e n hb (nx b)) (I.base.free b o e n (nx b)) (nst b o e hb) (by simp)
 ·obtain ⟨sl,e1⟩:=I.base.slot b o e n hb (nx b)
  obtain ⟨sl',e2⟩:=un.slot b _ e1 (I.base.free b o e n (nx b)) (sub b hb) (by simp)
  exact ⟨sl',e2⟩
 ·obtain ⟨o',e1⟩:=I.base.there b o e (nx b)
  exact un.free b o' e1 (I.base.free b o e n (nx b)) (by simp)
 ·obtain ⟨o',e1⟩:=I.base.there b o e (nx b)
  exact un.there b o' e1 (by simp)
 ·obtain ⟨m1,e1⟩:=I.base.tbls b ps q
  obtain ⟨m2,e2⟩:=un.tbls b _ e1
  exact ⟨m1 ++ m2,by rw [e2,Array.append_assoc]⟩
 ·rcases hb with z | ⟨o₀,z⟩
  ·exact cov b o e (.inl z) λhb=>z (jE I un hb).1
  ·obtain ⟨o1,e1⟩:=I.base.there b o₀ z (nx b)
   exact cov b o e (.inr ⟨o1,e1⟩) (nst b o₀ z nb)
theorem BN {E:XK} {e:Value} {s':Shared} {R:Value→Shared→Prop} (I:Inv X pins σ H s) (hst:X.stack=X.env :: X.outer) (hfr:X.env.frame=some X.env.locals) (hex:X.ex=[]) (h:cY X.prog X.w X.stack H s E e s') :
  wpAny (model X.prog X.w) X.A (leaving X.env e) (λ_ s''=>cY X.prog X.w X.outer X.H₀ X.s₀ E e s'') R s':=by
 obtain ⟨ea,cls,H',rfl,F,q⟩:=h
 obtain ⟨B,t,fl,cov⟩:=F.fl
 refine wpAny_leaves_onW (by rw [I.ok.frames,hst]) hfr (hst ▸ fl) λh2 fl2 up=>?_
 exact ⟨ea,cls,H',rfl,zS (s2:={ s' with heap:=h2 }) I hst hfr hex F.os F.bare (um I F.un cov fl2.1 up) (uk I F.un cov fl2.1 F.hok) (ym F.un F.hok cov fl2.1) fl2,q⟩
theorem leave_new {E:XK} {e C:Addr} {args:List Value} {h':Heap} {R:Value→Shared→Prop} (I:Inv X pins σ H s) (hst:X.stack=X.env :: X.outer) (hfr:X.env.frame=some X.env.locals) (hex:X.ex=[])
  (hx:Heap.MadeExcOf s.heap h' e (.ref C) args) (q:E (.ref C) none H) :
  wpAny (model X.prog X.w) X.A (leaving X.env (.ref e)) (λ_ s''=>cY X.prog X.w X.outer X.H₀ X.s₀ E (.ref e) s'') R { s with heap:=h' }:=by
 have hin:∀env∈X.env :: X.outer,∀a,env.frame=some a→a∈jj X.stack:=λenv he a ha=>by rw [hst];exact T9.mpr ⟨env,he,ha⟩
 have cov:∀b o,s.heap.get? b=some o→(H b≠none∨∃o₀,s.heap.get? b=some o₀)→b ∉ jj X.stack→(PySem.W.hideAll s.heap (jj X.stack)).get? b=some o:=λb o e _ nb=>PySem.W.hideAll_get _ e nb
 refine wpAny_leaves_madeW (base:=PySem.W.hideAll s.heap (jj X.stack)) (by rw [I.ok.frames,hst]) hfr (λb o z=>PySem.W.of_hideAll _ z) (PySem.W.funFrames_hide (hst ▸ I.stack) hin) hx λh2 t fl _ _ up=>?_
 have up2:s.heap.UpToSlots h2:=(Heap.UpToSlots.of_keeps hx.keeps).trans up
 exact ⟨e,.ref C,H,rfl,zS (s2:={ s with heap:=h2 }) I hst hfr hex rfl I.bare (um I Un.refl cov fl.1 up2) (uk I Un.refl cov fl.1 I.hok) (ym Un.refl I.hok cov fl.1) fl,q⟩
end
abbrev Pa:List Value:=[.type "ValueError",.type "Exception",.type "BaseException",.type "object"]
structure Own (K:PySem.W.Frag) (mg:Str→Option Value) (x:Str) (C:Addr):Prop where
 mg:mg x=some (.ref C)
 own:PySem.W.excIn K C Pa "ValueError.__new__"=true
 xc:oK K C
theorem Ha {K:PySem.W.Frag} {h:Heap} {C:Addr} {bmB:List Value} {newId:String} (X:K.In h) (q:PySem.W.excIn K C bmB newId=true) :
  ∃bm N nm qn bs hd sn sub ab col dd k0 k1 k2 k3 k5 mN,h.get? C=some (excClassObj nm qn C N bs bm hd sn sub ab col dd k0 k1 k2 k3 k5 newId)∧h.Ns N mN∧mN "__init__"=none∧OwnTail h bmB bm:=by
 unfold PySem.W.excIn at q
 split at q
 ·next dd cd sl ho =>
  split at q
  ·next C' bm k0 k1 k2 k3 n k5 hm hs =>
   simp only [beq_iff_eq,SA,UA] at q
   obtain ⟨⟨⟨⟨⟨rfl,rfl⟩,e3⟩,e4⟩,e5⟩,e6⟩:=q
   cases cd with
   | mk nm bs mro ns qn hd sn sub ab col del =>
    have hm:mro=.ref C' :: bm:=hm
    have e3:del=false:=e3
    subst hm;subst e3
    have hsl:sl=#[k0,k1,k2,k3,some (.builtin n),k5]:=Array.toList_inj.mp hs
    subst hsl
    exact ⟨bm,ns,nm,qn,bs,hd,sn,sub,ab,col,dd,k0,k1,k2,k3,k5,_,X _ _ ho,.of_isNs (PySem.W.isNs_of_in X e5),PySem.W.nsMap_none_of_in X e5 e6,PySem.W.tail_of_in X e4⟩
  ·cases q
 ·cases q
def Ls (C:Addr) (E:XK) (t:TA):TS:=λ_ σ H=>t σ H λvs H1=>vs.length≤sizeLine∧E (.ref C) none H1
def Throws (X:Cx) (E:XK):Prop:=∀(pins:List (Addr × Obj)) (σ:L2.St) (H:Hp) (s:Shared) (e C:Addr) (args:List Value) (h':Heap),Inv X pins σ H s→Heap.MadeExcOf s.heap h' e (.ref C) args→E (.ref C) none H→X.xe (.ref e) { s with heap:=h' }
theorem Cg {X:Cx} {E:XK} {x:Str} {C:Addr} {e:Expr} {es:List Expr} {np cpos pos:Pos} {t:TA} (O:Own X.K X.mg x C) (hc:X.calm=true) (hx:Throws X E) (hg:Gl X x) (ha:PA X (e :: es) t)
  (hd:(x == ("__debug__":Str))=false:=by decide) (he:starEach (e :: es) X.env=(false,eval e X.env) :: starEach es X.env:=by rfl) (hpl:(backTo cpos (starEach es X.env)).any (·.1)=false:=by rfl) :
  PS X (.Raise (some (.Call (.Name x np) (e :: es) [] cpos)) none pos) (Ls C E t):=by
 intro pins s σ H D I h
 obtain ⟨bm,N,nm,qn,bs,hd',sn,sub,ab,col,dd,k0,k1,k2,k3,k5,mN,hC,hN,hni,T⟩:=Ha I.mod.kin O.own
 have hplain:(backTo cpos (starEach (e :: es) X.env)).any (·.1)=false:=by
  rw [he]
  show (false || (backTo cpos (starEach es X.env)).any (·.1))=false
  rw [hpl];rfl
 refine wpAny_Raise_call_subT (C:=C) (N:=N) (nm:=nm) (q:=qn) (bs:=bs) (hdct:=hd') (sn:=sn) (sub:=sub) (ab:=ab) (col:=col) (dd:=dd) (k0:=k0) (k1:=k1) (k2:=k2) (k3:=k3) (k5:=k5) PySem.F.excBase_ValueError (T.hasType (by decide +kernel)) (I.ok.hd hc) hplain hni ?_
 refine ki I hg O.mg ⟨rfl,?_⟩ hd
 have key:=cn (ha cpos pins s σ H _ I h) (Q':=λus s1=>us.length≤sizeLine∧s1.heap.get? C=some (excClassObj nm qn C N bs bm hd' sn sub ab col dd k0 k1 k2 k3 k5 "ValueError.__new__")∧s1.heap.Ns N mN∧OwnTail s1.heap Pa bm ∧
  ∀h' e,Heap.MadeExcOf s1.heap h' e (.ref C) us→X.xe (.ref e) { s1 with heap:=h' }) λus s1 ⟨vs,H1,I1,r,z,q⟩ =>
   ⟨by rw [← r.length];exact z,I1.bk _ _ hC,hN.keeps I1.bk,T.keeps I1.bk,λh' ea hm=>hx pins σ H1 s1 ea C us h' I1 hm q⟩
 rw [he] at key ⊢
 exact PySem.Calls.evalArgs_plain (cn key λ_ _ z=>⟨rfl,z⟩)
section
variable {P:Program} {w:World} {K:PySem.W.Frag} {mg:Str→Option Value} {base:Heap} {N:List Str} {qual:Str} {scope:Scope} {f:Addr} {cd:Value} {A:Around} {outer:List Env} {s:Shared} {H:Hp} {E:XK}
abbrev xH (P:Program) (w:World) (K:PySem.W.Frag) (mg:Str→Option Value) (base:Heap) (N:List Str) (qual:Str) (scope:Scope) (f:Addr) (cd:Value) (A:Around) (outer:List Env) (s:Shared) (H:Hp) (E:XK):Cx:=ug (cY P w) P w K mg base N qual scope f cd A outer s H E
theorem cR:Throws (xH P w K mg base N qual scope f cd A outer s H E) E:=λpins σ H1 s1 e C args h' I hm q =>
 leave_new (X:=xH P w K mg base N qual scope f cd A outer s H E) I rfl rfl rfl hm q
theorem yn:Passes (cY P w) (xH P w K mg base N qual scope f cd A outer s H E) E:=λpins σ H1 s1 e s' I h =>
 BN (X:=xH P w K mg base N qual scope f cd A outer s H E) I rfl rfl rfl h
theorem cy:PassesOwn (model P w) (xH P w K mg base N qual scope f cd A outer s H E).A (xH P w K mg base N qual scope f cd A outer s H E).env (xH P w K mg base N qual scope f cd A outer s H E).xe:=PassesOwn.leaving
theorem RZ {x qual:Str} {st:Stmt} {f:Addr} {fd:FuncData} {N ps:List Str} {k:Nat} {sp:Sp} (F:cm K x qual st f fd) (S:av N ps (aj st)) (len:∀vs H Q E,sp vs H Q E→vs.length=ps.length)
  (hbody:∀(cdv:Value) (A:Around) (outer:List Env) (s:Shared) (H:Hp) (vs:List V) (Q:VK) (E:XK),bK k (A.deeper (envOfC qual (aj st) s.heap.objs.size f cdv))→sp vs H Q E →
   ∃t,QB (xH P w K mg base N qual (aj st) f cdv A outer s H E) (bR st) t∧t { nx:=λ_ H'=>Q .non H',rt:=Q } (start N vs) H):aJ P w K mg base (cY P w) (k + 1) f fd ps sp:=by
 obtain ⟨oc,od,kV,doc,pm,an,cdv,ct,osl,rfl,lk,hcd⟩:=F.ex
 refine Dk lk hcd S len λA outer s H vs Q E hr hsp=>?_
 obtain ⟨t,h,q⟩:=hbody cdv A outer s H vs Q E hr hsp
 exact ⟨t,h.run,q⟩
end
def CD (P:Program) (w:World) (K:PySem.W.Frag) (mg:Str→Option Value) (base:Heap) (k:Nat) (x:Str) (ps:List Str) (sp:Sp):Prop :=
 ∃f fd,aJ P w K mg base (cY P w) k f fd ps sp∧Binds K fd ps []∧PySem.W.keepIn K (.ref f)=true∧mg x=some (.ref f)
theorem Hb {X:Cx} {k k':Nat} {x:Str} {ps:List Str} {sp:Sp} {p pos:Pos} {e:Expr} {es:List Expr} {t:TA} {E:XK} (C:CD X.prog X.w X.K X.mg X.base k x ps sp) (hx:Passes (cY X.prog X.w) X E) (hr:bK k' X.A) (hk:k≤k') (hg:Gl X x) (ha:PA X (e :: es) t)
  (hdb:(x == ("__debug__":Str))=false:=by decide) (he:starEach (e :: es) X.env=(false,eval e X.env) :: starEach es X.env:=by rfl) (hpl:(backTo pos (starEach es X.env)).any (·.1)=false:=by rfl) :
  PE X (.Call (.Name x p) (e :: es) [] pos) (ra sp [] E t):=by
 obtain ⟨f,fd,F,b,kp,m⟩:=C
 exact Al F (hr.mono hk) hg m kp b .nil hx ha hdb he hpl
theorem Def.Pc {P:Program} {w:World} {K:PySem.W.Frag} {mg:Str→Option Value} {base:Heap} {x:Str} {st:Stmt} {k:Nat} {ps:List Str} {sp:Sp} (D:Def K mg x st)
  (h:∀f fd,cm K x x st f fd→aJ P w K mg base (cY P w) k f fd ps sp)
  (hb:∀(kV doc pm:Value) (an:Option Addr) (cdv ct:Value) (us:List Value),us.length=ps.length→bindArgs (PySem.W.fnOf x x (di st) (bR st) (aj st) .none kV doc pm an cdv ct) ⟨us,[]⟩=pure (ps.zip us)) :
  CD P w K mg base k x ps sp:=by
 obtain ⟨f,fd,F,m⟩:=D
 exact ⟨f,fd,h f fd F,F.binds hb,F.kp,m⟩
section
variable {X:Cx} {pins pn:List (Addr × Obj)} {σ:L2.St} {H H':Hp} {s:Shared}
abbrev JQ (X:Cx) (pn:List (Addr × Obj)) (xe:Value→Shared→Prop):Cx:={ X with pn:=pn,xe:=xe }
abbrev LW (X:Cx) (pn:List (Addr × Obj)) (e:Addr):Cx:={ X with A:=X.A.mark (some (.ref e)),calm:=false,pn:=pn,xe:=λ_ _=>False }
theorem P4 {X:Cx} (ok:X.Ok) (pn:List (Addr × Obj)) (xe:Value→Shared→Prop):(JQ X pn xe).Ok :=
 ⟨ok.mod,ok.kind,ok.glob,ok.blt,ok.above,ok.inj,ok.has,ok.cab,ok.hd,ok.frames,ok.stk,ok.exf,ok.bs,ok.bsz,ok.noex,ok.exfs,ok.lj,ok.frf⟩
theorem P2 {X:Cx} (ok:X.Ok) (pn:List (Addr × Obj)) (e:Addr):(LW X pn e).Ok :=
 ⟨ok.mod,ok.kind,ok.glob,ok.blt,ok.above,ok.inj,ok.has,ok.cab,(λz=>nomatch z),ok.frames,ok.stk,ok.exf,ok.bs,ok.bsz,ok.noex,ok.exfs,ok.lj,ok.frf⟩
theorem ME (I:Inv X pins σ H s) (xe:Value→Shared→Prop):Inv (JQ X (X.pn ++ pins) xe) [] σ H s :=
 ⟨P4 I.ok _ xe,I.os,I.bare,I.base,I.loc,I.cell,I.free,I.freeC,λp hp=>I.pin p (by simpa using hp),I.hok,I.len⟩
theorem me {pins1:List (Addr × Obj)} {xe:Value→Shared→Prop} (ok:X.Ok) (I:Inv (JQ X (X.pn ++ pins) xe) pins1 σ H s):Inv X pins σ H s :=
 ⟨ok,I.os,I.bare,I.base,I.loc,I.cell,I.free,I.freeC,λp hp=>I.pin p (Te _ hp),I.hok,I.len⟩
theorem IA (I:Inv X pins σ H s) (e:Addr):Inv (LW X (X.pn ++ pins) e) [] σ H s :=
 ⟨P2 I.ok _ e,I.os,I.bare,I.base,I.loc,I.cell,I.free,I.freeC,λp hp=>I.pin p (by simpa using hp),I.hok,I.len⟩
theorem o4 {pins1:List (Addr × Obj)} {e:Addr} (ok:X.Ok) (I:Inv (LW X (X.pn ++ pins) e) pins1 σ H s):Inv X pins σ H s :=
 ⟨ok,I.os,I.bare,I.base,I.loc,I.cell,I.free,I.freeC,λp hp=>I.pin p (Te _ hp),I.hok,I.len⟩
theorem mP {M:Model} {A:Around} {E:Value→Shared→Prop} {i:Nat} {n:Str} {pos:Pos} {Q:Unit→Shared→Prop} (I:Inv X pins σ H s) (hN:X.N.Nodup) (hi:X.N[i]?=some n) (hk:X.env.kindOf n=some .local)
  (h:∀s',Inv X pins (σ.set i none) H s'→Q () s'):wpAny M A (do bindName X.env n .none;unbindBehindTheSuite X.env n pos) Q E s:=by
 obtain ⟨m,hn,hl⟩:=id I.loc
 have hcl:(X.env.scope.kind == .class || (X.env.scope.kind == .module && X.env.locals != X.env.globals))=false:=by rw [I.ok.kind];rfl
 have ne:∀b o,X.s₀.heap.get? b=some o→b≠X.env.locals:=λb o e=>Sw (Sn (Heap.lt_size e) I.ok.above)
 have hiσ:i < σ.length:=by rw [I.len];exact (R8.mp hi).1
 refine wpAny_nameGoes_keeps hk hn hcl λh' v hn' hs=>?_
 refine h _ ⟨I.ok,I.os,I.bare,⟨λb o e n hb hx=>(hs.2 b (ne b o e)).trans (I.base.keep b o e n hb hx),λb o e n hb hx=>?_,I.base.free,λb o e hx=>?_,I.base.tups,I.base.frzs,I.base.tbls⟩,
  ⟨_,hn',λj y v' e1 e2 e3=>?_⟩,λy c e=>?_,I.free,I.freeC,λp hp=>?_,λb ob e=>?_,by simpa using I.len⟩
 ·obtain ⟨sl,e1⟩:=I.base.slot b o e n hb hx
  exact ⟨sl,(hs.2 b (ne b o e)).trans e1⟩
 ·obtain ⟨o',e1⟩:=I.base.there b o e hx
  exact ⟨o',(hs.2 b (ne b o e)).trans e1⟩
 ·by_cases hj:j=i
  ·subst hj
   rw [SE hiσ] at e2
   cases e2
  ·rw [SQ (Ne.symm hj)] at e2
   obtain ⟨u',r',q⟩:=hl j y v' e1 e2 e3
   refine ⟨u',r',?_⟩
   rcases q with ⟨k,e⟩ | ⟨k,c,e,z⟩
   ·refine .inl ⟨k,?_⟩
    have hy:y≠n:=λe=>hj (qd hN e1 (e ▸ hi))
    simp [hy,e]
   ·exact .inr ⟨k,c,e,z.sameBut hs (I.F8 y c e)⟩
 ·obtain ⟨w',z⟩:=I.cell y c e
  exact ⟨w',z.sameBut hs (I.F8 y c e)⟩
 ·obtain ⟨e,n,nl,nf,d⟩:=I.pin p hp
  exact ⟨(hs.2 p.1 nl).trans e,n,nl,nf,d⟩
 ·refine (I.hok b ob e).n_ (λc w' hc q=>(hs.2 c ?_).trans q) (λ_ q=>q) λ_ _ q=>q
  rintro rfl
  rcases hc with z | hc
  ·rw [← z,I.free] at e;cases e
  ·rw [I.free] at hc;cases hc
theorem yv {ea D:Addr} {oe:Obj} {vs:Array Value} (I:Inv X pins σ H s) (he:s.heap.get? ea=some oe) (hc:oe.cls=.ref D) (hd:oe.data=.fields vs) (hn:H ea=none) (h0:X.s₀.heap.get? ea=none) (hp:∀p∈X.pn ++ pins,p.1≠ea) :
  Inv X pins σ (upd H ea (.ext (ExcAt ea D))) s:=by
 have nl:X.env.locals≠ea:=λz=>by
  obtain ⟨m,⟨o,es,ep,ho,hd',_⟩,_⟩:=I.loc
  rw [z,he] at ho;cases ho;rw [hd] at hd';cases hd'
 refine ⟨I.ok,I.os,I.bare,⟨I.base.keep,I.base.slot,λb o e n hx=>?_,I.base.there,λb xs q=>?_,λb o xs q=>?_,λb ps q=>?_⟩,I.loc,I.cell,?_,λx c e=>?_,λp hq=>?_,λb u q=>?_,I.len⟩
 ·rw [aF (λz=>by rw [z,h0] at e;cases e)]
  exact I.base.free b o e n hx
 ·have:=I.base.tups b xs q
  rw [aF (bz this hn)];exact this
 ·have:=I.base.frzs b o xs q
  rw [aF (bz this hn)];exact this
 ·obtain ⟨m,z⟩:=I.base.tbls b ps q
  exact ⟨m,by rw [aF (bz z hn)];exact z⟩
 ·rw [aF nl];exact I.free
 ·rw [aF]
  ·exact I.freeC x c e
  ·rintro rfl
   obtain ⟨v,o,ho,hd'⟩:=I.cell x c e
   rw [he] at ho;cases ho;rw [hd] at hd';cases hd'
 ·obtain ⟨e,n,r⟩:=I.pin p hq
  exact ⟨e,by rw [aF (hp p hq)];exact n,r⟩
 ·by_cases hb:b=ea
  ·subst hb
   rw [aA] at q;cases q
   exact ⟨⟨oe,he,hc⟩,⟨oe,he⟩,λh1 h2 ⟨o,a,c⟩ k=>⟨o,k o a,c⟩⟩
  ·rw [aF hb] at q
   exact (I.hok b u q).n_ (λ_ _ _ z=>z) (λc z=>by rw [aF (bz z hn)];exact z) λc xs z=>by rw [aF (bz z hn)];exact z
theorem kI.new {ea:Addr} {cls:Value} {s':Shared} (I:Inv X pins σ H s) (F:kI X.prog X.w X.stack H s ea cls H' s'):H' ea=none∧s.heap.get? ea=none:=by
 obtain ⟨B,t,fl,cov⟩:=F.fl
 obtain ⟨oe,vs,he,_,hd,_⟩:=fl.first
 have nf:ea ∉ jj X.stack:=λhb=>by
  obtain ⟨_,o,ho,hn⟩:=jE I F.un hb
  rw [he] at ho;cases ho
  exact hn vs hd
 have no:¬ (H' ea≠none∨∃o₀,s.heap.get? ea=some o₀):=λz=>by
  have:=cov ea oe he z nf
  rw [fl.2.1] at this;cases this
 refine ⟨?_,?_⟩
 ·cases q:H' ea with
  | none=>rfl
  | some u=>exact absurd (.inl (by rw [q];exact λz=>nomatch z)) no
 ·cases q:s.heap.get? ea with
  | none=>rfl
  | some u=>exact absurd (.inr ⟨u,q⟩) no
def Qo (K:PySem.W.Frag) (N:Nat) (CW:Addr) (i:Nat) (tb:XK→TS) (ts:TS):TS:=λD σ H=>tb (λcls _ H'=>∃C,cls=.ref C∧PySem.W.exmOne K (.ref C) (.ref CW)=some true ∧
 ∀ea,H' ea=none→ts { nx:=λσ' H2=>D.nx (σ'.set i none) H2,rt:=D.rt,bk:=λσ' H2=>D.bk (σ'.set i none) H2,ct:=λσ' H2=>D.ct (σ'.set i none) H2 } ((Sq N none).set i (some (.ref ea))) (upd H' ea (.ext (ExcAt ea C)))) D σ H
theorem Hn {body suite:List Stmt} {b₀:Stmt} {x n:Str} {i:Nat} {CW:Addr} {tb:XK→TS} {ts:TS} {np hpos pos:Pos} (hst:X.stack=X.env :: X.outer) (hfr:X.env.frame=some X.env.locals) (hex:X.ex=[]) (hg:Gl X x) (hm:X.mg x=some (.ref CW))
  (hN:X.N.Nodup) (hi:X.N[i]?=some n) (hk:X.env.kindOf n=some .local) (hb:∀pn xe E,Passes (cY X.prog X.w) (JQ X pn xe) E→rj (JQ X pn xe) body (tb E)) (hs:∀pn ea,rj (LW X pn ea) (b₀ :: suite) ts) (hd:(x == ("__debug__":Str))=false:=by decide) :
  PS X (.Try body [.ExceptHandler (some (.Name x np)) (some n) (b₀ :: suite) hpos] [] [] pos) (Qo X.K X.N.length CW i tb ts):=by
 intro pins s σ H D I h
 refine wpAny_Try_except ?_
 refine wpAny_mono (hb (X.pn ++ pins) (λe s₁=>wpAny (model X.prog X.w) X.A (noteFrame e X.env) (λ_ s₂=>wpAny (model X.prog X.w) X.A (setFlight e none) (λ_ s₃ =>
  wpAny (model X.prog X.w) X.A (handleBy e X.env [.ExceptHandler (some (.Name x np)) (some n) (b₀ :: suite) hpos]) (SP X pins D) X.xe s₃) X.xe s₂) X.xe s₁) _ ?pass [] s σ H D (ME I _) h) (λf s1 q=>?_) (λ_ _ z=>z)
 case pass =>
  intro pins1 σ1 H1 s1 e s' I1 hf
  obtain ⟨ea,cls,H2,rfl,F,C,rfl,em,k⟩:=hf
  have J1:Inv X pins σ1 H1 s1:=me I.ok I1
  have F:kI X.prog X.w X.stack H1 s1 ea (.ref C) H2 s':=F
  obtain ⟨hn,hnew⟩:=kI.new J1 F
  obtain ⟨B,t,fl,on⟩:=kI.on J1 F
  have h0:X.s₀.heap.get? ea=none:=by
   cases q:X.s₀.heap.get? ea with
   | none=>rfl
   | some o =>
    obtain ⟨o',e1⟩:=J1.base.there ea o q (by rw [hex];simp)
    rw [hnew] at e1;cases e1
  refine wpAny_looks_onW (by rw [I.ok.frames,hst]) hfr (hst ▸ fl) λh4 held4 up4=>?_
  refine wpAny_landsW held4 λh5 fl5 up5=>?_
  have F5:=on h5 (hst ▸ fl5) (up4.trans up5)
  have J5:Inv X pins σ1 H2 { s' with heap:=h5 }:=J1.C7 F5.os F5.un F5.hok F5.bare (λb z=>absurd z (by simp))
  have Y5:=IA J5 ea
  refine wpAny_handleBy_cons (codeAny_handlers_test (ki Y5 hg hm ?_ hd)) (by intro q;cases q)
  obtain ⟨ob,hob,hobc⟩:=fl5.there
  have LT:PySem.W.Looks (model X.prog X.w) h5 (typeOf (.ref ea)) (.ref C):=ExcAt.ty ⟨ob,hob,hobc⟩
  refine (PySem.W.exm_one Y5.lp LT em).here ?_
  refine codeAny_handlers_suite_as ?_
  refine lands_againW fl5 λh6 fl6 up6=>?_
  have F6:=on h6 (hst ▸ fl6) ((up4.trans up5).trans up6)
  have J6:Inv X pins σ1 H2 { s' with heap:=h6 }:=J1.C7 F6.os F6.un F6.hok F6.bare (λb z=>absurd z (by simp))
  obtain ⟨oe,vs,hoe,hoec,hoed,_⟩:=fl6.first
  have J7:=yv J6 hoe hoec hoed hn h0 λp hp z=>by
   have:=(J1.pin p hp).1
   rw [z,hnew] at this;cases this
  have Y7:=IA (J7.weak (σ':=Sq X.N.length none) (by rw [T1,J7.len]) λj v z=>by
   rw [Ue] at z
   split at z <;> cases z) ea
  refine e_ (X:=LW X (X.pn ++ pins) ea) Y7 hN hi (Or.inl hk) (v:=.ref ea) rfl (λs8 I8=>?_) (Or.inr hk)
  refine wpAny_noRaise (cn (hs (X.pn ++ pins) ea [] s8 _ _ _ I8 (k ea hn)) λf s9 q=>?_)
  cases f with
  | next=>obtain ⟨σ',H',I',q⟩:=q;exact mP (o4 I.ok I') hN hi hk λ_ I9=>⟨_,_,I9,q⟩
  | brk=>obtain ⟨σ',H',I',q⟩:=q;exact mP (o4 I.ok I') hN hi hk λ_ I9=>⟨_,_,I9,q⟩
  | cont=>obtain ⟨σ',H',I',q⟩:=q;exact mP (o4 I.ok I') hN hi hk λ_ I9=>⟨_,_,I9,q⟩
  | ret u=>obtain ⟨v,σ',H',I',r,q⟩:=q;exact mP (o4 I.ok I') hN hi hk λ_ I9=>⟨v,_,_,I9,r,q⟩
 ·cases f with
  | next=>obtain ⟨σ',H',I',q⟩:=q;exact wpAny_execs_nil ⟨_,_,me I.ok I',q⟩
  | brk=>obtain ⟨σ',H',I',q⟩:=q;exact ⟨_,_,me I.ok I',q⟩
  | cont=>obtain ⟨σ',H',I',q⟩:=q;exact ⟨_,_,me I.ok I',q⟩
  | ret u=>obtain ⟨v,σ',H',I',r,q⟩:=q;exact ⟨v,_,_,me I.ok I',r,q⟩
def Ms:V→Option Value
 | .ref a=>some (.ref a)
 | .ty n=>some (.type n)
 | _=>none
def NQ (K:PySem.W.Frag):List V→Hp→VK→Prop:=λxs H Q=>∃a D c cv b,xs=[.ref a,c]∧H a=some (.ext (ExcAt a D))∧oK K D∧Ms c=some cv∧PySem.W.kitOne K (.ref D) cv=some b∧Q (.bl b) H
theorem aW {X:Cx} {K:PySem.W.Frag} (hK:X.K=K):bS X (.builtin "isinstance") (NQ K):=by
 subst hK
 intro pins s σ H xs us Q I r h
 obtain ⟨a,D,c,cv,b,rfl,ha,xc,rc,e,q⟩:=h
 obtain ⟨u,w',rfl,rx,ry⟩:=vals2 r
 obtain rfl:u=Value.ref a:=rx
 have:w'=cv:=by
  cases c with
  | ref z=>exact (show w'=Value.ref z from ry).trans (Option.some.inj rc)
  | ty z=>exact (show w'=Value.type z from ry).trans (Option.some.inj rc)
  | _=>cases rc
 subst this
 exact PySem.W.kia_one (DK xc) I.lp (I.hok a _ ha).1 e (by intro z;cases z) λtk=>⟨.bl b,H,I.tok _,rfl,q⟩
end
end Ov
namespace Ov
open PySem PySem.Spec PyProof.Rows
open L2 (V HO Hp Inv Cx St VK TE TT TA TS Ends Loc Gl RelV Vals er bS ra upd E0 bK XK Passes)
section
variable {X:Cx} {e:Expr} {es:List Expr} {t:TA} {x:Str} {np cpos pos p:Pos}
end
def gf (i:Nat):Str:=(["BadName","Taken","Full","NoCraft","TooFar","BadMoment","Past","NotThere","NoWatch","NoTale"]:List Str).getD i ""
structure xW (K:PySem.W.Frag) (mg:Str→Option Value) (W:Addr) (c:Nat→Addr):Prop where
 nV:mg "ValueError"=none
 mW:mg "WaterError"=some (.ref W)
 own:∀i,i < 10→Own K mg (gf i) (c i)
 val:∀i,i < 10→PySem.W.kitOne K (.ref (c i)) (.type "ValueError")=some true
 wat:∀i,i < 10→PySem.W.exmOne K (.ref (c i)) (.ref W)=some true
 kit:∀i,i < 10→∀j,j < 10→PySem.W.kitOne K (.ref (c i)) (.ref (c j))=some (decide (i=j))
open PySem.W in
def Fm (K:Frag) (D:Addr):Bool:=(clsIn K D).isSome && findIn K (.ref D) "__getattribute__" == some (some (.builtin "BaseException.__getattribute__")) && findIn K (.ref D) "__getattr__" == some none &&
 findIn K (.ref D) "__class__" == some (some (.builtin "object.__class__")) && specialIn K (.builtin "object.__class__") "__get__" == some (some (.builtin "getset_descriptor.__get__")) && takesIn K (.builtin "object.__class__") == some true &&
 mroIn K D (.type "object") == some true && subIn K (.ref D) (.type "BaseException") == some true
theorem Il {K:PySem.W.Frag} {D:Addr} (h:Fm K D=true):oK K D:=by
 simp only [Fm,SA,beq_iff_eq] at h
 obtain ⟨⟨⟨⟨⟨⟨⟨a,b⟩,c⟩,d⟩,e⟩,f⟩,g⟩,i⟩:=h
 exact ⟨a,b,c,d,e,f,g,i⟩
open PySem.W in
def My (K:Frag) (W:Addr) (cs:List Addr):Bool:=cs.length == 10 && (SS 10).all λi=>excIn K (cs.getD i 0) Pa "ValueError.__new__" && Fm K (cs.getD i 0) && kitOne K (.ref (cs.getD i 0)) (.type "ValueError") == some true &&
 exmOne K (.ref (cs.getD i 0)) (.ref W) == some true && (SS 10).all λj=>kitOne K (.ref (cs.getD i 0)) (.ref (cs.getD j 0)) == some (decide (i=j))
theorem Gk {K:PySem.W.Frag} {h:Heap} {mg:Str→Option Value} (X:K.In h) (G:h.Ns mainGlobals mg) {W c0 c1 c2 c3 c4 c5 c6 c7 c8 c9:Addr} (v:PySem.W.nsIn K mainGlobals "ValueError"=some none) (w:PySem.W.nsIn K mainGlobals "WaterError"=some (some (.ref W)))
  (a0:PySem.W.nsIn K mainGlobals "BadName"=some (some (.ref c0))) (a1:PySem.W.nsIn K mainGlobals "Taken"=some (some (.ref c1))) (a2:PySem.W.nsIn K mainGlobals "Full"=some (some (.ref c2))) (a3:PySem.W.nsIn K mainGlobals "NoCraft"=some (some (.ref c3)))
  (a4:PySem.W.nsIn K mainGlobals "TooFar"=some (some (.ref c4))) (a5:PySem.W.nsIn K mainGlobals "BadMoment"=some (some (.ref c5))) (a6:PySem.W.nsIn K mainGlobals "Past"=some (some (.ref c6))) (a7:PySem.W.nsIn K mainGlobals "NotThere"=some (some (.ref c7)))
  (a8:PySem.W.nsIn K mainGlobals "NoWatch"=some (some (.ref c8))) (a9:PySem.W.nsIn K mainGlobals "NoTale"=some (some (.ref c9))) (b:My K W [c0,c1,c2,c3,c4,c5,c6,c7,c8,c9]=true):∃W c,xW K mg W c:=by
 have m:∀i,i < 10→mg (gf i)=some (.ref ([c0,c1,c2,c3,c4,c5,c6,c7,c8,c9].getD i 0)):=λi hi=>by
  match i,hi with
  | 0,_=>exact PySem.W.mg_of X G a0
  | 1,_=>exact PySem.W.mg_of X G a1
  | 2,_=>exact PySem.W.mg_of X G a2
  | 3,_=>exact PySem.W.mg_of X G a3
  | 4,_=>exact PySem.W.mg_of X G a4
  | 5,_=>exact PySem.W.mg_of X G a5
  | 6,_=>exact PySem.W.mg_of X G a6
  | 7,_=>exact PySem.W.mg_of X G a7
  | 8,_=>exact PySem.W.mg_of X G a8
  | 9,_=>exact PySem.W.mg_of X G a9
 unfold My at b
 have b:=(Bool.and_eq_true_iff.mp b).2
 have k:∀i,i < 10→_:=λi hi=>Tn.mp b i (Tq.mpr hi)
 simp only [SA,beq_iff_eq,Tn,Tq] at k
 exact ⟨W,λi=>[c0,c1,c2,c3,c4,c5,c6,c7,c8,c9].getD i 0,PySem.W.mg_none_of X G v,PySem.W.mg_of X G w,λi hi=>⟨m i hi,(k i hi).1.1.1.1,Il (k i hi).1.1.1.2⟩,λi hi=>(k i hi).1.1.2,λi hi=>(k i hi).1.2,λi hi j hj=>(k i hi).2 j hj⟩
open L2 (xE Cp eG vD zu tC HU om)
def uj (i:Nat):List V:=.bl true :: (SS 10).map λj=>.bl (decide (i=j))
abbrev tI (K:PySem.W.Frag) (m:Nat) (v:V):TE:=HU (NQ K) (eG (zu m) (eG (tC v) vD))
theorem j5 {K:PySem.W.Frag} {m ea:Nat} {D:Addr} {v:V} {cv:Value} {b:Bool} {σ:L2.St} {H:Hp} {Q:VK} (hσ:σ[m]?=some (some (.ref ea))) (hH:H ea=some (.ext (ExcAt ea D))) (xc:oK K D) (hv:Ms v=some cv) (hk:PySem.W.kitOne K (.ref D) cv=some b) (q:Q (.bl b) H) :
  tI K m v σ H Q:=⟨_,hσ,ea,D,v,cv,b,rfl,hH,xc,hv,hk,q⟩
theorem xD {K:PySem.W.Frag} {mg:Str→Option Value} {W:Addr} {c:Nat→Addr} (Er:xW K mg W c) {i m n:Nat} {ea:Addr} (hi:i < 10) {σ:L2.St} {H:Hp} {D:Ends} (hσ:σ[m]?=some (some (.ref ea))) (hH:H ea=some (.ext (ExcAt ea (c i))))
  (q:∀l,H l=none→D.nx (σ.set n (some (.ref l))) (upd H l (.lst (uj i)))) :
  xE (Cp (eG (tI K m (.ty "ValueError")) (eG (tI K m (.ref (c 0))) (eG (tI K m (.ref (c 1))) (eG (tI K m (.ref (c 2))) (eG (tI K m (.ref (c 3))) (eG (tI K m (.ref (c 4))) (eG (tI K m (.ref (c 5))) (eG (tI K m (.ref (c 6))) (eG (tI K m (.ref (c 7)))
   (eG (tI K m (.ref (c 8))) (eG (tI K m (.ref (c 9))) vD)))))))))))) (om n) D σ H:=by
 have xc:=(Er.own i hi).xc
 have k:=Er.kit i hi
 refine j5 hσ hH xc rfl (Er.val i hi) (j5 hσ hH xc rfl (k 0 (by decide)) (j5 hσ hH xc rfl (k 1 (by decide)) (j5 hσ hH xc rfl (k 2 (by decide)) (j5 hσ hH xc rfl (k 3 (by decide)) (j5 hσ hH xc rfl (k 4 (by decide))
  (j5 hσ hH xc rfl (k 5 (by decide)) (j5 hσ hH xc rfl (k 6 (by decide)) (j5 hσ hH xc rfl (k 7 (by decide)) (j5 hσ hH xc rfl (k 8 (by decide)) (j5 hσ hH xc rfl (k 9 (by decide)) ?_))))))))))
 exact ⟨(by show 11≤sizeLine;decide),λl hl=>q l hl⟩
theorem _root_.L2.bK.bB {k:Nat} {A:Around} (r:bK k A):A.units + 61 < cLine:=by have:=r.un;omega
end Ov
namespace Ov
open PySem PySem.Spec PyProof.Rows L2
def dY (P:Addr) (h:Heap):Prop:=∃ps:Array Value,h.get? P=some { cls:=.none,data:=.fields ps }∧TriplesOk ps.toList
def sI (K:PySem.W.Frag) (c P:Addr):Prop:=c≠P∧∃(o:Obj) (vs:Array Value) (file:Str) (tf:Tok) (flags:Int) (tg:Tok) (inF:Bool) (text:Int) (tt:Tok),
 K.lookup c=some o∧o.cls=.type "code"∧o.data=.fields vs∧vs[11]?=some (.ref P)∧vs.getD 18 .none=.str file tf∧vs.getD 7 .none=.int flags tg∧vs.getD 9 .none=.bool inF∧vs.getD 10 .none=.int text tt
def BMain (mg:Str→Option Value) (h:Heap):Prop:=∃bm ob,mg "__builtins__"=some (.ref bm)∧bm≠builtinsNs∧h.get? bm=some ob∧ob.cls=.type "module"∧ob.dict=some builtinsNs∧ob.data=.plain
theorem sI.at {K:PySem.W.Frag} {h:Heap} {c P:Addr} {ps:Array Value} (Z:sI K c P) (X:K.In h) (hp:h.get? P=some { cls:=.none,data:=.fields ps }) (tr:TriplesOk ps.toList):h.IsCode c P ps∧h.TableAt c P ps:=by
 obtain ⟨ne,o,vs,file,tf,flags,tg,inF,text,tt,lk,hc,hd,h11,h18,h7,h9,h10⟩:=Z
 have e11:vs.getD 11 .none=.ref P:=by
  rw [Array.getD_eq_getD_getElem?,h11];rfl
 exact ⟨⟨o,vs,file,tf,flags,tg,inF,text,tt,_,X _ _ lk,hd,e11,h18,h7,h9,h10,hp,rfl,tr,ne⟩,⟨o,vs,X _ _ lk,hc,hd,h11⟩,hp⟩
section
variable {X:Cx} {pins:List (Addr × Obj)} {σ:L2.St} {H:Hp} {s:Shared} {c P:Addr}
theorem Gu {s':Shared} (I:Inv X pins σ H s) (hP:H P=some (.ext (dY P))) (os:s'.os=s.os) (bare:AllBare s'.gens) (k:∀b o,b≠P→s.heap.get? b=some o→s'.heap.get? b=some o) (t:dY P s'.heap):Inv X pins σ H s':=by
 have nP:∀b,H b=none→b≠P:=λb n z=>by rw [z,hP] at n;cases n
 have hok:lV X.prog X.w H s'.heap:=λb u e=>by
  by_cases hb:b=P
  ·subst hb
   rw [hP] at e;cases e
   obtain ⟨ps,hp,_⟩:=id t
   exact ⟨t,⟨_,hp⟩,((I.hok b _ hP)).2.2⟩
  ·refine (I.hok b u e).n_ (λd v hd q=>k d v ?_ q) (λ_ q=>q) λ_ _ q=>q
   rcases hd with rfl | hd
   ·exact hb
   ·intro z
    rw [z,hP] at hd;cases hd
 have un:Un (jj X.stack) [] H H s.heap s'.heap:=⟨λb o e n _ _=>k b o (nP b n) e,λb o e n _ _=>⟨o.slots,k b o (nP b n) e⟩,λ_ _ _ n _=>n,λb o e _=>by
  by_cases hb:b=P
  ·subst hb
   obtain ⟨ps,hp,_⟩:=t
   exact ⟨_,hp⟩
  ·exact ⟨o,k b o hb e⟩,λ_ _ q=>q,λ_ _ _ q=>q,λ_ ps q=>⟨#[],by rw [q];simp⟩⟩
 exact I.C7 os un hok bare λb z=>absurd z (by simp)
theorem Dr {M:Model} {A:Around} {E:Value→Shared→Prop} {env:Env} {pos:Pos} {q:Str} {sc:Scope} {Q:Value→Shared→Prop} {s:Shared} (hc:env.code=.ref c) (Z:sI X.K c P) (kin:X.K.In s.heap) (t:dY P s.heap)
  (h:∀code h' tk,(∀b o,b≠P→s.heap.get? b=some o→h'.get? b=some o)→s.heap.objs.size≤h'.objs.size→dY P h'→Q code { s with heap:=h',toks:=tk }):wpAny M A (genexprCode env pos q sc) Q E s:=by
 obtain ⟨ps,hp,tr⟩:=t
 obtain ⟨ic,ta⟩:=Z.at kin hp tr
 cases hf:codeAmong pos ps.toList with
 | some c'=>exact wpAny_genexprCode_hit hc ic hf (h c' s.heap s.toks (λ_ _ _ e=>e) (R' _) ⟨ps,hp,tr⟩)
 | none =>
  refine wpAny_genexprCodeX hc ic ta hf λc' h' tk ext l1 l2 ic' _ ta' _=>h _ h' tk (λb o nb e=>ext b o nb e) (T8 (Tb l1 l2)) ⟨_,ta'.2,?_⟩
  obtain ⟨_,_,_,_,_,_,_,_,_,_,_,_,_,_,_,_,_,hop,hpd,tr',_⟩:=ic'
  exact tr'
theorem C2 {α:Type} (B:List α) (q:α→Bool):((SS B.length).all λj=>(B[j]?).elim true q)=B.all q:=by
 rw [Tr,Tn,Tn]
 refine ⟨λh b hb=>?_,λh j hj=>?_⟩
 ·obtain ⟨j,hj,rfl⟩:=SM hb
  have:=h j (Tq.mpr hj)
  rwa [R7 hj] at this
 ·have hj:=Tq.mp hj
  rw [R7 hj]
  exact h _ (SW hj)
def bY (tx:Str) (ch:Nat):Bool:=!(Builtin.Str.occurrences tx ⟨#[ch]⟩ 0 tx.length 1).isEmpty
def E5 (P:Addr) (tx:Str) (ti:TE):TE:=λσ H Q=>ti σ H λv H1=>∃y:Str,v=.str y∧H1 P=some (.ext (dY P))∧Q (.bl (y.cps.toList.all (bY tx))) H1
theorem Ew {prog:Program} {w:World} {env:Env} {scope:Scope} {x g:Str} {tx y:Str} {tt:Tok} {C:Addr} {code:Value} {fp wr:List Addr} {href:Heap} {D U:Nat} {p1 p2 p3:Pos} {mg:Str→Option Value} (sck:scope.kind=.function) (hx:scope.names.lookup x=some .local) (hg:scope.names.lookup g=some .globalImplicit)
  (ns:href.Ns env.globals mg) (hm:mg g=some (.str tx tt)) (h1:env.globals∈fp) (h2:env.globals ∉ wr) (hmk:behindInMarks .In (.Name g p2)=false) (hdx:(x == ("__debug__":Str))=false) (hdg:(g == ("__debug__":Str))=false) :
  QuietGenD prog w (genEnv scope [] C code builtinsNs env) x [] (.Compare (.Name x p1) [.In] [.Name g p2] p3) fp wr (SignAt y) (λ_=>true) (λi v=>∃ch,y.cps[i]?=some ch∧v=.bool (bY tx ch)) href D U where
 tests:=λA' E' i v s₂ m₂ _ _ _ _ _ _ _=>wpAny_pure ⟨rfl,_,_,rfl,λ_ _ e=>e⟩
 elt:=λA' E' i v s₂ m₂ _ _ _ hP _ hn hmx hk=>by
  obtain ⟨ch,u,hch,rfl⟩:=hP
  refine wpAny_Compare1 (wpAny_Name (wpAny_loadName_local (show (genEnv scope [] C code builtinsNs env).scope.kind=.function from sck) (show (genEnv scope [] C code builtinsNs env).kindOf x=some .local from hx) hn hmx ?_) hdx) hmk
  refine Calls.Name_function_global (show (genEnv scope [] C code builtinsNs env).scope.kind=.function from sck) (show (genEnv scope [] C code builtinsNs env).kindOf g=some .globalImplicit from hg) (Calls.loadGlobal_global (ns.at' λo e=>hk _ h1 h2 o e) hm ?_) hdg
  exact in_str ⟨⟨ch,hch,rfl⟩,_,_,rfl,λ_ _ e=>e⟩
theorem Cc {x g:Str} {p px p1 p2 p3 gpos cpos:Pos} {iter:Expr} {ti:TE} {scope:Scope} {tx:Str} {tt:Tok} (hcalm:X.calm=true) (Bm:BMain X.mg X.base) (hcode:X.env.code=.ref c) (Z:sI X.K c P) (hdep:X.A.depth < recursionLimit)
  (hgl:Gl X "all") (hma:X.mg "all"=none) (hsg:X.mg g=some (.str tx tt)) (hi:PE X iter ti) (sck:scope.kind=.function) (hco:scope.isCoroutine=false) (hclos:closureFor scope X.env=pure []) (hcell:∀y∈scope.names,y.2≠.cell)
  (h0:scope.names.lookup (".0":Str)=some NameKind.local) (hx:scope.names.lookup x=some .local) (hsc:scope.names.lookup g=some .globalImplicit) (hmk:behindInMarks .In (.Name g p2)=false) (hs:∀x,genFold iter X.env x=pure x)
  (hst:starEach [.GeneratorExp (.Compare (.Name x p1) [.In] [.Name g p2] p3) [⟨.Name x px,iter,[],0⟩] scope gpos] X.env=[(false,eval (.GeneratorExp (.Compare (.Name x p1) [.In] [.Name g p2] p3) [⟨.Name x px,iter,[],0⟩] scope gpos) X.env)])
  (hdx:(x == ("__debug__":Str))=false) (hdg:(g == ("__debug__":Str))=false) :
  PE X (.Call (.Name "all" p) [.GeneratorExp (.Compare (.Name x p1) [.In] [.Name g p2] p3) [⟨.Name x px,iter,[],0⟩] scope gpos] [] cpos) (E5 P tx ti):=by
 intro pins s σ H Q I h
 refine wpAny_Call_Name_kw (lq I hgl hma PyProof.Rows.Boot.«all» ?_)
 refine PyProof.Rows.callWith_builtin1 ?_ hst rfl
 rw [hst]
 show wpAny _ _ (spliced ((false,eval (.GeneratorExp (.Compare (.Name x p1) [.In] [.Name g p2] p3) [⟨.Name x px,iter,[],0⟩] scope gpos) X.env) :: [])) _ _ s
 refine Calls.spliced_cons ?_
 refine wpAny_GeneratorExp_walksQD (I.ok.hd hcalm) hco hclos hcell h0 hx sck hdep ?_ hs
 refine cn (hi pins s σ H _ I h) λxv s1 ⟨v,H1,I1,r1,y,ev,hP,q⟩=>?_
 subst ev
 obtain ⟨ty,rfl⟩:=r1
 have t1:dY P s1.heap:=(I1.hok P _ hP).1
 have ltP:P < s1.heap.objs.size:=I1.hok.lt hP
 refine wpAny_pyIter_str λo St W st0=>?_
 have k1:∀b ob,s1.heap.get? b=some ob→(s1.heap.push o).get? b=some ob:=λb ob e=>Heap.get?_push_of_some _ e
 refine ⟨I1.nolimit.keeps k1,?_⟩
 have t2:dY P (s1.heap.push o):=let ⟨ps,hp,tr⟩:=t1;⟨ps,k1 _ _ hp,tr⟩
 refine Dr (X:=X) (s:={ s1 with heap:=s1.heap.push o }) hcode Z (I1.lp.keeps k1) t2 λcode h' tk k sz t'=>?_
 have kk:∀b ob,b≠P→s1.heap.get? b=some ob→h'.get? b=some ob:=λb ob nb e=>k b ob nb (k1 b ob e)
 have nsP:∀(b:Addr) (m:Str→Option Value),s1.heap.Ns b m→b≠P:=λb m hn z=>by
  obtain ⟨ob,es,ep,ho,hd,_⟩:=hn
  obtain ⟨ps,hp,_⟩:=t1
  rw [z,hp] at ho;cases ho;cases hd
 have nsK:∀(b:Addr) (m:Str→Option Value),s1.heap.Ns b m→h'.Ns b m:=λb m hn=>hn.at' λob e=>kk b ob (nsP b m hn) e
 have nsG:s1.heap.Ns X.env.globals X.mg:=by rw [I1.ok.glob];exact I1.mod.glob.keeps I1.bk
 have nl:h'.NoLimit:=let ⟨mc,h1,h2⟩:=I1.nolimit;⟨mc,nsK _ _ h1,h2⟩
 have ltC:cStatics < s1.heap.objs.size:=let ⟨mc,h1,_⟩:=I1.nolimit;h1.lt
 have szI:s1.heap.objs.size < h'.objs.size:=Sn (by rw [Heap.size_push];exact Tz _) sz
 obtain ⟨bm,ob,b1,b2,b3,b4,b5,b6⟩:=Bm
 have b3':=I1.bk _ _ b3
 have nbm:bm≠P:=λz=>by
  obtain ⟨ps,hp,_⟩:=t1
  rw [z,hp] at b3'
  rw [← Option.some.inj b3'] at b6;cases b6
 refine wpAny_builtinsFor (nsK _ _ nsG) b1 b2 (kk _ _ nbm b3') b4 b5 b6 ?_
 refine ⟨s1.heap.objs.size,[s1.heap.objs.size],[s1.heap.objs.size],y.cps.size,SignAt y,St,λ_=>true,λi v=>∃ch,y.cps[i]?=some ch∧v=.bool (bY tx ch),rfl,W,
  (W X.A (I.ok.hd hcalm)).frame _ _ _ st0 λb hb o' e=>k b o' (by rw [Si.mp hb];exact Uj ltP) e,λb hb=>by rw [Si.mp hb];exact szI,nl,
  λhb=>Sw ltC (Si.mp hb),λhref kh=>Ew sck hx hsc ((nsK _ _ nsG).keeps kh) hsg (Tq.mpr (nsK _ _ nsG).lt) (λhb=>Sw nsG.lt (Si.mp hb)) hmk hdx hdg,λa h5 tk5 gs hgs ltA szA k5 WS G=>?_⟩
 refine Calls.spliced_nil ?_
 have pall:passing (λ_=>true) y.cps.size 0=SS y.cps.size:=by simp [passing]
 have WS:=WS.in4_1
 refine call_all_walkS (WS.self 0 _ _ _ G ⟨a,_,_,_,_,_,_,(λj=>(y.cps.toList[j]?).elim true (bY tx)),rfl,WS,G,λj v s Q E hv hQ=>?_,λs' hm=>?_⟩)
 ·obtain ⟨i,hi,ch,hch,rfl⟩:=hv
  rw [pall] at hi
  have hji:i=j:=by
   obtain ⟨hj,e⟩:=R8.mp hi
   simpa using e.symm
  subst hji
  have e:y.cps.toList[i]?=some ch:=by simpa using hch
  simp only [e,Option.elim] at hQ
  exact wpAny_truthy_bool hQ
 ·have nwr:∀b,b < s1.heap.objs.size→b ∉ h'.objs.size :: [s1.heap.objs.size]:=λb hb hm=>by
   rcases Sf.mp hm with z | z
   ·omega
   ·have:=Si.mp z
    omega
  refine ⟨.bl _,H1,Gu I1 hP hm.os ((I1.bare.push hgs).movedS hm) (λb o' nb e=>hm.heap b o' (nwr b (Heap.lt_size e)) (k5 b o' (kk b o' nb e))) ?_,rfl,?_⟩
  ·obtain ⟨ps,hp,tr⟩:=t'
   exact ⟨ps,hm.heap P _ (nwr P ltP) (k5 P _ hp),tr⟩
  ·rw [pall]
   have e:y.cps.size=y.cps.toList.length:=by simp
   have z:=C2 y.cps.toList (bY tx)
   rw [TX,e,z]
   exact q
end
section
variable {X:Cx} {c P:Addr}
theorem Ed {x g:Str} {p px p1 p2 p3 gpos cpos:Pos} {iter:Expr} {ti:TE} {scope:Scope} {tx:Str} {tt:Tok} {k:Nat} (hcalm:X.calm=true) (Bm:BMain X.mg X.base) (hcode:X.env.code=.ref c) (Z:sI X.K c P) (hr:bK k X.A)
  (hgl:Gl X "all") (hma:X.mg "all"=none) (hsg:X.mg g=some (.str tx tt)) (hi:QE X iter ti) (sck:scope.kind=.function:=by rfl) (hco:scope.isCoroutine=false:=by rfl) (hclos:closureFor scope X.env=pure []:=by rfl) (hcell:∀y∈scope.names,y.2≠.cell:=by decide)
  (h0:scope.names.lookup (".0":Str)=some NameKind.local:=by rfl) (hx:scope.names.lookup x=some .local:=by rfl) (hsc:scope.names.lookup g=some .globalImplicit:=by rfl) (hmk:behindInMarks .In (.Name g p2)=false:=by with_unfolding_all rfl) (hs:∀x,genFold iter X.env x=pure x:=by intro _;rfl)
  (hst:starEach [.GeneratorExp (.Compare (.Name x p1) [.In] [.Name g p2] p3) [⟨.Name x px,iter,[],0⟩] scope gpos] X.env=[(false,eval (.GeneratorExp (.Compare (.Name x p1) [.In] [.Name g p2] p3) [⟨.Name x px,iter,[],0⟩] scope gpos) X.env)]:=by rfl)
  (hdx:(x == ("__debug__":Str))=false:=by decide) (hdg:(g == ("__debug__":Str))=false:=by decide) :
  QE X (.Call (.Name "all" p) [.GeneratorExp (.Compare (.Name x p1) [.In] [.Name g p2] p3) [⟨.Name x px,iter,[],0⟩] scope gpos] [] cpos) (E5 P tx ti) :=
 ⟨Cc hcalm Bm hcode Z (by have:=hr.dp;omega) hgl hma hsg hi.run sck hco hclos hcell h0 hx hsc hmk hs hst hdx hdg⟩
end
structure FN (K:PySem.W.Frag) (mg:Str→Option Value) (x:Str) (st:Stmt) (P:Addr) (f:Addr) (fd:FuncData) (c:Addr):Prop where
 fn:cm K x x st f fd
 mg:mg x=some (.ref f)
 code:fd.code=.ref c
 tab:sI K c P
 out:K.lookup P=none
def xU (K:PySem.W.Frag) (mg:Str→Option Value) (x:Str) (st:Stmt) (P:Addr):Prop:=∃f fd c,FN K mg x st P f fd c
section
variable {P:Program} {w:World} {K:PySem.W.Frag} {mg:Str→Option Value} {base:Heap}
theorem RX {x:Str} {st:Stmt} {T f c:Addr} {fd:FuncData} {N ps:List Str} {k:Nat} {sp:Sp} (F:FN K mg x st T f fd c) (S:av N ps (aj st)) (len:∀vs H Q E,sp vs H Q E→vs.length=ps.length)
  (hbody:∀(A:Around) (outer:List Env) (s:Shared) (H:Hp) (vs:List V) (Q:VK) (E:XK),bK k (A.deeper (envOfC x (aj st) s.heap.objs.size f (.ref c)))→sp vs H Q E →
   ∃t,QB (ug pE P w K mg base N x (aj st) f (.ref c) A outer s H E).Kt (bR st) t∧t { nx:=λ_ H'=>Q .non H',rt:=Q } (start N vs) H):aJ P w K mg base pE (k + 1) f fd ps sp:=by
 obtain ⟨oc,od,kV,doc,pm,an,cdv,ct,osl,rfl,lk,hcd⟩:=F.fn.ex
 obtain rfl:cdv=.ref c:=F.code
 refine Dk lk hcd S len λA outer s H vs Q E hr hsp=>?_
 obtain ⟨t,h,q⟩:=hbody A outer s H vs Q E hr hsp
 exact ⟨t,h.run.Kt,q⟩
theorem xU.C8 {x:Str} {st:Stmt} {T:Addr} {k:Nat} {ps:List Str} {sp:Sp} (D:xU K mg x st T)
  (h:∀f fd c,FN K mg x st T f fd c→aJ P w K mg base pE k f fd ps sp)
  (hb:∀(kV doc pm:Value) (an:Option Addr) (cdv ct:Value) (us:List Value),us.length=ps.length→bindArgs (PySem.W.fnOf x x (di st) (bR st) (aj st) .none kV doc pm an cdv ct) ⟨us,[]⟩=pure (ps.zip us)) :
  rh P w K mg base k x ps sp:=by
 obtain ⟨f,fd,c,F⟩:=D
 exact ⟨f,fd,h f fd c F,F.fn.binds hb,F.fn.kp,F.mg⟩
end
def codeB (vs:Array Value):Bool:=(match vs.getD 18 .none with | .str _ _=>true | _=>false) && (match vs.getD 7 .none with | .int _ _=>true | _=>false) && (match vs.getD 9 .none with | .bool _=>true | _=>false) && (match vs.getD 10 .none with | .int _ _=>true | _=>false)
theorem F' {K:PySem.W.Frag} {h:Heap} {mg:Str→Option Value} {x:Str} {st:Stmt} (X:K.In h) (G:h.Ns mainGlobals mg) {f c T:Addr} {od an od':Option Addr} {sl sl':Array (Option Value)} {vs:Array Value} {oc kV dc pm ct:Value}
  (a:PySem.W.nsIn K mainGlobals x=some (some (.ref f))) (l:K.lookup f=some ⟨oc,od,.func (PySem.W.fnOf x x (di st) (bR st) (aj st) .none kV dc pm an (.ref c) ct),sl⟩) (cc:PySem.W.codeIn K (.ref c) x=true) (k:PySem.W.keepIn K (.ref f)=true)
  (t:K.lookup c=some ⟨.type "code",od',.fields vs,sl'⟩) (p:vs[11]?=some (.ref T)) (b:codeB vs=true) (ne:c≠T) (out:K.lookup T=none):xU K mg x st T:=by
 refine ⟨f,_,c,yr l cc k,PySem.W.mg_of X G a,rfl,⟨ne,?_⟩,out⟩
 simp only [codeB,SA] at b
 obtain ⟨⟨⟨b1,b2⟩,b3⟩,b4⟩:=b
 cases e1:vs.getD 18 .none with
 | str file tf =>
  cases e2:vs.getD 7 .none with
  | int fl tg =>
   cases e3:vs.getD 9 .none with
   | bool inF =>
    cases e4:vs.getD 10 .none with
    | int text tt=>exact ⟨_,vs,file,tf,fl,tg,inF,text,tt,t,rfl,rfl,p,e1,e2,e3,e4⟩
    | _=>rw [e4] at b4;cases b4
   | _=>rw [e3] at b3;cases b3
  | _=>rw [e2] at b2;cases b2
 | _=>rw [e1] at b1;cases b1
def Mg (K:PySem.W.Frag) (mg:Str→Option Value) (names:List Str) (T:Addr):Prop:=∃x∈names,∃st,xU K mg x st T
theorem BL {P:Program} {w:World} {K:PySem.W.Frag} {mg mb:Str→Option Value} {k:Nat} {fa a:Addr} {fd:FuncData} {x:Str} {sp:Sp} {s₁:Shared} {vs:List Value} {ns:List Int} {tabs:List Addr}
  (KX:K.In s₁.heap) (hns:s₁.heap.Ns mainGlobals mg) (hb:s₁.heap.Ns builtinsNs mb) (hbb:∀x:Str,x≠"__name__"→mb x=bootBuiltins x) (hlim:s₁.heap.NoLimit) (hg:s₁.gens=#[])
  (ha:s₁.heap.get? a=some { cls:=.type "list",data:=.seq vs.toArray }) (hi:IntsAre vs ns) (hl:ns.length≤sizeLine) (hr:bK k callerA) (hbm:BMain mg s₁.heap)
  (htab:∀T∈tabs,isCodeTable s₁.heap T∧s₁.heap.get? T=some { cls:=.none,data:=.fields #[] }∧K.lookup T=none)
  (F:∀base:Heap,K.In base→base.Ns mainGlobals mg→BMain mg base→aJ P w K mg base pE k fa fd [x] sp) (hbind:∀(s:Shared) (u:Value),BindsTo s fd ⟨[u],[]⟩ [(x,u)])
  (hsp:∀H:Hp,(∀T∈tabs,H T=some (.ext (dY T)))→cP K H a (ns.map V.int)→(∀b,H b≠none→b=a∨b∈tabs)→(∀u,H a=some u→∃o xs,u=.oY o (.lst xs))→sp [.ref a] H (λv H'=>v=.bl true∧bq H H') λ_ _ _=>False) :
  codeAny (model P w) callerA (.call (.ref fa) ⟨[.ref a],[]⟩) (λr s'=>r=.ok (.ret (.bool true))∧OldK s₁.heap s'.heap∧s'.os=s₁.os∧AllBare s'.gens) s₁:=by
 have rv:=tR hi
 have lenV:=hi.length
 have naT:∀T∈tabs,T≠a:=λT hT z=>by
  have:=(htab T hT).2.1
  rw [z,ha] at this
  have h1:=congrArg Obj.cls (Option.some.inj this)
  cases h1
 have core:∀H:Hp,(∀T∈tabs,H T=some (.ext (dY T)))→cP K H a (ns.map V.int)→lV P w H s₁.heap→(∀b,H b≠none→b=a∨b∈tabs)→(∀u,H a=some u→K.lookup a=none∧∃o xs,u=.oY o (.lst xs)) →
   codeAny (model P w) callerA (.call (.ref fa) ⟨[.ref a],[]⟩) (λr s'=>r=.ok (.ret (.bool true))∧OldK s₁.heap s'.heap∧s'.os=s₁.os∧AllBare s'.gens) s₁:=by
  intro H hT hS hok hA hK
  have base_of:∀{b:Addr} {o:Obj},s₁.heap.get? b=some o→H b=none→(rY s₁.heap H).get? b=some o:=λe n=>Du e n
  have no:∀{b:Addr} {o:Obj},s₁.heap.get? b=some o→(∀xs n,o.data≠.seq xs n)→(∀xs,o.data≠.fields xs)→H b=none:=λ{b o} e d1 d2=>by
   cases q:H b with
   | none=>rfl
   | some u =>
    rcases hA b (by rw [q];simp) with rfl | hb
    ·rw [ha] at e;cases e;exact absurd rfl (d1 _ _)
    ·rw [(htab b hb).2.1] at e;cases e;exact absurd rfl (d2 _)
  have nsK:∀{b:Addr} {m:Str→Option Value},s₁.heap.Ns b m→(rY s₁.heap H).Ns b m:=λ{b m} ⟨o,es,ep,e,d,r⟩=>⟨o,es,ep,base_of e (no e (λ_ _ z=>by rw [d] at z;cases z) λ_ z=>by rw [d] at z;cases z),d,r⟩
  have hKb:K.In (rY s₁.heap H):=λb o e=>base_of (KX b o e) (by
   cases q:H b with
   | none=>rfl
   | some u =>
    rcases hA b (by rw [q];simp) with rfl | hb
    ·have:=(hK u q).1
     exact absurd (this.symm.trans e) (λz=>nomatch z)
    ·have:=(htab b hb).2.2
     exact absurd (this.symm.trans e) (λz=>nomatch z))
  have hM:Mod K mg (rY s₁.heap H):=⟨hKb,nsK hns,⟨mb,nsK hb,hbb⟩,let ⟨mc,h1,h2⟩:=hlim;⟨mc,nsK h1,h2⟩⟩
  have hbm':BMain mg (rY s₁.heap H):=by
   obtain ⟨bm,ob,b1,b2,b3,b4,b5,b6⟩:=hbm
   exact ⟨bm,ob,b1,b2,base_of b3 (no b3 (λ_ _ z=>by rw [b6] at z;cases z) λ_ z=>by rw [b6] at z;cases z),b4,b5,b6⟩
  have e0:xV P w K mg (rY s₁.heap H) callerA [] s₁ H:=⟨rfl,hM,λb o e=>GQ e,Nat.le_of_eq (BG _ _),trivial,λb hb=>absurd (show b∈([]:List Addr) from hb) (by simp),hok,.of_eq hg⟩
  refine codeAny_mono ((F _ hKb (nsK hns) hbm').run callerA [] s₁ H ⟨[.ref a],[]⟩ [.ref a] [.ref a] _ _ hr e0 (hbind s₁ (.ref a)) (.cons rfl .nil) (hsp H hT hS hA λu z=>(hK u z).2)) λr s' h=>?_
  cases r with
  | error e=>exact False.elim h
  | ok fl =>
   cases fl with
   | next=>exact False.elim h
   | brk=>exact False.elim h
   | cont=>exact False.elim h
   | ret u =>
    obtain ⟨v,H',os,bare,un,hok',r',rfl,same⟩:=h
    obtain rfl:u=Value.bool true:=r'
    refine ⟨rfl,⟨λb o e=>?_,λb o e=>?_⟩,os,bare⟩
    ·cases q:H b with
     | none=>exact .inl (un.keep b o e q (by intro z;exact absurd (show b∈([]:List Addr) from z) (by simp)) (by simp))
     | some u =>
      have q':=same b u q
      rcases hA b (by rw [q];simp) with rfl | hb'
      ·obtain ⟨_,ob,xs,rfl⟩:=hK u q
       obtain ⟨e1,_⟩:=hok _ _ q
       obtain ⟨e2,_⟩:=hok' _ _ q'
       rw [e] at e1;cases e1
       exact .inl e2
      ·have hz:=hT b hb'
       rw [q] at hz;cases hz
       obtain ⟨⟨ps,hp,_⟩,_⟩:=hok' _ _ q'
       obtain ⟨t1,t2,_⟩:=htab b hb'
       rw [t2] at e;cases e
       exact .inr (.inl ⟨t1,rfl,#[],ps,rfl,by rw [hp];simp⟩)
    ·exact un.there b o e (by simp)
 have hTt:∀T∈tabs,∀H:Hp,dm P w H s₁.heap T (.ext (dY T)):=λT hT H=>by
  have:=(htab T hT).2.1
  exact ⟨⟨#[],this,trivial⟩,⟨_,this⟩,λh1 h2 ⟨ps,hp,tr⟩ kk=>⟨ps,kk _ hp,tr⟩⟩
 cases hk:K.lookup a with
 | some o =>
  have e:=KX a o hk
  rw [ha] at e
  cases e
  refine core (λb=>if b∈tabs then some (.ext (dY b)) else none) (λT hT=>if_pos hT) (.inr ⟨_,vs.toArray,_,hk,rfl,rfl,rfl,by rw [Sa,lenV];exact hl,by simpa using rv⟩) (λb u z=>?_) (λb z=>?_) λu z=>?_
  ·by_cases hb:b∈tabs
   ·have z':=(if_pos hb).symm.trans z
    cases z'
    exact hTt b hb _
   ·have z':=(if_neg hb).symm.trans z
    cases z'
  ·by_cases hb:b∈tabs
   ·exact .inr hb
   ·exact absurd (if_neg hb) z
  ·have hb:a ∉ tabs:=λhb=>naT a hb rfl
   have z':=(if_neg hb).symm.trans z
   cases z'
 | none =>
  refine core (λb=>if b=a then some (.oY { cls:=.type "list",data:=.seq vs.toArray } (.lst (ns.map V.int))) else if b∈tabs then some (.ext (dY b)) else none) (λT hT=>?_) (.inl (.inr ⟨{ cls:=.type "list",data:=.seq vs.toArray },if_pos rfl⟩)) (λb u z=>?_) (λb z=>?_) λu z=>?_
  ·show (if T=a then _ else _)=_
   rw [if_neg (naT T hT),if_pos hT]
  ·by_cases hb:b=a
   ·have z':=(if_pos hb).symm.trans z
    cases z'
    subst hb
    exact ⟨ha,by rw [R6];exact hl,vs,_,rv,ha⟩
   ·have z:=(if_neg hb).symm.trans z
    by_cases hb:b∈tabs
    ·have z':=(if_pos hb).symm.trans z
     cases z'
     exact hTt b hb _
    ·have z':=(if_neg hb).symm.trans z
     cases z'
  ·by_cases hb:b=a
   ·exact .inl hb
   ·by_cases hb':b∈tabs
    ·exact .inr hb'
    ·exact absurd ((if_neg hb).trans (if_neg hb')) z
  ·have z':=(if_pos rfl).symm.trans z
   cases z'
   exact ⟨hk,_,_,rfl⟩
theorem Lu {p:Program} {loose:List Str} {mean:ExcName→Option Value} {mg mb:Str→Option Value} {h:Heap} {K:PySem.W.Frag} {x:Str} {st:Stmt} {T:Addr} (Tp:Top p loose mean mg mb h) (KX:K.In h) (hx:∃d∈recsOf p,d.name=x) (D:xU K mg x st T) :
  isCodeTable h T∧h.get? T=some { cls:=.none,data:=.fields #[] }∧K.lookup T=none:=by
 obtain ⟨f,fd,c,F⟩:=D
 obtain ⟨d,hd,rfl⟩:=hx
 obtain ⟨a',o',fd',c',P',h1,h2,h3,h4,h5,h6⟩:=Tp.tab d hd
 rw [F.mg] at h1;cases h1
 obtain ⟨oc,od,kV,doc,pm,an,cdv,ct,osl,rfl,lk,_⟩:=F.fn.ex
 have:=KX _ _ lk
 rw [h2] at this;cases this
 have e3:fd'=_:=(Data.func.inj h3).symm
 subst e3
 have e4:=F.code.symm.trans h4
 cases e4
 obtain ⟨_,oo,vs,_,_,_,_,_,_,_,lk',_,hd',h11,_⟩:=F.tab
 obtain ⟨⟨o2,vs2,g1,g2,g3,g4⟩,g5⟩:=id h6
 rw [KX _ _ lk'] at g1;cases g1
 rw [hd'] at g3;cases g3
 rw [h11] at g4;cases g4
 exact ⟨h6.isCodeTable,g5,F.out⟩
theorem Fh {l:PySem.W.OpenLaw} {n k:Nat} {q:Program} {loose:List Str} {XP:(Str→Option Value)→Heap→Prop} {YP:World→Heap→Prop} {d:DefRec} {K:Params→PySem.W.Frag} {sp:List Addr→PySem.W.Frag→Sp} {x:Str} (names:List Str)
  (hn:l.most=some n) (hn2:n≤sizeLine) (hdf:d.params.defaults=[]) (hr:bK k callerA) (hY:∀(w:World) (h:Heap),YP w h→(K w.params).In h) (hnm:∀x∈names,∃d∈recsOf q,d.name=x)
  (F:∀(w:World) (mg:Str→Option Value) (fa:Addr) (h:Heap),(K w.params).In h→h.Ns mainGlobals mg→mg d.name=some (.ref fa) →
   ∃(fd:FuncData) (tabs:List Addr),(∀(s:Shared) (u:Value),BindsTo s fd ⟨[u],[]⟩ [(x,u)])∧(∀T∈tabs,Mg (K w.params) mg names T) ∧
    ∀base:Heap,(K w.params).In base→base.Ns mainGlobals mg→BMain mg base→aJ l.prog w (K w.params) mg base pE k fa fd [x] (sp tabs (K w.params)))
  (hsp:∀(tabs:List Addr) (K:PySem.W.Frag) (H:Hp) (a:Addr) (ns:List Int),ns.length≤n→(∀T∈tabs,H T=some (.ext (dY T)))→cP K H a (ns.map V.int)→(∀b,H b≠none→b=a∨b∈tabs)→(∀u,H a=some u→∃o xs,u=.oY o (.lst xs))→sp tabs K [.ref a] H (λv H'=>v=.bl true∧bq H H') λ_ _ _=>False) :
  PySem.W.WalkO q loose XP YP l.row.toRowW d [] (λf vs=>PySem.call f vs):=by
 refine Att.vR hn hdf λw s₀ s₁ mg mb fa o pm cd doc a vs ns G Y ho hd hcd hmg hobj hints hlen hg=>?_
 have KX:=hY w _ Y
 obtain ⟨fd,tabs,hb,ht,hF⟩:=F w mg fa _ KX G.T.g hmg
 refine BL KX G.T.g G.T.b G.T.builtins G.T.nolimit hg hobj hints (Su hlen hn2) hr G.T.bmain (λT hT=>?_) hF hb (λH hT hS hA hK=>hsp tabs _ H a ns hlen hT hS hA hK)
 obtain ⟨x,hx,st,D⟩:=ht T hT
 exact Lu G.T KX (hnm x hx) D
def DB (s:Str):Value→Bool
 | .str y _=>y == s
 | _=>false
def Dz (i:Int):Value→Bool
 | .int j _=>j == i
 | _=>false
theorem Bz {K:PySem.W.Frag} {h:Heap} {mg:Str→Option Value} {x s:Str} {u:Value} (X:K.In h) (G:h.Ns mainGlobals mg) (e:PySem.W.nsIn K mainGlobals x=some (some u)) (hu:DB s u=true):∃t,mg x=some (.str s t):=by
 cases u with
 | str y t =>
  have:y=s:=by simpa [DB] using hu
  subst this
  exact ⟨t,PySem.W.mg_of X G e⟩
 | _=>cases hu
theorem const_int {K:PySem.W.Frag} {h:Heap} {mg:Str→Option Value} {x:Str} {i:Int} {u:Value} (X:K.In h) (G:h.Ns mainGlobals mg) (e:PySem.W.nsIn K mainGlobals x=some (some u)) (hu:Dz i u=true):∃t,mg x=some (.int i t):=by
 cases u with
 | int y t =>
  have:y=i:=by simpa [Dz] using hu
  subst this
  exact ⟨t,PySem.W.mg_of X G e⟩
 | _=>cases hu
def sgn (ch:Nat):Str:=⟨#[ch]⟩
def QX (y:Str):It:=⟨λi _=>i < y.cps.size,λi H x H'=>H'=H∧∃ch,y.cps[i]?=some ch∧x=.str (sgn ch),λi _=>y.cps.size≤i⟩
theorem xF {P:Program} {w:World} {K:PySem.W.Frag} {tg:Expr} {y:Str} {t:Tok} {T:String} (hT:T="str_ascii_iterator"∨T="str_iterator") (it:Addr):Turn P w K tg (QX y) [it] it (λi h=>h.IsStrIter it T y t i) where
 mem:=by simp
 obj:=λi h st b hb=>by
  obtain rfl:b=it:=by simpa using hb
  obtain ⟨o,e,c,d⟩:=st
  exact ⟨o,e,λv z=>by rw [d] at z;cases z⟩
 keep:=λi h h' ⟨o,e,r⟩ k=>⟨o,k it (by simp) o e,r⟩
 item:=by
  intro X hP hw hK hc i pins s σ H E I hf st hg
  subst hP hw hK
  have hi:i < y.cps.size:=hg
  obtain ⟨f0,f1,f2,f3,f4,f5⟩:=hf it (by simp)
  have hch:y.cps[i]?=some y.cps[i]:=by simp [hi]
  rcases hT with rfl | rfl
  ·refine wpAny_pyNext_ascii_item st hch λh' st' sb=>?_
   have I1:Inv X pins σ H { s with heap:=h',toks:=s.toks + 1 }:=I.turned (t':=s.toks + 1) (λb o hb e=>(sb.2 b hb).trans e) f0 f1 f3 f4 f5
   obtain ⟨o,e,c,d⟩:=id st'
   exact ⟨_,rfl,v3 (s:={ s with heap:=h',toks:=s.toks + 1 }) e c d (by decide) ⟨.str (sgn y.cps[i]),H,I1,⟨_,rfl⟩,⟨rfl,_,hch,rfl⟩,st',λb hb=>(hf b hb).1⟩⟩
  ·refine wpAny_pyNext_wide_item st hch λh' st' sb=>?_
   have I1:Inv X pins σ H { s with heap:=h',toks:=s.toks + 1 }:=I.turned (t':=s.toks + 1) (λb o hb e=>(sb.2 b hb).trans e) f0 f1 f3 f4 f5
   obtain ⟨o,e,c,d⟩:=id st'
   exact ⟨_,rfl,v3 (s:={ s with heap:=h',toks:=s.toks + 1 }) e c d (by decide) ⟨.str (sgn y.cps[i]),H,I1,⟨_,rfl⟩,⟨rfl,_,hch,rfl⟩,st',λb hb=>(hf b hb).1⟩⟩
 done:=by
  intro X hP hw hK hc i pins s σ H E I hf st hg
  subst hP hw hK
  have hi:y.cps.size≤i:=hg
  obtain ⟨f0,f1,f2,f3,f4,f5⟩:=hf it (by simp)
  have hch:y.cps[i]?=none:=by simp [hi]
  rcases hT with rfl | rfl
  ·exact wpAny_pyNext_ascii_end (I.ok.hd hc) st hch λh' eb=>⟨rfl,I.turned (t':=s.toks) (λb o hb e=>eb b o hb e) f0 f1 f3 f4 f5⟩
  ·exact wpAny_pyNext_wide_end (I.ok.hd hc) st hch λh' eb=>⟨rfl,I.turned (t':=s.toks) (λb o hb e=>eb b o hb e) f0 f1 f3 f4 f5⟩
 self:=λ_ _ _ _ _ st h=>by
  rcases hT with rfl | rfl
  ·exact wpAny_pyIter_striter_ascii st h
  ·exact wpAny_pyIter_striter_wide st h
def Pk (tl:TE):TI:=λσ H R=>tl σ H λx H1=>∃y,x=.str y∧R (QX y) H1
section
variable {X:Cx} {tg:Expr}
theorem Hi {l:Expr} {tl:TE} (hl:PE X l tl):PI X tg l (Pk tl):=by
 intro pins s σ H R I h
 refine cn (hl pins s σ H _ I h) λv s1 ⟨x,H1,I1,r1,y,e,q⟩=>?_
 subst e
 obtain ⟨t,rfl⟩:=r1
 have fp:∀b∈[s1.heap.objs.size],jt X pins H1 b:=λb hb=>by
  obtain rfl:b=s1.heap.objs.size:=by simpa using hb
  exact I1.BE (R' _) (I1.hok.fresh (R' _))
 cases ha:y.cps.all (· < 128)
 ·exact wpAny_pyIter_wide ha ⟨s1.heap.objs.size,[s1.heap.objs.size],_,_,H1,rfl,I1.kept (t':=s1.toks) λb o e=>Heap.get?_push_of_some _ e,xF (t:=t) (.inr rfl) _,⟨_,Heap.get?_push_size _ rfl,rfl,rfl⟩,fp,q⟩
 ·exact wpAny_pyIter_ascii ha ⟨s1.heap.objs.size,[s1.heap.objs.size],_,_,H1,rfl,I1.kept (t':=s1.toks) λb o e=>Heap.get?_push_of_some _ e,xF (t:=t) (.inl rfl) _,⟨_,Heap.get?_push_size _ rfl,rfl,rfl⟩,fp,q⟩
end
def N1:R2:=λx z H Q=>∃(ch:Nat) (n:Int),x=.str (sgn ch)∧z=.int n∧0≤n∧n≤1000∧Q (.str ⟨(Sq n.toNat ch).toArray⟩) H
theorem Dl (ch n:Nat):∀acc:Array Nat,(Sq n #[ch]).foldl (· ++ ·) acc=acc ++ (Sq n ch).toArray:=by
 induction n with
 | zero=>intro acc;simp
 | succ n ih =>
  intro acc
  rw [SY,UQ,ih,SY]
  apply Array.ext'
  simp
theorem G4 {X:Cx}:er X (binaryOp .Mult) N1:=by
 intro pins s σ H x z v u Q I rx rz h
 obtain ⟨ch,n,rfl,rfl,h0,h1,q⟩:=h
 obtain ⟨t,rfl⟩:=rx
 obtain ⟨t',rfl⟩:=rz
 have hl:(sgn ch).length=1:=rfl
 refine PySem.P.mul_str (by simp only [Bool.or_eq_false_iff,decide_eq_false_iff_not];omega) (λa _=>?_) (λ_ _=>?_) ?_
 ·rw [hl]
  have:(1:Int)≤(2 ^ 63 - 1) / n:=by
   rw [Int.le_ediv_iff_mul_le (by omega)]
   omega
  show ¬ (((1:Nat):Int) > _)
  omega
 ·rw [hl]
  show decide (_ > sizeLine)=false
  simp only [decide_eq_false_iff_not]
  have:n.toNat≤1000:=by omega
  have z:(1000:Nat)≤sizeLine:=by decide
  omega
 ·by_cases n0:n < 1
  ·rw [if_pos n0]
   have e:n.toNat=0:=by omega
   rw [e] at q
   exact ⟨by decide,⟨.str Str.empty,H,I.tok _,⟨_,rfl⟩,q⟩⟩
  ·rw [if_neg n0]
   by_cases n1:n=1
   ·subst n1
    exact ⟨.str (sgn ch),H,I,⟨_,rfl⟩,q⟩
   ·have e:(n == 1 || (sgn ch).length == 0)=false:=by
     rw [hl]
     simp [n1]
    rw [e]
    have f:=Dl ch n.toNat #[]
    have g:(Sq n.toNat (sgn ch).cps).foldl (· ++ ·) #[]=(Sq n.toNat ch).toArray:=by
     rw [show (sgn ch).cps=#[ch] from rfl,f]
     simp
    rw [if_neg Sj,g]
    refine ⟨?_,⟨.str _,H,I.tok _,⟨_,rfl⟩,q⟩⟩
    show ((Sq n.toNat ch).toArray).size≤sizeLine
    have z:(1000:Nat)≤sizeLine:=by decide
    simp only [Sa,T1]
    omega
end Ov
namespace Ov
open PySem PySem.Spec PyProof.Rows
open L2 (V HO Hp Inv Cx VK XK TE TT TA TS TG oi TI TO il Ends sL Loc Gl Rd RelV Vals er t_ bS og pO oJ ij R2 upd aA aF cP fv Sp oV It bq)
inductive PV where
 | non | bl (b:Bool) | int (i:Int) | str (x:Str) | ref (a:Addr) | ty (n:String) | tup (xs:List PV) | fl (xs:List PV)
inductive HQ where
 | lst (xs:List PV) | ins (C:Addr) (fs:List (Str × PV)) | dct (kvs:List (Str × PV)) (ep:Nat) | tab | dtp (hs:List Str→Int) (ks:List (List Str))
def O1 (hs:List Str→Int) (a:Addr) (xs:List (List Str × Addr × Value)) (h:Heap):Prop:=(a == sysModules)=false∧xs.length≤sizeLine∧(xs.map (·.1)).Nodup∧∃o es ep,h.get? a=some o∧o.ExactDict∧o.data=.dict es ep∧es.toList=xs.map λx=>(⟨hs x.1,.ref x.2.1,x.2.2⟩:DictEntry)
abbrev Hq:=Addr→Option HQ
def put (J:Hq) (a:Addr) (o:HQ):Hq:=λb=>if b=a then some o else J b
theorem au {J:Hq} {a:Addr} {o:HQ}:put J a o a=some o:=by unfold put;rw [if_pos rfl]
theorem ar {J:Hq} {a b:Addr} {o:HQ} (h:b≠a):put J a o b=J b:=by unfold put;rw [if_neg h]
theorem gj {J:Hq} {a:Addr} {o u:HQ}:put (put J a o) a u=put J a u:=by
 funext b;unfold put;split <;> rfl
theorem Eo {J:Hq} {a b:Addr} {o u:HQ} (h:a≠b):put (put J a o) b u=put (put J b u) a o:=by
 funext c;unfold put
 by_cases h1:c=b <;> by_cases h2:c=a <;> simp [h1,h2]
 ·exact absurd (h2.symm.trans h1) h
 ·intro z;exact absurd z.symm h
 ·intro z;exact absurd z h
def CK (K:PySem.W.Frag) (J:Hq) (H:Hp) (a:Addr) (vs:List V):Prop:=(J a=none∧Rd H a (.lst vs))∨∃(o:Obj) (its:Array Value) (n:Nat),K.lookup a=some o∧o.cls=.type "list"∧o.dict=none∧o.data=.seq its n∧its.size≤sizeLine∧Vals vs its.toList
theorem CK.sq {K:PySem.W.Frag} {J:Hq} {H:Hp} {a:Addr} {vs:List V} (h:CK K J H a vs):cP K H a vs:=by
 rcases h with h | h
 ·exact .inl h.2
 ·exact .inr h
section
variable (K:PySem.W.Frag)
mutual
def cq (J:Hq) (H:Hp):PV→V→Prop
 | .non,v=>v=.non
 | .bl b,v=>v=.bl b
 | .int i,v=>v=.int i
 | .str x,v=>v=.str x
 | .ref a,v=>v=.ref a
 | .ty n,v=>v=.ty n
 | .tup xs,v=>∃a vs,v=.ref a∧fv K H a vs∧aL J H xs vs
 | .fl xs,v=>∃a vs,v=.ref a∧CK K J H a vs∧aL J H xs vs
def aL (J:Hq) (H:Hp):List PV→List V→Prop
 | [],vs=>vs=[]
 | x :: xs,vs=>∃v us,vs=v :: us∧cq J H x v∧aL J H xs us
end
def k7 {κ:Type} (J:Hq) (H:Hp) (fs:List (κ × PV)) (gs:List (κ × V)):Prop:=fs.map (·.1)=gs.map (·.1)∧aL K J H (fs.map (·.2)) (gs.map (·.2))
def CZ (J:Hq) (H:Hp) (a:Addr):HQ→Prop
 | .lst xs=>∃vs,H a=some (.lst vs)∧aL K J H xs vs
 | .ins C fs=>∃dx gs,H a=some (.ins C dx gs)∧k7 K J H fs gs
 | .dct kvs ep=>∃gs,H a=some (.dE gs ep)∧k7 K J H kvs gs
 | .tab=>H a=some (.ext (dY a))
 | .dtp hs ks=>∃xs:List (List Str × Addr × Value),xs.map (·.1)=ks∧H a=some (.ext (O1 hs a xs))∧∀x∈xs,fv K H x.2.1 (x.1.map V.str)
def Rep (J:Hq) (H:Hp):Prop:=∀a o,J a=some o→CZ K J H a o
structure Ext (J:Hq) (H:Hp) (J':Hq) (H':Hp):Prop where
 tup:∀a vs,fv K H a vs→fv K H' a vs
 ll:∀a o,J a=none→H a=some o→((∃vs,o=.lst vs)∨∃ob vs,o=.oY ob (.lst vs))→J' a=none∧H' a=some o
end
section
variable {K:PySem.W.Frag} {J J' J'':Hq} {H H' H'':Hp}
theorem Ext.fl (e:Ext K J H J' H') (a:Addr) (vs:List V) (n:J a=none) (h:Rd H a (.lst vs)):J' a=none∧Rd H' a (.lst vs):=by
 rcases h with h | ⟨o,h⟩
 ·obtain ⟨a,b⟩:=e.ll a _ n h (.inl ⟨_,rfl⟩);exact ⟨a,.inl b⟩
 ·obtain ⟨a,b⟩:=e.ll a _ n h (.inr ⟨_,_,rfl⟩);exact ⟨a,.inr ⟨o,b⟩⟩
theorem Ext.flat (e:Ext K J H J' H') {a:Addr} {vs:List V} (h:CK K J H a vs):CK K J' H' a vs:=by
 rcases h with h | h
 ·exact .inl (e.fl a vs h.1 h.2)
 ·exact .inr h
mutual
theorem Ext.rep (e:Ext K J H J' H'):∀{x:PV} {v:V},cq K J H x v→cq K J' H' x v
 | .non,_,h=>h
 | .bl _,_,h=>h
 | .int _,_,h=>h
 | .str _,_,h=>h
 | .ref _,_,h=>h
 | .ty _,_,h=>h
 | .tup xs,_,⟨a,vs,e1,h,k⟩=>⟨a,vs,e1,e.tup _ _ h,Ext.iM e k⟩
 | .fl xs,_,⟨a,vs,e1,h,k⟩=>⟨a,vs,e1,e.flat h,Ext.iM e k⟩
theorem Ext.iM (e:Ext K J H J' H'):∀{xs:List PV} {vs:List V},aL K J H xs vs→aL K J' H' xs vs
 | [],_,h=>h
 | _ :: _,_,⟨v,us,e1,h,k⟩=>⟨v,us,e1,Ext.rep e h,Ext.iM e k⟩
end
theorem Ext.refl:Ext K J H J H:=⟨λ_ _ h=>h,λ_ _ n h _=>⟨n,h⟩⟩
theorem Ext.trans (a:Ext K J H J' H') (b:Ext K J' H' J'' H''):Ext K J H J'' H'' :=
 ⟨λc vs h=>b.tup c vs (a.tup c vs h),λc o n h z=>b.ll c o (a.ll c o n h z).1 (a.ll c o n h z).2 z⟩
theorem Ext.w_ {κ:Type} (e:Ext K J H J' H') {fs:List (κ × PV)} {gs:List (κ × V)} (h:k7 K J H fs gs):k7 K J' H' fs gs:=⟨h.1,e.iM h.2⟩
theorem Ext.same (s:bq H H'):Ext K J H J H':=⟨λa vs h=>s.tup h,λa o n h _=>⟨n,s _ _ h⟩⟩
theorem CZ.same (s:bq H H') {a:Addr} {o:HQ} (h:CZ K J H a o):CZ K J H' a o:=by
 have e:=Ext.same (K:=K) (J:=J) s
 cases o with
 | lst xs=>obtain ⟨vs,h1,h2⟩:=h;exact ⟨vs,s _ _ h1,e.iM h2⟩
 | ins C fs=>obtain ⟨dx,gs,h1,h2⟩:=h;exact ⟨dx,gs,s _ _ h1,e.w_ h2⟩
 | dct kvs ep=>obtain ⟨gs,h1,h2⟩:=h;exact ⟨gs,s _ _ h1,e.w_ h2⟩
 | tab=>exact s _ _ (show H a=some (.ext (dY a)) from h)
 | dtp hs ks=>obtain ⟨xs,h0,h1,h2⟩:=h;exact ⟨xs,h0,s _ _ h1,λx hx=>s.tup (h2 x hx)⟩
theorem Rep.same (s:bq H H') (h:Rep K J H):Rep K J H':=λa o q=>(h a o q).same s
theorem Ext.less (h:∀a,J' a=J a∨J' a=none):Ext K J H J' H:=⟨λ_ _ h=>h,λa o n z _=>⟨(h a).elim (λe=>e.trans n) (λe=>e),z⟩⟩
theorem Rep.less (h:∀a,J' a=J a∨J' a=none) (r:Rep K J H):Rep K J' H:=λa o q=>by
 have e:J a=some o:=by
  rcases h a with e | e
  ·rw [← e];exact q
  ·rw [e] at q;cases q
 have x:=Ext.less (K:=K) (H:=H) h
 have z:=r a o e
 cases o with
 | lst xs=>obtain ⟨vs,h1,h2⟩:=z;exact ⟨vs,h1,x.iM h2⟩
 | ins C fs=>obtain ⟨dx,gs,h1,h2⟩:=z;exact ⟨dx,gs,h1,x.w_ h2⟩
 | dct kvs ep=>obtain ⟨gs,h1,h2⟩:=z;exact ⟨gs,h1,x.w_ h2⟩
 | tab=>exact z
 | dtp hs ks=>exact z
theorem aL.length:∀{xs:List PV} {vs:List V},aL K J H xs vs→xs.length=vs.length
 | [],_,h=>by cases h;rfl
 | _ :: xs,_,⟨v,us,e1,_,k⟩=>by subst e1;simp [aL.length k]
theorem aL.get:∀{xs:List PV} {vs:List V} {i:Nat} {x:PV},aL K J H xs vs→xs[i]?=some x→∃v,vs[i]?=some v∧cq K J H x v
 | [],_,i,x,h,e=>by simp at e
 | y :: xs,_,0,x,⟨v,us,e1,h,k⟩,e=>by subst e1;simp at e;subst e;exact ⟨v,rfl,h⟩
 | y :: xs,_,i + 1,x,⟨v,us,e1,h,k⟩,e=>by
  subst e1
  obtain ⟨w,h1,h2⟩:=aL.get (i:=i) (x:=x) k (by simpa using e)
  exact ⟨w,by simpa using h1,h2⟩
theorem aL.get':∀{xs:List PV} {vs:List V} {i:Nat} {v:V},aL K J H xs vs→vs[i]?=some v→∃x,xs[i]?=some x∧cq K J H x v
 | [],_,i,x,h,e=>by cases h;simp at e
 | y :: xs,_,0,x,⟨v,us,e1,h,k⟩,e=>by subst e1;simp at e;subst e;exact ⟨y,rfl,h⟩
 | y :: xs,_,i + 1,x,⟨v,us,e1,h,k⟩,e=>by
  subst e1
  obtain ⟨w,h1,h2⟩:=aL.get' (i:=i) (v:=x) k (by simpa using e)
  exact ⟨w,by simpa using h1,h2⟩
theorem aL.append:∀{xs ys:List PV} {vs us:List V},aL K J H xs vs→aL K J H ys us→aL K J H (xs ++ ys) (vs ++ us)
 | [],_,_,_,h,k=>by cases h;exact k
 | x :: xs,ys,_,us,⟨v,ws,e1,h,h'⟩,k=>by subst e1;exact ⟨v,ws ++ us,rfl,h,aL.append h' k⟩
theorem aL.drop:∀(n:Nat) {xs:List PV} {vs:List V},aL K J H xs vs→aL K J H (xs.drop n) (vs.drop n)
 | 0,_,_,h=>h
 | n + 1,[],_,h=>by cases h;rfl
 | n + 1,x :: xs,_,⟨v,ws,e1,h,h'⟩=>by subst e1;exact aL.drop n h'
theorem aL.take:∀(n:Nat) {xs:List PV} {vs:List V},aL K J H xs vs→aL K J H (xs.take n) (vs.take n)
 | 0,_,_,h=>rfl
 | n + 1,[],_,h=>by cases h;rfl
 | n + 1,x :: xs,_,⟨v,ws,e1,h,h'⟩=>by subst e1;exact ⟨v,_,rfl,h,aL.take n h'⟩
theorem k7.look {κ:Type} [BEq κ] [LawfulBEq κ] {f:κ}:∀{fs:List (κ × PV)} {gs:List (κ × V)} {x:PV},k7 K J H fs gs→fs.lookup f=some x→∃v,gs.lookup f=some v∧cq K J H x v
 | [],_,_,_,e=>by cases e
 | (k,y) :: fs,[],x,h,e=>by cases h.1
 | (k,y) :: fs,(k',w) :: gs,x,h,e=>by
  obtain ⟨h1,v,us,h2,h3,h4⟩:=h
  simp only [Sd,List.cons.injEq] at h1 h2
  obtain ⟨rfl,h1⟩:=h1
  obtain ⟨rfl,rfl⟩:=h2
  rw [SI] at e ⊢
  cases hk:f == k with
  | true=>rw [hk] at e;cases e;exact ⟨w,rfl,h3⟩
  | false=>rw [hk] at e;exact k7.look ⟨h1,h4⟩ e
theorem k7.none {κ:Type} [BEq κ] [LawfulBEq κ] {f:κ}:∀{fs:List (κ × PV)} {gs:List (κ × V)},k7 K J H fs gs→fs.lookup f=none→gs.lookup f=none
 | [],[],_,_=>rfl
 | [],_ :: _,h,e=>by cases h.1
 | (k,y) :: fs,[],h,e=>by cases h.1
 | (k,y) :: fs,(k',w) :: gs,h,e=>by
  obtain ⟨h1,v,us,h2,h3,h4⟩:=h
  simp only [Sd,List.cons.injEq] at h1 h2
  obtain ⟨rfl,h1⟩:=h1
  obtain ⟨rfl,rfl⟩:=h2
  rw [SI] at e ⊢
  cases hk:f == k with
  | true=>rw [hk] at e;cases e
  | false=>rw [hk] at e;exact k7.none ⟨h1,h4⟩ e
end
section
variable {K:PySem.W.Frag} {J J':Hq} {H H':Hp} {p:Addr}
theorem GK {a p:Addr} {o:HQ} (r:Rep K J H) (h:J a=some o) (n:H p=none):a≠p:=by
 intro e;subst e
 have:=r _ _ h
 cases o with
 | lst xs=>obtain ⟨vs,h1,_⟩:=this;rw [n] at h1;cases h1
 | ins C fs=>obtain ⟨dx,gs,h1,_⟩:=this;rw [n] at h1;cases h1
 | dct kvs ep=>obtain ⟨gs,h1,_⟩:=this;rw [n] at h1;cases h1
 | tab=>have h1:H a=some (.ext (dY a)):=this;rw [n] at h1;cases h1
 | dtp hs ks=>obtain ⟨xs,_,h1,_⟩:=this;rw [n] at h1;cases h1
theorem Rep.free (r:Rep K J H) (n:H p=none):J p=none:=by
 cases e:J p with
 | none=>rfl
 | some o=>exact absurd rfl (GK r e n)
theorem Ext.laid {o:HO} {u:HQ} (n:H p=none):Ext K J H (put J p u) (upd H p o):=by
 refine ⟨λa vs h=>(bq.new n o).tup h,λa o' z h _=>⟨?_,bq.new n o _ _ h⟩⟩
 have ne:a≠p:=by intro e;subst e;rw [n] at h;cases h
 rw [ar ne];exact z
theorem Rep.Cv {J':Hq} {H':Hp} (e:Ext K J H J' H') (r:Rep K J H) (p:Addr) (q:∀a,a≠p→J' a=J a) (s:∀a o,a≠p→J a≠none→H a=some o→H' a=some o) (h:∀u,J' p=some u→CZ K J' H' p u):Rep K J' H':=λa o z=>by
 by_cases ep:a=p
 ·subst ep;exact h o z
 ·rw [q a ep] at z
  have t:=r a o z
  have jn:J a≠none:=by rw [z];exact λy=>nomatch y
  cases o with
  | lst xs=>obtain ⟨vs,h1,h2⟩:=t;exact ⟨vs,s _ _ ep jn h1,e.iM h2⟩
  | ins C fs=>obtain ⟨dx,gs,h1,h2⟩:=t;exact ⟨dx,gs,s _ _ ep jn h1,e.w_ h2⟩
  | dct kvs eq=>obtain ⟨gs,h1,h2⟩:=t;exact ⟨gs,s _ _ ep jn h1,e.w_ h2⟩
  | tab=>exact s _ _ ep jn (show H a=some (.ext (dY a)) from t)
  | dtp hs ks=>obtain ⟨xs,h0,h1,h2⟩:=t;exact ⟨xs,h0,s _ _ ep jn h1,λx hx=>e.tup _ _ (h2 x hx)⟩
theorem Rep.DL {xs:List PV} {vs:List V} (r:Rep K J H) (n:H p=none) (h:aL K J H xs vs):Rep K (put J p (.lst xs)) (upd H p (.lst vs)):=by
 have e:=Ext.laid (K:=K) (J:=J) (o:=.lst vs) (u:=.lst xs) n
 refine r.Cv e p (λa ne=>ar ne) (λa o ne _ z=>by rw [aF ne];exact z) λu z=>?_
 rw [au] at z;cases z
 exact ⟨vs,aA,e.iM h⟩
theorem Ext.wrote {xs ys:List PV} {ws vs:List V} (h:J p=some (.lst xs)) (k:H p=some (.lst ws)):Ext K J H (put J p (.lst ys)) (upd H p (.lst vs)):=by
 have sm:∀a u,(∀l,u≠HO.lst l)∨a≠p→Rd H a u→Rd (upd H p (.lst vs)) a u:=λa u d z=>by
  have ne:a≠p:=by
   rcases d with d | d
   ·intro e;subst e
    rcases z with z | ⟨o,z⟩
    ·rw [k] at z;cases z;exact d _ rfl
    ·rw [k] at z;cases z
   ·exact d
  rcases z with z | ⟨o,z⟩
  ·exact .inl (by rw [aF ne];exact z)
  ·exact .inr ⟨o,by rw [aF ne];exact z⟩
 refine ⟨λa vs' z=>?_,λa o z q _=>?_⟩
 ·rcases z with z | z
  ·exact .inl (sm a _ (.inl λl e=>nomatch e) z)
  ·exact .inr z
 ·have ne:a≠p:=by intro e;subst e;rw [h] at z;cases z
  exact ⟨by rw [ar ne];exact z,by rw [aF ne];exact q⟩
theorem Rep.wrote {xs ys:List PV} {ws vs:List V} (r:Rep K J H) (h:J p=some (.lst xs)) (k:H p=some (.lst ws)) (q:aL K J H ys vs):Rep K (put J p (.lst ys)) (upd H p (.lst vs)):=by
 have e:=Ext.wrote (K:=K) (ys:=ys) (vs:=vs) h k
 refine r.Cv e p (λa ne=>ar ne) (λa o ne _ z=>by rw [aF ne];exact z) λu z=>?_
 rw [au] at z;cases z
 exact ⟨vs,aA,e.iM q⟩
end
abbrev Sr:=List (Option PV)
abbrev dg:=Sr→Hq→(PV→Hq→Prop)→Prop
abbrev k9:=Sr→Hq→(Bool→Hq→Prop)→Prop
abbrev oh:=Sr→Hq→(List PV→Hq→Prop)→Prop
structure En where
 nx:Sr→Hq→Prop
 rt:PV→Hq→Prop
 bk:Sr→Hq→Prop:=λ_ _=>False
 ct:Sr→Hq→Prop:=λ_ _=>False
abbrev ip:=En→Sr→Hq→Prop
structure k8 (K:PySem.W.Frag) (J:Hq) (H:Hp) (τ:Sr) (σ:L2.St):Prop where
 len:τ.length=σ.length
 get:∀(i:Nat) (x:PV),τ[i]?=some (some x)→∃v,σ[i]?=some (some v)∧cq K J H x v
theorem k8.ext {K:PySem.W.Frag} {J J':Hq} {H H':Hp} {τ:Sr} {σ:L2.St} (r:k8 K J H τ σ) (e:Ext K J H J' H'):k8 K J' H' τ σ :=
 ⟨r.len,λi x h=>let ⟨v,a,b⟩:=r.get i x h;⟨v,a,e.rep b⟩⟩
theorem k8.set {K:PySem.W.Frag} {J:Hq} {H:Hp} {τ:Sr} {σ:L2.St} (r:k8 K J H τ σ) {x:PV} {v:V} (i:Nat) (h:cq K J H x v):k8 K J H (τ.set i (some x)) (σ.set i (some v)):=by
 refine ⟨by rw [TF,TF,r.len],λj y e=>?_⟩
 by_cases hj:i=j
 ·subst hj
  by_cases hl:i < τ.length
  ·rw [SE hl] at e
   cases e
   exact ⟨v,SE (by rw [← r.len];exact hl),h⟩
  ·rw [SN (by rw [TF];omega)] at e
   cases e
 ·rw [SQ hj] at e ⊢
  exact r.get j y e
abbrev G2:=Hq × Hp
structure vH (K:PySem.W.Frag) (G:G2) (τ:Sr) (J:Hq) (σ:L2.St) (H:Hp):Prop where
 sl:k8 K J H τ σ
 hp:Rep K J H
 ext:Ext K G.1 G.2 J H
section
variable (K:PySem.W.Frag) (G:G2)
def LE (t:dg):TE:=λσ H Q=>∃τ J Q2,vH K G τ J σ H∧t τ J Q2∧∀x J' v H',cq K J' H' x v→Rep K J' H'→Ext K J H J' H'→Q2 x J'→Q v H'
def LT (t:k9):TT:=λσ H Q=>∃τ J Q2,vH K G τ J σ H∧t τ J Q2∧∀b J' H',Rep K J' H'→Ext K J H J' H'→Q2 b J'→Q b H'
def LA (t:oh):TA:=λσ H Q=>∃τ J Q2,vH K G τ J σ H∧t τ J Q2∧∀xs J' vs H',aL K J' H' xs vs→Rep K J' H'→Ext K J H J' H'→Q2 xs J'→Q vs H'
structure Goes (J:Hq) (H:Hp) (D2:En) (D:Ends):Prop where
 nx:∀τ J' σ H',k8 K J' H' τ σ→Rep K J' H'→Ext K J H J' H'→D2.nx τ J'→D.nx σ H'
 rt:∀x J' v H',cq K J' H' x v→Rep K J' H'→Ext K J H J' H'→D2.rt x J'→D.rt v H'
 bk:∀τ J' σ H',k8 K J' H' τ σ→Rep K J' H'→Ext K J H J' H'→D2.bk τ J'→D.bk σ H'
 ct:∀τ J' σ H',k8 K J' H' τ σ→Rep K J' H'→Ext K J H J' H'→D2.ct τ J'→D.ct σ H'
def LS (t:ip):TS:=λD σ H=>∃τ J D2,vH K G τ J σ H∧t D2 τ J∧Goes K J H D2 D
end
theorem Goes.ext {K:PySem.W.Frag} {J J':Hq} {H H':Hp} {D2:En} {D:Ends} (g:Goes K J H D2 D) (e:Ext K J H J' H'):Goes K J' H' D2 D :=
 ⟨λτ J1 σ H1 a b c=>g.nx τ J1 σ H1 a b (e.trans c),λx J1 v H1 a b c=>g.rt x J1 v H1 a b (e.trans c),λτ J1 σ H1 a b c=>g.bk τ J1 σ H1 a b (e.trans c),λτ J1 σ H1 a b c=>g.ct τ J1 σ H1 a b (e.trans c)⟩
theorem vH.go {K:PySem.W.Frag} {G:G2} {τ:Sr} {J J':Hq} {σ:L2.St} {H H':Hp} (a:vH K G τ J σ H) (r:Rep K J' H') (e:Ext K J H J' H'):vH K G τ J' σ H':=⟨a.sl.ext e,r,a.ext.trans e⟩
structure RE (X:Cx) (G:G2) (e:Expr) (t:dg):Prop where
 run:L2.PE X e (LE X.K G t)
structure RT (X:Cx) (G:G2) (e:Expr) (t:k9):Prop where
 run:L2.PT X e (LT X.K G t)
structure RW (X:Cx) (G:G2) (e:Expr) (t:k9):Prop where
 run:L2.PW X e (LT X.K G t)
structure RA (X:Cx) (G:G2) (es:List Expr) (t:oh):Prop where
 run:L2.PA X es (LA X.K G t)
structure RS (X:Cx) (G:G2) (st:Stmt) (t:ip):Prop where
 run:L2.PS X st (LS X.K G t)
structure RB (X:Cx) (G:G2) (st:List Stmt) (t:ip):Prop where
 run:L2.rj X st (LS X.K G t)
theorem kK {X:Cx} {e:Expr} {t t':TE} (h:L2.PE X e t) (k:∀σ H Q,t' σ H Q→t σ H Q):L2.PE X e t':=λpins s σ H Q I q=>h pins s σ H Q I (k _ _ _ q)
theorem OS {X:Cx} {e:Expr} {t t':TT} (h:L2.PT X e t) (k:∀σ H Q,t' σ H Q→t σ H Q):L2.PT X e t':=λpins s σ H Q I q=>h pins s σ H Q I (k _ _ _ q)
theorem Rm {X:Cx} {e:Expr} {t t':TT} (h:L2.PW X e t) (k:∀σ H Q,t' σ H Q→t σ H Q):L2.PW X e t':=λwh pins s σ H Q I q=>h wh pins s σ H Q I (k _ _ _ q)
theorem P7 {X:Cx} {e:List Expr} {t t':TA} (h:L2.PA X e t) (k:∀σ H Q,t' σ H Q→t σ H Q):L2.PA X e t':=λpos pins s σ H Q I q=>h pos pins s σ H Q I (k _ _ _ q)
theorem yY {X:Cx} {e:Stmt} {t t':TS} (h:L2.PS X e t) (k:∀D σ H,t' D σ H→t D σ H):L2.PS X e t':=λpins s σ H D I q=>h pins s σ H D I (k _ _ _ q)
theorem P8 {X:Cx} {e:List Stmt} {t t':TS} (h:L2.rj X e t) (k:∀D σ H,t' D σ H→t D σ H):L2.rj X e t':=λpins s σ H D I q=>h pins s σ H D I (k _ _ _ q)
end Ov
namespace Ov
open PySem PySem.Spec PyProof.Rows
open L2 (V HO Hp Inv Cx VK XK TE TT TA TS TG oi TI TO il Ends sL Loc Gl Rd RelV Vals er t_ bS og pO oJ ij R2 upd aA aF cP fv Sp oV It bq cJ bK Passes mS aI Meth Mk Binds aJ cm av cV fb)
def f6 {α:Sort _} (_:α):Type:=Unit
def dp {α:Sort _} {k:α}:f6 k:=()
def uL {α:Type} (o:Option α) (k:α→Prop) (_:f6 k:=dp):Prop:=match o with | some x=>k x | none=>False
def LY (o:Option (Option PV)) (k:PV→Prop) (_:f6 k:=dp):Prop:=match o with | some (some x)=>k x | _=>False
def CA (x:PV) (k:Int→Prop) (_:f6 k:=dp):Prop:=match x with | .int i=>k i | _=>False
def IM (x:PV) (k:Bool→Prop) (_:f6 k:=dp):Prop:=match x with | .bl i=>k i | _=>False
def Fs (x:PV) (k:Str→Prop) (_:f6 k:=dp):Prop:=match x with | .str i=>k i | _=>False
def B9 (x:PV) (k:Addr→Prop) (_:f6 k:=dp):Prop:=match x with | .ref a=>k a | _=>False
def LZ (x:PV) (k:List PV→Prop) (_:f6 k:=dp):Prop:=match x with | .tup a=>k a | _=>False
def Ai (xs:List PV) (k:PV→Prop) (_:f6 k:=dp):Prop:=match xs with | [x]=>k x | _=>False
def OQ (o:Option HQ) (k:List PV→Prop) (_:f6 k:=dp):Prop:=match o with | some (.lst xs)=>k xs | _=>False
def Fq (o:Option HQ) (k:List (Str × PV)→Nat→Prop) (_:f6 k:=dp):Prop:=match o with | some (.dct xs e)=>k xs e | _=>False
def KA (C:Addr) (o:Option HQ) (k:List (Str × PV)→Prop) (_:f6 k:=dp):Prop:=match o with | some (.ins C' fs)=>if C'=C then k fs else False | _=>False
def P5 (xs:List PV) (k:Prop) (_:f6 k:=dp):Prop:=match xs with | []=>k | _=>False
def KC (xs:List PV) (k:PV→List PV→Prop) (_:f6 k:=dp):Prop:=match xs with | x :: r=>k x r | []=>False
def KI (xs:List PV) (k:PV→PV→Prop) (_:f6 k:=dp):Prop:=match xs with | [x,y]=>k x y | _=>False
theorem Ng {k:Prop} {d:f6 k}:P5 [] k d=k:=rfl
theorem KD {x:PV} {r:List PV} {k:PV→List PV→Prop} {d:f6 k}:KC (x :: r) k d=k x r:=rfl
theorem Nh {x y:PV} {k:PV→PV→Prop} {d:f6 k}:KI [x,y] k d=k x y:=rfl
theorem KH {xs:List PV} {k:Prop} {d:f6 k} (h:P5 xs k d):xs=[]∧k:=by cases xs with | nil=>exact ⟨rfl,h⟩ | cons x r=>exact h.elim
theorem GW {xs:List PV} {k:PV→List PV→Prop} {d:f6 k} (h:KC xs k d):∃x r,xs=x :: r∧k x r:=by cases xs with | nil=>exact h.elim | cons x r=>exact ⟨_,_,rfl,h⟩
theorem yM {xs:List PV} {k:PV→PV→Prop} {d:f6 k} (h:KI xs k d):∃x y,xs=[x,y]∧k x y:=by
 unfold KI at h
 split at h
 ·exact ⟨_,_,rfl,h⟩
 ·exact h.elim
theorem Nj {α:Type} {x:α} {k:α→Prop} {d:f6 k}:uL (some x) k d=k x:=rfl
theorem Na {x:PV} {k:PV→Prop} {d:f6 k}:LY (some (some x)) k d=k x:=rfl
theorem Nd {x:Int} {k:Int→Prop} {d:f6 k}:CA (.int x) k d=k x:=rfl
theorem Nb {x:Bool} {k:Bool→Prop} {d:f6 k}:IM (.bl x) k d=k x:=rfl
theorem Nk {x:Str} {k:Str→Prop} {d:f6 k}:Fs (.str x) k d=k x:=rfl
theorem Ni {x:Addr} {k:Addr→Prop} {d:f6 k}:B9 (.ref x) k d=k x:=rfl
theorem Nl {x:List PV} {k:List PV→Prop} {d:f6 k}:LZ (.tup x) k d=k x:=rfl
theorem M' {x:PV} {k:PV→Prop} {d:f6 k}:Ai [x] k d=k x:=rfl
theorem Nf {x:List PV} {k:List PV→Prop} {d:f6 k}:OQ (some (.lst x)) k d=k x:=rfl
theorem Nc {x:List (Str × PV)} {e:Nat} {k:List (Str × PV)→Nat→Prop} {d:f6 k}:Fq (some (.dct x e)) k d=k x e:=rfl
theorem IP {C:Addr} {x:List (Str × PV)} {k:List (Str × PV)→Prop} {d:f6 k}:KA C (some (.ins C x)) k d=k x:=if_pos rfl
theorem d5 {α:Type} {o:Option α} {k:α→Prop} {d:f6 k} (h:uL o k d):∃x,o=some x∧k x:=by cases o with | none=>exact h.elim | some x=>exact ⟨x,rfl,h⟩
theorem nu {α:Type} {o:Option α} {x:α} {k:α→Prop} (e:o=some x) (h:k x):uL o k:=by rw [e];exact h
theorem D7 {o:Option (Option PV)} {k:PV→Prop} {d:f6 k} (h:LY o k d):∃x,o=some (some x)∧k x:=by
 unfold LY at h
 split at h
 ·exact ⟨_,rfl,h⟩
 ·exact h.elim
theorem Kx {o:Option (Option PV)} {x:PV} {k:PV→Prop} (e:o=some (some x)) (h:k x):LY o k:=by rw [e];exact h
theorem gC {x:PV} {k:Int→Prop} {d:f6 k} (h:CA x k d):∃i,x=.int i∧k i:=by cases x <;> first | exact ⟨_,rfl,h⟩ | exact False.elim h
theorem nt {x:PV} {k:Bool→Prop} {d:f6 k} (h:IM x k d):∃i,x=.bl i∧k i:=by cases x <;> first | exact ⟨_,rfl,h⟩ | exact False.elim h
theorem jL {x:PV} {k:Str→Prop} {d:f6 k} (h:Fs x k d):∃i,x=.str i∧k i:=by cases x <;> first | exact ⟨_,rfl,h⟩ | exact False.elim h
theorem fG {x:PV} {k:Addr→Prop} {d:f6 k} (h:B9 x k d):∃i,x=.ref i∧k i:=by cases x <;> first | exact ⟨_,rfl,h⟩ | exact False.elim h
theorem D8 {x:PV} {k:List PV→Prop} {d:f6 k} (h:LZ x k d):∃i,x=.tup i∧k i:=by cases x <;> first | exact ⟨_,rfl,h⟩ | exact False.elim h
theorem gB {xs:List PV} {k:PV→Prop} {d:f6 k} (h:Ai xs k d):∃x,xs=[x]∧k x:=by
 unfold Ai at h
 split at h
 ·exact ⟨_,rfl,h⟩
 ·exact h.elim
theorem KG {o:Option HQ} {k:List PV→Prop} {d:f6 k} (h:OQ o k d):∃x,o=some (.lst x)∧k x:=by
 unfold OQ at h
 split at h
 ·exact ⟨_,rfl,h⟩
 ·exact h.elim
theorem lE {o:Option HQ} {k:List (Str × PV)→Nat→Prop} {d:f6 k} (h:Fq o k d):∃x e,o=some (.dct x e)∧k x e:=by
 unfold Fq at h
 split at h
 ·exact ⟨_,_,rfl,h⟩
 ·exact h.elim
theorem yL {C:Addr} {o:Option HQ} {k:List (Str × PV)→Prop} {d:f6 k} (h:KA C o k d):∃x,o=some (.ins C x)∧k x:=by
 unfold KA at h
 split at h
 ·split at h
  ·rename_i e;subst e;exact ⟨_,rfl,h⟩
  ·exact h.elim
 ·exact h.elim
theorem yN {x:PV} {xs:List PV} {k:List PV→Prop} (e:x=.tup xs) (h:k xs):LZ x k:=by rw [e];exact h
theorem Kz {x:PV} {b:Bool} {k:Bool→Prop} (e:x=.bl b) (h:k b):IM x k:=by rw [e];exact h
theorem lD {C:Addr} {o:Option HQ} {x:List (Str × PV)} {k:List (Str × PV)→Prop} (e:o=some (.ins C x)) (h:k x):KA C o k:=by rw [e,IP];exact h
section
variable {X:Cx} {G:G2} {a b c e o:Expr} {es rest:List Expr} {ta tb te tc to:dg} {tA tB':k9} {t:oh} {pos px p p2 apos cpos:Pos} {x:Str} {i j:Nat}
def w9 (i:Nat):dg:=λτ J Q=>LY τ[i]? λx=>Q x J
theorem rv (i:Nat) {x:Str} {pos:Pos} (hN:X.N[i]?=some x:=by rfl) (hv:sL X.env.scope x:=by first | exact Or.inl rfl | exact Or.inr (Or.inl rfl) | exact Or.inr (Or.inr rfl)) (hd:(x == ("__debug__":Str))=false:=by decide)
  (hcd:(x == ("__classdict__":Str))=false:=by decide):RE X G (.Name x pos) (w9 i) :=
 ⟨kK (L2.yV hN hv hd hcd) λσ H Q ⟨τ,J,Q2,a2,hq,k⟩=>let ⟨y,ey,q⟩:=D7 hq;let ⟨v,e1,r⟩:=a2.sl.get i y ey;⟨v,e1,k y J v H r a2.hp .refl q⟩⟩
def rC (x:PV):dg:=λ_ J Q=>Q x J
theorem ag {i:Int} {j pos}:RE X G (.Constant (.int i) j pos) (rC (.int i)):=⟨kK L2.aK λσ H Q ⟨τ,J,Q2,a2,q,k⟩=>k (.int i) J _ H rfl a2.hp .refl q⟩
theorem d7 {b:Bool} {j pos}:RE X G (.Constant (.bool b) j pos) (rC (.bl b)):=⟨kK L2.wR λσ H Q ⟨τ,J,Q2,a2,q,k⟩=>k (.bl b) J _ H rfl a2.hp .refl q⟩
theorem lH {j pos}:RE X G (.Constant .none j pos) (rC .non):=⟨kK L2.yS λσ H Q ⟨τ,J,Q2,a2,q,k⟩=>k .non J _ H rfl a2.hp .refl q⟩
theorem bP {x:Str} {j pos}:RE X G (.Constant (.str x) j pos) (rC (.str x)):=⟨kK L2.nA λσ H Q ⟨τ,J,Q2,a2,q,k⟩=>k (.str x) J _ H rfl a2.hp .refl q⟩
theorem gm {v:V} {u:Value} (y:PV) (hg:Gl X x) (hm:X.mg x=some u) (r:RelV v u) (hr:∀J H,cq X.K J H y v) (hd:(x == ("__debug__":Str))=false:=by decide):RE X G (.Name x pos) (rC y) :=
 ⟨kK (L2.bG hg hm r hd) λσ H Q ⟨τ,J,Q2,a2,q,k⟩=>k y J v H (hr J H) a2.hp .refl q⟩
theorem mD {n:String} (hg:Gl X x) (hm:X.mg x=none) (hv:bootBuiltins x=some (.type n)) (hn:x≠"__name__":=by decide) (hd:(x == ("__debug__":Str))=false:=by decide):RE X G (.Name x pos) (rC (.ty n)) :=
 ⟨kK (L2.mq (v:=.ty n) hg hm hv rfl hn hd) λσ H Q ⟨τ,J,Q2,a2,q,k⟩=>k (.ty n) J _ H rfl a2.hp .refl q⟩
abbrev k6:=PV→PV→Hq→(PV→Hq→Prop)→Prop
abbrev Me:=PV→Hq→(PV→Hq→Prop)→Prop
abbrev yb:=List PV→Hq→(PV→Hq→Prop)→Prop
def Kn (K:PySem.W.Frag) (J:Hq) (H:Hp) (Q2:PV→Hq→Prop) (Q:VK):Prop:=∀z J' u H',cq K J' H' z u→Rep K J' H'→Ext K J H J' H'→Q2 z J'→Q u H'
def LR (K:PySem.W.Frag) (r:R2) (q:k6):Prop:=∀J H x y v w Q2 Q,cq K J H x v→cq K J H y w→Rep K J H→q x y J Q2→Kn K J H Q2 Q→r v w H Q
def RD (K:PySem.W.Frag) (r:V→Hp→VK→Prop) (q:Me):Prop:=∀J H x v Q2 Q,cq K J H x v→Rep K J H→q x J Q2→Kn K J H Q2 Q→r v H Q
def QZ (K:PySem.W.Frag) (r:List V→Hp→VK→Prop) (q:yb):Prop:=∀J H xs vs Q2 Q,aL K J H xs vs→Rep K J H→q xs J Q2→Kn K J H Q2 Q→r vs H Q
def kG (X:Cx) (f:Value→Value→Sem Value) (q:k6):Prop:=∃r,er X f r∧LR X.K r q
def Q3 (X:Cx) (f:Value→Sem Value) (q:Me):Prop:=∃r,t_ X f r∧RD X.K r q
def O2 (X:Cx) (q:k6):Prop:=∃r,og X r∧LR X.K r q
def FA (X:Cx) (f:Value) (q:yb):Prop:=∃r,bS X f r∧QZ X.K r q
def HC (q:k6) (ta tb:dg):dg:=λτ J Q=>ta τ J λx J1=>tb τ J1 λy J2=>q x y J2 Q
def Rv (q:Me) (ta:dg):dg:=λτ J Q=>ta τ J λx J1=>q x J1 Q
theorem o6 {r:R2} {q:k6} (lr:LR X.K r q):∀σ H Q,LE X.K G (HC q ta tb) σ H Q→L2.E_ r (LE X.K G ta) (LE X.K G tb) σ H Q:=λσ H Q ⟨τ,J,Q2,a2,h,k⟩ =>
 ⟨τ,J,_,a2,h,λx J1 v H1 rx r1 e1 q1=>⟨τ,J1,_,a2.go r1 e1,q1,λy J2 w H2 ry r2 e2 q2 =>
  lr J2 H2 x y v w Q2 Q (e2.rep rx) ry r2 q2 λz J' u H' rz rr ee qq=>k z J' u H' rz rr ((e1.trans e2).trans ee) qq⟩⟩
theorem aB {op:Operator} {q:k6} (ho:kG X (binaryOp op) q) (ha:RE X G a ta) (hb:RE X G b tb):RE X G (.BinOp a op b pos) (HC q ta tb):=by
 obtain ⟨r,h,lr⟩:=ho
 exact ⟨kK (L2.bp h ha.run hb.run) (o6 lr)⟩
theorem EE {op:UnaryOp} {q:Me} (ho:Q3 X (unaryOp op) q) (ha:RE X G a ta):RE X G (.UnaryOp op a pos) (Rv q ta):=by
 obtain ⟨r,h,lr⟩:=ho
 exact ⟨kK (L2.Am h ha.run) λσ H Q ⟨τ,J,Q2,a2,h,k⟩=>⟨τ,J,_,a2,h,λx J1 v H1 rx r1 e1 q1 =>
  lr J1 H1 x v Q2 Q rx r1 q1 λz J' u H' rz rr ee qq=>k z J' u H' rz rr (e1.trans ee) qq⟩⟩
theorem aw {q:k6} (hr:O2 X q) (ha:RE X G a ta) (hb:RE X G b tb) (hs:cJ b:=by exact λ_ _=>rfl):RE X G (.Subscript a b pos) (HC q ta tb):=by
 obtain ⟨r,h,lr⟩:=hr
 exact ⟨kK (L2.cj h ha.run hb.run hs) (o6 lr)⟩
theorem dv {op:CmpOp} {q:k6} (ho:kG X (compareOp op) q) (ha:RE X G a ta) (hb:RE X G b tb) (hm:behindInMarks op b=false:=by first | exact L2.eL _ | with_unfolding_all rfl):RE X G (.Compare a [op] [b] pos) (HC q ta tb):=by
 obtain ⟨r,h,lr⟩:=ho
 exact ⟨kK (L2.o7 h ha.run hb.run hm) (o6 lr)⟩
def rB (t:dg):k9:=λτ J Q=>t τ J λx J1=>IM x λk=>Q k J1
theorem aS {op:CmpOp} {q:k6} (ho:kG X (compareOp op) q) (ha:RE X G a ta) (hb:RE X G b tb) (hm:behindInMarks op b=false:=by first | exact L2.eL _ | with_unfolding_all rfl):RT X G (.Compare a [op] [b] pos) (rB (HC q ta tb)):=by
 obtain ⟨r,h,lr⟩:=ho
 refine ⟨OS (L2.dB h ha.run hb.run hm) λσ H Q ⟨τ,J,Q2,a2,h,k⟩=>?_⟩
 refine o6 lr σ H _ ⟨τ,J,_,a2,h,λz J' u H' rz rr ee qq=>?_⟩
 obtain ⟨b,rfl,q⟩:=nt qq
 exact ⟨b,rz,k b J' H' rr ee q⟩
theorem bL (h:RE X G e te) (he:∀whole,isTrue e X.env whole=(do let v ← whole;standAt e.pos;holding [v] (truthy v)):=by intro _;rfl):RT X G e (rB te) :=
 ⟨OS (L2.y3 h.run he) λσ H Q ⟨τ,J,Q2,a2,h,k⟩=>⟨τ,J,_,a2,h,λz J' u H' rz rr ee qq=>by obtain ⟨b,eb,q⟩:=nt qq;subst eb;exact ⟨b,rz,k b J' H' rr ee q⟩⟩⟩
def vG (J:Hq):PV→Option Bool
 | .non=>some false
 | .bl b=>some b
 | .int i=>some (i != 0)
 | .tup xs=>some (!xs.isEmpty)
 | .fl xs=>some (!xs.isEmpty)
 | .ref a=>match J a with
  | some (.lst xs)=>some (!xs.isEmpty)
  | some (.dct kvs _)=>some (!kvs.isEmpty)
  | _=>none
 | _=>none
theorem gh {α β:Type} {xs:List α} {ys:List β} (h:xs.length=ys.length):xs.isEmpty=ys.isEmpty:=by cases xs <;> cases ys <;> simp_all
theorem Ib {K:PySem.W.Frag} {J:Hq} {H:Hp} {x:PV} {v:V} {k:Bool} (r:cq K J H x v) (hp:Rep K J H) (h:vG J x=some k):L2.JG K v H k:=by
 cases x with
 | non=>cases r;cases h;rfl
 | bl b=>cases r;cases h;rfl
 | int i=>cases r;cases h;rfl
 | str s=>cases h
 | ty n=>cases h
 | tup xs=>obtain ⟨a,vs,rfl,h1,h2⟩:=r;cases h;exact .inr (.inl ⟨vs,h1,by rw [gh h2.length]⟩)
 | fl xs=>obtain ⟨a,vs,rfl,h1,h2⟩:=r;cases h;exact .inl ⟨vs,h1.sq,by rw [gh h2.length]⟩
 | ref a =>
  cases r
  unfold vG at h
  dsimp only at h
  cases e:J a with
  | none=>rw [e] at h;cases h
  | some o =>
   rw [e] at h
   have z:=hp a o e
   cases o with
   | lst xs=>obtain ⟨vs,h1,h2⟩:=z;cases h;exact .inl ⟨vs,.inl (.inl h1),by rw [gh h2.length]⟩
   | ins C fs=>cases h
   | tab=>cases h
   | dtp hs ks=>cases h
   | dct kvs ep =>
    obtain ⟨gs,h1,h2⟩:=z;cases h
    refine .inr (.inr ⟨gs,ep,h1,?_⟩)
    have:=congrArg Tc h2.1
    simp only [R6] at this
    rw [gh this]
def N6 (te:dg):k9:=λτ J Q=>te τ J λx J1=>uL (vG J1 x) λk=>Q k J1
theorem Lf (h:RE X G e te) (he:∀whole,isTrue e X.env whole=(do let v ← whole;standAt e.pos;holding [v] (truthy v)):=by intro _;rfl):RT X G e (N6 te) :=
 ⟨OS (L2.Ek h.run he) λσ H Q ⟨τ,J,Q2,a2,h,k⟩=>⟨τ,J,_,a2,h,λz J' u H' rz rr ee qq=>let ⟨b,eb,q⟩:=d5 qq;⟨b,Ib rz rr eb,k b J' H' rr ee q⟩⟩⟩
def Hw (t u:k9):k9:=λτ J Q=>t τ J λc J1=>if c=true then u τ J1 Q else Q false J1
def Qi (t u:k9):k9:=λτ J Q=>t τ J λc J1=>if c=true then Q true J1 else u τ J1 Q
def NX (t:k9):k9:=λτ J Q=>t τ J λc J1=>Q (!c) J1
theorem cO (ha:RT X G a tA):RT X G (.UnaryOp .Not a pos) (NX tA):=⟨OS (L2.y0 ha.run) λσ H Q ⟨τ,J,Q2,a2,h,k⟩=>⟨τ,J,_,a2,h,λb J' H' rr ee q=>k _ J' H' rr ee q⟩⟩
theorem kB (ha:RT X G a tA):RW X G (.BoolOp .And [a] pos) tA:=⟨L2.o_ ha.run⟩
theorem iS (ha:RT X G a tA):RW X G (.BoolOp .Or [a] pos) tA:=⟨L2.uV ha.run⟩
theorem C4 {σ:L2.St} {H:Hp} {Q:Bool→Hp→Prop}:LT X.K G (Hw tA tB') σ H Q→L2.E6 (LT X.K G tA) (LT X.K G tB') σ H Q:=λ⟨τ,J,Q2,a2,h,k⟩ =>
 ⟨τ,J,_,a2,h,λb J' H' rr ee q=>by
  cases b with
  | true=>simp only [if_true] at q ⊢;exact ⟨τ,J',Q2,a2.go rr ee,q,λb J2 H2 r2 e2 q2=>k b J2 H2 r2 (ee.trans e2) q2⟩
  | false=>simp only [Ss,if_false] at q ⊢;exact k _ J' H' rr ee q⟩
theorem G_ {σ:L2.St} {H:Hp} {Q:Bool→Hp→Prop}:LT X.K G (Qi tA tB') σ H Q→L2.Og (LT X.K G tA) (LT X.K G tB') σ H Q:=λ⟨τ,J,Q2,a2,h,k⟩ =>
 ⟨τ,J,_,a2,h,λb J' H' rr ee q=>by
  cases b with
  | false=>simp only [Ss,if_false] at q ⊢;exact ⟨τ,J',Q2,a2.go rr ee,q,λb J2 H2 r2 e2 q2=>k b J2 H2 r2 (ee.trans e2) q2⟩
  | true=>simp only [if_true] at q ⊢;exact k _ J' H' rr ee q⟩
theorem nK (ha:RT X G a tA) (hb:RW X G (.BoolOp .And (b :: rest) pos) tB'):RW X G (.BoolOp .And (a :: b :: rest) pos) (Hw tA tB'):=⟨Rm (L2.uU ha.run hb.run) λσ H Q h=>C4 h⟩
theorem mE (ha:RT X G a tA) (hb:RW X G (.BoolOp .Or (b :: rest) pos) tB'):RW X G (.BoolOp .Or (a :: b :: rest) pos) (Qi tA tB'):=⟨Rm (L2.Ar ha.run hb.run) λσ H Q h=>G_ h⟩
theorem fS (h:RW X G e tA):RT X G e tA:=⟨h.run.pt⟩
def Je (ta tb:dg):dg:=λτ J Q=>ta τ J λx J1=>IM x λc=>if c=true then tb τ J1 Q else Q (.bl false) J1
def NY (ta tb:dg):dg:=λτ J Q=>ta τ J λx J1=>IM x λc=>if c=true then Q (.bl true) J1 else tb τ J1 Q
def Jj (ta:dg):dg:=λτ J Q=>ta τ J λx J1=>IM x λc=>Q (.bl (!c)) J1
theorem qC {op} (h:RE X G a ta):RE X G (.BoolOp op [a] pos) ta:=⟨L2.yU h.run⟩
theorem za (ha:RE X G a ta) (hb:RE X G (.BoolOp .And (b :: rest) pos) tb):RE X G (.BoolOp .And (a :: b :: rest) pos) (Je ta tb):=⟨kK (L2.yR ha.run hb.run) λσ H Q ⟨τ,J,Q2,a2,h,k⟩ =>
 ⟨τ,J,_,a2,h,λx J' v H' rx rr ee qq=>by
  obtain ⟨c,ec,q⟩:=nt qq
  subst ec
  refine ⟨c,rx,?_⟩
  cases c with
  | true=>simp only [if_true] at q ⊢;exact ⟨τ,J',Q2,a2.go rr ee,q,λz J2 u H2 rz r2 e2 q2=>k z J2 u H2 rz r2 (ee.trans e2) q2⟩
  | false=>simp only [Ss,if_false] at q ⊢;exact k (.bl false) J' _ H' rfl rr ee q⟩⟩
theorem Jp (ha:RE X G a ta) (hb:RE X G (.BoolOp .Or (b :: rest) pos) tb):RE X G (.BoolOp .Or (a :: b :: rest) pos) (NY ta tb):=⟨kK (L2.Eh ha.run hb.run) λσ H Q ⟨τ,J,Q2,a2,h,k⟩ =>
 ⟨τ,J,_,a2,h,λx J' v H' rx rr ee qq=>by
  obtain ⟨c,ec,q⟩:=nt qq
  subst ec
  refine ⟨c,rx,?_⟩
  cases c with
  | false=>simp only [Ss,if_false] at q ⊢;exact ⟨τ,J',Q2,a2.go rr ee,q,λz J2 u H2 rz r2 e2 q2=>k z J2 u H2 rz r2 (ee.trans e2) q2⟩
  | true=>simp only [if_true] at q ⊢;exact k (.bl true) J' _ H' rfl rr ee q⟩⟩
theorem K' (ha:RE X G a ta):RE X G (.UnaryOp .Not a pos) (Jj ta):=⟨kK (L2.yT ha.run) λσ H Q ⟨τ,J,Q2,a2,h,k⟩ =>
 ⟨τ,J,_,a2,h,λx J' v H' rx rr ee qq=>by obtain ⟨c,ec,q⟩:=nt qq;subst ec;exact ⟨c,rx,k (.bl (!c)) J' _ H' rfl rr ee q⟩⟩⟩
def Rr (t:k9) (ta tb:dg):dg:=λτ J Q=>t τ J λc J1=>if c=true then ta τ J1 Q else tb τ J1 Q
theorem Jm (hc:RT X G c tA) (ha:RE X G a ta) (hb:RE X G b tb):RE X G (.IfExp c a b pos) (Rr tA ta tb):=⟨kK (L2.qr hc.run ha.run hb.run) λσ H Q ⟨τ,J,Q2,a2,h,k⟩ =>
 ⟨τ,J,_,a2,h,λc J' H' rr ee q=>by
  cases c with
  | true=>simp only [if_true] at q ⊢;exact ⟨τ,J',Q2,a2.go rr ee,q,λz J2 u H2 rz r2 e2 q2=>k z J2 u H2 rz r2 (ee.trans e2) q2⟩
  | false=>simp only [Ss,if_false] at q ⊢;exact ⟨τ,J',Q2,a2.go rr ee,q,λz J2 u H2 rz r2 e2 q2=>k z J2 u H2 rz r2 (ee.trans e2) q2⟩⟩⟩
def y_:oh:=λ_ J Q=>Q [] J
def w8 (ta:dg) (tr:oh):oh:=λτ J Q=>ta τ J λx J1=>tr τ J1 λxs J2=>Q (x :: xs) J2
theorem ah:RA X G [] y_:=⟨P7 L2.aO λσ H Q ⟨τ,J,Q2,a2,h,k⟩=>k [] J [] H rfl a2.hp .refl h⟩
theorem af (ha:RE X G e te) (hr:RA X G es t) (hs:starEach (e :: es) X.env=(false,eval e X.env) :: starEach es X.env:=by rfl):RA X G (e :: es) (w8 te t) :=
 ⟨P7 (L2.ak ha.run hr.run hs) λσ H Q ⟨τ,J,Q2,a2,h,k⟩=>⟨τ,J,_,a2,h,λx J' v H' rx rr ee q=>⟨τ,J',_,a2.go rr ee,q,λxs J2 vs H2 rs r2 e2 q2=>k (x :: xs) J2 (v :: vs) H2 ⟨v,vs,rfl,e2.rep rx,rs⟩ r2 (ee.trans e2) q2⟩⟩⟩
def vP:V→PV
 | .non=>.non | .bl b=>.bl b | .int i=>.int i | .str x=>.str x | _=>.non
theorem qD {K:PySem.W.Frag} {J:Hq} {H:Hp}:∀{es:List Expr} {vs:List V},es.map ue=vs.map some→aL K J H (vs.map vP) vs
 | [],[],_=>rfl
 | [],_ :: _,h=>by cases h
 | _ :: _,[],h=>by cases h
 | e :: es,v :: vs,h=>by
  rw [Sd,Sd] at h
  injection h with h1 h2
  refine ⟨v,vs,rfl,?_,qD h2⟩
  cases e with
  | Constant c j pos =>
   cases c with
   | int i=>cases h1;rfl
   | str x=>cases h1;rfl
   | bool b=>cases h1;rfl
   | _=>cases h1
  | _=>cases h1
theorem uX {es:List Expr} (vs:List V) (h:es.map ue=vs.map some) (xs:List PV) (hx:vs.map vP=xs):RA X G es (λ_ J Q=>Q xs J) :=
 ⟨P7 (qm vs h) λσ H Q ⟨τ,J,Q2,a2,q,k⟩=>k _ J _ H (by rw [← hx];exact qD h) a2.hp .refl q⟩
def N8 (t:oh):dg:=λτ J Q=>t τ J λxs J1=>xs.length≤sizeLine∧Q (.tup xs) J1
theorem eO {x1} (h:RA X G es t):RE X G (.Tuple es x1 pos) (N8 t):=⟨kK (L2.qs h.run) λσ H Q ⟨τ,J,Q2,a2,h,k⟩=>⟨τ,J,_,a2,h,λxs J' vs H' rs rr ee ⟨hl,q⟩ =>
 ⟨by rw [← rs.length];exact hl,λp hp=>by
  have sm:=bq.new hp (.tup vs)
  have e2:=Ext.same (K:=X.K) (J:=J') sm
  exact k (.tup xs) J' (.ref p) _ ⟨p,vs,rfl,.inl (.inl aA),e2.iM rs⟩ (rr.same sm) (ee.trans e2) q⟩⟩⟩
def NW (t:oh):dg:=λτ J Q=>t τ J λxs J1=>xs.length≤sizeLine∧∀p,J1 p=none→Q (.ref p) (put J1 p (.lst xs))
theorem nH (h:RA X G es t):RE X G (.List es pos) (NW t):=⟨kK (L2.gE h.run) λσ H Q ⟨τ,J,Q2,a2,h,k⟩=>⟨τ,J,_,a2,h,λxs J' vs H' rs rr ee ⟨hl,q⟩ =>
 ⟨by rw [← rs.length];exact hl,λp hp=>k (.ref p) _ (.ref p) _ rfl (rr.DL hp rs) (ee.trans (.laid hp)) (q p (rr.free hp))⟩⟩⟩
def Rq (t:oh):dg:=λτ J Q=>t τ J λxs J1=>xs.length≤sizeLine∧Q (.fl xs) J1
theorem nk {K:PySem.W.Frag} {J:Hq} {H:Hp} {xs:List PV} {vs:List V} {p:Addr} (rr:Rep K J H) (rs:aL K J H xs vs) (hp:H p=none):cq K J (upd H p (.lst vs)) (.fl xs) (.ref p)∧Rep K J (upd H p (.lst vs))∧Ext K J H J (upd H p (.lst vs)):=by
 have sm:=bq.new hp (.lst vs)
 have e2:=Ext.same (K:=K) (J:=J) sm
 exact ⟨⟨p,vs,rfl,.inl ⟨rr.free hp,.inl aA⟩,e2.iM rs⟩,rr.same sm,e2⟩
theorem jh (h:RA X G es t):RE X G (.List es pos) (Rq t):=⟨kK (L2.gE h.run) λσ H Q ⟨τ,J,Q2,a2,h,k⟩=>⟨τ,J,_,a2,h,λxs J' vs H' rs rr ee ⟨hl,q⟩ =>
 ⟨by rw [← rs.length];exact hl,λp hp=>let ⟨x1,x2,x3⟩:=nk rr rs hp;k (.fl xs) _ (.ref p) _ x1 x2 (ee.trans x3) q⟩⟩⟩
abbrev LU:=Sr→Hq→(Option Int→Hq→Prop)→Prop
def LO (K:PySem.W.Frag) (G:G2) (t:LU):TO:=λσ H Q=>∃τ J Q2,vH K G τ J σ H∧t τ J Q2∧∀b J' H',Rep K J' H'→Ext K J H J' H'→Q2 b J'→Q b H'
structure RO (X:Cx) (G:G2) (e:Option Expr) (t:LU):Prop where
 run:L2.PO X e (LO X.K G t)
theorem Rj {X:Cx} {e:Option Expr} {t t':TO} (h:L2.PO X e t) (k:∀σ H Q,t' σ H Q→t σ H Q):L2.PO X e t':=λpins s σ H Q I q=>h pins s σ H Q I (k _ _ _ q)
def Ay:LU:=λ_ J Q=>Q none J
def Jk (t:dg):LU:=λτ J Q=>t τ J λx J1=>CA x λi=>Q (some i) J1
theorem iP:RO X G none Ay:=⟨Rj L2.o8 λσ H Q ⟨τ,J,Q2,a2,h,k⟩=>k none J H a2.hp .refl h⟩
theorem iQ (h:RE X G e te):RO X G (some e) (Jk te):=⟨Rj (L2.kq h.run) λσ H Q ⟨τ,J,Q2,a2,h,k⟩=>⟨τ,J,_,a2,h,λx J' v H' rx rr ee qq=>by obtain ⟨i,ei,q⟩:=gC qq;subst ei;exact ⟨i,rx,k _ J' H' rr ee q⟩⟩⟩
abbrev Bv:=PV→Option Int→Option Int→Hq→(PV→Hq→Prop)→Prop
def O5 (X:Cx) (q:Bv):Prop:=∃r,pO X r∧∀J H x lo hi v Q2 Q,cq X.K J H x v→Rep X.K J H→q x lo hi J Q2→Kn X.K J H Q2 Q→r v lo hi H Q
def Ru (q:Bv) (te:dg) (tl th:LU):dg:=λτ J Q=>te τ J λx J1=>tl τ J1 λl J2=>th τ J2 λu J3=>q x l u J3 Q
theorem fR {lo hi:Option Expr} {tl th:LU} {q:Bv} (hr:O5 X q) (he:RE X G e te) (hl:RO X G lo tl) (hu:RO X G hi th):RE X G (.Subscript e (.Slice lo hi none p2) pos) (Ru q te tl th):=by
 obtain ⟨r,h,lr⟩:=hr
 exact ⟨kK (L2.jM h he.run hl.run hu.run) λσ H Q ⟨τ,J,Q2,a2,h,k⟩=>⟨τ,J,_,a2,h,λx J' v H' rx rr ee q1=>⟨τ,J',_,a2.go rr ee,q1,λl J2 H2 r2 e2 q2 =>
  ⟨τ,J2,_,a2.go r2 (ee.trans e2),q2,λu J3 H3 r3 e3 q3=>lr J3 H3 x l u v Q2 Q ((e2.trans e3).rep rx) r3 q3 λz J4 w H4 rz r4 e4 q4=>k z J4 w H4 rz r4 (((ee.trans e2).trans e3).trans e4) q4⟩⟩⟩⟩
def NN (q:yb) (t:oh):dg:=λτ J Q=>t τ J λxs J1=>q xs J1 Q
theorem zF {r:List V→Hp→VK→Prop} {q:yb} (lr:QZ X.K r q):∀σ H Q,LE X.K G (NN q t) σ H Q→L2.HU r (LA X.K G t) σ H Q:=λσ H Q ⟨τ,J,Q2,a2,h,k⟩ =>
 ⟨τ,J,_,a2,h,λxs J1 vs H1 rs r1 e1 q1=>lr J1 H1 xs vs Q2 Q rs r1 q1 λz J' u H' rz rr ee qq=>k z J' u H' rz rr (e1.trans ee) qq⟩
theorem aM {id:String} {q:yb} (hc:FA X (.builtin id) q) (hg:Gl X x) (hm:X.mg x=none) (hv:bootBuiltins x=some (.builtin id)) (ha:RA X G (e :: es) t) (hn:x≠"__name__":=by decide) (hdb:(x == ("__debug__":Str))=false:=by decide)
  (he:starEach (e :: es) X.env=(false,eval e X.env) :: starEach es X.env:=by rfl) (hpl:(backTo pos (starEach es X.env)).any (·.1)=false:=by rfl):RE X G (.Call (.Name x p) (e :: es) [] pos) (NN q t):=by
 obtain ⟨r,h,lr⟩:=hc
 exact ⟨kK (L2.aR h hg hm hv ha.run hn hdb he hpl) (zF lr)⟩
theorem ib {T:String} {q:yb} (hc:FA X (.type T) q) (hg:Gl X x) (hm:X.mg x=none) (hv:bootBuiltins x=some (.type T)) (ha:RA X G (e :: es) t) (hn:x≠"__name__":=by decide) (hdb:(x == ("__debug__":Str))=false:=by decide)
  (he:starEach (e :: es) X.env=(false,eval e X.env) :: starEach es X.env:=by rfl) (hpl:(backTo pos (starEach es X.env)).any (·.1)=false:=by rfl):RE X G (.Call (.Name x p) (e :: es) [] pos) (NN q t):=by
 obtain ⟨r,h,lr⟩:=hc
 exact ⟨kK (L2.nv h hg hm hv ha.run hn hdb he hpl) (zF lr)⟩
abbrev CY:=PV→List PV→Hq→(PV→Hq→Prop)→Prop
def Md (X:Cx) (T id:String) (q:CY):Prop:=∃r,oJ X id r∧∀J H x xs v vs Q2 Q,cq X.K J H x v→aL X.K J H xs vs→Rep X.K J H→q x xs J Q2→Kn X.K J H Q2 Q→r v vs H Q
def L8 (T:String) (J:Hq):PV→Prop
 | .str _=>T="str"
 | .fl _=>T="list"
 | .ref a=>(T="list"∧∃xs,J a=some (.lst xs))∨(T="dict"∧∃kvs ep,J a=some (.dct kvs ep))
 | _=>False
theorem Ie {K:PySem.W.Frag} {T:String} {J:Hq} {H:Hp} {x:PV} {v:V} (r:cq K J H x v) (hp:Rep K J H) (h:L8 T J x):L2.Qs K T v H:=by
 cases x with
 | str s=>cases r;exact h
 | fl xs=>obtain ⟨a,vs,rfl,h1,h2⟩:=r;exact .inl ⟨h,vs,h1.sq⟩
 | ref a =>
  cases r
  rcases h with ⟨h,xs,e⟩ | ⟨h,kvs,ep,e⟩
  ·obtain ⟨vs,h1,_⟩:=hp _ _ e;exact .inl ⟨h,vs,.inl (.inl h1)⟩
  ·obtain ⟨gs,h1,_⟩:=hp _ _ e;exact .inr (.inr (.inl ⟨h,.inr ⟨gs,ep,h1⟩⟩))
 | _=>cases h
def Ro (T:String) (q:CY) (to:dg) (t:oh):dg:=λτ J Q=>to τ J λx J1=>L8 T J1 x∧t τ J1 λxs J2=>q x xs J2 Q
def Qe (T:String) (q:CY) (to:dg):dg:=λτ J Q=>to τ J λx J1=>L8 T J1 x∧q x [] J1 Q
theorem qA {name:Str} {T id:String} {q:CY} (pa:PlainAttrs T) (slot:Slot T name id) (hty:typeOf (.builtin id)=pure (.type "method_descriptor")) (hm:Md X T id q) (ho:RE X G o to) (ha:RA X G (e :: es) t)
  (hbase:attributeBase o name X.env (eval o X.env)=eval o X.env:=by rfl)
  (hfew:((backTo cpos (starEach (e :: es) X.env)).all (λx=>!x.1) && (backToKw cpos (keywordEach [] X.env)).all (λx=>x.1.isSome)
   && decide ((e :: es).length + ([]:List Keyword).length + (if ([]:List Keyword).isEmpty then 0 else 1) < 30))=true:=by rfl)
  (hline:(apos.endLine == cpos.line)=true:=by rfl) (hs:starEach (e :: es) X.env=(false,eval e X.env) :: starEach es X.env:=by rfl) (hplain:(backTo cpos (starEach es X.env)).any (·.1)=false:=by rfl) :
  RE X G (.Call (.Attribute o name apos) (e :: es) [] cpos) (Ro T q to t):=by
 obtain ⟨r,h,lr⟩:=hm
 exact ⟨kK (L2.qp pa slot hty h ho.run ha.run hbase hfew hline hs hplain) λσ H Q ⟨τ,J,Q2,a2,h,k⟩=>⟨τ,J,_,a2,h,λx J1 v H1 rx r1 e1 ⟨ty,q1⟩=>⟨Ie rx r1 ty,τ,J1,_,a2.go r1 e1,q1,λxs J2 vs H2 rs r2 e2 q2 =>
  lr J2 H2 x xs v vs Q2 Q (e2.rep rx) rs r2 q2 λz J' u H' rz rr ee qq=>k z J' u H' rz rr ((e1.trans e2).trans ee) qq⟩⟩⟩
end
end Ov
namespace Ov
open PySem PySem.Spec PyProof.Rows
open L2 (V HO Hp Inv Cx VK XK TE TT TA TS TG oi TI TO il Ends sL Loc Gl Rd RelV Vals er t_ bS og pO oJ ij R2 upd aA aF cP fv Sp oV It bq cJ bK Passes mS aI Meth Mk Binds aJ cm av cV fb dX)
abbrev cI:=List PV→Hq→(PV→Hq→Prop)→(Addr→Hq→Prop)→Prop
def Io (K:PySem.W.Frag) (J:Hq) (H:Hp) (E2:Addr→Hq→Prop) (E:XK):Prop:=∀c J' H',Rep K J' H'→Ext K J H J' H'→E2 c J'→E (.ref c) none H'
def dI (K:PySem.W.Frag) (sp:cI):Sp:=λvs H Q E=>∃xs J Q2 E2,aL K J H xs vs∧Rep K J H∧sp xs J Q2 E2∧Kn K J H Q2 Q∧Io K J H E2 E
theorem Io.ext {K:PySem.W.Frag} {J J':Hq} {H H':Hp} {E2:Addr→Hq→Prop} {E:XK} (k:Io K J H E2 E) (e:Ext K J H J' H'):Io K J' H' E2 E:=λc J1 H1 r x q=>k c J1 H1 r (e.trans x) q
theorem _root_.L2.aJ.RK {P:Program} {w:World} {K:PySem.W.Frag} {mg:Str→Option Value} {base:Heap} {k:Nat} {f:Addr} {fd:FuncData} {ps:List Str} {sp:Sp} (F:aJ P w K mg base L2.pE k f fd ps sp):aJ P w K mg base (cY P w) k f fd ps sp :=
 ⟨F.len,λA outer s H args us vs Q E hr he hb hv hs=>codeAny_mono (F.run A outer s H args us vs Q E hr he hb hv hs) λr s' q=>by
  cases r with
  | error e=>exact False.elim q
  | ok fl=>cases fl <;> exact q⟩
theorem _root_.L2.aJ.OB {P:Program} {w:World} {K:PySem.W.Frag} {mg:Str→Option Value} {base:Heap} {k:Nat} {f:Addr} {fd:FuncData} {ps:List Str} {sp:Sp} (F:aJ P w K mg base (cY P w) k f fd ps sp):aJ P w K mg base L2.pE k f fd ps (λvs H Q _=>sp vs H Q L2.E0) :=
 ⟨λvs H Q E q=>F.len vs H Q _ q,λA outer s H args us vs Q E hr he hb hv hs=>codeAny_mono (F.run A outer s H args us vs Q _ hr he hb hv hs) λr s' q=>by
  cases r with
  | error e=>obtain ⟨_,_,_,_,_,z⟩:=q;exact z.elim
  | ok fl=>cases fl <;> exact q⟩
def bt (P:Program) (w:World) (K:PySem.W.Frag) (mg:Str→Option Value) (base:Heap) (k:Nat) (x:Str) (ps:List Str) (sp:cI):Prop:=CD P w K mg base k x ps (dI K sp)
theorem _root_.Ov.rh.lift {P:Program} {w:World} {K:PySem.W.Frag} {mg:Str→Option Value} {base:Heap} {k:Nat} {x:Str} {ps:List Str} {sp:Sp} (C:rh P w K mg base k x ps sp) {sp':cI}
  (h:∀xs J vs H Q2 E2 Q E,aL K J H xs vs→Rep K J H→sp' xs J Q2 E2→Kn K J H Q2 Q→sp vs H Q E):bt P w K mg base k x ps sp':=by
 obtain ⟨f,fd,F,r⟩:=C
 exact ⟨f,fd,(F.RK).imp λvs H Q E ⟨xs,J,Q2,E2,a,b,c,d,_⟩=>h xs J vs H Q2 E2 Q E a b c d,r⟩
theorem CD.lift {P:Program} {w:World} {K:PySem.W.Frag} {mg:Str→Option Value} {base:Heap} {k:Nat} {x:Str} {ps:List Str} {sp:Sp} (C:CD P w K mg base k x ps sp) {sp':cI}
  (h:∀xs J vs H Q2 E2 Q E,aL K J H xs vs→Rep K J H→sp' xs J Q2 E2→Kn K J H Q2 Q→Io K J H E2 E→sp vs H Q E):bt P w K mg base k x ps sp':=by
 obtain ⟨f,fd,F,r⟩:=C
 exact ⟨f,fd,F.imp λvs H Q E ⟨xs,J,Q2,E2,a,b,c,d,e⟩=>h xs J vs H Q2 E2 Q E a b c d e,r⟩
section
variable {X:Cx} {G:G2} {a b c e o value:Expr} {es rest:List Expr} {ta tb te tc to tv:dg} {tA tB':k9} {t:oh} {pos px p p2 apos cpos pos':Pos} {x:Str} {i j:Nat} {E:XK} {E2:Addr→Hq→Prop}
structure Bp (X:Cx) (G:G2) (E2:Addr→Hq→Prop) (E:XK):Prop where
 pass:Passes (cY X.prog X.w) X E
 kn:Io X.K G.1 G.2 E2 E
def Ex (sp:cI) (E2:Addr→Hq→Prop) (t:oh):dg:=λτ J Q=>t τ J λxs J1=>sp xs J1 Q E2
theorem aQ {k k':Nat} {ps:List Str} {sp:cI} (C:bt X.prog X.w X.K X.mg X.base k x ps sp) (B:Bp X G E2 E) (hr:bK k' X.A) (ha:RA X G (e :: es) t) (hk:k≤k':=by decide) (hg:Gl X x:=by rfl)
  (hdb:(x == ("__debug__":Str))=false:=by decide) (he:starEach (e :: es) X.env=(false,eval e X.env) :: starEach es X.env:=by rfl) (hpl:(backTo pos (starEach es X.env)).any (·.1)=false:=by rfl) :
  RE X G (.Call (.Name x p) (e :: es) [] pos) (Ex sp E2 t) :=
 ⟨kK (Hb C B.pass hr hk hg ha.run hdb he hpl) λσ H Q ⟨τ,J,Q2,a2,h,k⟩=>⟨τ,J,_,a2,h,λxs J1 vs H1 rs r1 e1 q1=>by
  simp only [Tf]
  exact ⟨xs,J1,Q2,E2,rs,r1,q1,λz J' u H' rz rr ee qq=>k z J' u H' rz rr (e1.trans ee) qq,B.kn.ext (a2.ext.trans e1)⟩⟩⟩
def NO (C:Addr) (ta:dg) (f:Str):dg:=λτ J Q=>ta τ J λx J1=>B9 x λa=>KA C (J1 a) λfs=>uL (fs.lookup f) λv=>Q v J1
theorem bj {C:Addr} {f:Str} (cl:mS X.K C) (na:aI X.K C f) (he:RE X G e ta) (hb:attributeBase e f X.env (eval e X.env)=eval e X.env:=by rfl):RE X G (.Attribute e f pos) (NO C ta f) :=
 ⟨kK (L2.KU he.run hb) λσ H Q ⟨τ,J,Q2,a2,h,k⟩=>⟨τ,J,_,a2,h,λx J1 v H1 rx r1 e1 hh=>by
  obtain ⟨a,ex,hh⟩:=fG hh;obtain ⟨fs,ja,hh⟩:=yL hh;obtain ⟨y,lk,q⟩:=d5 hh
  subst ex;cases rx
  obtain ⟨dx,gs,ha,rf⟩:=r1 _ _ ja
  obtain ⟨w,lw,rw'⟩:=rf.look lk
  exact ⟨a,C,dx,gs,w,rfl,ha,cl,na,lw,k y J1 w H1 rw' r1 e1 q⟩⟩⟩
structure dk (P:Program) (w:World) (K:PySem.W.Frag) (mg:Str→Option Value) (base:Heap) (C:Addr) (k:Nat) (m:Str) (ps:List Str) (sp:cI):Prop where
 cl:mS K C
 ex:∃f fd,Meth K C m f∧aJ P w K mg base (cY P w) k f fd ps (dI K sp)∧Binds K fd ps []
theorem dk.imp {P:Program} {w:World} {K:PySem.W.Frag} {mg:Str→Option Value} {base:Heap} {C:Addr} {k:Nat} {m:Str} {ps:List Str} {sp sp':cI} (M:dk P w K mg base C k m ps sp) (h:∀xs J Q E,sp' xs J Q E→sp xs J Q E):dk P w K mg base C k m ps sp':=by
 obtain ⟨cl,f,fd,hm,F,r⟩:=M
 exact ⟨cl,f,fd,hm,F.imp λvs H Q E ⟨xs,J,Q2,E2,a,b,c,d⟩=>⟨xs,J,Q2,E2,a,b,h _ _ _ _ c,d⟩,r⟩
def HB (C:Addr) (m:Str) (sp:cI) (E2:Addr→Hq→Prop) (ta:dg) (t:oh):dg:=λτ J Q=>ta τ J λx J1=>B9 x λa=>KA C (J1 a) λfs=>fs.lookup m=none∧t τ J1 λxs J2=>sp (x :: xs) J2 Q E2
theorem wx {C:Addr} {m:Str} {sp:cI} (B:Bp X G E2 E):∀σ H Q,LE X.K G (HB C m sp E2 to t) σ H Q→L2.E9 C m (dI X.K sp) [] E (LE X.K G to) (LA X.K G t) σ H Q:=λσ H Q ⟨τ,J,Q2,a2,h,k⟩ =>
 ⟨τ,J,_,a2,h,λx J1 v H1 rx r1 e1 hh=>by
  obtain ⟨a,ex,hh⟩:=fG hh;obtain ⟨fs,ja,lk,q⟩:=yL hh
  subst ex;cases rx
  obtain ⟨dx,gs,ha,rf⟩:=r1 _ _ ja
  refine ⟨a,dx,gs,rfl,ha,rf.none lk,τ,J1,_,a2.go r1 e1,q,λxs J2 vs H2 rs r2 e2 q2=>?_⟩
  simp only [Tf]
  exact ⟨.ref a :: xs,J2,Q2,E2,⟨.ref a,vs,rfl,rfl,rs⟩,r2,q2,λz J' u H' rz rr ee qq=>k z J' u H' rz rr ((e1.trans e2).trans ee) qq,B.kn.ext ((a2.ext.trans e1).trans e2)⟩⟩
theorem bI {C:Addr} {m:Str} {k k':Nat} {ps:List Str} {sp:cI} {pl:Sem Bool} (M:dk X.prog X.w X.K X.mg X.base C k m ps sp) (B:Bp X G E2 E) (hr:bK k' X.A) (ho:RE X G o to) (ha:RA X G (e :: es) t) (hk:k≤k':=by decide)
  (hst:starEach (e :: es) X.env=(false,eval e X.env) :: starEach es X.env:=by rfl) (hpl:(backTo pos (starEach es X.env)).any (·.1)=false:=by rfl)
  (ht:eval (.Call (.Attribute o m apos) (e :: es) [] pos) X.env=(do
   let ov ← eval o X.env
   standAt apos.atName
   let (f,first) ← holding [ov] (getMethod ov m pl)
   callWith pos f first (backTo pos (starEach (e :: es) X.env)) (backToKw pos (keywordEach [] X.env))):=by rfl) :
  RE X G (.Call (.Attribute o m apos) (e :: es) [] pos) (HB C m sp E2 to t):=by
 obtain ⟨cl,f,fd,hm,F,b⟩:=M
 exact ⟨kK (L2.He (pl:=pl) ho.run cl hm F (hr.mono hk) b .nil B.pass ha.run hst hpl ht) (wx B)⟩
theorem e8 {C:Addr} {m:Str} {k k':Nat} {ps:List Str} {sp:cI} {pl:Sem Bool} (M:dk X.prog X.w X.K X.mg X.base C k m ps sp) (B:Bp X G E2 E) (hr:bK k' X.A) (ho:RE X G o to) (hk:k≤k':=by decide)
  (ht:eval (.Call (.Attribute o m apos) [] [] pos) X.env=(do
   let ov ← eval o X.env
   standAt apos.atName
   let (f,first) ← holding [ov] (getMethod ov m pl)
   callWith pos f first (backTo pos (starEach [] X.env)) (backToKw pos (keywordEach [] X.env))):=by rfl) :
  RE X G (.Call (.Attribute o m apos) [] [] pos) (HB C m sp E2 to y_):=by
 obtain ⟨cl,f,fd,hm,F,b⟩:=M
 refine ⟨kK (L2.Eg (pl:=pl) ho.run cl hm F (hr.mono hk) b .nil B.pass ht) λσ H Q h=>?_⟩
 have z:=wx B σ H Q h
 obtain ⟨τ,J,Q2,a2,h1,k1⟩:=z
 refine ⟨τ,J,Q2,a2,h1,λx J1 v H1 rx r1 e1 q1=>?_⟩
 obtain ⟨a,dx,fs,h2,h3,h4,τ',J',Q',a2',h5,k5⟩:=k1 x J1 v H1 rx r1 e1 q1
 exact ⟨a,dx,fs,h2,h3,h4,k5 [] J' [] H1 rfl a2'.hp .refl h5⟩
structure x8 (P:Program) (w:World) (K:PySem.W.Frag) (mg:Str→Option Value) (base:Heap) (C:Addr) (k:Nat) (x:Str) (ps:List Str) (sp:cI):Prop where
 m:mg x=some (.ref C)
 ex:∃f fd,Mk K C f∧aJ P w K mg base (cY P w) k f fd ps (dI K sp)∧Binds K fd ps []
def HA (C:Addr) (sp:cI) (E2:Addr→Hq→Prop) (t:oh):dg:=λτ J Q=>t τ J λxs J1=>∀a,J1 a=none→sp (.ref a :: xs) (put J1 a (.ins C [])) (λv J2=>v=.non∧Q (.ref a) J2) E2
theorem wm {C:Addr} {sp:cI} (B:Bp X G E2 E):∀σ H Q,LE X.K G (HA C sp E2 t) σ H Q→L2.E8 C (dI X.K sp) [] E (LA X.K G t) σ H Q:=λσ H Q ⟨τ,J,Q2,a2,h,k⟩ =>
 ⟨τ,J,_,a2,h,λxs J1 vs H1 rs r1 e1 q1 x dx hx hdx ne=>by
  have s1:=bq.new hdx (.own x)
  have hx':upd H1 dx (.own x) x=none:=by rw [aF (Ne.symm ne)];exact hx
  have r2:=r1.same s1
  have e2:Ext X.K J1 H1 (put J1 x (.ins C [])) (upd (upd H1 dx (.own x)) x (.ins C dx [])):=(Ext.same s1).trans (.laid hx')
  have r3:Rep X.K (put J1 x (.ins C [])) (upd (upd H1 dx (.own x)) x (.ins C dx [])):=r2.Cv (.laid hx') x (λa ne=>ar ne) (λa o ne _ z=>by rw [aF ne];exact z) λu z=>by
   rw [au] at z;cases z
   exact ⟨dx,[],aA,rfl,rfl⟩
  simp only [Tf]
  refine ⟨.ref x :: xs,_,_,E2,⟨.ref x,vs,rfl,rfl,e2.iM rs⟩,r3,q1 x (r1.free hx),λz J' u H' rz rr ee ⟨ez,qq⟩=>?_,B.kn.ext ((a2.ext.trans e1).trans e2)⟩
  subst ez
  exact ⟨rz,k (.ref x) J' (.ref x) H' rfl rr ((e1.trans e2).trans ee) qq⟩⟩
theorem HE {C:Addr} {k k':Nat} {ps:List Str} {sp:cI} (M:x8 X.prog X.w X.K X.mg X.base C k x ps sp) (B:Bp X G E2 E) (hr:bK k' X.A) (ha:RA X G (e :: es) t) (hk:k + 1≤k':=by decide) (hg:Gl X x:=by rfl)
  (hdb:(x == ("__debug__":Str))=false:=by decide) (he:starEach (e :: es) X.env=(false,eval e X.env) :: starEach es X.env:=by rfl) (hpl:(backTo pos (starEach es X.env)).any (·.1)=false:=by rfl) :
  RE X G (.Call (.Name x p) (e :: es) [] pos) (HA C sp E2 t):=by
 obtain ⟨hm,f,fd,mk,F,b⟩:=M
 exact ⟨kK (L2.Hd mk F (hr.mono hk) hg hm b .nil B.pass ha.run hdb he hpl) (wm B)⟩
theorem qB {C:Addr} {k k':Nat} {ps:List Str} {sp:cI} (M:x8 X.prog X.w X.K X.mg X.base C k x ps sp) (B:Bp X G E2 E) (hr:bK k' X.A) (hk:k + 1≤k':=by decide) (hg:Gl X x:=by rfl)
  (hdb:(x == ("__debug__":Str))=false:=by decide):RE X G (.Call (.Name x p) [] [] pos) (HA C sp E2 y_):=by
 obtain ⟨hm,f,fd,mk,F,b⟩:=M
 refine ⟨kK (L2.Ef mk F (hr.mono hk) hg hm b .nil B.pass hdb) λσ H Q h=>?_⟩
 obtain ⟨τ,J,Q2,a2,h1,k1⟩:=wm (t:=y_) B σ H Q h
 exact k1 [] J [] H rfl a2.hp .refl h1
end
section
variable {X:Cx} {G:G2} {st:Stmt} {rest:List Stmt} {t u:ip} {e tg o value:Expr} {es:List Expr} {te ta tv:dg} {tc:k9} {pos pos':Pos}
def Ax:ip:=λD τ J=>D.nx τ J
def cQ (t u:ip):ip:=λD τ J=>t { D with nx:=u D } τ J
theorem aP:RB X G [] Ax:=⟨P8 L2.fm λD σ H ⟨τ,J,D2,a2,h,g⟩=>g.nx τ J σ H a2.sl a2.hp .refl h⟩
theorem ai (h1:RS X G st t) (h2:RB X G rest u):RB X G (st :: rest) (cQ t u):=⟨P8 (L2.aU h1.run h2.run) λD σ H ⟨τ,J,D2,a2,h,g⟩=>⟨τ,J,{ D2 with nx:=u D2 },a2,h,
 { nx:=λτ' J' σ' H' rs rr ee q=>⟨τ',J',D2,⟨rs,rr,a2.ext.trans ee⟩,q,g.ext ee⟩,rt:=g.rt,bk:=g.bk,ct:=g.ct }⟩⟩
theorem aq (h1:RS X G st t):RB X G [st] t:=⟨L2.bC h1.run⟩
def K7 (t u:ip):ip:=λD τ J=>∃M:Sr→Hq→Prop,t { D with nx:=M } τ J∧∀τ' J',M τ' J'→u D τ' J'
theorem AA (h1:RS X G st t) (h2:RB X G rest u):RB X G (st :: rest) (K7 t u):=⟨P8 (L2.aU h1.run h2.run) λD σ H ⟨τ,J,D2,a2,⟨M,h,hm⟩,g⟩=>⟨τ,J,{ D2 with nx:=M },a2,h,
 { nx:=λτ' J' σ' H' rs rr ee q=>⟨τ',J',D2,⟨rs,rr,a2.ext.trans ee⟩,hm _ _ q,g.ext ee⟩,rt:=g.rt,bk:=g.bk,ct:=g.ct }⟩⟩
def NM:ip:=λD τ J=>D.bk τ J
def Qf:ip:=λD τ J=>D.ct τ J
theorem EG:RS X G (.Break pos) NM:=⟨yY L2.qw λD σ H ⟨τ,J,D2,a2,h,g⟩=>g.bk τ J σ H a2.sl a2.hp .refl h⟩
def Jf (te:dg):ip:=λD τ J=>te τ J λ_ J1=>D.nx τ J1
theorem bJ (he:RE X G e te) (hs:swapsWith e none pos.line X.env=pure false:=by rfl):RS X G (.Expr e pos) (Jf te):=⟨yY (L2.kr he.run hs) λD σ H ⟨τ,J,D2,a2,h,g⟩ =>
 ⟨τ,J,_,a2,h,λx J' v H' rx rr ee q=>g.nx τ J' σ H' (a2.sl.ext ee) rr ee q⟩⟩
def N2 (te:dg):ip:=λD τ J=>te τ J D.rt
theorem az (he:RE X G e te):RS X G (.Return (some e) pos) (N2 te):=⟨yY (L2.dH he.run) λD σ H ⟨τ,J,D2,a2,h,g⟩=>⟨τ,J,_,a2,h,λx J' v H' rx rr ee q=>g.rt x J' v H' rx rr ee q⟩⟩
def N3:ip:=λD _ J=>D.rt .non J
def Hy (c:k9) (t u:ip):ip:=λD τ J=>c τ J λb J1=>if b=true then t D τ J1 else u D τ J1
theorem a_ {c:Expr} {a b:List Stmt} (hc:RT X G c tc) (ha:RB X G a t) (hb:RB X G b u):RS X G (.If c a b pos) (Hy tc t u):=⟨yY (L2.mB hc.run ha.run hb.run) λD σ H ⟨τ,J,D2,a2,h,g⟩ =>
 ⟨τ,J,_,a2,h,λc J' H' rr ee q=>by
  cases c with
  | true=>simp only [if_true] at q ⊢;exact ⟨τ,J',D2,a2.go rr ee,q,g.ext ee⟩
  | false=>simp only [Ss,if_false] at q ⊢;exact ⟨τ,J',D2,a2.go rr ee,q,g.ext ee⟩⟩⟩
abbrev yc:=PV→Sr→Hq→(Sr→Hq→Prop)→Prop
abbrev vQ:=List PV→Sr→Hq→(Sr→Hq→Prop)→Prop
def LG (K:PySem.W.Frag) (G:G2) (t:yc):TG:=λv σ H Q=>∃x τ J Q2,cq K J H x v∧vH K G τ J σ H∧t x τ J Q2∧∀τ' J' σ' H',k8 K J' H' τ' σ'→Rep K J' H'→Ext K J H J' H'→Q2 τ' J'→Q σ' H'
def Rz (K:PySem.W.Frag) (G:G2) (t:vQ):oi:=λvs σ H Q=>∃xs τ J Q2,aL K J H xs vs∧vH K G τ J σ H∧t xs τ J Q2∧∀τ' J' σ' H',k8 K J' H' τ' σ'→Rep K J' H'→Ext K J H J' H'→Q2 τ' J'→Q σ' H'
structure RG (X:Cx) (G:G2) (e:Expr) (t:yc):Prop where
 run:L2.PG X e (LG X.K G t)
structure OG (X:Cx) (G:G2) (es:List Expr) (t:vQ):Prop where
 run:L2.Ip X es (Rz X.K G t)
theorem P9 {X:Cx} {e:Expr} {t t':TG} (h:L2.PG X e t) (k:∀v σ H Q,t' v σ H Q→t v σ H Q):L2.PG X e t':=λpins s σ H v u Q I r q=>h pins s σ H v u Q I r (k _ _ _ _ q)
theorem Nv {X:Cx} {e:List Expr} {t t':oi} (h:L2.Ip X e t) (k:∀v σ H Q,t' v σ H Q→t v σ H Q):L2.Ip X e t':=λpins s σ H v u Q I r q=>h pins s σ H v u Q I r (k _ _ _ _ q)
def JX (i:Nat):yc:=λx τ J Q=>Q (τ.set i (some x)) J
theorem bX {i:Nat} {x:Str} (hN:X.N.Nodup) (hi:X.N[i]?=some x:=by rfl) (hx:Loc X.env.scope x:=by first | exact .inl rfl | exact .inr rfl) (hf:X.fn x=true∨X.env.scope.names.lookup x=some .local:=by first | exact .inl rfl | exact .inr rfl | assumption):RG X G (.Name x pos) (JX i) :=
 ⟨P9 (L2.ko hN hi hx hf) λv σ H Q ⟨x,τ,J,Q2,rx,a2,q,k⟩=>k _ J _ H (a2.sl.set i rx) a2.hp .refl q⟩
def Q6:vQ:=λvs τ J Q=>P5 vs (Q τ J)
def Q5 (t:yc) (u:vQ):vQ:=λvs τ J Q=>KC vs λv r=>t v τ J λτ' J'=>u r τ' J' Q
theorem pd:OG X G [] Q6:=⟨Nv L2.uP λvs σ H Q ⟨xs,τ,J,Q2,rs,a2,hh,k⟩=>by obtain ⟨e,q⟩:=KH hh;subst e;exact ⟨rs,k τ J σ H a2.sl a2.hp .refl q⟩⟩
theorem d8 {e:Expr} {es:List Expr} {t:yc} {u:vQ} (h1:RG X G e t) (h2:OG X G es u)
  (hs:(assignEach (e :: es) X.env).map (·.2)=assign e X.env :: (assignEach es X.env).map (·.2):=by rfl):OG X G (e :: es) (Q5 t u):=⟨Nv (L2.qv h1.run h2.run hs) λvs σ H Q ⟨xs,τ,J,Q2,rs,a2,hh,k⟩=>by
 obtain ⟨y,r,e,q⟩:=GW hh
 subst e
 obtain ⟨v,us,rfl,rv,ru⟩:=rs
 exact ⟨v,us,rfl,y,τ,J,_,rv,a2,q,λτ' J' σ' H' rs' rr ee q'=>⟨r,τ',J',Q2,ee.iM ru,⟨rs',rr,a2.ext.trans ee⟩,q',λτ2 J2 σ2 H2 rs2 rr2 ee2 q2=>k τ2 J2 σ2 H2 rs2 rr2 (ee.trans ee2) q2⟩⟩⟩
def Q7 (n:Nat) (t:vQ):yc:=λx τ J Q=>LZ x λxs=>xs.length=n∧t xs τ J Q
theorem uZ {k:Nat} {t:vQ} {n:Nat} (hc:X.calm=true) (h:OG X G es t)
  (hn:(assignEach es X.env).length=n:=by rfl) (hst:(assignEach es X.env).findIdx? (·.1)=none:=by rfl):RG X G (.Tuple es k pos) (Q7 n t):=⟨P9 (L2.yW hc h.run hn hst) λv σ H Q ⟨x,τ,J,Q2,rx,a2,hh,k⟩=>by
 obtain ⟨xs,e,l,q⟩:=D8 hh
 subst e
 obtain ⟨a,vs,rfl,h1,h2⟩:=rx
 exact ⟨a,vs,rfl,h1,by rw [← h2.length];exact l,xs,τ,J,Q2,h2,a2,q,k⟩⟩
def w6 (te:dg) (g:yc):ip:=λD τ J=>te τ J λx J1=>g x τ J1 D.nx
theorem zd {tg e:Expr} {g:yc} (he:RE X G e te) (hg:RG X G tg g) (hs:swapsWithSole [tg] e pos.line X.env=pure false:=by rfl) (hw:swappedStores [tg] e X.env=pure none:=by rfl)
  (h1:(assignEach [tg] X.env).map (·.2)=[assign tg X.env]:=by rfl):RS X G (.Assign [tg] e pos) (w6 te g):=⟨yY (L2.uR he.run hg.run hs hw h1) λD σ H ⟨τ,J,D2,a2,h,g⟩ =>
 ⟨τ,J,_,a2,h,λx J' v H' rx rr ee q=>⟨x,τ,J',_,rx,a2.go rr ee,q,λτ' J2 σ' H2 rs r2 e2 q2=>g.nx τ' J2 σ' H2 rs r2 (ee.trans e2) q2⟩⟩⟩
theorem aE {i:Nat} {x:Str} {pos':Pos} (hN:X.N.Nodup) (he:RE X G e te) (hi:X.N[i]?=some x:=by rfl) (hx:Loc X.env.scope x:=by first | exact .inl rfl | exact .inr rfl) (hs:swapsWith e (some (.Name x pos')) pos.line X.env=pure false:=by rfl) (hf:X.fn x=true∨X.env.scope.names.lookup x=some .local:=by first | exact .inl rfl | exact .inr rfl | assumption) :
  RS X G (.Assign [.Name x pos'] e pos) (w6 te (JX i)):=⟨yY (L2.cF hN hi hx he.run hs hf) λD σ H ⟨τ,J,D2,a2,h,g⟩ =>
 ⟨τ,J,_,a2,h,λx J' v H' rx rr ee q=>g.nx _ J' _ H' ((a2.sl.ext ee).set i rx) rr ee q⟩⟩
def NZ (i j:Nat) (ta:oh):ip:=λD τ J=>ta τ J λvs J1=>KI vs λv w=>D.nx ((τ.set i (some v)).set j (some w)) J1
theorem Le {i j:Nat} {x y:Str} {a b:Expr} {ta:oh} {px py pt:Pos} {kt k2 pt2} (hc:X.calm=true) (hN:X.N.Nodup) (hi:X.N[i]?=some x) (hj:X.N[j]?=some y) (hij:i≠j)
  (hx:X.env.scope.names.lookup x=some .local) (hy:X.env.scope.names.lookup y=some .local) (ha:RA X G [a,b] ta)
  (hw:swappedStores [.Tuple [.Name x px,.Name y py] kt pt] (.Tuple [a,b] k2 pt2) X.env=pure (some [x,y]))
  (hs:swapsWithSole [.Tuple [.Name x px,.Name y py] kt pt] (.Tuple [a,b] k2 pt2) pos.line X.env=pure false:=by rfl) :
  RS X G (.Assign [.Tuple [.Name x px,.Name y py] kt pt] (.Tuple [a,b] k2 pt2) pos) (NZ i j ta):=⟨yY (L2.nC hc hN hi hj hij hx hy ha.run hw hs) λD σ H ⟨τ,J,D2,a2,h,g⟩ =>
 ⟨τ,J,_,a2,h,λxs J' vs H' rs rr ee hh=>by
  obtain ⟨v,w,e,q⟩:=yM hh
  subst e
  obtain ⟨v',us,rfl,rv,w',us',rfl,rw',e'⟩:=rs
  cases e'
  exact ⟨v',w',rfl,g.nx _ J' _ H' (((a2.sl.ext ee).set i rv).set j rw') rr ee q⟩⟩⟩
def nG (f:Str) (v:PV):List (Str × PV)→List (Str × PV)
 | []=>[(f,v)]
 | (g,w) :: r=>if g=f then (g,v) :: r else (g,w) :: nG f v r
theorem wZ {K:PySem.W.Frag} {J:Hq} {H:Hp} {f:Str} {y:PV} {v:V} (r:cq K J H y v):∀{fs:List (Str × PV)} {gs:List (Str × V)},k7 K J H fs gs→k7 K J H (nG f y fs) (dX f v gs)
 | [],[],_=>⟨rfl,v,[],rfl,r,rfl⟩
 | [],_ :: _,h=>by cases h.1
 | _ :: _,[],h=>by cases h.1
 | (k,y') :: fs,(k',w) :: gs,h=>by
  obtain ⟨h1,v',us,h2,h3,h4⟩:=h
  simp only [Sd,List.cons.injEq] at h1 h2
  obtain ⟨rfl,h1⟩:=h1
  obtain ⟨rfl,rfl⟩:=h2
  unfold nG L2.dX
  by_cases hk:k=f
  ·rw [if_pos hk,if_pos hk]
   exact ⟨by simp only [Sd,h1],v,_,rfl,r,h4⟩
  ·rw [if_neg hk,if_neg hk]
   obtain ⟨z1,z2⟩:=wZ (f:=f) r (⟨h1,h4⟩:k7 K J H fs gs)
   exact ⟨by simp only [Sd,z1],w,_,rfl,h3,z2⟩
def Jg (C:Addr) (ta tv:dg) (f:Str):ip:=λD τ J=>tv τ J λy J1=>ta τ J1 λx J2=>B9 x λa=>KA C (J2 a) λfs=>fs.length < 1000∧D.nx τ (put J2 a (.ins C (nG f y fs)))
theorem Ext.LF {K:PySem.W.Frag} {J:Hq} {H:Hp} {p C dx:Addr} {fs gs:List (Str × PV)} {fs' gs':List (Str × V)} (h:J p=some (.ins C fs)) (k:H p=some (.ins C dx fs')):Ext K J H (put J p (.ins C gs)) (upd H p (.ins C dx gs')):=by
 have sm:∀a u,a≠p→Rd H a u→Rd (upd H p (.ins C dx gs')) a u:=λa u ne z=>by
  rcases z with z | ⟨o,z⟩
  ·exact .inl (by rw [aF ne];exact z)
  ·exact .inr ⟨o,by rw [aF ne];exact z⟩
 have nn:∀a u,(∀c d l,u≠HO.ins c d l)→Rd H a u→a≠p:=λa u d z e=>by
  subst e
  rcases z with z | ⟨o,z⟩
  ·rw [k] at z;cases z;exact d _ _ _ rfl
  ·rw [k] at z;cases z
 refine ⟨λa vs' z=>?_,λa o z q _=>?_⟩
 ·rcases z with z | z
  ·exact .inl (sm a _ (nn a (.tup vs') (λ_ _ _ e=>nomatch e) z) z)
  ·exact .inr z
 ·have ne:a≠p:=by intro e;subst e;rw [h] at z;cases z
  exact ⟨by rw [ar ne];exact z,by rw [aF ne];exact q⟩
theorem gL {C:Addr} {f:Str} (cl:mS X.K C) (na:aI X.K C f) (ha:RE X G o ta) (hv:RE X G value tv) (hs:swapsWith value (some (.Attribute o f pos')) pos.line X.env=pure false:=by rfl):RS X G (.Assign [.Attribute o f pos'] value pos) (Jg C ta tv f) :=
 ⟨yY (L2.K0 ha.run hv.run hs) λD σ H ⟨τ,J,D2,a2,h,g⟩=>⟨τ,J,_,a2,h,λy J1 v H1 ry r1 e1 q1=>⟨τ,J1,_,a2.go r1 e1,q1,λx J2 w H2 rx r2 e2 hh=>by
  obtain ⟨a,ex,hh⟩:=fG hh;obtain ⟨fs,ja,hl,q2⟩:=yL hh
  subst ex;cases rx
  obtain ⟨dx,gs,h2,rf⟩:=r2 _ _ ja
  have ll:gs.length=fs.length:=by have:=congrArg Tc rf.1;simpa using this.symm
  have e3:=Ext.LF (K:=X.K) (gs:=nG f y fs) (gs':=dX f v gs) ja h2
  refine ⟨a,C,dx,gs,rfl,h2,cl,na,by omega,g.nx τ _ σ _ (((a2.sl.ext e1).ext e2).ext e3) ?_ ((e1.trans e2).trans e3) q2⟩
  refine r2.Cv e3 a (λb ne=>ar ne) (λb o ne _ z=>by rw [aF ne];exact z) λu z=>?_
  rw [au] at z;cases z
  exact ⟨dx,_,aA,e3.w_ (wZ (e2.rep ry) rf)⟩⟩⟩⟩
def Ez (c:k9) (tb:ip):ip:=λD τ J=>∃W:Nat→Sr→Hq→Prop,(∃m,W m τ J)∧∀m τ J,W m τ J →
 c τ J λb J1=>if b=true then ∃N:Sr→Hq→Prop,(∀τ' J',N τ' J'→∃m',m' < m∧W m' τ' J')∧tb { D with nx:=N,ct:=N,bk:=D.nx } τ J1 else D.nx τ J1
theorem jW {c:Expr} {body:List Stmt} {tb:ip} (hp:PassesOwn (model X.prog X.w) X.A X.env X.xe) (hc:RT X G c tc) (hb:RB X G body tb):RS X G (.While c body [] pos) (Ez tc tb):=⟨yY (L2.jU hp hc.run hb.run) λD σ H ⟨τ,J,D2,a2,⟨W,⟨m0,w0⟩,h⟩,g⟩=>by
 refine ⟨λm σ' H'=>∃τ' J',vH X.K G τ' J' σ' H'∧Ext X.K J H J' H'∧W m τ' J',⟨m0,τ,J,a2,.refl,w0⟩,λm σ1 H1 ⟨τ1,J1,a1,e1,w1⟩=>?_⟩
 refine ⟨τ1,J1,_,a1,h m τ1 J1 w1,λb J2 H2 r2 e2 q=>?_⟩
 cases b with
 | false=>simp only [Ss,if_false] at q ⊢;exact g.nx τ1 J2 σ1 H2 (a1.sl.ext e2) r2 (e1.trans e2) q
 | true =>
  simp only [if_true] at q ⊢
  obtain ⟨N,hN,q⟩:=q
  refine ⟨λσ' H'=>∃τ' J',vH X.K G τ' J' σ' H'∧Ext X.K J H J' H'∧N τ' J',λσ' H' ⟨τ',J',a',e',n'⟩=>let ⟨m',lt,w'⟩:=hN τ' J' n';⟨m',lt,τ',J',a',e',w'⟩,τ1,J2,{ D2 with nx:=N,ct:=N,bk:=D2.nx },a1.go r2 e2,q,?_⟩
  have ge:=g.ext (e1.trans e2)
  exact { nx:=λτ' J' σ' H' rs rr ee q=>⟨τ',J',⟨rs,rr,(a1.ext.trans e2).trans ee⟩,(e1.trans e2).trans ee,q⟩,rt:=ge.rt,bk:=ge.nx,ct:=λτ' J' σ' H' rs rr ee q=>⟨τ',J',⟨rs,rr,(a1.ext.trans e2).trans ee⟩,(e1.trans e2).trans ee,q⟩ }⟩
structure xX where
 xs:List PV
 ok:Hq→Prop
structure sJ (K:PySem.W.Frag) (it:xX) (I:It) (J:Hq) (H:Hp):Prop where
 go:∀J' H',Ext K J H J' H'→Rep K J' H'→it.ok J'→∀i,i < it.xs.length→I.go i H'
 yl:∀J' H',Ext K J H J' H'→Rep K J' H'→it.ok J'→∀i,i < it.xs.length→∀v H2,I.yld i H' v H2→∃x,it.xs[i]?=some x∧cq K J' H2 x v∧Rep K J' H2∧Ext K J' H' J' H2
 stop:∀J' H',Ext K J H J' H'→Rep K J' H'→it.ok J'→I.stop it.xs.length H'
abbrev pP:=Sr→Hq→(xX→Hq→Prop)→Prop
def LI (K:PySem.W.Frag) (G:G2) (t:pP):TI:=λσ H R=>∃τ J R2,vH K G τ J σ H∧t τ J R2∧∀it J' I H',sJ K it I J' H'→Rep K J' H'→Ext K J H J' H'→R2 it J'→R I H'
structure RI (X:Cx) (G:G2) (tg e:Expr) (t:pP):Prop where
 run:L2.PI X tg e (LI X.K G t)
theorem L5 {X:Cx} {tg e:Expr} {t t':TI} (h:L2.PI X tg e t) (k:∀σ H Q,t' σ H Q→t σ H Q):L2.PI X tg e t':=λpins s σ H Q I q=>h pins s σ H Q I (k _ _ _ q)
def NP (wi:pP) (g:yc) (tb:ip):ip:=λD τ J=>wi τ J λit J1=>∃Pv:Nat→Sr→Hq→Prop,Pv 0 τ J1∧(∀i τ J,Pv i τ J→it.ok J) ∧
 (∀i x τ J,it.xs[i]?=some x→Pv i τ J→g x τ J λτ2 J2=>tb { D with nx:=Pv (i + 1),ct:=Pv (i + 1),bk:=D.nx } τ2 J2)∧∀τ J,Pv it.xs.length τ J→D.nx τ J
theorem fe {iter:Expr} {body:List Stmt} {wi:pP} {g:yc} {tb:ip} {pos:Pos} (hp:PassesOwn (model X.prog X.w) X.A X.env X.xe) (hc:X.calm=true) (hi:RI X G tg iter wi) (hg:RG X G tg g) (hb:RB X G body tb)
  (hs:∀x,foldedSetIterable iter X.env x=pure x:=by intro _;rfl):RS X G (.For tg iter body [] pos) (NP wi g tb):=⟨yY (L2.nB hp hc hi.run hg.run hb.run hs) λD σ H ⟨τ,J,D2,a2,h,g⟩=>by
 refine ⟨τ,J,_,a2,h,λit J1 I H1 ir r1 e1 ⟨Pv,p0,pok,step,fin⟩=>?_⟩
 refine ⟨λi m σ' H'=>m=it.xs.length - i∧i≤it.xs.length∧∃τ' J',vH X.K G τ' J' σ' H'∧Ext X.K J1 H1 J' H'∧Pv i τ' J',⟨_,rfl,SG _,τ,J1,a2.go r1 e1,.refl,p0⟩,?_⟩
 rintro i m σ2 H2 ⟨rfl,hil,τ2,J2,a3,e3,p3⟩
 by_cases hlt:i < it.xs.length
 ·refine .inr ⟨ir.go J2 H2 e3 a3.hp (pok _ _ _ p3) i hlt,λσ' H'=>∃τ' J',vH X.K G τ' J' σ' H'∧Ext X.K J1 H1 J' H'∧Pv (i + 1) τ' J',λσ' H' z=>⟨_,by omega,rfl,hlt,z⟩,λv H4 y=>?_⟩
  obtain ⟨x,ex,rx,r4,e4⟩:=ir.yl J2 H2 e3 a3.hp (pok _ _ _ p3) i hlt v H4 y
  refine ⟨x,τ2,J2,_,rx,a3.go r4 e4,step i x τ2 J2 ex p3,λτ5 J5 σ5 H5 rs5 r5 e5 q5=>?_⟩
  have ae:=(a3.ext.trans e4).trans e5
  have ge:=g.ext (((e1.trans e3).trans e4).trans e5)
  refine ⟨τ5,J5,{ D2 with nx:=Pv (i + 1),ct:=Pv (i + 1),bk:=D2.nx },⟨rs5,r5,ae⟩,q5,?_⟩
  exact { nx:=λτ' J' σ' H' rs rr ee q=>⟨τ',J',⟨rs,rr,ae.trans ee⟩,((e3.trans e4).trans e5).trans ee,q⟩,rt:=ge.rt,bk:=ge.nx,ct:=λτ' J' σ' H' rs rr ee q=>⟨τ',J',⟨rs,rr,ae.trans ee⟩,((e3.trans e4).trans e5).trans ee,q⟩ }
 ·have ei:i=it.xs.length:=by omega
  subst ei
  exact .inl ⟨ir.stop J2 H2 e3 a3.hp (pok _ _ _ p3),g.nx τ2 J2 σ2 H2 a3.sl a3.hp (e1.trans e3) (fin _ _ p3)⟩⟩
def ON (J:Hq):PV→Option xX
 | .fl xs=>some ⟨xs,λ_=>True⟩
 | .ref a=>match J a with
  | some (.lst xs)=>some ⟨xs,λJ'=>J' a=some (.lst xs)⟩
  | _=>none
 | _=>none
def Q_ (te:dg):pP:=λτ J R=>te τ J λx J1=>uL (ON J1 x) λit=>R it J1
theorem sJ.list {K:PySem.W.Frag} {it:xX} {a:Addr} {J:Hq} {H:Hp} (h:∀J' H',Ext K J H J' H'→Rep K J' H'→it.ok J'→∃vs,cP K H' a vs∧aL K J' H' it.xs vs):sJ K it (L2.FO K a) J H where
 go:=λJ' H' e r o i hi=>by
  obtain ⟨vs,s,rs⟩:=h J' H' e r o
  exact ⟨vs,vs[i]'(by rw [← rs.length];exact hi),s,by simp⟩
 yl:=λJ' H' e r o i hi v H2 y=>by
  obtain ⟨vs,s,rs⟩:=h J' H' e r o
  obtain ⟨e1,y⟩:=y
  subst e1
  obtain ⟨x,ex,rx⟩:=rs.get' (y vs s)
  exact ⟨x,ex,rx,r,.refl⟩
 stop:=λJ' H' e r o=>by
  obtain ⟨vs,s,rs⟩:=h J' H' e r o
  exact ⟨vs,s,by rw [rs.length];exact R' _⟩
theorem gn {l:Expr} {tl:dg} (hl:RE X G l tl):RI X G tg l (Q_ tl):=⟨L5 (L2.mr hl.run) λσ H R ⟨τ,J,R2,a2,h,k⟩=>⟨τ,J,_,a2,h,λx J1 v H1 rx r1 e1 hh=>by
 obtain ⟨it,ei,q⟩:=d5 hh
 cases x with
 | fl xs =>
  obtain ⟨a,vs,rfl,h1,h2⟩:=rx
  cases ei
  refine ⟨a,rfl,⟨vs,h1.sq⟩,k _ J1 _ H1 (.list λJ' H' e r _=>⟨vs,(e.flat h1).sq,e.iM h2⟩) r1 e1 q⟩
 | ref a =>
  cases rx
  unfold ON at ei
  dsimp only at ei
  cases ej:J1 a with
  | none=>rw [ej] at ei;cases ei
  | some o =>
   rw [ej] at ei
   cases o with
   | lst xs =>
    cases ei
    obtain ⟨vs,h1,h2⟩:=r1 _ _ ej
    refine ⟨a,rfl,⟨vs,.inl (.inl h1)⟩,k _ J1 _ H1 (.list λJ' H' e r o=>?_) r1 e1 q⟩
    obtain ⟨vs',h1',h2'⟩:=r _ _ o
    exact ⟨vs',.inl (.inl h1'),h2'⟩
   | _=>cases ei
 | _=>cases ei⟩⟩
def RM (te:dg):pP:=λτ J R=>te τ J λx J1=>LZ x λxs=>R ⟨xs,λ_=>True⟩ J1
def uo (lo:Int) (n:Nat):List PV:=(SS n).map λ(i:Nat)=>PV.int (lo + (i:Int))
theorem mf (lo:Int) (n:Nat):(uo lo n).length=n:=by simp [uo]
theorem wb (lo:Int) (n i:Nat) (x:PV):(uo lo n)[i]?=some x↔i < n∧x=.int (lo + i):=by
 unfold uo
 rw [Sb]
 by_cases h:i < n
 ·rw [Uw h];simp [h,eq_comm]
 ·rw [SN (by simpa using h)];simp [h]
theorem sJ.L7 {K:PySem.W.Frag} {J:Hq} {H:Hp} (lo:Int) (n:Nat):sJ K ⟨uo lo n,λ_=>True⟩ (L2.CL lo n) J H where
 go:=λJ' H' e r o i hi=>by
  show i < n
  simpa [mf] using hi
 yl:=λJ' H' e r o i hi v H2 y=>by
  obtain ⟨e1,y⟩:=y
  subst e1 y
  exact ⟨.int (lo + i),(wb lo n i _).mpr ⟨by simpa [mf] using hi,rfl⟩,rfl,r,.refl⟩
 stop:=λJ' H' e r o=>by
  show n≤(uo lo n).length
  rw [mf];exact R' _
def Ra (ta:oh):pP:=λτ J R=>ta τ J λvs J1=>Ai vs λx=>CA x λj=>-(2 ^ 62)≤j∧j < 2 ^ 62∧R ⟨uo 0 j.toNat,λ_=>True⟩ J1
def RL (ta:oh):pP:=λτ J R=>ta τ J λvs J1=>KI vs λx y=>CA x λi=>CA y λj=>(-(2 ^ 62)≤i∧i < 2 ^ 62∧-(2 ^ 62)≤j∧j < 2 ^ 62)∧R ⟨uo i (j - i).toNat,λ_=>True⟩ J1
theorem ku {a:Expr} {ta:oh} {p pos:Pos} (hg:Gl X "range") (hm:X.mg "range"=none) (ha:RA X G [a] ta) (hs:starEach [a] X.env=[(false,eval a X.env)]:=by rfl):RI X G tg (.Call (.Name "range" p) [a] [] pos) (Ra ta) :=
 ⟨L5 (L2.ft hg hm ha.run hs) λσ H R ⟨τ,J,R2,a2,h,k⟩=>⟨τ,J,_,a2,h,λxs J1 vs H1 rs r1 e1 hh=>by
  obtain ⟨x,ex,hh⟩:=gB hh;obtain ⟨j,ej,l1,l2,q⟩:=gC hh;subst ej ex
  obtain ⟨v,us,rfl,rv,e'⟩:=rs
  cases rv;cases e'
  exact ⟨j,rfl,l1,l2,k _ J1 _ H1 (.L7 0 _) r1 e1 q⟩⟩⟩
def fQ (C:Addr) (E2:Addr→Hq→Prop) (t:oh):ip:=λ_ τ J=>t τ J λxs J1=>xs.length≤sizeLine∧E2 C J1
theorem d9 {E:XK} {E2:Addr→Hq→Prop} {C:Addr} {x:Str} {t:oh} {np cpos:Pos} (O:Own X.K X.mg x C) (hc:X.calm=true) (hx:Throws X E) (kn:Io X.K G.1 G.2 E2 E) (hg:Gl X x) (ha:RA X G (e :: es) t)
  (hd:(x == ("__debug__":Str))=false:=by decide) (he:starEach (e :: es) X.env=(false,eval e X.env) :: starEach es X.env:=by rfl) (hpl:(backTo cpos (starEach es X.env)).any (·.1)=false:=by rfl) :
  RS X G (.Raise (some (.Call (.Name x np) (e :: es) [] cpos)) none pos) (fQ C E2 t):=⟨yY (Cg O hc hx hg ha.run hd he hpl) λD σ H ⟨τ,J,D2,a2,h,g⟩ =>
 ⟨τ,J,_,a2,h,λxs J1 vs H1 rs r1 e1 ⟨hl,q⟩=>⟨by rw [← rs.length];exact hl,kn C J1 H1 r1 (a2.ext.trans e1) q⟩⟩⟩
end
section
variable {P:Program} {w:World} {K:PySem.W.Frag} {mg:Str→Option Value} {base:Heap}
section
variable {α β:Type} {a b:α} {l m:List α} {i:Nat} {f:α→β} {c:Bool}
theorem LN:U1 f (a :: l)=f a :: U1 f l:=rfl
theorem LP:U1 f []=[]:=rfl
theorem LL:(a :: l).length=l.length + 1:=rfl
theorem LM:([]:List α).length=0:=rfl
theorem LJ:(a :: l) ++ m=a :: (l ++ m):=rfl
theorem LK:[] ++ m=m:=rfl
theorem QC:(a :: l)[0]?=some a:=rfl
theorem QD:(a :: l)[i + 1]?=l[i]?:=rfl
theorem QN:(a :: l).set 0 b=b :: l:=rfl
theorem QP:(a :: l).set (i + 1) b=a :: l.set i b:=rfl
theorem QK:Option.map f (some a)=some (f a):=rfl
theorem QJ:(some a).getD b=a:=rfl
theorem QH:(!true)=false:=rfl
theorem QF:(!false)=true:=rfl
theorem QQ:(true && c)=c:=rfl
theorem Qz:(false && c)=false:=rfl
theorem QL:Sq 0 a=[]:=rfl
theorem QM:Sq (i + 1) a=a :: Sq i a:=rfl
theorem OC:(a :: l).isEmpty=false:=rfl
theorem OD:([]:List α).isEmpty=true:=rfl
end
def vC (N:List Str) (xs:List PV):Sr:=xs.map some ++ Sq (N.length - xs.length) none
theorem E1 {J:Hq} {H:Hp} {N:List Str} {xs:List PV} {vs:List V} (r:aL K J H xs vs):k8 K J H (vC N xs) (L2.start N vs):=by
 refine ⟨by simp [vC,L2.start,r.length],λi x e=>?_⟩
 unfold vC at e
 unfold L2.start
 by_cases hi:i < xs.length
 ·rw [Td (by simpa using hi),Sb] at e
  cases ex:xs[i]? with
  | none=>rw [ex] at e;cases e
  | some y =>
   rw [ex] at e
   cases e
   obtain ⟨v,h1,h2⟩:=r.get ex
   exact ⟨v,by rw [Td (by rw [R6,← r.length];exact hi),Sb,h1];rfl,h2⟩
 ·rw [S8 (by simpa using hi)] at e
  have:=R9 e
  rw [List.mem_replicate] at this
  cases this.2
theorem P1 {x qual:Str} {st:Stmt} {f:Addr} {fd:FuncData} {N ps:List Str} {k:Nat} {sp:cI} (F:cm K x qual st f fd) (S:av N ps (L2.aj st)) (len:∀xs J Q E,sp xs J Q E→xs.length=ps.length)
  (hbody:∀(cdv:Value) (A:Around) (outer:List Env) (s:Shared) (H:Hp) (E:XK) (G:G2) (xs:List PV) (J:Hq) (Q:PV→Hq→Prop) (E2:Addr→Hq→Prop),bK k (A.deeper (envOfC qual (L2.aj st) s.heap.objs.size f cdv))→sp xs J Q E2 →
   Bp (xH P w K mg base N qual (L2.aj st) f cdv A outer s H E) G E2 E →
   ∃t,RB (xH P w K mg base N qual (L2.aj st) f cdv A outer s H E) G (L2.bR st) t∧t { nx:=λ_ J'=>Q .non J',rt:=Q } (vC N xs) J):aJ P w K mg base (cY P w) (k + 1) f fd ps (dI K sp):=by
 refine RZ F S (λvs H Q E ⟨xs,J,Q2,E2,a,_,b,_⟩=>by rw [← a.length];exact len _ _ _ _ b) λcdv A outer s H vs Q E hr ⟨xs,J,Q2,E2,rs,rr,hs,kn,ke⟩=>?_
 obtain ⟨t,hb,q⟩:=hbody cdv A outer s H E (J,H) xs J Q2 E2 hr hs ⟨yn,ke⟩
 refine ⟨_,⟨hb.run⟩,vC N xs,J,_,⟨E1 rs,rr,.refl⟩,q,?_⟩
 exact { nx:=λτ J' σ H' _ r e q=>kn .non J' .non H' rfl r e q,rt:=λx J' v H' rx r e q=>kn x J' v H' rx r e q,bk:=λ_ _ _ _ _ _ _ q=>q.elim,ct:=λ_ _ _ _ _ _ _ q=>q.elim }
theorem RY {x qual:Str} {st:Stmt} {f:Addr} {fd:FuncData} {N ps:List Str} {k:Nat} {sp:cI} {t:(Addr→Hq→Prop)→ip} (F:cm K x qual st f fd) (S:av N ps (L2.aj st)) (len:∀xs J Q E,sp xs J Q E→xs.length=ps.length)
  (rd:∀(cdv:Value) (A:Around) (outer:List Env) (s:Shared) (H:Hp) (E:XK) (G:G2) (E2:Addr→Hq→Prop),bK k (A.deeper (envOfC qual (L2.aj st) s.heap.objs.size f cdv)) →
   Bp (xH P w K mg base N qual (L2.aj st) f cdv A outer s H E) G E2 E→RB (xH P w K mg base N qual (L2.aj st) f cdv A outer s H E) G (L2.bR st) (t E2))
  (run:∀(xs:List PV) (J:Hq) (Q:PV→Hq→Prop) (E2:Addr→Hq→Prop),sp xs J Q E2→∀X:Prop,(t E2 { nx:=λ_ J'=>Q .non J',rt:=Q } (vC N xs) J→X)→X):aJ P w K mg base (cY P w) (k + 1) f fd ps (dI K sp) :=
 P1 F S len λcdv A outer s H E G xs J Q E2 hr h B=>⟨_,rd cdv A outer s H E G E2 hr B,run xs J Q E2 h _ id⟩
theorem _root_.Ov.Def.eE {x:Str} {st:Stmt} {k:Nat} {ps:List Str} {sp:cI} (D:Def K mg x st)
  (h:∀f fd,cm K x x st f fd→aJ P w K mg base (cY P w) k f fd ps (dI K sp))
  (hb:∀(kV doc pm:Value) (an:Option Addr) (cdv ct:Value) (us:List Value),us.length=ps.length→bindArgs (PySem.W.fnOf x x (L2.di st) (L2.bR st) (L2.aj st) .none kV doc pm an cdv ct) ⟨us,[]⟩=pure (ps.zip us)) :
  bt P w K mg base k x ps sp:=D.Pc h hb
end
section
variable {X:Cx} {K:PySem.W.Frag}
def Es (g:Int→Int→PV):k6:=λx y J Q=>CA x λi=>CA y λj=>Q (g i j) J
def qI (C:Int→Int→Prop) (g:Int→Int→PV):k6:=λx y J Q=>CA x λi=>CA y λj=>C i j∧Q (g i j) J
theorem tD {g:Int→Int→V} {g':Int→Int→PV} (hg:∀J H i j,cq K J H (g' i j) (g i j)):LR K (L2.Ft g) (Es g'):=λJ H x y v w Q2 Q rx ry r h k=>by
 obtain ⟨i,ex,h⟩:=gC h;obtain ⟨j,ey,q⟩:=gC h
 subst ex ey;exact ⟨i,j,rx,ry,k _ J _ H (hg _ _ _ _) r .refl q⟩
theorem GA {C:Int→Int→Prop} {g:Int→Int→V} {g':Int→Int→PV} (hg:∀J H i j,cq K J H (g' i j) (g i j)):LR K (L2.rI C g) (qI C g'):=λJ H x y v w Q2 Q rx ry r h k=>by
 obtain ⟨i,ex,h⟩:=gC h;obtain ⟨j,ey,c,q⟩:=gC h
 subst ex ey;exact ⟨i,j,rx,ry,c,k _ J _ H (hg _ _ _ _) r .refl q⟩
theorem bW:kG X (binaryOp .Add) (Es λi j=>.int (i + j)):=⟨_,L2.iJ,tD λ_ _ _ _=>rfl⟩
theorem dq:kG X (binaryOp .Sub) (Es λi j=>.int (i - j)):=⟨_,L2.yP,tD λ_ _ _ _=>rfl⟩
theorem b_:kG X (binaryOp .Mult) (qI CM λi j=>.int (i * j)):=⟨_,cK,GA λ_ _ _ _=>rfl⟩
theorem mn:kG X (binaryOp .FloorDiv) (qI CQ λi j=>.int (i.fdiv j)):=⟨_,fH,GA λ_ _ _ _=>rfl⟩
theorem dR:kG X (binaryOp .Mod) (qI (λ_ j=>0 < j) λi j=>.int (i % j)):=⟨_,L2.fI,GA λ_ _ _ _=>rfl⟩
theorem D':kG X (binaryOp .Pow) (qI L2.Jw λi j=>.int (i ^ j.toNat)):=⟨_,L2.yO,GA λ_ _ _ _=>rfl⟩
theorem i9:kG X (compareOp .Lt) (Es λi j=>.bl (decide (i < j))):=⟨_,L2.Aj,tD λ_ _ _ _=>rfl⟩
theorem IV:kG X (compareOp .LtE) (Es λi j=>.bl (decide (i≤j))):=⟨_,L2.IT,tD λ_ _ _ _=>rfl⟩
theorem oz:kG X (compareOp .Gt) (Es λi j=>.bl (decide (j < i))):=⟨_,L2.IS,tD λ_ _ _ _=>rfl⟩
theorem wH:kG X (compareOp .GtE) (Es λi j=>.bl (decide (j≤i))):=⟨_,L2.IQ,tD λ_ _ _ _=>rfl⟩
def qU (g:Int→PV):Me:=λx J Q=>CA x λi=>Q (g i) J
theorem zx:Q3 X (unaryOp .USub) (qU λi=>.int (-i)):=⟨_,L2.Ff,λJ H x v Q2 Q rx r h k=>by obtain ⟨i,ex,q⟩:=gC h;subst ex;exact ⟨i,rx,k (.int (-i)) J _ H rfl r .refl q⟩⟩
def ND:k6:=λx y J Q=>Fs x λi=>Fs y λj=>Q (.bl (decide (i.cps.toList < j.cps.toList))) J
theorem yQ:kG X (compareOp .Lt) ND:=⟨_,L2.B_,λJ H x y v w Q2 Q rx ry r h k=>by obtain ⟨i,ex,h⟩:=jL h;obtain ⟨j,ey,q⟩:=jL h;subst ex ey;exact ⟨i,j,rx,ry,k (.bl _) J _ H rfl r .refl q⟩⟩
def DA:PV→Bool
 | .non=>true
 | _=>false
theorem Ac {J:Hq} {H:Hp} {x:PV} {v:V} (r:cq K J H x v):decide (v=.non)=DA x:=by
 cases x with
 | non=>cases r;rfl
 | tup xs=>obtain ⟨a,vs,rfl,_⟩:=r;rfl
 | fl xs=>obtain ⟨a,vs,rfl,_⟩:=r;rfl
 | _=>cases r;rfl
def Rn:k6:=λx y J Q=>y=.non∧Q (.bl (DA x)) J
def Et:k6:=λx y J Q=>y=.non∧Q (.bl (!DA x)) J
theorem Nr:kG X (compareOp .Is) Rn:=⟨_,L2.KP,λJ H x y v w Q2 Q rx ry r ⟨ey,q⟩ k=>by subst ey;cases ry;exact ⟨rfl,by rw [Ac rx];exact k (.bl _) J _ H rfl r .refl q⟩⟩
theorem qj:kG X (compareOp .IsNot) Et:=⟨_,L2.G1,λJ H x y v w Q2 Q rx ry r ⟨ey,q⟩ k=>by subst ey;cases ry;exact ⟨rfl,by rw [Ac rx];exact k (.bl _) J _ H rfl r .refl q⟩⟩
mutual
def fP:PV→Py
 | .non=>.non | .bl b=>.bl b | .int i=>.int i | .str x=>.str x | .ref _=>.non | .ty _=>.non | .tup xs=>.tup (fh xs) | .fl xs=>.lst (fh xs)
def fh:List PV→List Py
 | []=>[]
 | x :: xs=>fP x :: fh xs
end
mutual
def lG:PV→Bool
 | .ref _=>false | .ty _=>false | .tup xs=>ia xs | .fl xs=>ia xs | _=>true
def ia:List PV→Bool
 | []=>true
 | x :: xs=>lG x && ia xs
end
mutual
theorem uc {J:Hq} {H:Hp}:∀{x:PV} {v:V},lG x=true→cq K J H x v→At K H (fP x) v
 | .non,_,_,h=>h
 | .bl _,_,_,h=>h
 | .int _,_,_,h=>h
 | .str _,_,_,h=>h
 | .tup xs,_,p,⟨a,vs,e,h,k⟩=>⟨a,vs,e,h,pR (by simpa [lG] using p) k⟩
 | .fl xs,_,p,⟨a,vs,e,h,k⟩=>⟨a,vs,e,h.sq,pR (by simpa [lG] using p) k⟩
theorem pR {J:Hq} {H:Hp}:∀{xs:List PV} {vs:List V},ia xs=true→aL K J H xs vs→rp K H (fh xs) vs
 | [],_,_,h=>h
 | x :: xs,_,p,⟨v,us,e,h,k⟩=>by
  have p':lG x=true∧ia xs=true:=by simpa [ia] using p
  exact ⟨v,us,e,uc p'.1 h,pR p'.2 k⟩
end
def eqQ (x y:PV):Bool:=kg (fP x) (fP y)
def F7 (x:PV):Prop:=lG x=true∧dep (fP x)≤60
def OT (f:Bool→Bool):k6:=λx y J Q=>F7 x∧lG y=true∧Q (.bl (f (eqQ x y))) J
theorem IH (f:Bool→Bool):LR K (rP K f) (OT f):=λJ H x y v w Q2 Q rx ry r ⟨⟨px,d⟩,py,q⟩ k=>⟨fP x,fP y,uc px rx,uc py ry,d,k (.bl _) J _ H rfl r .refl q⟩
theorem gi (hu:X.A.units + 61 < cLine):kG X (compareOp .Eq) (OT id):=⟨_,KN hu,IH id⟩
theorem i_ (hu:X.A.units + 61 < cLine):kG X (compareOp .NotEq) (OT not):=⟨_,KQ hu,IH not⟩
def vI (J:Hq):PV→PV→Option PV
 | .tup xs,.int i=>cV xs i
 | .fl xs,.int i=>cV xs i
 | .ref a,.int i=>match J a with
  | some (.lst xs)=>cV xs i
  | _=>none
 | _,_=>none
theorem aL.cV {J:Hq} {H:Hp} {xs:List PV} {vs:List V} {i:Int} {x:PV} (r:aL K J H xs vs) (h:L2.cV xs i=some x):∃v,L2.cV vs i=some v∧cq K J H x v:=by
 unfold L2.cV at h ⊢
 rw [← r.length]
 cases e:L2.DE xs.length i with
 | none=>rw [e] at h;cases h
 | some j =>
  rw [e] at h
  obtain ⟨v,h1,h2⟩:=r.get h
  exact ⟨v,h1,h2⟩
def Qa:k6:=λx y J Q=>uL (vI J x y) λv=>Q v J
theorem ay:O2 X Qa:=⟨_,L2.uq.or L2.cS,λJ H x y v w Q2 Q rx ry r h k=>by
 obtain ⟨z,ez,q⟩:=d5 h
 cases y with
 | int i =>
  cases ry
  cases x with
  | tup xs =>
   obtain ⟨a,vs,rfl,h1,h2⟩:=rx
   obtain ⟨u,e1,e2⟩:=h2.cV (show L2.cV xs i=some z from ez)
   exact .inr ⟨a,vs,i,u,rfl,rfl,h1,e1,k z J u H e2 r .refl q⟩
  | fl xs =>
   obtain ⟨a,vs,rfl,h1,h2⟩:=rx
   obtain ⟨u,e1,e2⟩:=h2.cV (show L2.cV xs i=some z from ez)
   exact .inl ⟨a,vs,i,u,rfl,rfl,h1.sq,e1,k z J u H e2 r .refl q⟩
  | ref a =>
   cases rx
   unfold vI at ez
   dsimp only at ez
   cases ej:J a with
   | none=>rw [ej] at ez;cases ez
   | some o =>
    rw [ej] at ez
    cases o with
    | lst xs =>
     obtain ⟨vs,h1,h2⟩:=r _ _ ej
     obtain ⟨u,e1,e2⟩:=h2.cV (show L2.cV xs i=some z from ez)
     exact .inl ⟨a,vs,i,u,rfl,rfl,.inl (.inl h1),e1,k z J u H e2 r .refl q⟩
    | _=>cases ez
  | _=>cases ez
 | _=>cases x <;> cases ez⟩
def jx (xs:List PV) (lo hi:Option Int):List PV:=(xs.drop (HT.dS xs.length 0 lo)).take (HT.dS xs.length xs.length hi - HT.dS xs.length 0 lo)
theorem zK {J:Hq} {H:Hp} {xs:List PV} {vs:List V} {lo hi:Option Int} (r:aL K J H xs vs):aL K J H (jx xs lo hi) (L2.m5 vs lo hi):=by
 unfold jx L2.m5
 rw [← r.length]
 exact (r.drop _).take _
def NK:Bv:=λx lo hi J Q=>LZ x λxs=>¬ (HT.dS xs.length 0 lo=0∧HT.dS xs.length xs.length hi=xs.length)∧Q (.tup (jx xs lo hi)) J
theorem zq:O5 X NK:=⟨_,L2.Ll,λJ H x lo hi v Q2 Q rx r h k=>by
 obtain ⟨xs,ex,hn,q⟩:=D8 h
 subst ex
 obtain ⟨a,vs,rfl,h1,h2⟩:=rx
 refine ⟨a,vs,rfl,h1,by rw [← h2.length];exact hn,λp hp=>?_⟩
 have sm:=bq.new hp (.tup (L2.m5 vs lo hi))
 have e2:=Ext.same (K:=X.K) (J:=J) sm
 exact k (.tup (jx xs lo hi)) J (.ref p) _ ⟨p,_,rfl,.inl (.inl aA),e2.iM (zK h2)⟩ (r.same sm) e2 q⟩
def lA (J:Hq):PV→Option (List PV)
 | .fl xs=>some xs
 | .ref a=>match J a with
  | some (.lst xs)=>some xs
  | _=>none
 | _=>none
theorem kj {J:Hq} {H:Hp} {x:PV} {v:V} {xs:List PV} (rx:cq K J H x v) (r:Rep K J H) (h:lA J x=some xs):∃a vs,v=.ref a∧cP K H a vs∧aL K J H xs vs:=by
 cases x with
 | fl ys=>obtain ⟨a,vs,rfl,h1,h2⟩:=rx;cases h;exact ⟨a,vs,rfl,h1.sq,h2⟩
 | ref a =>
  cases rx
  unfold lA at h
  dsimp only at h
  cases ej:J a with
  | none=>rw [ej] at h;cases h
  | some o =>
   rw [ej] at h
   cases o with
   | lst ys=>cases h;obtain ⟨vs,h1,h2⟩:=r _ _ ej;exact ⟨a,vs,rfl,.inl (.inl h1),h2⟩
   | _=>cases h
 | _=>cases h
def NJ:Bv:=λx lo hi J Q=>uL (lA J x) λxs=>Q (.fl (jx xs lo hi)) J
theorem AZ:O5 X NJ:=⟨_,L2.vn,λJ H x lo hi v Q2 Q rx r h k=>by
 obtain ⟨xs,ex,q⟩:=d5 h
 obtain ⟨a,vs,rfl,h1,h2⟩:=kj rx r ex
 refine ⟨a,vs,rfl,h1,λp hp=>?_⟩
 obtain ⟨x1,x2,x3⟩:=nk r (zK (lo:=lo) (hi:=hi) h2) hp
 exact k _ J _ _ x1 x2 x3 q⟩
def Qd:Bv:=λx lo hi J Q=>uL (lA J x) λxs=>∀p,J p=none→Q (.ref p) (put J p (.lst (jx xs lo hi)))
def Ny:yb:=λxs J Q=>Ai xs λx=>CA x λi=>Q (.int (if i < 0 then -i else i)) J
theorem uf:FA X (.builtin "abs") Ny:=⟨_,L2.l7,λJ H xs vs Q2 Q rs r h k=>by
 obtain ⟨x,ex,h⟩:=gB h;obtain ⟨i,ei,q⟩:=gC h;subst ei
 subst ex;obtain ⟨v,us,rfl,rv,e⟩:=rs;cases rv;cases e
 exact ⟨i,rfl,k (.int _) J _ H rfl r .refl q⟩⟩
def wg (J:Hq):PV→Option Nat
 | .tup xs=>some xs.length
 | x=>(lA J x).map Tc
def K5:yb:=λxs J Q=>Ai xs λx=>uL (wg J x) λn=>Q (.int n) J
theorem dn:FA X (.builtin "len") K5:=⟨_,L2.iu,λJ H xs vs Q2 Q rs r h k=>by
 obtain ⟨x,ex,h⟩:=gB h;obtain ⟨n,en,q⟩:=d5 h
 subst ex;obtain ⟨v,us,rfl,rv,e⟩:=rs;cases e
 have go:∀ys,lA J x=some ys→ys.length=n→∃p ws,([v]:List V)=[.ref p]∧(cP X.K H p ws∨fv X.K H p ws)∧Q (.int ws.length) H:=λys h1 h2=>by
  obtain ⟨a,ws,rfl,h3,h4⟩:=kj rv r h1
  exact ⟨a,ws,rfl,.inl h3,by rw [← h4.length,h2];exact k (.int _) J _ H rfl r .refl q⟩
 cases x with
 | tup ys =>
  obtain ⟨a,ws,rfl,h1,h2⟩:=rv
  cases en
  exact ⟨a,ws,rfl,.inr h1,by rw [← h2.length];exact k (.int _) J _ H rfl r .refl q⟩
 | fl ys=>cases en;exact go _ rfl rfl
 | ref a =>
  unfold wg at en
  cases el:lA J (.ref a) with
  | none=>simp [el] at en
  | some ys=>simp [el] at en;exact go _ el en
 | _=>cases en⟩
def A_ (J:Hq):PV→Option String
 | .non=>some "NoneType" | .bl _=>some "bool" | .int _=>some "int" | .str _=>some "str" | .tup _=>some "tuple" | .fl _=>some "list"
 | .ref a=>match J a with
  | some (.lst _)=>some "list"
  | some (.dct _ _)=>some "dict"
  | _=>none
 | _=>none
def lS (t n:String):Option Bool :=
 if n∈["int","bool","str","tuple","list"] then some (t == n || (t == "bool" && n == "int")) else none
theorem Gw (K:PySem.W.Frag) {t n:String} {b:Bool} (ht:t∈["NoneType","bool","int","str","tuple","list","dict"]) (h:lS t n=some b):PySem.W.kitOne K (.type t) (.type n)=some b:=by
 unfold lS at h
 by_cases hn:n∈["int","bool","str","tuple","list"]
 ·rw [if_pos hn] at h
  simp only [Sf,SF,or_false] at ht hn
  rcases ht with rfl | rfl | rfl | rfl | rfl | rfl | rfl <;> rcases hn with rfl | rfl | rfl | rfl | rfl <;> cases h <;> with_unfolding_all rfl
 ·rw [if_neg hn] at h;cases h
theorem Ic {J:Hq} {x:PV} {t:String} (h:A_ J x=some t):t∈["NoneType","bool","int","str","tuple","list","dict"]:=by
 cases x with
 | ref a =>
  unfold A_ at h
  dsimp only at h
  cases ej:J a with
  | none=>rw [ej] at h;cases h
  | some o=>rw [ej] at h;cases o <;> cases h <;> simp
 | ty n=>cases h
 | _=>cases h;simp
def P6 (x:PV) (k:String→Prop) (_:f6 k:=dp):Prop:=match x with | .ty n=>k n | _=>False
theorem Nn {x:String} {k:String→Prop} {d:f6 k}:P6 (.ty x) k d=k x:=rfl
theorem KJ {x:PV} {k:String→Prop} {d:f6 k} (h:P6 x k d):∃n,x=.ty n∧k n:=by cases x <;> first | exact ⟨_,rfl,h⟩ | exact False.elim h
def NA:yb:=λxs J Q=>KI xs λx y=>P6 y λn=>uL (A_ J x) λt=>uL (lS t n) λb=>Q (.bl b) J
theorem By:bS X (.builtin "isinstance") (λxs H Q=>∃x n t b,xs=[x,.ty n]∧(fb X.K H x (.type t)∨(t="tuple"∧∃a vs,x=.ref a∧fv X.K H a vs)∨(t="list"∧∃a vs,x=.ref a∧cP X.K H a vs))∧PySem.W.kitOne X.K (.type t) (.type n)=some b∧Q (.bl b) H):=by
 intro pins s σ H xs us Q I r h
 obtain ⟨x,n,t,b,rfl,ty,e,q⟩:=h
 obtain ⟨u,w',rfl,rx,ry⟩:=L2.vals2 r
 cases (show w'=Value.type n from ry)
 rcases ty with ty | ⟨rfl,a,vs,rfl,hs⟩ | ⟨rfl,a,vs,rfl,hs⟩
 ·exact L2.BI I rx ty e λtk=>⟨.bl b,H,I.tok _,rfl,q⟩
 ·cases rx
  obtain ⟨its,_,⟨o,h1,h2,_⟩,_⟩:=I.tuple hs
  exact PySem.W.kia_one PySem.W.kitx_tuple I.lp ⟨o,h1,h2⟩ e (λz=>nomatch z) λtk=>⟨.bl b,H,I.tok _,rfl,q⟩
 ·cases rx
  obtain ⟨its,_,⟨o,_,h1,h2,_⟩,_⟩:=I.list hs
  exact PySem.W.kia_one PySem.W.kitx_list I.lp ⟨o,h1,h2⟩ e (λz=>nomatch z) λtk=>⟨.bl b,H,I.tok _,rfl,q⟩
theorem iy:FA X (.builtin "isinstance") NA:=⟨_,By,λJ H xs vs Q2 Q rs r h k=>by
 obtain ⟨x,y,ex,h⟩:=yM h;obtain ⟨n,ey,h⟩:=KJ h;obtain ⟨t,et,h⟩:=d5 h;obtain ⟨b,es,q⟩:=d5 h
 subst ey
 subst ex
 obtain ⟨v,us,rfl,rv,w,us',rfl,rw',e⟩:=rs
 cases rw';cases e
 refine ⟨v,n,t,b,rfl,?_,Gw X.K (Ic et) es,k (.bl _) J _ H rfl r .refl q⟩
 cases x with
 | non=>cases rv;cases et;exact .inl .non
 | bl i=>cases rv;cases et;exact .inl (.bl i)
 | int i=>cases rv;cases et;exact .inl (.int i)
 | str i=>cases rv;cases et;exact .inl (.str i)
 | tup xs=>obtain ⟨a,ws,rfl,h1,_⟩:=rv;cases et;exact .inr (.inl ⟨rfl,a,ws,rfl,h1⟩)
 | fl xs =>
  obtain ⟨a,ws,rfl,h1,_⟩:=rv;cases et
  exact .inr (.inr ⟨rfl,a,ws,rfl,h1.sq⟩)
 | ty n=>cases et
 | ref a =>
  cases rv
  unfold A_ at et
  dsimp only at et
  cases ej:J a with
  | none=>rw [ej] at et;cases et
  | some o =>
   rw [ej] at et
   have z:=r _ _ ej
   cases o with
   | lst xs=>obtain ⟨ws,h1,_⟩:=z;cases et;exact .inl (.lst h1)
   | dct kvs ep=>obtain ⟨gs,h1,_⟩:=z;cases et;exact .inl (.dE h1)
   | tab=>cases et
   | dtp hs ks=>cases et
   | ins C fs=>cases et⟩
def K3:yb:=λxs J Q=>Ai xs λx=>uL (lA J x) λys=>Q (.fl ys) J
def Ep:yb:=λxs J Q=>Ai xs λx=>uL (lA J x) λys=>∀p,J p=none→Q (.ref p) (put J p (.lst ys))
theorem pS:FA X (.type "list") Ep:=⟨_,L2.ud,λJ H xs vs Q2 Q rs r h k=>by
 obtain ⟨x,ex,h⟩:=gB h;obtain ⟨ys,el,q⟩:=d5 h
 subst ex;obtain ⟨v,us,rfl,rv,e⟩:=rs;cases e
 obtain ⟨a,ws,rfl,h3,h4⟩:=kj rv r el
 exact ⟨a,ws,rfl,.inl h3,λp hp=>k (.ref p) _ _ _ rfl (r.DL hp h4) (.laid hp) (q p (r.free hp))⟩⟩
def Qb:yb:=λxs J Q=>∃i j,xs=[.int i,.int j]∧Q (.int (if j > i then j else i)) J
def As:CY:=λx xs J Q=>B9 x λa=>Ai xs λy=>OQ (J a) λys=>ys.length < sizeLine∧Q .non (put J a (.lst (ys ++ [y])))
theorem BV:Md X "list" "list.append" As:=⟨_,L2.g8,λJ H x xs v vs Q2 Q rx rs r h k=>by
 obtain ⟨a,ex,h⟩:=fG h;obtain ⟨y,exs,h⟩:=gB h;obtain ⟨ys,ja,hl,q⟩:=KG h
 subst ex exs;cases rx;obtain ⟨w,us,rfl,rw',e⟩:=rs;cases e
 obtain ⟨ws,h1,h2⟩:=r _ _ ja
 exact ⟨a,ws,w,rfl,rfl,h1,by rw [← h2.length];exact hl,k .non _ _ _ rfl (r.wrote (ys:=ys ++ [y]) ja h1 (h2.append (show aL X.K J H [y] [w] from ⟨w,[],rfl,rw',rfl⟩))) (.wrote ja h1) q⟩⟩
def Qc:CY:=λx xs J Q=>∃a ys y,x=.ref a∧xs=[]∧J a=some (.lst ys)∧ys[ys.length - 1]?=some y∧Q y (put J a (.lst ys.dropLast))
theorem aL.dropLast {J:Hq} {H:Hp} {xs:List PV} {vs:List V} (r:aL K J H xs vs):aL K J H xs.dropLast vs.dropLast:=by
 rw [Ul,Ul,← r.length]
 exact r.take _
def K2:CY:=λx xs J Q=>∃a ys,x=.ref a∧xs=[]∧J a=some (.lst ys)∧Q .non (put J a (.lst []))
def Hz:V→List V→Hp→VK→Prop:=λx vs H Q=>∃l xs i y,x=.ref l∧vs=[.int (i:Nat),y]∧H l=some (.lst xs)∧i≤xs.length∧xs.length < sizeLine∧i < 2 ^ 62∧Q .non (upd H l (.lst (xs.take i ++ y :: xs.drop i)))
theorem yu (its:List Value) (i:Nat) (u:Value) (h:i≤its.length):((its.toArray.extract 0 (min ((i:Int)).toNat its.toArray.size)).push u ++ its.toArray.extract (min ((i:Int)).toNat its.toArray.size))=(its.take i ++ u :: its.drop i).toArray:=by
 have e:min ((i:Int)).toNat its.toArray.size=i:=by simp;omega
 rw [e]
 apply Array.ext'
 simp
 exact S7 (by simp)
theorem BX:oJ X "list.insert" Hz:=by
 intro pins s σ H x vs v us Q I rx rv h
 obtain ⟨l,xs,i,y,rfl,rfl,hH,hi,hz,hb,q⟩:=h
 cases rx
 obtain ⟨u,w,rfl,ru,rw'⟩:=L2.vals2 rv
 obtain ⟨t,rfl⟩:=ru
 obtain ⟨z,its,n,r,hl,e⟩:=I.Kq hH
 have h63:((i:Nat):Int) < 2 ^ 63:=by
  have:((i:Nat):Int) < ((2 ^ 62:Nat):Int):=Int.ofNat_lt.mpr hb
  exact Int.lt_trans this (by decide)
 have hf:Builtin.List.listFitsIndex ((i:Nat):Int)=true:=fitsIndex_both (Int.le_trans (by decide) (Int.natCast_nonneg i)) h63
 have hs:its.toArray.size≤sizeLine:=by rw [Sa,← hl];exact z
 have hn:¬(!Builtin.List.listFitsIndex ((i:Nat):Int))=true:=by rw [hf];exact λz=>nomatch z
 have hneg:¬ (((i:Nat):Int) < 0):=by omega
 have hins:=yu its i w (by omega)
 clear hb h63 hf
 generalize ((i:Nat):Int)=ii at *
 have mm:=PySem.AutoSeq1.list_insert_list_int_val_1 l its.toArray n ii t w hn hs
 refine call_meets PySem.F.slot_list_insert ⟨_,e,rfl⟩ PySem.F.entry_list_insert (PySem.F.args_list_insert_3 _ _ _) mm ⟨e,?_⟩
 refine ⟨.non,_,I.Kp (its':=its.take i ++ w :: its.drop i) hH e ?_ ((r.take i).append (.cons rw' (r.drop i))) ?_,rfl,q⟩
 ·simp only [if_neg hneg]
  exact hins
 ·rw [So,Sv,Sy,S_];omega
def Au:CY:=λx xs J Q=>∃a ys i y,x=.ref a∧xs=[.int (i:Nat),y]∧J a=some (.lst ys)∧i≤ys.length∧ys.length < sizeLine∧i < 2 ^ 62∧Q .non (put J a (.lst (ys.take i ++ y :: ys.drop i)))
theorem km:Md X "list" "list.insert" Au:=⟨_,BX,λJ H x xs v vs Q2 Q rx rs r ⟨a,ys,i,y,ex,exs,ja,hi,hl,hb,q⟩ k=>by
 subst ex exs;cases rx;obtain ⟨w0,us,rfl,rw0,w,us',rfl,rw',e⟩:=rs;cases e;cases rw0
 obtain ⟨ws,h1,h2⟩:=r _ _ ja
 exact ⟨a,ws,i,w,rfl,rfl,h1,by rw [← h2.length];exact hi,by rw [← h2.length];exact hl,hb,k .non _ _ _ rfl (r.wrote (ys:=ys.take i ++ y :: ys.drop i) ja h1 ((h2.take i).append (show aL X.K J H (y :: ys.drop i) (w :: ws.drop i) from ⟨w,_,rfl,rw',h2.drop i⟩))) (.wrote ja h1) q⟩⟩
end
def oU (ks:List (Str × Nat)) (τ:Sr):Sr:=ks.map λp=>(τ[p.2]?).getD none
theorem AF {K:PySem.W.Frag} {J:Hq} {H:Hp} {τ:Sr} {σ:L2.St} (r:k8 K J H τ σ) {x:PV} {v:V} (rx:cq K J H x v) (ks:List (Str × Nat)):k8 K J H (some x :: oU ks τ) (some v :: dO ks σ):=by
 refine ⟨by simp [oU,dO],λi y e=>?_⟩
 cases i with
 | zero=>rw [TJ] at e ⊢;cases e;exact ⟨v,rfl,rx⟩
 | succ i =>
  rw [SH] at e ⊢
  unfold oU at e
  unfold dO
  rw [Sb] at e ⊢
  cases ep:ks[i]? with
  | none=>rw [ep] at e;cases e
  | some p =>
   rw [ep] at e
   have e':(τ[p.2]?).getD none=some y:=Option.some.inj e
   have e2:τ[p.2]?=some (some y):=by
    cases q:τ[p.2]? with
    | none=>rw [q] at e';cases e'
    | some w=>rw [q] at e';exact congrArg some e'
   obtain ⟨v',h1,h2⟩:=r.get _ _ e2
   exact ⟨v',by show some ((σ[p.2]?).getD none)=_;rw [h1];rfl,h2⟩
def Sub (J J':Hq):Prop:=∀a o,J a=some o→J' a=some o
theorem Sub.put {J:Hq} {D:Addr} {o:HQ} (h:J D=none):Sub J (put J D o):=λa u e=>by
 have ne:a≠D:=by intro z;subst z;rw [h] at e;cases e
 rw [ar ne];exact e
def O3 (it:xX) (J1:Hq) (ks:List (Str × Nat)) (τ:Sr) (tc:k9) (te:dg) (c:PV→Bool) (g:PV→PV):Prop:=it.xs.length < sizeLine∧∀J',Sub J1 J'→it.ok J' ∧
 ∀x∈it.xs,tc (some x :: oU ks τ) J' (λb J2=>b=c x∧J2=J')∧(c x=true→te (some x :: oU ks τ) J' λy J2=>y=g x∧J2=J')
def y9 (wi:pP) (ks:List (Str × Nat)) (tc:k9) (te:dg):dg:=λτ J Q=>wi τ J λit J1=>∃(c:PV→Bool) (g:PV→PV),O3 it J1 ks τ tc te c g∧Q (.fl ((it.xs.filter c).map g)) J1
def K9 (wi:pP) (ks:List (Str × Nat)) (tc:k9) (te:dg):dg:=λτ J Q=>wi τ J λit J1=>∃(c:PV→Bool) (g:PV→PV),O3 it J1 ks τ tc te c g∧∀p,J1 p=none→Q (.ref p) (put J1 p (.lst ((it.xs.filter c).map g)))
def Az:k9:=λ_ J Q=>Q true J
section
variable {X:Cx} {G:G2}
theorem oF {α:Type} (c:α→Bool) {xs:List α} {i:Nat} {x:α} (h:xs[i]?=some x):(xs.take (i + 1)).filter c=(xs.take i).filter c ++ (if c x=true then [x] else []):=by
 rw [SK,h,TK]
 congr 1
 simp only [Option.toList_some,SJ,Um]
theorem uw {K:PySem.W.Frag} {ks:List (Str × Nat)} {tc:k9} {te:dg} {σ:L2.St} {H:Hp} {Q:VK} {τ:Sr} {J:Hq} (a2:vH K G τ J σ H) {it:xX} {J1:Hq} {I:It} {H1:Hp} (ir:sJ K it I J1 H1) (r1:Rep K J1 H1) (e1:Ext K J H J1 H1) {c:PV→Bool} {g:PV→PV}
  (w:O3 it J1 ks τ tc te c g)
  (q:∀D H2,H1 D=none→J1 D=none→Rep K (put J1 D (.lst ((it.xs.filter c).map g))) H2→Ext K J1 H1 (put J1 D (.lst ((it.xs.filter c).map g))) H2→Q (.ref D) H2) :
  ∀D,H1 D=none→∃W:Nat→Nat→Hp→Prop,(∃m,W 0 m (upd H1 D (.lst [])))∧∀i m H2,W i m H2→(I.stop i H2∧Q (.ref D) H2) ∨
   (I.go i H2∧∀v H3,I.yld i H2 v H3→LT K G tc (some v :: dO ks σ) H3 λb H4=>if b=true then LE K G te (some v :: dO ks σ) H4 λy H5=>∃ys,H5 D=some (.lst ys)∧ys.length < sizeLine∧∃m',m' < m∧W (i + 1) m' (upd H5 D (.lst (ys ++ [y]))) else ∃m',m' < m∧W (i + 1) m' H4):=by
 intro D hD
 obtain ⟨hlen,w⟩:=w
 have jD:J1 D=none:=r1.free hD
 refine ⟨λi m H2=>m=it.xs.length - i∧i≤it.xs.length∧Rep K (put J1 D (.lst (((it.xs.take i).filter c).map g))) H2∧Ext K J1 H1 (put J1 D (.lst (((it.xs.take i).filter c).map g))) H2,⟨_,rfl,SG _,r1.DL (xs:=[]) (vs:=[]) hD rfl,.laid hD⟩,?_⟩
 rintro i m H2 ⟨rfl,hi,r2,e2⟩
 obtain ⟨ok,ww⟩:=w _ (Sub.put (o:=.lst (((it.xs.take i).filter c).map g)) jD)
 by_cases hlt:i < it.xs.length
 ·refine .inr ⟨ir.go _ H2 e2 r2 ok i hlt,λv H3 y=>?_⟩
  obtain ⟨x,ex,rx,r3,e3⟩:=ir.yl _ H2 e2 r2 ok i hlt v H3 y
  obtain ⟨hc,he⟩:=ww x (R9 ex)
  have a3:vH K G (some x :: oU ks τ) _ (some v :: dO ks σ) H3:=⟨AF (a2.sl.ext ((e1.trans e2).trans e3)) rx ks,r3,((a2.ext.trans e1).trans e2).trans e3⟩
  refine ⟨_,_,_,a3,hc,λb J4 H4 r4 e4 ⟨eb,ej⟩=>?_⟩
  subst ej
  cases hb:c x with
  | false =>
   rw [eb,hb]
   simp only [Ss,if_false]
   refine ⟨_,by omega,rfl,hlt,?_⟩
   rw [oF c ex,hb]
   simp only [Ss,if_false,Tf]
   exact ⟨r4,(e2.trans e3).trans e4⟩
  | true =>
   rw [eb,hb]
   simp only [if_true]
   refine ⟨_,_,_,a3.go r4 e4,he hb,λz J5 u H5 rz r5 e5 ⟨ez,ej⟩=>?_⟩
   subst ej ez
   obtain ⟨ys,h5,ry⟩:=r5 D _ au
   have ll:ys.length≤i:=by
    rw [← ry.length,R6]
    exact Su (Ts _ _) (by rw [Sy];omega)
   have r6:=r5.wrote (ys:=((it.xs.take i).filter c).map g ++ [g x]) (vs:=ys ++ [u]) au h5 (ry.append (show aL K _ H5 [g x] [u] from ⟨u,[],rfl,rz,rfl⟩))
   have e6:=Ext.wrote (K:=K) (ys:=((it.xs.take i).filter c).map g ++ [g x]) (vs:=ys ++ [u]) (J:=put J1 D (.lst (((it.xs.take i).filter c).map g))) au h5
   rw [gj] at r6 e6
   refine ⟨ys,h5,by omega,_,by omega,rfl,hlt,?_⟩
   rw [oF c ex,hb,if_pos rfl,Sk]
   exact ⟨r6,(((e2.trans e3).trans e4).trans e5).trans e6⟩
 ·have ei:i=it.xs.length:=by omega
  subst ei
  rw [SO] at r2 e2 ok
  exact .inl ⟨ir.stop _ H2 e2 r2 ok,q D H2 hD jD r2 e2⟩
theorem freeze {K:PySem.W.Frag} {J1:Hq} {H2:Hp} {D:Addr} {xs:List PV} (jD:J1 D=none) (r:Rep K (put J1 D (.lst xs)) H2):cq K J1 H2 (.fl xs) (.ref D)∧Rep K J1 H2∧Ext K (put J1 D (.lst xs)) H2 J1 H2:=by
 obtain ⟨ys,h,ry⟩:=r D _ au
 have less:∀a,J1 a=put J1 D (.lst xs) a∨J1 a=none:=λa=>by
  by_cases e:a=D
  ·subst e;exact .inr jD
  ·rw [ar e];exact .inl rfl
 have e:=Ext.less (K:=K) (H:=H2) less
 exact ⟨⟨D,ys,rfl,.inl ⟨jD,.inl h⟩,e.iM ry⟩,r.less less,e⟩
theorem DO {wi:pP} {ks:List (Str × Nat)} {tc:k9} {te:dg}:∀σ H Q,LE X.K G (y9 wi ks tc te) σ H Q→HW (LI X.K G wi) ks (LT X.K G tc) (LE X.K G te) σ H Q:=λσ H Q ⟨τ,J,Q2,a2,h,k⟩ =>
 ⟨τ,J,_,a2,h,λit J1 I H1 ir r1 e1 ⟨c,g,w,q⟩=>uw (Q:=Q) a2 ir r1 e1 w λD H2 hD jD r2 e2=>let ⟨x1,x2,x3⟩:=freeze jD r2;k _ J1 _ H2 x1 x2 ((e1.trans e2).trans x3) q⟩
theorem DP {wi:pP} {ks:List (Str × Nat)} {tc:k9} {te:dg}:∀σ H Q,LE X.K G (K9 wi ks tc te) σ H Q→HW (LI X.K G wi) ks (LT X.K G tc) (LE X.K G te) σ H Q:=λσ H Q ⟨τ,J,Q2,a2,h,k⟩ =>
 ⟨τ,J,_,a2,h,λit J1 I H1 ir r1 e1 ⟨c,g,w,q⟩=>uw (Q:=Q) a2 ir r1 e1 w λD H2 hD jD r2 e2=>k (.ref D) _ _ H2 rfl r2 (e1.trans e2) (q D jD)⟩
theorem DN {wi:pP} {ks:List (Str × Nat)} {te:dg}:∀σ H Q,LE X.K G (y9 wi ks Az te) σ H Q→OW (LI X.K G wi) ks (LE X.K G te) σ H Q:=λσ H Q ⟨τ,J,Q2,a2,h,k⟩ =>
 ⟨τ,J,_,a2,h,λit J1 I H1 ir r1 e1 ⟨c,g,w,q⟩ D hD=>by
  obtain ⟨W,w0,turn⟩:=uw (Q:=Q) a2 ir r1 e1 w (λD H2 hD jD r2 e2=>let ⟨x1,x2,x3⟩:=freeze jD r2;k _ J1 _ H2 x1 x2 ((e1.trans e2).trans x3) q) D hD
  refine ⟨W,w0,λi m H2 hw=>?_⟩
  rcases turn i m H2 hw with z | ⟨go,z⟩
  ·exact .inl z
  ·refine .inr ⟨go,λv H3 y=>?_⟩
   obtain ⟨τ',J',Q',a',t',k'⟩:=z v H3 y
   have:=k' true J' H3 a'.hp .refl t'
   simpa using this⟩
variable {elt iter cnd:Expr} {x y:Str} {px py:Pos} {sc:Scope} {pos spos:Pos} {wi:pP} {te:dg} {tc:k9} {i:Nat}
theorem Jo (osc:Scope) (N:List Str) (ks:List (Str × Nat)) (hc:X.calm=true) (ho:X.env.scope=osc) (hN:X.N=N) (hi:RI X G (.Name x px) iter wi) (he:∀cl C s₀ H₀ fp pins,RE (f7 X sc cl C x ks s₀ H₀ fp pins) G elt te)
  (ok:de sc osc N x ks:=by decide +kernel) (hs:∀x,foldedSetIterable iter X.env x=pure x:=by intro _;rfl):RE X G (.ListComp elt [⟨.Name x px,iter,[],0⟩] sc pos) (y9 wi ks Az te) :=
 ⟨kK (IW osc N ks hc ho hN hi.run (λcl C s₀ H₀ fp pins=>(he cl C s₀ H₀ fp pins).run) ok hs) DN⟩
theorem wc {t:dg} {u:TE} (h:∀σ H Q,LE X.K G t σ H Q→u σ H Q):∀D σ H,LS X.K G (w6 t (JX i)) D σ H→u σ H λv H1=>D.nx (σ.set i (some v)) H1:=λD σ H ⟨τ,J,D2,a2,q,g⟩ =>
 h σ H _ ⟨τ,J,_,a2,q,λx J' v H' rx rr ee q=>g.nx _ J' _ H' ((a2.sl.ext ee).set i rx) rr ee q⟩
theorem Ld (osc:Scope) (N:List Str) (ks:List (Str × Nat)) (hc:X.calm=true) (ho:X.env.scope=osc) (hN:X.N=N) (hnd:X.N.Nodup) (hy:X.N[i]?=some y) (hl:Loc X.env.scope y) (hi:RI X G (.Name x px) iter wi) (he:∀cl C s₀ H₀ fp pins,RE (f7 X sc cl C x ks s₀ H₀ fp pins) G elt te) (hcn:∀cl C s₀ H₀ fp pins,RT (f7 X sc cl C x ks s₀ H₀ fp pins) G cnd tc)
  (ok:de sc osc N x ks:=by decide +kernel) (hs:∀x,foldedSetIterable iter X.env x=pure x:=by intro _;rfl) (hsw:swapsWith (.ListComp elt [⟨.Name x px,iter,[cnd],0⟩] sc pos) (some (.Name y py)) spos.line X.env=pure true:=by rfl) (hf:X.fn y=true∨X.env.scope.names.lookup y=some .local:=by first | exact .inl rfl | exact .inr rfl | assumption) :
  RS X G (.Assign [.Name y py] (.ListComp elt [⟨.Name x px,iter,[cnd],0⟩] sc pos) spos) (w6 (y9 wi ks tc te) (JX i)) :=
 ⟨yY (yZ osc N ks hc ho hN hnd hy hl hi.run (λcl C s₀ H₀ fp pins=>(he cl C s₀ H₀ fp pins).run) (λcl C s₀ H₀ fp pins=>Ap (hcn cl C s₀ H₀ fp pins).run) ok hs hsw hf) (wc DO)⟩
theorem HH (osc:Scope) (N:List Str) (ks:List (Str × Nat)) (hc:X.calm=true) (ho:X.env.scope=osc) (hN:X.N=N) (hnd:X.N.Nodup) (hy:X.N[i]?=some y) (hl:Loc X.env.scope y) (hi:RI X G (.Name x px) iter wi) (he:∀cl C s₀ H₀ fp pins,RE (f7 X sc cl C x ks s₀ H₀ fp pins) G elt te) (hcn:∀cl C s₀ H₀ fp pins,RT (f7 X sc cl C x ks s₀ H₀ fp pins) G cnd tc)
  (ok:de sc osc N x ks:=by decide +kernel) (hs:∀x,foldedSetIterable iter X.env x=pure x:=by intro _;rfl) (hsw:swapsWith (.ListComp elt [⟨.Name x px,iter,[cnd],0⟩] sc pos) (some (.Name y py)) spos.line X.env=pure true:=by rfl) (hf:X.fn y=true∨X.env.scope.names.lookup y=some .local:=by first | exact .inl rfl | exact .inr rfl | assumption) :
  RS X G (.Assign [.Name y py] (.ListComp elt [⟨.Name x px,iter,[cnd],0⟩] sc pos) spos) (w6 (K9 wi ks tc te) (JX i)) :=
 ⟨yY (yZ osc N ks hc ho hN hnd hy hl hi.run (λcl C s₀ H₀ fp pins=>(he cl C s₀ H₀ fp pins).run) (λcl C s₀ H₀ fp pins=>Ap (hcn cl C s₀ H₀ fp pins).run) ok hs hsw hf) (wc DP)⟩
end
end Ov
namespace Ov
open PySem PySem.Spec PyProof.Rows
section
open HT (lexLt)
def ly:List Str→List Str→Bool
 | [],[]=>false
 | [],_ :: _=>true
 | _ :: _,[]=>false
 | x :: xs,y :: ys=>if x=y then ly xs ys else decide (x.cps.toList < y.cps.toList)
theorem ni (x y:Str) (xs ys:List Str):ly (x :: xs) (y :: ys)=if x=y then ly xs ys else decide (x.cps.toList < y.cps.toList):=rfl
theorem mh:ly [] []=false:=rfl
theorem r8 (y:Str) (ys:List Str):ly [] (y :: ys)=true:=rfl
theorem rZ (x:Str) (xs:List Str):ly (x :: xs) []=false:=rfl
theorem Dg (A:Around) (s:Shared) (a:Str) (t:Tok) (c:Str) (u:Tok):∃e,SeqAt.EqAt A s (.str a t) (.str c u) e∧(e=true↔a=c) :=
 ⟨(a == c),SeqAt.EqAt.str_str a t c u,by simp⟩
theorem EB (A:Around) (s:Shared) (a:Str) (t:Tok) (c:Str) (u:Tok) (prog:Program) (w:World) (E:Value→Shared→Prop) (Q:Value→Shared→Prop) (h:Q (.bool (decide (a.cps.toList < c.cps.toList))) s) :
  wpAny (model prog w) A (richCompare .Lt (.str a t) (.str c u)) Q E s :=
 (PyProof.Rows.lt_str h:wpAny (model prog w) A (compareOp .Lt (.str a t) (.str c u)) Q E s)
open PySem.SeqAt
open PySem.AutoSeq1 (wpAny_loadPart')
open PySem.MeetsSeq PySem.MeetsSeq2 PySem.MeetsSeq3
theorem sH (l b:Addr) (items items2:Array Value) (n n2:Nat) (dd dd2:Option Addr) (sl sl2:Array (Option Value)) (ns ms:List Str) (hi:StrsAre items.toList ns) (hj:StrsAre items2.toList ms) :
  Meets (Builtin.«tuple.__lt__» ⟨[.ref l,.ref b],[]⟩)
   (λ_ R s=>s.heap.get? l=some { cls:=.type "tuple",dict:=dd,data:=.seq items n,slots:=sl }∧s.heap.get? b=some { cls:=.type "tuple",dict:=dd2,data:=.seq items2 n2,slots:=sl2 } ∧
    R (.ok (.ret (.bool (ly ns ms)))) s) :=
 .of_wp λprog w A R s h=>by
  obtain ⟨hp,g,d,tk,os⟩:=s;obtain ⟨hl,hb,h⟩:=h
  have f2:=AutoSeq1.sub_tuple_tuple
  have z1:items.size=ns.length:=by rw [← hi.length];simp
  have z2:items2.size=ms.length:=by rw [← hj.length];simp
  wp_walk using wpAny_loadPart' hl,wpAny_loadPart' hb,wpAny_forIn_list _ (λrest b s'=>b.1=none∧s'=⟨hp,g,d,tk,os⟩∧∃(vs ws:List Value) (ns' ms':List Str),rest=vs.zip ws ∧
   StrsAre vs ns'∧StrsAre ws ms'∧ns'.length + items2.size=ms'.length + items.size∧R (.ok (.ret (.bool (ly ns' ms')))) ⟨hp,g,d,tk,os⟩) _
  case turn =>
   rintro ⟨y,x⟩ rest b s' ⟨hb',rfl,vs,ws,ns',ms',hz,hvi,hwi,hlen,hR⟩
   cases hvi with
   | nil=>rw [List.zip_nil_left] at hz;cases hz
   | cons a t hvi' =>
    cases hwi with
    | nil=>rw [List.zip_nil_right] at hz;cases hz
    | cons c u hwi' =>
     rw [Uz] at hz
     injection hz with hyx hrest
     injection hyx with hy hx
     subst hy hx
     rw [ni] at hR
     simp only [Sv] at hlen
     obtain ⟨e,he,hiff⟩:=Dg A.in1 ⟨hp,g,d,tk,os⟩ a t c u
     refine wpAny_bind (he prog w _ _ ?_)
     cases e with
     | true =>
      rw [if_pos (hiff.mp rfl)] at hR
      wp_walk
      exact ⟨rfl,rfl,_,_,_,_,hrest,hvi',hwi',by omega,hR⟩
     | false =>
      rw [if_neg (λq=>absurd (hiff.mpr q) Sj)] at hR
      have hri:=EB A.in1 ⟨hp,g,d,tk,os⟩ a t c u prog w
      wp_walk using hri
      exact ⟨_,rfl,by simpa using hR⟩
  case fin =>
   rintro ⟨b1,b2⟩ s' ⟨hb',rfl,vs,ws,ns',ms',hz,hvi,hwi,hlen,hR⟩
   simp only at hb'
   subst hb'
   have hv:ly ns' ms'=decide (items.size < items2.size):=by
    cases hvi with
    | nil =>
     cases hwi with
     | nil =>
      simp only [T4] at hlen
      rw [mh]
      exact (decide_eq_false (by omega)).symm
     | cons c u hw =>
      simp only [T4,Sv] at hlen
      rw [r8]
      exact (decide_eq_true (by omega)).symm
    | cons a t hv =>
     cases hwi with
     | nil =>
      simp only [T4,Sv] at hlen
      rw [rZ]
      exact (decide_eq_false (by omega)).symm
     | cons c u hw =>
      rw [Uz] at hz
      cases hz
   rw [hv] at hR
   wp_walk
   exact ⟨_,rfl,by simpa [Builtin.Tuple.tupleCompareSizes] using hR⟩
  case h =>
   exact ⟨rfl,rfl,items.toList,items2.toList,ns,ms,rfl,hi,hj,by omega,h⟩
section
variable {prog:Program} {w:World} {A:Around} {E:Value→Shared→Prop} {s:Shared}
theorem yD {l b:Addr} {items items2:Array Value} {ns ms:List Str} {Q:Value→Shared→Prop} (hl:IsTup s.heap l items) (hb:IsTup s.heap b items2) (hi:StrsAre items.toList ns) (hj:StrsAre items2.toList ms)
  (hu:A.units < cLine) (h:Q (.bool (ly ns ms)) s):wpAny (model prog w) A (compareOp .Lt (.ref l) (.ref b)) Q E s:=by
 obtain ⟨⟨cls,dd,data,sl⟩,ho,hc,n,hd⟩:=id hl
 obtain ⟨⟨cls2,dd2,data2,sl2⟩,ho2,hc2,n2,hd2⟩:=id hb
 simp only at hc hd hc2 hd2
 subst hc hd hc2 hd2
 exact richCompare_meets_room (op:=.Lt) ⟨_,ho,rfl⟩ ⟨_,ho2,rfl⟩ PySem.F.slot_tuple_lt PySem.F.entry_tuple_lt (PySem.F.args_tuple_lt_2 _ _) (sH l b items items2 n n2 dd dd2 sl sl2 ns ms hi hj)
  ⟨ho,ho2,show Value.bool (ly ns ms)≠Value.notImplemented∧Q (.bool (ly ns ms)) s from ⟨(λx=>nomatch x),h⟩⟩ hu
end
end
open L2 (V HO Hp Inv Cx VK XK TE TT TA TS TG oi TI TO il Ends sL Loc Gl Rd RelV Vals er t_ bS og pO oJ ij R2 upd aA aF cP fv Sp oV It bq cJ bK Passes mS aI Meth Mk Binds aJ cm av cV fb dX)
section
variable {X:Cx} {K:PySem.W.Frag}
theorem GZ (hu:X.A.units < cLine):er X (compareOp .Lt) (λx y H Q=>∃a b ns ms,x=.ref a∧y=.ref b∧fv X.K H a (ns.map V.str)∧fv X.K H b (ms.map V.str)∧Q (.bl (ly ns ms)) H):=by
 intro pins s σ H x y v u Q I rx ry h
 obtain ⟨a,b,ns,ms,rfl,rfl,ha,hb,q⟩:=h
 cases rx;cases ry
 obtain ⟨is,r1,t1,_⟩:=I.tuple ha
 obtain ⟨js,r2,t2,_⟩:=I.tuple hb
 exact yD t1 t2 (by simpa using i4 r1) (by simpa using i4 r2) hu ⟨.bl _,H,I,rfl,q⟩
theorem q_ {J:Hq} {H:Hp}:∀{ns:List Str} {vs:List V},aL K J H (ns.map PV.str) vs→vs=ns.map V.str
 | [],_,h=>h
 | n :: ns,_,⟨v,us,e,h,k⟩=>by subst e;cases h;rw [q_ k];rfl
def Jb:k6:=λx y J Q=>∃ns ms,x=.tup (ns.map .str)∧y=.tup (ms.map .str)∧Q (.bl (ly ns ms)) J
theorem G5 (hu:X.A.units < cLine):kG X (compareOp .Lt) Jb:=⟨_,GZ hu,λJ H x y v w Q2 Q rx ry r ⟨ns,ms,ex,ey,q⟩ k=>by
 subst ex ey
 obtain ⟨a,vs,rfl,h1,h2⟩:=rx
 obtain ⟨b,ws,rfl,h3,h4⟩:=ry
 cases q_ h2;cases q_ h4
 exact ⟨a,b,ns,ms,rfl,rfl,h1,h3,k (.bl _) J _ H rfl r .refl q⟩⟩
theorem GY:er X (binaryOp .Add) (λx y H Q=>∃l b xs zs,x=.ref l∧y=.ref b∧cP X.K H l xs∧cP X.K H b zs∧xs.length + zs.length≤sizeLine∧∀p,H p=none→Q (.ref p) (upd H p (.lst (xs ++ zs)))):=by
 intro pins s σ H x y v u Q I rx ry h
 obtain ⟨l,b,xs,zs,rfl,rfl,hH,hB,hz,q⟩:=h
 cases rx;cases ry
 obtain ⟨its,r,pl,_⟩:=I.list hH
 obtain ⟨its2,r2,pl2,_⟩:=I.list hB
 have l1:=r.length
 have l2:=r2.length
 obtain ⟨⟨c1,d1,da1,sl1⟩,n,e,hc,hd,hda⟩:=pl
 obtain ⟨⟨c2,d2,da2,sl2⟩,n2,e2,hc2,hd2,hda2⟩:=pl2
 simp only at hc hd hda hc2 hd2 hda2
 subst hc hd hda hc2 hd2 hda2
 refine concat_meets ⟨_,e,rfl⟩ ⟨_,e2,rfl⟩ noFill_list_add seq_list_add PySem.F.slot_list_add PySem.F.entry_list_add (PySem.F.args_list_add_2 _ _) (list_addW l b its.toArray its2.toArray n n2 none none sl1 sl2 (by simp only [Sa];omega)) ⟨e,e2,?_⟩
 have ea:its.toArray ++ its2.toArray=(its ++ its2).toArray:=by simp
 rw [ea]
 exact ⟨.ref _,_,I.M6 (t':=s.toks) (r.append r2) (by rw [So];omega),rfl,q _ I.fresh⟩
def IZ:k6:=λx y J Q=>∃xs ys,lA J x=some xs∧lA J y=some ys∧xs.length + ys.length≤sizeLine∧Q (.fl (xs ++ ys)) J
theorem uN:kG X (binaryOp .Add) IZ:=⟨_,GY,λJ H x y v w Q2 Q rx ry r ⟨xs,ys,ex,ey,hl,q⟩ k=>by
 obtain ⟨a,vs,rfl,h1,h2⟩:=kj rx r ex
 obtain ⟨b,ws,rfl,h3,h4⟩:=kj ry r ey
 refine ⟨a,b,vs,ws,rfl,rfl,h1,h3,by rw [← h2.length,← h4.length];exact hl,λp hp=>?_⟩
 obtain ⟨x1,x2,x3⟩:=nk r (h2.append h4) hp
 exact k _ J _ _ x1 x2 x3 q⟩
end
def eA (K:PySem.W.Frag) (C:Addr) (m qual:Str) (st:Stmt):Prop:=∃f fd,Meth K C m f∧cm K m qual st f fd
structure eu (K:PySem.W.Frag) (mg:Str→Option Value) (x:Str) (C:Addr):Prop where
 cl:mS K C
 m:mg x=some (.ref C)
 mkz:PySem.W.makesIn K C=true
 kp:PySem.W.keepIn K (.ref C)=true
theorem bH {K:PySem.W.Frag} {C f:Addr} {m qual:Str} {st:Stmt} {od an:Option Addr} {sl:Array (Option Value)} {oc kV dc pm cd ct:Value} (a:PySem.W.findIn K (.ref C) m=some (some (.ref f))) (i:PySem.W.isFn K (.ref f)=true)
  (l:K.lookup f=some ⟨oc,od,.func (PySem.W.fnOf m qual (L2.di st) (L2.bR st) (L2.aj st) .none kV dc pm an cd ct),sl⟩) (c:PySem.W.codeIn K cd qual=true) (k:PySem.W.keepIn K (.ref f)=true):eA K C m qual st :=
 ⟨f,_,⟨a,i,k⟩,L2.yr l c k⟩
theorem ur {K:PySem.W.Frag} {h:Heap} {mg:Str→Option Value} {x:Str} {C:Addr} (X:K.In h) (G:h.Ns mainGlobals mg) (aC:PySem.W.nsIn K mainGlobals x=some (some (.ref C)))
  (pg:PySem.W.plainGet K C Str.empty=true) (hd:PySem.W.hasDictIn K C=true) (po:PySem.W.plainOver K C=true) (sa:PySem.W.findIn K (.ref C) "__setattr__"=some (some (.builtin "object.__setattr__"))) (mk:PySem.W.makesIn K C=true) (kc:PySem.W.keepIn K (.ref C)=true):eu K mg x C :=
 ⟨⟨pg,hd,po,sa⟩,PySem.W.mg_of X G aC,mk,kc⟩
section
variable {P:Program} {w:World} {K:PySem.W.Frag} {mg:Str→Option Value} {base:Heap}
theorem eA.tE {C:Addr} {m qual:Str} {st:Stmt} {k:Nat} {ps:List Str} {sp:cI} (D:eA K C m qual st) (cl:mS K C) (h:∀f fd,cm K m qual st f fd→aJ P w K mg base (cY P w) k f fd ps (dI K sp))
  (hb:∀(kV doc pm:Value) (an:Option Addr) (cdv ct:Value) (us:List Value),us.length=ps.length→bindArgs (PySem.W.fnOf m qual (L2.di st) (L2.bR st) (L2.aj st) .none kV doc pm an cdv ct) ⟨us,[]⟩=pure (ps.zip us)):dk P w K mg base C k m ps sp:=by
 obtain ⟨f,fd,hm,F⟩:=D
 exact ⟨cl,f,fd,hm,h f fd F,F.binds hb⟩
theorem eA.PR {x:Str} {C:Addr} {qual:Str} {st:Stmt} {k:Nat} {ps:List Str} {sp:cI} (D:eA K C "__init__" qual st) (kd:eu K mg x C) (h:∀f fd,cm K "__init__" qual st f fd→aJ P w K mg base (cY P w) k f fd ps (dI K sp))
  (hb:∀(kV doc pm:Value) (an:Option Addr) (cdv ct:Value) (us:List Value),us.length=ps.length→bindArgs (PySem.W.fnOf "__init__" qual (L2.di st) (L2.bR st) (L2.aj st) .none kV doc pm an cdv ct) ⟨us,[]⟩=pure (ps.zip us)):x8 P w K mg base C k x ps sp:=by
 obtain ⟨f,fd,hm,F⟩:=D
 exact ⟨kd.m,f,fd,⟨kd.mkz,hm.at_,hm.fn,kd.kp⟩,h f fd F,F.binds hb⟩
end
theorem Mh {n:Nat} {F:List Value→Prop} (h:∀a us,us.length=n→F (a :: us)) (us:List Value) (hu:us.length=n + 1):F us:=by
 cases us with
 | nil=>cases hu
 | cons a us=>exact h a us (Nat.succ.inj hu)
theorem RH {F:List Value→Prop} (h:F []) (us:List Value) (hu:us.length=0):F us:=by
 cases us with
 | nil=>exact h
 | cons a us=>cases hu
theorem zD {F:List Value→Prop} (h:∀a,F [a]):∀us:List Value,us.length=1→F us:=Mh λa=>RH (F:=λus=>F (a :: us)) (h a)
theorem i7 {F:List Value→Prop} (h:∀a b,F [a,b]):∀us:List Value,us.length=2→F us:=Mh λa=>zD (F:=λus=>F (a :: us)) (h a)
theorem OI {F:List Value→Prop} (h:∀a b c,F [a,b,c]):∀us:List Value,us.length=3→F us:=Mh λa=>i7 (F:=λus=>F (a :: us)) (h a)
theorem LV {F:List Value→Prop} (h:∀a b c d,F [a,b,c,d]):∀us:List Value,us.length=4→F us:=Mh λa=>OI (F:=λus=>F (a :: us)) (h a)
theorem O9 {F:List Value→Prop} (h:∀a b c d e,F [a,b,c,d,e]):∀us:List Value,us.length=5→F us:=Mh λa=>LV (F:=λus=>F (a :: us)) (h a)
end Ov
namespace Ov
open PySem PySem.Spec PyProof.Rows
open L2 (V HO Hp Inv Cx VK XK Rd cP fv Sp bq bK Passes aJ cm av cV upd aA aF)
def fr (q:Rat):PV:=.tup [.int q.num,.int (q.den:Int)]
theorem JV (a b:Rat):(fr a=fr b)=(a=b):=by
 apply propext
 constructor
 ·intro h
  unfold fr at h
  simp only [PV.tup.injEq,List.cons.injEq,PV.int.injEq,and_true] at h
  exact Rat.ext h.1 (by have:=h.2;omega)
 ·intro h;rw [h]
theorem Iy (a:Rat):fr a=.tup [.int a.num,.int (a.den:Int)]:=rfl
theorem Ka (J:Hq) (q:Rat):vI J (fr q) (.int 0)=some (.int q.num):=l5 _ _
theorem Kb (J:Hq) (q:Rat):vI J (fr q) (.int 1)=some (.int (q.den:Int)):=l6 _ _ _
theorem Oy (J:Hq) (q:Rat):A_ J (fr q)=some "tuple":=rfl
theorem Kj (J:Hq) (q:Rat):wg J (fr q)=some 2:=rfl
theorem y8 (q:Rat):lG (fr q)=true:=by simp [fr,lG,ia]
theorem p9 (q:Rat):DA (fr q)=false:=rfl
theorem JT (q:Rat):dep (fP (fr q))=1:=by simp [fr,fP,fh,dep,dG]
theorem Mu (q:Rat):F7 (fr q)=True:=eq_true ⟨y8 q,by rw [JT];decide⟩
theorem JM (i:Int):F7 (.int i)=True:=eq_true ⟨by simp [lG],by simp [fP,dep]⟩
theorem JO (i:Str):F7 (.str i)=True:=eq_true ⟨by simp [lG],by simp [fP,dep]⟩
theorem Mt (i:Bool):F7 (.bl i)=True:=eq_true ⟨by simp [lG],by simp [fP,dep]⟩
theorem JN:F7 .non=True:=eq_true ⟨by simp [lG],by simp [fP,dep]⟩
theorem Hr (i:Int):lG (.int i)=true:=by simp [lG]
theorem uT (i:Str):lG (.str i)=true:=by simp [lG]
theorem y6 (i:Bool):lG (.bl i)=true:=by simp [lG]
theorem Hs:lG .non=true:=by simp [lG]
theorem Ht (xs:List PV):lG (.tup xs)=ia xs:=by simp [lG]
theorem El (xs:List PV):lG (.fl xs)=ia xs:=by simp [lG]
theorem nF (x:PV) (xs:List PV):ia (x :: xs)=(lG x && ia xs):=by simp [ia]
theorem wY:ia []=true:=by simp [ia]
theorem wX {α:Type} (g:α→PV) (h:∀a,lG (g a)=true):∀xs:List α,ia (xs.map g)=true
 | []=>by simp [ia]
 | x :: xs=>by simp [ia,h,wX g h xs]
theorem eq_int (a b:Int):eqQ (.int a) (.int b)=decide (a=b):=by unfold eqQ fP kg;rw [Uo]
theorem eq_str (a b:Str):eqQ (.str a) (.str b)=decide (a=b):=by
 unfold eqQ fP kg
 cases h:a == b with
 | true=>simp at h;simp [h]
 | false=>simp at h;simp [h]
theorem Mx (a b:Bool):eqQ (.bl a) (.bl b)=decide (a=b):=by unfold eqQ fP kg;rw [Uo]
def yo (xs ys:List PV):Bool:=jz (fh xs) (fh ys)
theorem yp (xs ys:List PV):eqQ (.tup xs) (.tup ys)=yo xs ys:=by unfold eqQ fP kg yo;rfl
theorem fz (x y:PV) (xs ys:List PV):yo (x :: xs) (y :: ys)=(eqQ x y && yo xs ys):=by unfold yo eqQ;simp [fh,jz]
theorem ui:yo [] []=true:=by unfold yo;simp [fh,jz]
theorem eq_self (x:PV):eqQ x x=true:=vY _
theorem Iv (a b:Rat):eqQ (fr a) (fr b)=decide (a=b):=by
 rw [Iy,Iy,yp,fz,fz,ui,eq_int,eq_int,Tx,← T5]
 exact decide_eq_decide.mpr (by rw [HD])
theorem R4 (a b c:PV):jx [a,b,c] (some 1) none=[b,c]:=rfl
theorem Lz:lS "int" "int"=some true:=by simp [lS]
theorem Ig:lS "int" "bool"=some false:=by simp [lS]
theorem OA:lS "bool" "bool"=some true:=by simp [lS]
theorem LB:lS "str" "str"=some true:=by simp [lS]
theorem LC:lS "tuple" "tuple"=some true:=by simp [lS]
theorem Ih:lS "list" "list"=some true:=by simp [lS]
theorem dj {n:Nat} (h:n≤1000):n≤sizeLine:=T8 (L2.ba h)
theorem MR:(0≤sizeLine)=True:=eq_true (SG _)
theorem MS:(1≤sizeLine)=True:=eq_true (dj (by decide))
theorem MT:(2≤sizeLine)=True:=eq_true (dj (by decide))
theorem MU:(3≤sizeLine)=True:=eq_true (dj (by decide))
theorem MV:(4≤sizeLine)=True:=eq_true (dj (by decide))
section
variable (J:Hq) (xs:List PV) (a:Addr) (i:Int) (b:Bool) (z:Str) (T:String)
theorem PB:vI J (.tup xs) (.int i)=cV xs i:=rfl
theorem Pz:vI J (.fl xs) (.int i)=cV xs i:=rfl
theorem MK:vI J (.ref a) (.int i)=(match J a with | some (.lst xs)=>cV xs i | _=>none):=rfl
theorem PM:lA J (.fl xs)=some xs:=rfl
theorem PN:lA J (.ref a)=(match J a with | some (.lst xs)=>some xs | _=>none):=rfl
theorem MQ:wg J (.tup xs)=some xs.length:=rfl
theorem MP:wg J (.fl xs)=some xs.length:=rfl
theorem IF:wg J (.ref a)=(match J a with | some (.lst xs)=>some xs | _=>none).map Tc:=rfl
theorem Qw:A_ J .non=some "NoneType":=rfl
theorem Ox:A_ J (.bl b)=some "bool":=rfl
theorem Qv:A_ J (.int i)=some "int":=rfl
theorem Qx:A_ J (.str z)=some "str":=rfl
theorem Qy:A_ J (.tup xs)=some "tuple":=rfl
theorem Qu:A_ J (.fl xs)=some "list":=rfl
theorem Oz:A_ J (.ref a)=(match J a with | some (.lst _)=>some "list" | some (.dct _ _)=>some "dict" | _=>none):=rfl
theorem Om:vG J .non=some false:=rfl
theorem Ju:vG J (.bl b)=some b:=rfl
theorem Ol:vG J (.int i)=some (i != 0):=rfl
theorem Oq:vG J (.tup xs)=some (!xs.isEmpty):=rfl
theorem Oj:vG J (.fl xs)=some (!xs.isEmpty):=rfl
theorem Oo:vG J (.ref a)=(match J a with | some (.lst xs)=>some (!xs.isEmpty) | some (.dct kvs _)=>some (!kvs.isEmpty) | _=>none):=rfl
theorem Pw:ON J (.fl xs)=some ⟨xs,λ_=>True⟩:=rfl
theorem Px:ON J (.ref a)=(match J a with | some (.lst xs)=>some ⟨xs,λJ'=>J' a=some (.lst xs)⟩ | _=>none):=rfl
theorem MF:DA .non=true:=rfl
theorem Po:DA (.bl b)=false:=rfl
theorem Pq:DA (.int i)=false:=rfl
theorem Pt:DA (.str z)=false:=rfl
theorem Pu:DA (.tup xs)=false:=rfl
theorem Pp:DA (.fl xs)=false:=rfl
theorem Pr:DA (.ref a)=false:=rfl
theorem Qp:L8 T J (.fl xs)=(T="list"):=rfl
theorem Qr:L8 T J (.str z)=(T="str"):=rfl
theorem Qq:L8 T J (.ref a)=((T="list"∧∃xs,J a=some (.lst xs))∨(T="dict"∧∃kvs ep,J a=some (.dct kvs ep))):=rfl
end
def Fo (it:xX) (g:yc) (tb:ip) (D:En) (τ:Sr) (J1:Hq):Prop:=∃Pv:Nat→Sr→Hq→Prop,Pv 0 τ J1∧(∀i τ J,Pv i τ J→it.ok J) ∧
 (∀i x τ J,it.xs[i]?=some x→Pv i τ J→g x τ J λτ2 J2=>tb { D with nx:=Pv (i + 1),ct:=Pv (i + 1),bk:=D.nx } τ2 J2)∧∀τ J,Pv it.xs.length τ J→D.nx τ J
theorem Hx (wi:pP) (g:yc) (tb:ip) (D:En) (τ:Sr) (J:Hq):NP wi g tb D τ J=wi τ J λit J1=>Fo it g tb D τ J1:=rfl
theorem oX {lo:Int} {n:Nat} {g:yc} {tb:ip} {D:En} {τ:Sr} {J1:Hq} (Pv:Nat→Sr→Hq→Prop) (h0:Pv 0 τ J1)
  (hs:∀(i:Nat) τ J,i < n→Pv i τ J→g (.int (lo + (i:Int))) τ J λτ2 J2=>tb { D with nx:=Pv (i + 1),ct:=Pv (i + 1),bk:=D.nx } τ2 J2) (hd:∀τ J,Pv n τ J→D.nx τ J):Fo ⟨uo lo n,λ_=>True⟩ g tb D τ J1 :=
 ⟨Pv,h0,λ_ _ _ _=>trivial,λi x τ J e p=>by obtain ⟨a,b⟩:=(wb lo n i x).mp e;subst b;exact hs i τ J a p,λτ J p=>hd τ J (by simpa [mf] using p)⟩
structure bT (mg:Str→Option Value):Prop extends Cz mg where
 str:mg "str"=none
 dict:mg "dict"=none
 max:mg "max"=none
 zip:mg "zip"=none
 enumerate:mg "enumerate"=none
def mU (J' J:Hq):Prop:=∀a,J' a=J a∨J' a=none
def Fg (Q:PV→Hq→Prop) (v:PV) (J:Hq):Prop:=∃x J',mU J' J∧(x=v∨∃a xs,v=.ref a∧x=.fl xs∧J a=some (.lst xs)∧J' a=none)∧Q x J'
theorem Fg.same {Q:PV→Hq→Prop} {v:PV} {J:Hq} (h:Q v J):Fg Q v J:=⟨v,J,λ_=>.inl rfl,.inl rfl,h⟩
theorem Fg.less {Q:PV→Hq→Prop} {v:PV} {J J':Hq} (l:mU J' J) (h:Q v J'):Fg Q v J:=⟨v,J',l,.inl rfl,h⟩
theorem Fg.oY {Q:PV→Hq→Prop} {a:Addr} {xs:List PV} {J J':Hq} (l:mU J' J) (ha:J a=some (.lst xs)) (hn:J' a=none) (h:Q (.fl xs) J'):Fg Q (.ref a) J:=⟨.fl xs,J',l,.inr ⟨a,xs,rfl,rfl,ha,hn⟩,h⟩
section
variable {P:Program} {w:World} {K:PySem.W.Frag} {mg:Str→Option Value} {base:Heap}
theorem Fg.kn {J:Hq} {H:Hp} {Q2:PV→Hq→Prop} {Q:VK} (k:Kn K J H Q2 Q):Kn K J H (Fg Q2) Q:=λz J1 u H1 rz r1 e1 ⟨x,J',l,hx,q⟩=>by
 have el:=Ext.less (K:=K) (H:=H1) l
 rcases hx with rfl | ⟨a,xs,rfl,rfl,ha,hn⟩
 ·exact k x J' u H1 (el.rep rz) (r1.less l) (e1.trans el) q
 ·cases rz
  obtain ⟨vs,h1,h2⟩:=r1 _ _ ha
  exact k (.fl xs) J' _ H1 ⟨a,vs,rfl,.inl ⟨hn,.inl h1⟩,el.iM h2⟩ (r1.less l) (e1.trans el) q
theorem RV {x qual:Str} {st:Stmt} {f:Addr} {fd:FuncData} {N ps:List Str} {k:Nat} {sp:cI} (F:cm K x qual st f fd) (S:av N ps (L2.aj st)) (len:∀xs J Q E,sp xs J Q E→xs.length=ps.length)
  (hbody:∀(cdv:Value) (A:Around) (outer:List Env) (s:Shared) (H:Hp) (E:XK) (G:G2) (xs:List PV) (J:Hq) (Q:PV→Hq→Prop) (E2:Addr→Hq→Prop),bK k (A.deeper (envOfC qual (L2.aj st) s.heap.objs.size f cdv))→sp xs J Q E2 →
   Bp (xH P w K mg base N qual (L2.aj st) f cdv A outer s H E) G E2 E →
   ∃t,RB (xH P w K mg base N qual (L2.aj st) f cdv A outer s H E) G (L2.bR st) t∧t { nx:=λ_ J'=>Fg Q .non J',rt:=Fg Q } (vC N xs) J):aJ P w K mg base (cY P w) (k + 1) f fd ps (dI K sp):=by
 have:=P1 (sp:=λxs J Q E=>∃Q0,Q=Fg Q0∧sp xs J Q0 E) F S (λxs J Q E ⟨Q0,_,h⟩=>len xs J Q0 E h) (λcdv A outer s H E G xs J Q E2 hr ⟨Q0,eq,h⟩ B=>by subst eq;exact hbody cdv A outer s H E G xs J Q0 E2 hr h B)
 exact this.imp λvs H Q E ⟨xs,J,Q2,E2,a,b,c,d,e⟩=>⟨xs,J,Fg Q2,E2,a,b,⟨Q2,rfl,c⟩,Fg.kn d,e⟩
end
section
variable {P:Program} {w:World} {K:PySem.W.Frag} {mg:Str→Option Value} {base:Heap}
theorem P0 {x qual:Str} {st:Stmt} {f:Addr} {fd:FuncData} {N ps:List Str} {k:Nat} {sp:cI} {t:(Addr→Hq→Prop)→ip} (F:cm K x qual st f fd) (S:av N ps (L2.aj st)) (len:∀xs J Q E,sp xs J Q E→xs.length=ps.length)
  (rd:∀(cdv:Value) (A:Around) (outer:List Env) (s:Shared) (H:Hp) (E:XK) (G:G2) (E2:Addr→Hq→Prop),bK k (A.deeper (envOfC qual (L2.aj st) s.heap.objs.size f cdv)) →
   Bp (xH P w K mg base N qual (L2.aj st) f cdv A outer s H E) G E2 E→RB (xH P w K mg base N qual (L2.aj st) f cdv A outer s H E) G (L2.bR st) (t E2))
  (run:∀(xs:List PV) (J:Hq) (Q:PV→Hq→Prop) (E2:Addr→Hq→Prop),sp xs J Q E2→∀X:Prop,(t E2 { nx:=λ_ J'=>Fg Q .non J',rt:=Fg Q } (vC N xs) J→X)→X):aJ P w K mg base (cY P w) (k + 1) f fd ps (dI K sp) :=
 RV F S len λcdv A outer s H E G xs J Q E2 hr h B=>⟨_,rd cdv A outer s H E G E2 hr B,run xs J Q E2 h _ id⟩
end
theorem Pe {X:Cx} {G:G2}:Bp X G (λ_ _=>False) L2.E0:=⟨λ_ _ _ _ _ _ _ ⟨_,_,_,_,_,z⟩=>z.elim,λ_ _ _ _ _ z=>z.elim⟩
theorem nI {K:PySem.W.Frag} {J:Hq} {H:Hp}:∀ns:List Int,aL K J H (ns.map PV.int) (ns.map V.int)
 | []=>rfl
 | n :: ns=>⟨_,_,rfl,rfl,nI ns⟩
end Ov
namespace Ov
open PySem PySem.Spec PyProof.Rows L2
theorem Mj {α:Type} (a b c d e:α) (xs:List α):cV (a :: b :: c :: d :: e :: xs) 4=some e:=aY (j:=4) rfl
theorem Ml {α:Type} (a b c d e f:α) (xs:List α):cV (a :: b :: c :: d :: e :: f :: xs) 5=some f:=aY (j:=5) rfl
theorem Mm {α:Type} (a b c d e f g:α) (xs:List α):cV (a :: b :: c :: d :: e :: f :: g :: xs) 6=some g:=aY (j:=6) rfl
theorem Mn {α:Type} (a b c d e f g h:α) (xs:List α):cV (a :: b :: c :: d :: e :: f :: g :: h :: xs) 7=some h:=aY (j:=7) rfl
theorem Mo {α:Type} (a b c d e f g h i:α) (xs:List α):cV (a :: b :: c :: d :: e :: f :: g :: h :: i :: xs) 8=some i:=aY (j:=8) rfl
theorem Mp {α:Type} (a b c d e f g h i j:α) (xs:List α):cV (a :: b :: c :: d :: e :: f :: g :: h :: i :: j :: xs) 9=some j:=aY (j:=9) rfl
theorem JI {α:Type} (a b c d e f g h i j k:α) (xs:List α):cV (a :: b :: c :: d :: e :: f :: g :: h :: i :: j :: k :: xs) 10=some k:=aY (j:=10) rfl
theorem JJ {α:Type} (a b c d e f g h i j k l:α) (xs:List α):cV (a :: b :: c :: d :: e :: f :: g :: h :: i :: j :: k :: l :: xs) 11=some l:=aY (j:=11) rfl
theorem MW:(5≤sizeLine)=True:=eq_true (dj (by decide))
theorem MX:(6≤sizeLine)=True:=eq_true (dj (by decide))
theorem MY:(7≤sizeLine)=True:=eq_true (dj (by decide))
theorem MZ:(8≤sizeLine)=True:=eq_true (dj (by decide))
theorem M0:(9≤sizeLine)=True:=eq_true (dj (by decide))
theorem Kk:(10≤sizeLine)=True:=eq_true (dj (by decide))
theorem Kl:(11≤sizeLine)=True:=eq_true (dj (by decide))
theorem Km:(12≤sizeLine)=True:=eq_true (dj (by decide))
theorem mJ {ss:List Int} (h:ss.all (λs=>decide (0 < s) && decide (s < 2 ^ 63))=true):∀s∈ss,0 < s∧Bd 9000 s:=λs hs=>by
 have:=Tn.mp h s hs
 rw [SA,decide_eq_true_eq,decide_eq_true_eq] at this
 exact ⟨this.1,(Bd.small (by omega) (by omega)).mono (by decide)⟩
theorem Sz.div {n:Nat} {t b:Int} (ht:Bd n t) (hb:Bd n b) (h:b≠0):Sz n (Rat.divInt t b):=⟨ht.le (Ag t b),hb.le (uh h)⟩
end Ov
namespace Ov
open PySem PySem.Spec PyProof.Rows
open L2 (V HO Hp Inv Cx VK XK TE TT TA TS TG oi TI TO il Ends sL Loc Gl Rd RelV Vals er t_ bS og pO oJ ij R2 upd aA aF cP fv Sp oV It bq cJ bK Passes mS aI Meth Mk Binds aJ cm av cV fb dX)
section
variable {X:Cx} {G:G2}
abbrev Bw:=PV→PV→PV→Hq→(Hq→Prop)→Prop
def O6 (X:Cx) (q:Bw):Prop:=∃r,ij X r∧∀J H o i y ov iv u R2 R,cq X.K J H o ov→cq X.K J H i iv→cq X.K J H y u→Rep X.K J H→q o i y J R2→(∀J' H',Rep X.K J' H'→Ext X.K J H J' H'→R2 J'→R H')→r ov iv u H R
def Pj (to ti:dg) (t:Bw):yc:=λy τ J R=>to τ J λo J1=>ti τ J1 λi J2=>t o i y J2 λJ3=>R τ J3
theorem La {o i:Expr} {to ti:dg} {t:Bw} {pos:Pos} (hs:O6 X t) (ho:RE X G o to) (hi:RE X G i ti)
  (ha:∀v,assign (.Subscript o i pos) X.env v=(do
   let ov ← holding [v] (eval o X.env)
   let iv ← holding [v,ov] (eval i X.env)
   standAt pos
   holding [v,ov,iv] (setItem ov iv v)
   release [v,ov,iv] []):=by intro _;rfl):RG X G (.Subscript o i pos) (Pj to ti t):=by
 obtain ⟨r,hr,lf⟩:=hs
 exact ⟨P9 (L2.uO ho.run hi.run hr ha) λv σ H Q ⟨y,τ,J,Q2,ry,a2,h,k⟩ =>
  ⟨τ,J,_,a2,h,λx J1 ov H1 rx r1 e1 h1=>⟨τ,J1,_,a2.go r1 e1,h1,λz J2 iv H2 rz r2 e2 h2 =>
   lf J2 H2 x z y ov iv v _ _ (e2.rep rx) rz (e2.rep (e1.rep ry)) r2 h2 λJ3 H3 r3 e3 q=>k τ J3 σ H3 ((((a2.sl.ext e1).ext e2).ext e3)) r3 ((e1.trans e2).trans e3) q⟩⟩⟩
def NI:Bw:=λo i y J R=>∃p xs k j,o=.ref p∧i=.int k∧J p=some (.lst xs)∧L2.DE xs.length k=some j∧R (put J p (.lst (xs.set j y)))
theorem u_ {o i e:Expr} {to ti te:dg} {t:Bw} {pos pos':Pos} (hs:O6 X t) (ho:RE X G o to) (hi:RE X G i ti) (he:RE X G e te)
  (ha:∀v,assign (.Subscript o i pos') X.env v=(do
   let ov ← holding [v] (eval o X.env)
   let iv ← holding [v,ov] (eval i X.env)
   standAt pos'
   holding [v,ov,iv] (setItem ov iv v)
   release [v,ov,iv] []):=by intro _;rfl)
  (hq:swapsWithSole [.Subscript o i pos'] e pos.line X.env=pure false:=by rfl) (hw:swappedStores [.Subscript o i pos'] e X.env=pure none:=by rfl)
  (h1:(assignEach [.Subscript o i pos'] X.env).map (·.2)=[assign (.Subscript o i pos') X.env]:=by rfl):RS X G (.Assign [.Subscript o i pos'] e pos) (w6 te (Pj to ti t)):=zd he (La hs ho hi ha) hq hw h1
def QR (X:Cx) (op:Operator) (q:k6):Prop:=∃r,L2.O4 X op r∧LR X.K r q
def NL (i:Nat) (te:dg) (q:k6):ip:=λD τ J=>LY τ[i]? λx=>te τ J λy J1=>q x y J1 λz J2=>D.nx (τ.set i (some z)) J2
theorem EF {i:Nat} {x:Str} {e:Expr} {te:dg} {op:Operator} {q:k6} {pos pos':Pos} (hN:X.N.Nodup) (he:RE X G e te) (ho:QR X op q) (hi:X.N[i]?=some x:=by rfl) (hx:Loc X.env.scope x:=by first | exact .inl rfl | exact .inr rfl) (hf:X.fn x=true∨X.env.scope.names.lookup x=some .local:=by first | exact .inl rfl | exact .inr rfl | assumption) :
  RS X G (.AugAssign (.Name x pos') op e pos) (NL i te q):=by
 obtain ⟨r,hr,lf⟩:=ho
 exact ⟨yY (L2.KZ hN hi hx he.run hr hf) λD σ H ⟨τ,J,D2,a2,hh,g⟩=>by
  obtain ⟨x,hx,h⟩:=D7 hh
  obtain ⟨v,h1,h2⟩:=a2.sl.get _ _ hx
  exact ⟨v,h1,τ,J,_,a2,h,λy J1 u H1 ry r1 e1 q1=>lf J1 H1 x y v u _ _ (e1.rep h2) ry r1 q1 λz J2 u2 H2 rz r2 e2 q2=>g.nx _ J2 _ H2 (((a2.sl.ext e1).ext e2).set i rz) r2 (e1.trans e2) q2⟩⟩
theorem Dy:QR X .Sub (Es λi j=>.int (i - j)):=⟨_,L2.J_,λJ H x y v w Q2 Q rx ry r h k=>by
 obtain ⟨i,ex,h⟩:=gC h;obtain ⟨j,ey,q⟩:=gC h
 subst ex ey;cases rx;cases ry;exact ⟨i,j,rfl,rfl,k (.int _) J _ H rfl r .refl q⟩⟩
end
theorem jC {xs:List PV} {ok:Hq→Prop} {g:yc} {tb:ip} {D:En} {τ:Sr} {J1:Hq} (Pv:Nat→Sr→Hq→Prop) (h0:Pv 0 τ J1) (hk:∀i τ J,Pv i τ J→ok J)
  (hs:∀(i:Nat) x τ J,xs[i]?=some x→Pv i τ J→g x τ J λτ2 J2=>tb { D with nx:=Pv (i + 1),ct:=Pv (i + 1),bk:=D.nx } τ2 J2) (hd:∀τ J,Pv xs.length τ J→D.nx τ J):Fo ⟨xs,ok⟩ g tb D τ J1:=⟨Pv,h0,hk,hs,hd⟩
theorem mi {J:Hq} {x:PV} {ys:List PV} (h:lA J x=some ys):x=.fl ys∨∃a,x=.ref a∧J a=some (.lst ys):=by
 cases x with
 | fl xs=>cases h;exact .inl rfl
 | ref a =>
  right
  refine ⟨a,rfl,?_⟩
  unfold lA at h
  simp only at h
  split at h
  ·rename_i e;cases h;exact e
  ·cases h
 | _=>cases h
theorem M7 {J:Hq} {x:PV} {ys:List PV} (h:lA J x=some ys):A_ J x=some "list":=by
 rcases mi h with rfl | ⟨a,rfl,ha⟩
 ·rfl
 ·rw [Oz,ha]
theorem DU {J:Hq} {x:PV} {ys:List PV} (h:lA J x=some ys):wg J x=some ys.length:=by
 rcases mi h with rfl | ⟨a,rfl,ha⟩
 ·rfl
 ·rw [IF,ha];rfl
theorem II {J:Hq} {x:PV} {ys:List PV} (h:lA J x=some ys) (i:Int):vI J x (.int i)=cV ys i:=by
 rcases mi h with rfl | ⟨a,rfl,ha⟩
 ·rfl
 ·rw [MK,ha]
def jB (j:Nat):List PV:=.bl true :: (SS 10).map λk=>.bl (decide (j=k))
theorem BB {K:PySem.W.Frag} {J:Hq} {H:Hp} (j:Nat):aL K J H (jB j) (uj j):=by
 unfold jB uj
 refine ⟨_,_,rfl,rfl,?_⟩
 generalize SS 10=l
 induction l with
 | nil=>rfl
 | cons k l ih=>exact ⟨_,_,rfl,rfl,ih⟩
def N7 (c:Nat→Addr) (N n:Nat) (t:(Addr→Hq→Prop)→ip):ip:=λD τ J =>
 t (λa J'=>∃j,j < 10∧a=c j∧D.nx ((Sq N none).set n (some (.fl (jB j)))) J') D τ J
section
variable {X:Cx} {G:G2}
theorem EH {body suite:List Stmt} {b₀:Stmt} {x m:Str} {i n:Nat} {W:Addr} {c:Nat→Addr} {t:(Addr→Hq→Prop)→ip} {ts:TS} {np hpos pos:Pos} (Er:xW X.K X.mg W c) (hg:Gl X x) (hm:X.mg x=some (.ref W))
  (hN:X.N.Nodup) (hi:X.N[i]?=some m) (hin:i≠n) (hk:X.env.kindOf m=some .local) (hb:∀pn xe E G' E2,Bp (JQ X pn xe) G' E2 E→RB (JQ X pn xe) G' body (t E2)) (hs:∀pn ea,QB (LW X pn ea) (b₀ :: suite) ts)
  (hq:∀(j:Nat),j < 10→∀(σ:L2.St) (H:Hp) (ea:Addr) (D:Ends),σ[i]?=some (some (.ref ea))→H ea=some (.ext (ExcAt ea (c j)))→(∀l,H l=none→D.nx (σ.set n (some (.ref l))) (upd H l (.lst (uj j))))→ts D σ H)
  (hst:X.stack=X.env :: X.outer:=by rfl) (hfr:X.env.frame=some X.env.locals:=by rfl) (hex:X.ex=[]:=by rfl) (hd:(x == ("__debug__":Str))=false:=by decide) :
  RS X G (.Try body [.ExceptHandler (some (.Name x np)) (some m) (b₀ :: suite) hpos] [] [] pos) (N7 c X.N.length n t):=by
 have hiN:i < X.N.length:=by
  rcases Up i X.N.length with e | e
  ·exact e
  ·rw [SN e] at hi;cases hi
 refine ⟨yY (Hn (tb:=λE D σ H=>∃(G':G2) (E2:Addr→Hq→Prop),Io X.K G'.1 G'.2 E2 E∧LS X.K G' (t E2) D σ H) hst hfr hex hg hm hN hi hk (λpn xe E hp pins s σ H D I ⟨G',E2,kn,h⟩=>(hb pn xe E G' E2 ⟨hp,kn⟩).run pins s σ H D I h) (λpn ea=>(hs pn ea).run) hd) ?_⟩
 intro D σ H ⟨τ,J,D2,a2,h,g⟩
 refine ⟨(J,H),_,?_,τ,J,D2,⟨a2.sl,a2.hp,.refl⟩,h,g⟩
 intro C J' H' r e ⟨j,hj,hC,q⟩
 subst hC
 refine ⟨c j,rfl,Er.wat j hj,λea he=>?_⟩
 refine hq j hj _ _ ea _ (by rw [SE (by simpa using hiN)]) aA λl hl=>?_
 have s1:bq H' (upd H' ea (.ext (ExcAt ea (c j)))):=bq.new he _
 have r1:=r.same s1
 obtain ⟨x1,x2,x3⟩:=nk (xs:=jB j) r1 (BB j) hl
 refine g.nx _ J' _ _ ?_ x2 ((e.trans (.same s1)).trans x3) q
 refine ⟨by simp,λk y hy=>?_⟩
 have hkn:k=n:=by
  rcases Up k X.N.length with hlt | hge
  ·by_cases e:n=k
   ·exact e.symm
   ·rw [SQ e,List.getElem?_replicate_of_lt hlt] at hy;cases hy
  ·rw [SN (by simpa using hge)] at hy;cases hy
 subst hkn
 have hkN:k < X.N.length:=by
  rcases Up k X.N.length with e | e
  ·exact e
  ·rw [SN (by simpa using e)] at hy;cases hy
 rw [SE (by simpa using hkN)] at hy
 cases hy
 exact ⟨.ref l,by rw [SQ hin,SE (by simpa using hkN)],x1⟩
end
theorem Li {a b:ip} {D:En} {τ:Sr} {J:Hq} (h:∀N:Sr→Hq→Prop,(∀τ' J',b D τ' J'→N τ' J')→a { D with nx:=N } τ J):cQ a b D τ J:=h _ λ_ _ z=>z
def Ob (J:Hq):PV→Option (List PV)
 | .tup xs=>some xs
 | .fl xs=>some xs
 | .ref a=>match J a with
  | some (.lst xs)=>some xs
  | _=>none
 | _=>none
theorem Lo {K:PySem.W.Frag} {J:Hq} {H:Hp} {y:PV} {u:V} {xs:List PV} (h:Ob J y=some xs) (r:cq K J H y u) (rr:Rep K J H):∃p vs,u=.ref p∧(cP K H p vs∨fv K H p vs)∧aL K J H xs vs:=by
 cases y with
 | tup ys=>cases h;obtain ⟨a,vs,rfl,h1,h2⟩:=r;exact ⟨a,vs,rfl,.inr h1,h2⟩
 | fl ys=>cases h;obtain ⟨a,vs,rfl,h1,h2⟩:=r;exact ⟨a,vs,rfl,.inl h1.sq,h2⟩
 | ref a =>
  cases r
  unfold Ob at h
  simp only at h
  split at h
  ·rename_i e;cases h
   obtain ⟨vs,h1,h2⟩:=rr _ _ e
   exact ⟨a,vs,rfl,.inl (cP.of h1),h2⟩
  ·cases h
 | _=>cases h
theorem iN {K:PySem.W.Frag} {J:Hq} {H:Hp}:∀{ns:List Str} {vs:List V},aL K J H (ns.map PV.str) vs→vs=ns.map V.str
 | [],_,h=>h
 | n :: ns,_,⟨v,us,e,h,k⟩=>by subst e;cases h;rw [iN k];rfl
theorem F4 {α:Type} [BEq α] [LawfulBEq α] [DecidableEq α] (x y:α):(x == y)=decide (x=y):=by by_cases h:x=y <;> simp [h]
theorem Gs (s:Str) (ss:List Str):L2.OM (.str s) (ss.map V.str)=decide (s∈ss):=by
 unfold L2.OM
 induction ss with
 | nil=>rfl
 | cons x ss ih =>
  rw [Sd,TH,ih,show L2.Gi (.str x) (.str s)=(x == s) from rfl,F4]
  by_cases h:x=s
  ·subst h;simp
  ·simp [h,show ¬ s=x from λe=>h e.symm]
section
variable {X:Cx} {G:G2}
def Nz (f:Bool→Bool):k6:=λx y J Q=>∃(s:Str) (ss:List Str),x=.str s∧Ob J y=some (ss.map .str)∧Q (.bl (f (decide (s∈ss)))) J
theorem BC (ss:List Str):(ss.map V.str).all L2.kJ=true:=by simp [L2.kJ]
theorem Ak:kG X (compareOp .NotIn) (Nz not):=⟨_,L2.uM,λJ H x y v w Q2 Q rx ry r ⟨s,ss,ex,hy,q⟩ k=>by
 subst ex;cases rx
 obtain ⟨p,vs,rfl,hq,h2⟩:=Lo hy ry r
 cases iN h2
 exact ⟨p,_,rfl,hq,rfl,BC ss,k (.bl _) J _ H (by rw [if_pos rfl,Gs];rfl) r .refl q⟩⟩
end
end Ov
namespace L2
open PySem PySem.Spec PyProof.Rows
section
variable {X:Cx} {tg:Expr}
end
end L2
namespace Ov
open PySem PySem.Spec PyProof.Rows
open L2 (V HO Hp Inv Cx VK XK TE TT TA TS TG oi TI TO il Ends sL Loc Gl Rd RelV Vals er t_ bS og pO oJ ij R2 upd aA aF cP fv Sp oV It bq cJ bK Passes mS aI Meth Mk Binds aJ cm av cV fb dX)
section
variable {X:Cx} {G:G2} {tg:Expr}
theorem nj {K:PySem.W.Frag} {J:Hq} {H:Hp} {y:PV} {u:V} {xs:List PV} (h:lA J y=some xs) (r:cq K J H y u) (rr:Rep K J H):∃p vs,u=.ref p∧cP K H p vs∧aL K J H xs vs:=by
 rcases mi h with rfl | ⟨a,rfl,ha⟩
 ·obtain ⟨a,vs,rfl,h1,h2⟩:=r;exact ⟨a,vs,rfl,h1.sq,h2⟩
 ·cases r
  obtain ⟨vs,h1,h2⟩:=rr _ _ ha
  exact ⟨a,vs,rfl,cP.of h1,h2⟩
theorem aL.flat {K:PySem.W.Frag} {J:Hq} {H:Hp} {xs:List PV} {vs:List V} (r:aL K J H xs vs):∀k:Nat,aL K J H (Sq k xs).flatten (Sq k vs).flatten
 | 0=>rfl
 | k + 1=>by rw [SY,SY,Tw,Tw];exact r.append (aL.flat r k)
end
end Ov
namespace L2
open PySem PySem.Spec PyProof.Rows
section
variable {X:Cx} {pins:List (Addr × Obj)} {σ:St} {H:Hp} {s:Shared} {h':Heap}
theorem Inv.pD {t':Nat} {ch:List Addr} (I:Inv X pins σ H s) (k:∀b o,b ∉ ch→s.heap.get? b=some o→h'.get? b=some o) (hf:∀b∈ch,jt X pins H b):Inv X pins σ H { s with heap:=h',toks:=t' }:=by
 have nit:∀b u,H b=some u→b ∉ ch:=λb u e z=>by rw [(hf b z).1] at e;cases e
 refine I.step (g':=s.gens) (d':=s.drawn) (ch:=ch) (λb hb=>?_) (λb o _ _ hc e _=>k b o hc e) (λb o _ _ hc e _=>⟨o.slots,k b o hc e⟩) (λ_ _ _ _ n=>n)
  (λb o hc e=>⟨o,k b o hc e⟩) (λ_ _ e=>e) (λ_ _ _ e=>e) (λb ps e=>⟨#[],by rw [e];simp⟩) (λm hm=>?_) (λb u e=>?_) I.bare
 ·obtain ⟨f0,f1,f2,f3,f4,f5⟩:=hf b hb
  exact ⟨f3,f1,f4,f5⟩
 ·obtain ⟨o,es,ep,ho,r⟩:=hm
  exact ⟨o,es,ep,k _ o (λz=>(hf _ z).2.1 rfl) ho,r⟩
 ·refine (I.hok b u e).n_ (λc v hc q=>k c v ?_ q) (λ_ q=>q) λ_ _ q=>q
  rcases hc with z | z
  ·rw [z];exact nit b u e
  ·exact nit c _ z
end
def QY (K:PySem.W.Frag) (a b:Addr):It :=
 ⟨λi H=>∃xs ys x y,cP K H a xs∧cP K H b ys∧xs[i]?=some x∧ys[i]?=some y,
  λi H z H'=>∃T x y,H T=none∧z=.ref T∧H'=upd H T (.tup [x,y])∧(∀xs,cP K H a xs→xs[i]?=some x)∧∀ys,cP K H b ys→ys[i]?=some y,
  λi H=>∃xs ys,cP K H a xs∧cP K H b ys∧(xs.length≤i∨ys.length≤i)⟩
theorem Fe {P:Program} {w:World} {K:PySem.W.Frag} {elts:List Expr} {x1} {pos:Pos} {z TI TO i1 i2 l1 l2:Addr} (D:ZipApart z TI TO i1 i2 l1 l2) :
  Turn P w K (.Tuple elts x1 pos) (QY K l1 l2) [z,TI,TO,i1,i2] z (λi h=>IsZip h z TI TO .none∧IsPair h TI (.ref i1) (.ref i2)∧(∃a b,IsPair h TO a b)∧h.IsListIter i1 l1 i∧h.IsListIter i2 l2 i) where
 mem:=by simp
 obj:=λi h ⟨hz,hTI,⟨a,b,hTO⟩,h1,h2⟩ c hc=>by
  simp only [Sf,SF,or_false] at hc
  rcases hc with rfl | rfl | rfl | rfl | rfl
  ·exact ⟨_,hz,λv z=>by cases z⟩
  ·exact ⟨_,hTI,λv z=>by cases z⟩
  ·exact ⟨_,hTO,λv z=>by cases z⟩
  ·obtain ⟨o,e,c,d⟩:=h1;exact ⟨o,e,λv z=>by rw [d] at z;cases z⟩
  ·obtain ⟨o,e,c,d⟩:=h2;exact ⟨o,e,λv z=>by rw [d] at z;cases z⟩
 keep:=λi h h' ⟨hz,hTI,⟨a,b,hTO⟩,h1,h2⟩ k=>⟨k z (by simp) _ hz,k TI (by simp) _ hTI,⟨a,b,k TO (by simp) _ hTO⟩,h1.at λo e=>k i1 (by simp) o e,h2.at λo e=>k i2 (by simp) o e⟩
 item:=by
  intro X hP hw hK hc i pins s σ H E I hf st hg
  subst hP hw hK
  obtain ⟨hz,hTI,⟨a,b,hTO⟩,h1,h2⟩:=st
  obtain ⟨xs,ys,x,y,hqx,hqy,hx,hy⟩:=hg
  obtain ⟨its,rv,p,hzx⟩:=I.list hqx
  obtain ⟨jts,ru,p',hzy⟩:=I.list hqy
  obtain ⟨u,hu,rx⟩:=rv.get hx
  obtain ⟨v,hv,ry⟩:=ru.get hy
  refine wpAny_pyNext_zip_item D hz hTI hTO h1 h2 p.isList p'.isList (x:=u) (y:=v) (by simpa using hu) (by simpa using hv) λh' a1 a2 a3 a4 a5 a6 hk=>?_
  refine ⟨_,rfl,wpAny_letOwnedTupleGo_zip a1 λh'' hz' hs'=>?_⟩
  have hT:H s.heap.objs.size=none:=I.hok.fresh (R' _)
  have lt:∀{c o},s.heap.get? c=some o→c≠s.heap.objs.size:=λe=>Sw (Heap.lt_size e)
  have nz:s.heap.objs.size≠z:=Ne.symm (lt hz)
  have I0:Inv X pins σ (upd H s.heap.objs.size (.tup [x,y])) { s with heap:=s.heap.push { cls:=.type "tuple",data:=.seq #[u,v] },toks:=s.toks }:=I.laid (t':=s.toks) (λb u e=>Heap.get?_push_of_some _ e) (R' _) ⟨by simp [sizeLine],[u,v],.cons rx (.cons ry .nil),⟨_,Heap.get?_push_size _ rfl,rfl,_,rfl⟩⟩
  have fpn:∀b∈[z,TI,TO,i1,i2],b≠s.heap.objs.size:=λb hb=>by
   simp only [Sf,SF,or_false] at hb
   rcases hb with rfl | rfl | rfl | rfl | rfl
   ·exact lt hz
   ·exact lt hTI
   ·exact lt hTO
   ·obtain ⟨o,e,_⟩:=h1;exact lt e
   ·obtain ⟨o,e,_⟩:=h2;exact lt e
  have fpu:∀b∈[z,TI,TO,i1,i2],jt X pins (upd H s.heap.objs.size (.tup [x,y])) b:=λb hb=>⟨by rw [aF (fpn b hb)];exact (hf b hb).1,(hf b hb).2⟩
  have I1:Inv X pins σ (upd H s.heap.objs.size (.tup [x,y])) { s with heap:=h'' }:=Inv.pD (s:={ s with heap:=s.heap.push { cls:=.type "tuple",data:=.seq #[u,v] },toks:=s.toks }) (t':=s.toks) (ch:=[z,TI,TO,i1,i2]) I0 (λb o hb e=>by
   simp only [Sf,SF,or_false,not_or] at hb
   rcases Heap.get?_push_cases e with ⟨rfl,rfl⟩ | e'
   ·exact hs'.extBut _ _ hb.1 a5
   ·exact hs'.extBut _ _ hb.1 (hk b o hb.1 hb.2.2.1 hb.2.2.2.1 hb.2.2.2.2 e')) fpu
  refine ⟨.ref s.heap.objs.size,_,I1,rfl,⟨_,x,y,hT,rfl,rfl,λzs hq=>by rw [I.jH hq hqx];exact hx,λzs hq=>by rw [I.jH hq hqy];exact hy⟩,⟨hz',hs'.extBut _ _ D.TIz (hk _ _ D.TIz D.TITO D.TIi1 D.TIi2 hTI),⟨_,_,hs'.extBut _ _ D.TOz a2⟩,a3.extBut hs'.extBut D.i1z,a4.extBut hs'.extBut D.i2z⟩,λb hb=>(fpu b hb).1⟩
 done:=by
  intro X hP hw hK hc i pins s σ H E I hf st hg
  subst hP hw hK
  obtain ⟨hz,hTI,⟨a,b,hTO⟩,h1,h2⟩:=st
  obtain ⟨xs,ys,hqx,hqy,hl⟩:=hg
  obtain ⟨its,rv,p,hzx⟩:=I.list hqx
  obtain ⟨jts,ru,p',hzy⟩:=I.list hqy
  have e1:=rv.length
  have e2:=ru.length
  refine wpAny_pyNext_zip_end (I.ok.hd hc) D hz hTI hTO h1 h2 p.isList p'.isList ?_ λh' hk=>⟨rfl,I.pD (t':=s.toks) (ch:=[z,TI,TO,i1,i2]) (λb o hb e=>?_) hf⟩
  ·rcases hl with hl | hl
   ·exact .inl (by simp;omega)
   ·exact .inr (by simp;omega)
  ·simp only [Sf,SF,or_false,not_or] at hb
   exact hk b o hb.1 hb.2.2.1 hb.2.2.2.1 hb.2.2.2.2 e
 self:=λ_ _ _ _ _ st h=>wpAny_pyIter_zip st.1 h
def Pm (K:PySem.W.Frag) (ta:TA):TI:=λσ H R=>ta σ H λvs H1=>∃a b xs ys,vs=[.ref a,.ref b]∧cP K H1 a xs∧cP K H1 b ys∧R (QY K a b) H1
section
variable {X:Cx}
theorem KY {l m:Expr} {elts:List Expr} {x1} {tp:Pos} {ta:TA} {p pos:Pos} (hg:Gl X "zip") (hm:X.mg "zip"=none) (ha:PA X [l,m] ta) (hs:starEach [l,m] X.env=(false,eval l X.env) :: starEach [m] X.env:=by rfl) (hp:(backTo pos (starEach [m] X.env)).any (·.1)=false:=by rfl):PI X (.Tuple elts x1 tp) (.Call (.Name "zip" p) [l,m] [] pos) (Pm X.K ta):=by
 intro pins s σ H R I h
 refine Call_ (lq I hg hm PyProof.Rows.Boot.«zip» (PyProof.Rows.callWith_type1 (cn (ha pos pins s σ H _ I h) λus s1 ⟨vs,H1,I1,r1,q1⟩=>?_) hs hp))
 obtain ⟨a,b,xs,ys,e,hqa,hqb,q⟩:=q1
 subst e
 cases r1 with
 | cons r rr =>
  cases rr with
  | cons r' rr' =>
   cases rr'
   cases r
   cases r'
   obtain ⟨its,rv,pl,hz⟩:=I1.list hqa
   obtain ⟨jts,ru,pl',hz'⟩:=I1.list hqb
   refine call_zip_2 pl.isList pl'.isList λh' b1 b2 b3 b4 b5 b6 hk=>?_
   refine wpAny_pyIter_zip b1 ?_
   have la:a < s1.heap.objs.size:=by obtain ⟨o,e,_⟩:=pl.isList;exact Heap.lt_size e
   have lb:b < s1.heap.objs.size:=by obtain ⟨o,e,_⟩:=pl'.isList;exact Heap.lt_size e
   have D:ZipApart (s1.heap.objs.size + 4) (s1.heap.objs.size + 2) (s1.heap.objs.size + 3) s1.heap.objs.size (s1.heap.objs.size + 1) a b:=by
    have la':@LT.lt Nat _ a s1.heap.objs.size:=la
    have lb':@LT.lt Nat _ b s1.heap.objs.size:=lb
    constructor <;> (show @Ne Nat _ _;omega)
   refine ⟨_,_,_,_,H1,rfl,I1.kept (t':=s1.toks) hk,Fe D,⟨b1,b2,⟨_,_,b3⟩,b4,b5⟩,λc hc=>?_,q⟩
   have hc':s1.heap.objs.size≤c:=by
    simp only [Sf,SF,or_false] at hc
    show @LE.le Nat _ _ _
    rcases hc with rfl | rfl | rfl | rfl | rfl
    ·exact To _ _
    ·exact To _ _
    ·exact To _ _
    ·exact R' _
    ·exact To _ _
   exact I1.BE hc' (I1.hok.fresh hc')
end
end L2
namespace Ov
open PySem PySem.Spec PyProof.Rows
open L2 (V HO Hp Inv Cx VK XK TE TT TA TS TG oi TI TO il Ends sL Loc Gl Rd RelV Vals er t_ bS og pO oJ ij R2 upd aA aF cP fv Sp oV It bq cJ bK Passes mS aI Meth Mk Binds aJ cm av cV fb dX)
section
variable {X:Cx} {G:G2}
def Rc (ta:oh):pP:=λτ J R=>ta τ J λvs J1=>KI vs λx y=>uL (lA J1 x) λxs=>uL (lA J1 y) λys=>R ⟨(xs.zip ys).map λp=>.tup [p.1,p.2],λJ'=>lA J' x=some xs∧lA J' y=some ys⟩ J1
theorem Lc {l m:Expr} {elts:List Expr} {x1} {tp:Pos} {ta:oh} {p pos:Pos} (hg:Gl X "zip") (hm:X.mg "zip"=none) (ha:RA X G [l,m] ta) (hs:starEach [l,m] X.env=(false,eval l X.env) :: starEach [m] X.env:=by rfl) (hp:(backTo pos (starEach [m] X.env)).any (·.1)=false:=by rfl) :
  RI X G (.Tuple elts x1 tp) (.Call (.Name "zip" p) [l,m] [] pos) (Rc ta):=⟨L5 (L2.KY hg hm ha.run hs hp) λσ H R ⟨τ,J,R2,a2,h,k⟩=>⟨τ,J,_,a2,h,λvs J1 us H1 rs r1 e1 hh=>by
 obtain ⟨x,y,ev,hh⟩:=yM hh;obtain ⟨xs,hx,hh⟩:=d5 hh;obtain ⟨ys,hy,q⟩:=d5 hh
 subst ev
 obtain ⟨v,us',rfl,rv,v',us'',rfl,rv',e'⟩:=rs
 cases e'
 obtain ⟨a,ws,rfl,h1,h2⟩:=nj hx rv r1
 obtain ⟨b,ws',rfl,h1',h2'⟩:=nj hy rv' r1
 refine ⟨a,b,ws,ws',rfl,h1,h1',k _ J1 _ H1 ?_ r1 e1 q⟩
 have at_:∀J' H',Ext X.K J1 H1 J' H'→Rep X.K J' H'→lA J' x=some xs∧lA J' y=some ys→∃vs us,cP X.K H' a vs∧aL X.K J' H' xs vs∧cP X.K H' b us∧aL X.K J' H' ys us:=λJ' H' e r o=>by
  obtain ⟨c,vs,eb,g1,g2⟩:=nj o.1 (e.rep rv) r
  cases eb
  obtain ⟨c',us,eb,g1',g2'⟩:=nj o.2 (e.rep rv') r
  cases eb
  exact ⟨vs,us,g1,g2,g1',g2'⟩
 exact {
  go:=λJ' H' e r o i hi=>by
   obtain ⟨vs,us,s,rs,s',rs'⟩:=at_ J' H' e r o
   rw [R6,TL] at hi
   have i1:i < vs.length:=by rw [← rs.length];omega
   have i2:i < us.length:=by rw [← rs'.length];omega
   exact ⟨vs,us,vs[i],us[i],s,s',R7 i1,R7 i2⟩
  yl:=λJ' H' e r o i hi v H2 y=>by
   obtain ⟨vs,us,s,rs,s',rs'⟩:=at_ J' H' e r o
   obtain ⟨T,z,z',hT,rfl,rfl,y1,y2⟩:=y
   obtain ⟨c,ec,rc⟩:=rs.get' (y1 vs s)
   obtain ⟨c',ec',rc'⟩:=rs'.get' (y2 us s')
   have sm:=bq.new hT (.tup [z,z'])
   have e2:=Ext.same (K:=X.K) (J:=J') sm
   refine ⟨.tup [c,c'],?_,⟨T,[z,z'],rfl,.inl (.inl aA),e2.iM ⟨z,_,rfl,rc,z',_,rfl,rc',rfl⟩⟩,r.same sm,e2⟩
   rw [Sb,(SU (z:=(c,c'))).mpr ⟨ec,ec'⟩];rfl
  stop:=λJ' H' e r o=>by
   obtain ⟨vs,us,s,rs,s',rs'⟩:=at_ J' H' e r o
   refine ⟨vs,us,s,s',?_⟩
   rw [R6,TL,← rs.length,← rs'.length]
   omega }⟩⟩
end
end Ov
namespace L2
open PySem PySem.Spec PyProof.Rows
section
variable {α β:Type}
def lT (kvs:List (Str × α)) (k:Str):Option α:=(kvs.find? λkv=>decide (kv.1=k)).map (·.2)
def qz (kvs:List (Str × α)) (k:Str) (v:α):List (Str × α):=if kvs.any (λkv=>decide (kv.1=k)) then kvs.map (λkv=>if kv.1=k then (kv.1,v) else kv) else kvs ++ [(k,v)]
def zQ (kvs:List (Str × α)) (k:Str):List (Str × α):=kvs.filter λkv=>decide (kv.1≠k)
theorem mR (p:Str × α) (r:List (Str × α)) (k:Str):lT (p :: r) k=if p.1=k then some p.2 else lT r k:=by
 unfold lT
 rw [List.find?_cons]
 by_cases h:p.1=k <;> simp [h]
theorem Aq (kvs:List (Str × α)) (k:Str) (v:α):(qz kvs k v).length≤kvs.length + 1:=by
 unfold qz;split <;> simp
theorem Gb (kvs:List (Str × α)) (k:Str):(zQ kvs k).length≤kvs.length:=Ts _ _
abbrev m3 (R:α→β→Prop):List (Str × α)→List (Str × β)→Prop:=Paired λp q=>p.1=q.1∧R p.2 q.2
variable {R:α→β→Prop}
theorem m3.va {kvs:List (Str × α)} {vs:List (Str × β)} (h:m3 R kvs vs) (k:Str):(∀x,lT kvs k=some x→∃y,lT vs k=some y∧R x y)∧(lT kvs k).isSome=(lT vs k).isSome:=by
 induction h with
 | nil=>exact ⟨λx e=>by simp [lT] at e,rfl⟩
 | @cons p q kvs vs r _ ih =>
  rw [mR,mR,← r.1]
  by_cases e:p.1=k
  ·rw [if_pos e,if_pos e];exact ⟨λx z=>by cases z;exact ⟨_,rfl,r.2⟩,rfl⟩
  ·rw [if_neg e,if_neg e];exact ih
theorem m3.any {kvs:List (Str × α)} {vs:List (Str × β)} (h:m3 R kvs vs) (k:Str):(kvs.any λkv=>decide (kv.1=k))=vs.any λkv=>decide (kv.1=k):=by
 induction h with
 | nil=>rfl
 | cons r _ ih=>rw [TH,TH,ih,r.1]
theorem m3.snoc {kvs:List (Str × α)} {vs:List (Str × β)} (h:m3 R kvs vs) {k:Str} {x:α} {y:β} (r:R x y):m3 R (kvs ++ [(k,x)]) (vs ++ [(k,y)]):=by
 induction h with
 | nil=>exact .cons ⟨rfl,r⟩ .nil
 | cons q _ ih=>exact .cons q ih
theorem m3.pu {kvs:List (Str × α)} {vs:List (Str × β)} (h:m3 R kvs vs) {k:Str} {x:α} {y:β} (r:R x y):m3 R (qz kvs k x) (qz vs k y):=by
 unfold qz
 rw [h.any k]
 split
 ·rename_i hany;clear hany
  induction h with
  | nil=>exact .nil
  | @cons p q kvs vs z _ ih =>
   rw [Sd,Sd]
   refine .cons ?_ ih
   by_cases e:p.1=k
   ·rw [if_pos e,if_pos (z.1 ▸ e)];exact ⟨z.1,r⟩
   ·rw [if_neg e,if_neg (z.1 ▸ e)];exact z
 ·exact h.snoc r
theorem m3.dr {kvs:List (Str × α)} {vs:List (Str × β)} (h:m3 R kvs vs) (k:Str):m3 R (zQ kvs k) (zQ vs k):=by
 unfold zQ
 induction h with
 | nil=>exact .nil
 | @cons p q kvs vs z _ ih =>
  rw [SJ,SJ,z.1]
  split
  ·exact .cons z ih
  ·exact ih
theorem m3.len {kvs:List (Str × α)} {vs:List (Str × β)} (h:m3 R kvs vs):kvs.length=vs.length:=Paired.length h
theorem m3.keys {kvs:List (Str × α)} {vs:List (Str × β)} (h:m3 R kvs vs):kvs.map (·.1)=vs.map (·.1):=by
 induction h with
 | nil=>rfl
 | cons r _ ih=>rw [Sd,Sd,ih,r.1]
end
theorem tQ (vs:List (Str × Value)) (k:Str):valueAt vs k=lT vs k:=rfl
theorem str_is {P:Program} {w:World} {k:Str} {u:Value} (r:RelV (.str k) u):(PySem.strKind P w).is k u=true:=by
 obtain ⟨t,rfl⟩:=r
 simp [PySem.strKind,Value.isStrOf]
theorem DC {P:Program} {w:World} {k:Str} {u:Value} (h:(PySem.strKind P w).is k u=true):RelV (.str k) u:=Value.isStrOf_shape h
section
variable {X:Cx} {pins:List (Addr × Obj)} {σ:St} {H:Hp} {s:Shared} {a:Addr} {A:Around} {E:Value→Shared→Prop} {kvs:List (Str × V)} {ep:Nat}
theorem jy (I:Inv X pins σ H s) (e:H a=some (.dE kvs ep)):kvs.length≤sizeLine∧(a == sysModules)=false∧∃vs,m3 RelV kvs vs∧s.heap.DictAt (PySem.strKind X.prog X.w) a vs ep:=I.hok a _ e
theorem pV {h':Heap} {t':Nat} {kvs':List (Str × V)} {vs':List (Str × Value)} (I:Inv X pins σ H s) (e:H a=some (.dE kvs ep)) (hs:Heap.SameBut a s.heap h') (hz:kvs'.length≤sizeLine) (hd:(a == sysModules)=false) (rel:m3 RelV kvs' vs') (dd:h'.DictOf (PySem.strKind X.prog X.w) a vs') :
  ∃ep',Inv X pins σ (upd H a (.dE kvs' ep')) { s with heap:=h',toks:=t' }:=by
 obtain ⟨ep',da⟩:=dd.dictAt
 refine ⟨ep',I.write (x:=a) (e:=a) (by rw [e];exact True.intro) (.inl rfl) (λb q hb z=>(hs.2 b hb).trans z) (let ⟨q,_,_,hq,_⟩:=dd;⟨q,hq⟩) ⟨hz,hd,vs',rel,da⟩⟩
theorem Inv.Mr (I:Inv X pins σ H s):sysModules < s.heap.objs.size:=by
 have h:mainGlobals < s.heap.objs.size:=(I.mod.glob.keeps I.bk).lt
 exact Nat.lt_trans (by decide) h
end
theorem BJ {P:Program} {w:World} {kvs:List (Str × V)} {vs:List (Str × Value)} (rel:m3 RelV kvs vs):∀{us:List Value},us.length=kvs.length→(∀(j:Nat) (v:Value),us[j]?=some v→∃k x,vs[j]?=some (k,x)∧(PySem.strKind P w).is k v=true)→Vals (kvs.map λkv=>V.str kv.1) us:=by
 induction rel with
 | nil =>
  intro us hlen _
  cases us with
  | nil=>exact .nil
  | cons _ _=>cases hlen
 | @cons p q kvs vs z _ ih =>
  intro us hlen hget
  cases us with
  | nil=>cases hlen
  | cons u us =>
   rw [Sd]
   refine .cons ?_ (ih (by simpa using hlen) λj v e=>?_)
   ·obtain ⟨k,x,e1,e2⟩:=hget 0 u rfl
    rw [TJ] at e1
    cases e1
    rw [z.1];exact DC e2
   ·obtain ⟨k,x,e1,e2⟩:=hget (j + 1) v (by rw [SH];exact e)
    rw [SH] at e1
    exact ⟨k,x,e1,e2⟩
def Qh:R2:=λx y H Q=>∃a kvs ep k v,x=.ref a∧y=.str k∧H a=some (.dE kvs ep)∧lT kvs k=some v∧Q v H
def K8 (f:Bool→Bool):R2:=λx y H Q=>∃a kvs ep k,x=.str k∧y=.ref a∧H a=some (.dE kvs ep)∧Q (.bl (f (lT kvs k).isSome)) H
def NV:List V→Hp→VK→Prop:=λxs H Q=>∃a kvs ep,xs=[.ref a]∧H a=some (.dE kvs ep)∧Q (.int kvs.length) H
def K_:List V→Hp→VK→Prop:=λxs H Q=>∃a kvs ep,xs=[.ref a]∧H a=some (.dE kvs ep)∧∀p,H p=none→Q (.ref p) (upd H p (.lst (kvs.map λkv=>.str kv.1)))
def N0:V→List V→Hp→VK→Prop:=λx xs H Q=>∃a kvs ep k v,x=.ref a∧xs=[.str k]∧H a=some (.dE kvs ep)∧lT kvs k=some v∧∀ep',Q v (upd H a (.dE (zQ kvs k) ep'))
def N4:il:=λo i v H Q=>∃a kvs ep k,o=.ref a∧i=.str k∧H a=some (.dE kvs ep)∧kvs.length < sizeLine∧∀ep',Q (upd H a (.dE (qz kvs k v) ep'))
def Of:TE:=λ_ H Q=>∀p,H p=none→∀ep,Q (.ref p) (upd H p (.dE [] ep))
section
variable {X:Cx}
theorem MG:og X Qh:=by
 intro value slice pins s σ H x y v u Q I rx ry q hs
 obtain ⟨a,kvs,ep,k,z,rfl,rfl,hp,hz,q⟩:=q
 cases rx
 obtain ⟨_,hd,vs,rel,da⟩:=jy I hp
 have hT:s.TypeIs (.ref a) "dict":=da.dictOf.typeIs
 obtain ⟨w',hw,rw'⟩:=(rel.va k).1 z hz
 unfold subscriptTail
 refine wpAny_bind ?_
 rw [getitemInPython_of_ne hT.not_modules]
 refine wpAny_bind (wpAny_specialOf hT PySem.F.slot_dict_getitem.lookup ?_)
 have fin:wpAny (model X.prog X.w) X.A (subscripted slice false (.ref a) u) (λr s₃=>wpAny (model X.prog X.w) X.A (letTemporaryGo value (.ref a) r >>= λ_=>pure r) (EP X pins σ Q) X.xe s₃) X.xe s:=by
  rw [hs]
  exact wpAny_operating (wpAny_getItem_of (str_is ry) da.dictOf.mapOf hw (wpAny_bind (wpAny_letTemporaryGo (wpAny_pure ⟨z,H,I.tok _,rw',q⟩))))
 first
  | exact wpAny_pure (wpAny_bind fin)
  | exact wpAny_bind (wpAny_pure (wpAny_bind fin))
  | exact wpAny_bind fin
theorem KO:er X (compareOp .In) (K8 id):=by
 intro pins s σ H x y v u Q I rx ry ⟨a,kvs,ep,k,ex,ey,hp,q⟩
 subst ex ey
 cases ry
 obtain ⟨_,hd,vs,rel,da⟩:=jy I hp
 refine wpAny_in_of (str_is rx) hd da.dictOf.mapOf ?_
 exact ⟨.bl _,H,I.tok _,by rw [tQ,← (rel.va k).2];rfl,q⟩
theorem B':er X (compareOp .NotIn) (K8 not):=by
 intro pins s σ H x y v u Q I rx ry ⟨a,kvs,ep,k,ex,ey,hp,q⟩
 subst ex ey
 cases ry
 obtain ⟨_,hd,vs,rel,da⟩:=jy I hp
 refine wpAny_notIn_of (str_is rx) hd da.dictOf.mapOf ?_
 exact ⟨.bl _,H,I.tok _,by rw [tQ,← (rel.va k).2];rfl,q⟩
theorem yi:bS X (.builtin "len") NV:=by
 intro pins s σ H xs us Q I r ⟨a,kvs,ep,ex,hp,q⟩
 subst ex
 obtain ⟨u,rfl,ru⟩:=vals1 r
 cases ru
 obtain ⟨hz,hd,vs,rel,da⟩:=jy I hp
 have hl:=rel.len
 refine call_len_dict hd da.dictOf (by rw [← hl];rw [sizeLine_eq] at hz;omega) ?_
 rw [← hl]
 exact ⟨.int _,H,(I.tok _),⟨_,rfl⟩,q⟩
theorem vT (hc:X.calm=true):bS X (.type "list") K_:=by
 intro pins s σ H xs us Q I r ⟨a,kvs,ep,ex,hp,q⟩
 subst ex
 obtain ⟨u,rfl,ru⟩:=vals1 r
 cases ru
 obtain ⟨hz,hd,vs,rel,da⟩:=jy I hp
 have hl:=rel.len
 refine PySem.W.kdl_call (PySem.W.kdl_dict (knd:=PySem.strKind X.prog X.w) (kvs:=vs) (ep:=ep) hd) (I.ok.hd hc) da (by rw [← hl];exact hz) λh' tk acc c hk hS hacc=>?_
 have hkeys:Vals (kvs.map λkv=>V.str kv.1) acc.toList:=by
  have hlen:acc.toList.length=kvs.length:=by rw [Array.length_toList,hacc.1,hl]
  have hget:∀j v,acc.toList[j]?=some v→∃k x,vs[j]?=some (k,x)∧(PySem.strKind X.prog X.w).is k v=true:=λj v e=>hacc.2 j v (by rw [← Array.getElem?_toList];exact e)
  exact BJ rel hlen hget
 have I2:Inv X pins σ (upd H s.heap.objs.size (.lst (kvs.map λkv=>V.str kv.1))) { s with heap:=h',toks:=tk } :=
  I.laid (t':=tk) hk (R' _) (show dm X.prog X.w _ _ _ (.lst _) from ⟨by rw [R6];exact hz,acc.toList,c,hkeys,by rw [Array.toArray_toList];exact hS⟩)
 exact ⟨.ref s.heap.objs.size,_,I2,rfl,q _ (I.hok.fresh (R' _))⟩
theorem GI:oJ X "dict.pop" N0:=by
 intro pins s σ H x xs v us Q I rx r ⟨a,kvs,ep,k,z,ex,exs,hp,hv,q⟩
 subst ex exs
 cases rx
 obtain ⟨u,rfl,ru⟩:=vals1 r
 obtain ⟨hz,hd,vs,rel,da⟩:=jy I hp
 obtain ⟨w',hw,rw'⟩:=(rel.va k).1 z hv
 have hpart:(keyPart u).isSome=true:=by obtain ⟨t,q⟩:=(show ∃t,u=Value.str k t from ru);subst q;rfl
 refine call_meetsIn PySem.F.slot_dict_pop da.dictOf.typeIs PySem.F.entry_dict_pop (PySem.F.args_dict_pop_2 _ _) (meets_dict_pop_there (PySem.strKind X.prog X.w) a (str_is ru) [] (.inl rfl) hpart)
  ⟨vs,w',da.dictOf,by rw [← rel.len];exact hz,hw,λh' dd' hs=>?_⟩
 obtain ⟨ep',I2⟩:=pV (t':=s.toks + 1) I hp hs (Su (Gb kvs k) hz) hd (rel.dr k) dd'
 exact ⟨z,_,I2,rw',q ep'⟩
theorem Lk:ij X N4:=by
 intro pins s σ H o i v ov iv u Q I ro ri rv ⟨a,kvs,ep,k,eo,ei,hp,hl,q⟩
 subst eo ei
 cases ro
 obtain ⟨hz,hd,vs,rel,da⟩:=jy I hp
 refine wpAny_setItem_pairs (hsz:=by rw [← rel.len];exact hz) (str_is ri) da.dictOf λh' dd' hs=>?_
 obtain ⟨ep',I2⟩:=pV (t':=s.toks + 1) I hp hs (show (qz kvs k v).length≤sizeLine from Su (Aq kvs k v) hl) hd (rel.pu rv) dd'
 exact ⟨_,I2,q ep'⟩
theorem Hf {pos:Pos}:PE X (.Dict [] [] pos) Of:=λpins s σ H Q I h=>by
 have hd:(s.heap.push { cls:=.type "dict",data:=.dict #[] }).DictOf (PySem.strKind X.prog X.w) s.heap.objs.size []:=Heap.DictOf.new s.heap
 obtain ⟨ep,da⟩:=hd.dictAt
 exact wpAny_Dict_empty ⟨.ref s.heap.objs.size,_,I.laid (a:=s.heap.objs.size) (o:=.dE [] ep) (t':=s.toks) (λ_ _ q=>Heap.get?_push_of_some _ q) (R' _)
  ⟨SG _,beq_eq_false_iff_ne.mpr (Ne.symm (Sw I.Mr)),[],.nil,da⟩,rfl,h _ (I.hok.fresh (R' _)) ep⟩
end
def QU (a:Addr) (ks:List Str) (ep:Nat):It :=
 ⟨λi H=>(∃kvs,H a=some (.dE kvs ep)∧kvs.map (·.1)=ks)∧i < ks.length,
  λi H z H'=>H'=H∧∃k,ks[i]?=some k∧z=.str k,
  λi H=>(∃kvs,H a=some (.dE kvs ep)∧kvs.map (·.1)=ks)∧ks.length≤i⟩
theorem Cr {P:Program} {w:World} {K:PySem.W.Frag} {tg:Expr} (a it:Addr) (ks:List Str) (ep:Nat):Turn P w K tg (QU a ks ep) [it] it (λi h=>h.IsKeyIter it a i ks.length ep) where
 mem:=by simp
 obj:=λi h st b hb=>by
  have e:b=it:=by simpa using hb
  subst e
  obtain ⟨o,e,c,d⟩:=st
  exact ⟨o,e,λv z=>by rw [d] at z;cases z⟩
 keep:=λi h h' st k=>st.at λo e=>k it (by simp) o e
 item:=by
  intro X hP hw hK hc i pins s σ H E I hf st hg
  subst hP hw hK
  obtain ⟨⟨kvs,hp,hks⟩,hi⟩:=hg
  obtain ⟨hz,hd,vs,rel,da⟩:=jy I hp
  have hl:ks.length=vs.length:=by rw [← hks,R6];exact rel.len
  obtain ⟨f0,f1,f2,f3,f4,f5⟩:=hf it (by simp)
  obtain ⟨⟨k,x⟩,hx⟩:∃p,vs[i]?=some p:=⟨vs[i]'(by omega),R7 (by omega)⟩
  have hk:ks[i]?=some k:=by rw [← hks,rel.keys,Sb,hx];rfl
  refine wpAny_pyNext_dict_item (by rw [← hl];exact st) da hx λkey h' hkey st' sb=>?_
  rw [← hl] at st'
  have I1:Inv X pins σ H { s with heap:=h' }:=I.turned (t':=s.toks) (λb o hb e=>(sb.2 b hb).trans e) f0 f1 f3 f4 f5
  obtain ⟨o,e,c,d⟩:=id st'
  exact ⟨key,rfl,v3 (s:={ s with heap:=h' }) e c d (by decide) ⟨.str k,H,I1,DC hkey,⟨rfl,k,hk,rfl⟩,st',λb hb=>(hf b hb).1⟩⟩
 done:=by
  intro X hP hw hK hc i pins s σ H E I hf st hg
  subst hP hw hK
  obtain ⟨⟨kvs,hp,hks⟩,hi⟩:=hg
  obtain ⟨hz,hd,vs,rel,da⟩:=jy I hp
  have hl:ks.length=vs.length:=by rw [← hks,R6];exact rel.len
  obtain ⟨f0,f1,f2,f3,f4,f5⟩:=hf it (by simp)
  refine wpAny_pyNext_dict_end (I.ok.hd hc) (by rw [← hl];exact st) da (by rw [T'];omega) λh' hk=>⟨rfl,I.turned (t':=s.toks) (λb o hb e=>hk b o hb e) f0 f1 f3 f4 f5⟩
 self:=λ_ _ _ _ _ st h=>wpAny_pyIter_keyiter st h
def MC (td:TE):TI:=λσ H R=>td σ H λx H1=>∃a kvs ep,x=.ref a∧H1 a=some (.dE kvs ep)∧R (QU a (kvs.map (·.1)) ep) H1
theorem Hg {X:Cx} {tg l:Expr} {tl:TE} (hl:PE X l tl):PI X tg l (MC tl):=by
 intro pins s σ H R I h
 refine cn (hl pins s σ H _ I h) λv s1 ⟨x,H1,I1,r1,q1⟩=>?_
 obtain ⟨a,kvs,ep,e,hp,q⟩:=q1
 subst e
 cases r1
 obtain ⟨hz,hd,vs,rel,da⟩:=jy I1 hp
 refine wpAny_pyIter_dict hd da ?_
 refine ⟨s1.heap.objs.size,[s1.heap.objs.size],_,_,H1,rfl,I1.kept (t':=s1.toks) λb o e=>Heap.get?_push_of_some _ e,Cr a _ (kvs.map (·.1)) ep,⟨_,Heap.get?_push_size _ rfl,rfl,by rw [R6,rel.len];rfl⟩,λb hb=>?_,q⟩
 have e:b=s1.heap.objs.size:=by simpa using hb
 subst e
 exact I1.BE (R' _) (I1.hok.fresh (R' _))
end L2
namespace Ov
open PySem PySem.Spec PyProof.Rows L2
section
variable {prog:Program} {w:World} {A:Around} {R:Result→Shared→Prop} {s:Shared}
theorem yC {kx vx iter:Expr} {ifs:List Expr} {x:Str} {px:Pos} {sc:Scope} {pos:Pos} {it:Value} {D:Addr} {env:Env} (I:Nat→Shared→Prop)
  (turn:∀n s,I n s→wpAny (model prog w) A (pyNext it) (λr s₁=>match r with
   | none=>R (.ok .next) s₁
   | some v=>wpAny (model prog w) A (letOwnedTupleGo (.Name x px) it v) (λ_ s₂=>wpAny (model prog w) A (assign (.Name x px) env v) (λ_ s₃=>wpAny (model prog w) A (forIn ifs true λc r=>if r=true then do let ok ← isTrue c env (eval c env);pure (ForInStep.yield ok) else pure (ForInStep.yield r)) (λok s₃=>if ok=true then wpAny (model prog w) A (eval kx env) (λkv s₄ =>
     wpAny (model prog w) A (eval vx env) (λvv s₅=>wpAny (model prog w) A (dictSet D kv vv) (λ_ s₅=>∃m,m < n∧I m s₅) (λ_ _=>False) s₅) (λ_ _=>False) s₄) (λ_ _=>False) s₃ else ∃m,m < n∧I m s₃) (λ_ _=>False) s₃) (λ_ _=>False) s₂) (λ_ _=>False) s₁) (λ_ _=>False) s)
  (n:Nat) (h:I n s):codeAny (model prog w) A (.compLoop (.DictComp kx vx [⟨.Name x px,iter,ifs,0⟩] sc pos) 0 it (.ref D) env) R s:=by
 refine codeAny_loop rfl I (λn s hI=>?_) n h
 show wpAny _ _ ((compTurn (.DictComp kx vx [⟨.Name x px,iter,ifs,0⟩] sc pos) 0 it (.ref D) env).onRaise (λx=>do noteFrame x env;theTreesLotGoes x)) _ _ s
 refine wpAny_noted ?_
 rw [compTurn_dict]
 have no:∀(e:Value) (s':Shared),False→notedBy (model prog w) A env (λe s'=>R (.error e) s') e s':=λ_ _ z=>z.elim
 refine wpAny_bind (wpAny_standAt (wpAny_bind (wpAny_mono (turn n s hI) (λr s₁ h₁=>?_) no)))
 cases r with
 | none=>exact wpAny_pure h₁
 | some v =>
  refine wpAny_bind (wpAny_mono h₁ (λ_ s₂ h₂=>?_) no)
  refine wpAny_bind (wpAny_mono h₂ (λ_ s₃ h₃=>wpAny_bind (wpAny_mono h₃ (λok s₃' h₃'=>?_) no)) no)
  cases ok with
  | false=>exact wpAny_pure ⟨rfl,h₃'⟩
  | true =>
   exact wpAny_bind (wpAny_bind (wpAny_mono h₃' (λkv s₄ h₄=>wpAny_bind (wpAny_holding (wpAny_mono h₄ (λvv s₅ h₅=>wpAny_bind (wpAny_standAt (wpAny_holding (wpAny_mono h₅ (λ_ s₆ h₆=>wpAny_pure ⟨rfl,h₆⟩) no)))) no))) no))
end
def Rw (wi:TI) (ks:List (Str × Nat)) (tc:TT) (tk te:TE):TE:=λσ H Q=>wi σ H λJ H1=>∀D,H1 D=none→∀ep,∃W:Nat→Nat→Hp→Prop,(∃m,W 0 m (upd H1 D (.dE [] ep))) ∧
 ∀i m H2,W i m H2→(J.stop i H2∧Q (.ref D) H2)∨(J.go i H2∧∀v H3,J.yld i H2 v H3→tc (some v :: dO ks σ) H3 λb H4=>if b=true then tk (some v :: dO ks σ) H4 λy H5=>te (some v :: dO ks σ) H5 λz H6=>∃kvs ep k,y=.str k∧H6 D=some (.dE kvs ep)∧kvs.length < sizeLine∧∃m',m' < m∧∀ep',W (i + 1) m' (upd H6 D (.dE (L2.qz kvs k z) ep')) else ∃m',m' < m∧W (i + 1) m' H4)
section
variable {X:Cx}
theorem Ci {kx vx iter:Expr} {ifs:List Expr} {x:Str} {px:Pos} {sc:Scope} {pos:Pos} {tk te:TE} {tc:TT} {ks:List (Str × Nat)} {cl:List (Str × Addr)} {pins:List (Addr × Obj)} {σ:L2.St} {H:Hp} {s:Shared} {it:Addr} {fp:List Addr} {tn:Nat→Heap→Prop} {J:It} {Q:VK}
  {RR:Value→Addr→Result→Shared→Prop} {E:Value→Shared→Prop}
  (hc:X.calm=true) (ok:de sc X.env.scope X.N x ks) (h1:∀y c,cl.lookup y=some c→X.env.cells.lookup y=some c) (h2:∀y∈sc.names,y.2=.free→∃c,cl.lookup y.1=some c)
  (hk:∀cl C s₀ H₀ fp pins,PE (f7 X sc cl C x ks s₀ H₀ fp pins) kx tk) (he:∀cl C s₀ H₀ fp pins,PE (f7 X sc cl C x ks s₀ H₀ fp pins) vx te) (hcn:∀cl C s₀ H₀ fp pins,FY (f7 X sc cl C x ks s₀ H₀ fp pins) ifs tc)
  (I:Inv X pins σ H s) (T:Turn X.prog X.w X.K (.Name x px) J fp it tn) (st:tn 0 s.heap) (f:∀b∈fp,jt X pins H b)
  (hw:∀D,H D=none→∀ep,∃W:Nat→Nat→Hp→Prop,(∃m,W 0 m (upd H D (.dE [] ep)))∧∀i m H2,W i m H2→(J.stop i H2∧Q (.ref D) H2) ∨
   (J.go i H2∧∀v H3,J.yld i H2 v H3→tc (some v :: dO ks σ) H3 λb H4=>if b=true then tk (some v :: dO ks σ) H4 λy H5=>te (some v :: dO ks σ) H5 λz H6=>∃kvs ep k,y=.str k∧H6 D=some (.dE kvs ep)∧kvs.length < sizeLine∧∃m',m' < m∧∀ep',W (i + 1) m' (upd H6 D (.dE (L2.qz kvs k z) ep')) else ∃m',m' < m∧W (i + 1) m' H4))
  (hR:∀(D C:Addr) (s':Shared) (H':Hp) (m:Str→Option Value),Inv X pins σ H' s'→Q (.ref D) H'→s'.heap.Ns C m→H' C=none→C≠X.env.locals→X.s₀.heap.objs.size≤C→(∀y c,X.env.cells.lookup y=some c→c≠C)→(∀p∈X.pn ++ pins,p.1≠C)→RR (.ref D) C (.ok .next) s') :
  wpAny (model X.prog X.w) X.A newDict (λacc s₃=>wpAny (model X.prog X.w) X.A (newFunctionEnv sc X.env.globals cl [] X.env.qual none .none (some X.env)) (λcenv s₄ =>
   codeAny (model X.prog X.w) X.A (.compStart (.DictComp kx vx [⟨.Name x px,iter,ifs,0⟩] sc pos) 0 (.ref it) acc { cenv with scope:=relabel sc X.env }) (RR acc cenv.locals) s₄) E s₃) E s:=by
 have okk:=ok
 obtain ⟨kd,nc,lx,ll,fr,kk,nd⟩:=okk
 have hD0:H s.heap.objs.size=none:=I.hok.fresh (R' _)
 have hdd:(s.heap.push { cls:=.type "dict",dict:=none,data:=.dict #[] }).DictOf (PySem.strKind X.prog X.w) s.heap.objs.size []:=Heap.DictOf.new s.heap
 obtain ⟨ep0,da⟩:=hdd.dictAt
 obtain ⟨W,⟨m0,w0⟩,turn⟩:=hw s.heap.objs.size hD0 ep0
 refine wpAny_newObj_type ?_
 have I3:Inv X pins σ (upd H s.heap.objs.size (.dE [] ep0)) { s with heap:=s.heap.push { cls:=.type "dict",dict:=none,data:=.dict #[] } } :=
  I.laid (t':=s.toks) (λb u e=>Heap.get?_push_of_some _ e) (R' _) ⟨SG _,beq_eq_false_iff_ne.mpr (Ne.symm (Sw I.Mr)),[],.nil,da⟩
 have st3:tn 0 (s.heap.push { cls:=.type "dict",dict:=none,data:=.dict #[] }):=T.keep 0 _ _ st λb hb o e=>Heap.get?_push_of_some _ e
 clear da hdd
 generalize hD:s.heap.objs.size=D at *
 generalize hH:upd H D (.dE [] ep0)=H3 at *
 generalize hs3:({ s with heap:=s.heap.push { cls:=.type "dict",dict:=none,data:=.dict #[] } }:Shared)=s3 at *
 have e3:s.heap.push { cls:=.type "dict",dict:=none,data:=.dict #[] }=s3.heap:=by rw [← hs3]
 rw [e3] at st3
 have fD:∀b∈fp,b≠D:=λb hb z=>by
  obtain ⟨o,ho,_⟩:=T.obj 0 _ st b hb
  have:=Heap.lt_size ho
  rw [z,← hD] at this
  exact Ta _ this
 have f3:∀b∈fp,jt X pins H3 b:=λb hb=>⟨by rw [← hH,aF (fD b hb)];exact (f b hb).1,(f b hb).2⟩
 have g3:∀b∈fp,∃o,s3.heap.get? b=some o:=λb hb=>by
  obtain ⟨o,ho,_⟩:=T.obj 0 _ st3 b hb
  exact ⟨o,ho⟩
 refine wpAny_newFunctionEnv nc (by intro y hy;simp at hy) (λh₁ hns hsb=>?_) kd
 have kp:∀b o,s3.heap.get? b=some o→h₁.get? b=some o:=λb o e=>hsb.extBut b o (Sw (Heap.lt_size e)) (Heap.get?_push_of_some _ e)
 have J0:=wa (fp:=fp) (cl:=cl) (t':=s3.toks + ([]:List (Str × Value)).length) I3 ok h1 h2 (λb hb=>⟨f3 b hb,g3 b hb⟩) hns kp
 have st4:tn 0 h₁:=T.keep 0 _ _ st3 λb hb o e=>kp b o e
 have ltC:∀b o,s3.heap.get? b=some o→b≠s3.heap.objs.size:=λb o e=>Sw (Heap.lt_size e)
 have cC:∀y c,X.env.cells.lookup y=some c→c≠s3.heap.objs.size:=λy c e=>by
  obtain ⟨v,o,ho,_⟩:=I3.cell y c e
  exact ltC c o ho
 have pC:∀p∈X.pn ++ pins,p.1≠s3.heap.objs.size:=λp hp=>ltC _ _ (I3.pin p hp).1
 have lC:s3.heap.objs.size≠X.env.locals:=Uj I3.lt
 have fX:∀{H':Hp},(∀b∈fp,H' b=none)→∀b∈fp,jt (f7 X sc cl s3.heap.objs.size x ks s3 H3 fp pins) [] H' b:=λhn b hb=>by
  obtain ⟨o,ho⟩:=g3 b hb
  obtain ⟨_,q1,q2,q3,q4,q5⟩:=f b hb
  refine ⟨hn b hb,ltC b o ho,λz=>?_,.inl hb,λy c e=>q4 y c (h1 y c e),λp hp=>q5 p (by simpa [f7] using hp)⟩
  rcases Sf.mp (I3.oa b z) with e | e
  ·exact q1 e
  ·exact q2 e
 have back:∀{o:Option V} {H':Hp} {s':Shared},Inv (f7 X sc cl s3.heap.objs.size x ks s3 H3 fp pins) [] (o :: dO ks σ) H' s'→Inv X pins σ H' s':=λ{o H' s'} J=>by
  obtain ⟨hh,g,d,t,os'⟩:=s'
  obtain rfl:os'=s3.os:=J.os
  exact I3.call (h':=hh) (g':=g) (d':=d) (t':=t) (ch:=fp) J.base J.hok J.bare λb hb=>⟨(f b hb).2.2.2.1,(f b hb).2.1,(f b hb).2.2.2.2.1,(f b hb).2.2.2.2.2⟩
 have lookX:(relabel sc X.env).names.lookup x=some .local:=lookup_relabel_local lx
 have loop:∀s',(∃(i:Nat) (o:Option V) (H':Hp),Inv (f7 X sc cl s3.heap.objs.size x ks s3 H3 fp pins) [] (o :: dO ks σ) H' s'∧tn i s'.heap∧(∀b∈fp,H' b=none)∧W i m0 H') →
   codeAny (model X.prog X.w) X.A (.compLoop (.DictComp kx vx [⟨.Name x px,iter,ifs,0⟩] sc pos) 0 (.ref it) (.ref D) (compEnvC sc cl s3.heap.objs.size X.env)) (RR (.ref D) s3.heap.objs.size) s':=by
  intro s' hs'
  refine yC (λn s'=>∃(i:Nat) (o:Option V) (H':Hp),Inv (f7 X sc cl s3.heap.objs.size x ks s3 H3 fp pins) [] (o :: dO ks σ) H' s'∧tn i s'.heap∧(∀b∈fp,H' b=none)∧W i n H') ?_ m0 hs'
  rintro n s5 ⟨i,o,H5,J5,t5,n5,w5⟩
  rcases turn i n H5 w5 with ⟨stop,hq⟩ | ⟨go,step⟩
  ·refine cn (T.done (f7 X sc cl s3.heap.objs.size x ks s3 H3 fp pins) rfl rfl rfl hc i [] s5 _ H5 _ J5 (fX n5) t5 stop) λr s6 ⟨hr,J6⟩=>?_
   subst hr
   obtain ⟨m,hm,_⟩:=J6.loc
   exact hR D _ s6 H5 m (back J6) hq hm J6.free lC I3.sz cC pC
  ·refine cn (T.item (f7 X sc cl s3.heap.objs.size x ks s3 H3 fp pins) rfl rfl rfl hc i [] s5 _ H5 _ J5 (fX n5) t5 go) λr s6 ⟨u,hr,h6⟩=>?_
   subst hr
   refine cn h6 λ_ s7 ⟨v,H7,J7,r7,y7,t7,n7⟩=>?_
   have J7':=J7.pinned (fX n7) (T.obj _ _ t7)
   refine wpAny_assign_Name (e_ (X:=f7 X sc cl s3.heap.objs.size x ks s3 H3 fp pins) (i:=0) J7' nd rfl (.inl lookX) r7 (λs8 J8=>?_) (.inr lookX))
   refine cn (hcn cl s3.heap.objs.size s3 H3 fp pins _ s8 _ H7 _ J8 (step v H7 y7)) λok s8' ⟨H8,J8',q8⟩=>?_
   cases ok with
   | false =>
    simp only [Ss,if_false] at q8 ⊢
    obtain ⟨m',hm,w'⟩:=q8
    refine ⟨m',hm,i + 1,_,_,J8'.fZ,?_,?_,w'⟩
    ·exact T.keep _ _ _ t7 λb hb o e=>(J8'.pin (b,o) (Sh _ (Sh _ (cE hb e)))).1
    ·intro b hb
     obtain ⟨o,e,d⟩:=T.obj _ _ t7 b hb
     exact (J8'.pin (b,o) (Sh _ (Sh _ (cE hb e)))).2.1
   | true =>
    simp only [if_true] at q8 ⊢
    refine cn (hk cl s3.heap.objs.size s3 H3 fp pins _ s8' _ H8 _ J8' q8) λky s8'' ⟨vk,H8',J8'',rk,q8'⟩=>?_
    refine cn (he cl s3.heap.objs.size s3 H3 fp pins _ s8'' _ H8' _ J8'' q8') λy s9 ⟨vy,H9,J9,r9,kvs,ep,k,ek,hys,hz,m',hm,w'⟩=>?_
    subst ek
    obtain ⟨hz',hd',vs,rel,da⟩:=jy J9 hys
    refine wpAny_dictSet_pairs (hsz:=by rw [← rel.len];exact hz') (str_is rk) da.dictOf λh' dd' hsb=>?_
    obtain ⟨ep',J10⟩:=pV (t':=s9.toks + 1) J9 hys hsb (show (L2.qz kvs k vy).length≤sizeLine from Su (Aq kvs k vy) hz) hd' (rel.pu r9) dd'
    refine ⟨m',hm,i + 1,_,_,J10.fZ,?_,?_,w' ep'⟩
    ·exact T.keep _ _ _ t7 λb hb o e=>(J10.pin (b,o) (Sh _ (Sh _ (cE hb e)))).1
    ·intro b hb
     obtain ⟨o,e,d⟩:=T.obj _ _ t7 b hb
     exact (J10.pin (b,o) (Sh _ (Sh _ (cE hb e)))).2.1
 have l0:=loop _ ⟨0,none,H3,J0,st4,λb hb=>(f3 b hb).1,w0⟩
 exact codeAny_compStart_dict l0 (T.self _ 0 _ _ _ st4 l0)
theorem Nu {kx vx iter:Expr} {ifs:List Expr} {x:Str} {px:Pos} {sc:Scope} {pos:Pos} {wi:TI} {tk te:TE} {tc:TT} (osc:Scope) (N:List Str) (ks:List (Str × Nat)) (hc:X.calm=true) (ho:X.env.scope=osc) (hN:X.N=N) (hi:PI X (.Name x px) iter wi)
  (hk:∀cl C s₀ H₀ fp pins,PE (f7 X sc cl C x ks s₀ H₀ fp pins) kx tk) (he:∀cl C s₀ H₀ fp pins,PE (f7 X sc cl C x ks s₀ H₀ fp pins) vx te) (hcn:∀cl C s₀ H₀ fp pins,FY (f7 X sc cl C x ks s₀ H₀ fp pins) ifs tc) (ok:de sc osc N x ks:=by decide +kernel) (hs:∀x,foldedSetIterable iter X.env x=pure x:=by intro _;rfl) :
  PE X (.DictComp kx vx [⟨.Name x px,iter,ifs,0⟩] sc pos) (Rw wi ks tc tk te):=by
 intro pins s σ H Q I hw
 obtain ⟨cl,hcl,h1,h2⟩:=k_ (ql ok I ho)
 have ok':de sc X.env.scope X.N x ks:=by rw [ho,hN];exact ok
 rw [arm_eval_DictComp]
 refine wpAny_comprehension_free (use:=none) rfl hs hcl ok.1 ok.2.2.2.1 (cn (hi pins s σ H _ I hw) λv s1 h3=>cn h3 λitv s2 h4=>?_)
 obtain ⟨it,fp,tn,J,H2,rfl,I2,T,st2,f2,hR⟩:=h4
 refine Ci (RR:=λacc C=>compPost (model X.prog X.w) X.A X.xe none (EP X pins σ Q) acc C) hc ok' h1 h2 hk he hcn I2 T st2 f2 hR ?_
 intro D C s' H' m J' q hn hC cl' cs cc cp
 refine ⟨m,hn,λh' hsb=>⟨.ref D,H',?_,rfl,q⟩⟩
 exact J'.turned (t':=s'.toks) (it:=C) (λb o ne e=>hsb.extBut b o ne e) hC cl' (.inr cs) cc cp
end
end Ov
namespace Ov
open PySem PySem.Spec PyProof.Rows
open L2 (V HO Hp Inv Cx VK XK TE TT TA TS TG oi TI TO il Ends sL Loc Gl Rd RelV Vals er t_ bS og pO oJ ij R2 upd aA aF cP fv Sp oV It bq cJ bK Passes mS aI Meth Mk Binds aJ cm av cV fb dX lT qz zQ m3)
section
variable {K:PySem.W.Frag} {J:Hq} {H:Hp}
theorem dM:∀{kvs:List (Str × PV)} {gs:List (Str × V)},k7 K J H kvs gs→m3 (cq K J H) kvs gs
 | [],[],_=>.nil
 | [],_ :: _,h=>by cases h.1
 | _ :: _,[],h=>by cases h.1
 | (k,y) :: fs,(k',w) :: gs,h=>by
  obtain ⟨h1,v',us,h2,h3,h4⟩:=h
  simp only [Sd,List.cons.injEq] at h1 h2
  obtain ⟨rfl,h1⟩:=h1
  obtain ⟨rfl,rfl⟩:=h2
  exact .cons ⟨rfl,h3⟩ (dM ⟨h1,h4⟩)
theorem wV:∀{kvs:List (Str × PV)} {gs:List (Str × V)},m3 (cq K J H) kvs gs→k7 K J H kvs gs
 | _,_,.nil=>⟨rfl,rfl⟩
 | _,_,.cons (a:=p) (b:=q) r t=>by
  obtain ⟨h1,h2⟩:=wV t
  exact ⟨by rw [Sd,Sd,h1,r.1],q.2,_,rfl,r.2,h2⟩
theorem Ext.j7 {p:Addr} {kvs kvs':List (Str × PV)} {gs gs':List (Str × V)} {ep ep':Nat} (h:J p=some (.dct kvs ep)) (k:H p=some (.dE gs ep)):Ext K J H (put J p (.dct kvs' ep')) (upd H p (.dE gs' ep')):=by
 have sm:∀a u,a≠p→Rd H a u→Rd (upd H p (.dE gs' ep')) a u:=λa u ne z=>by
  rcases z with z | ⟨o,z⟩
  ·exact .inl (by rw [aF ne];exact z)
  ·exact .inr ⟨o,by rw [aF ne];exact z⟩
 refine ⟨λa vs' z=>?_,λa o z q _=>?_⟩
 ·rcases z with z | z
  ·have ne:a≠p:=by
    intro e;subst e
    rcases z with z | ⟨o,z⟩
    ·rw [k] at z;cases z
    ·rw [k] at z;cases z
   exact .inl (sm a _ ne z)
  ·exact .inr z
 ·have ne:a≠p:=by intro e;subst e;rw [h] at z;cases z
  exact ⟨by rw [ar ne];exact z,by rw [aF ne];exact q⟩
theorem Rep.j7 {p:Addr} {kvs kvs':List (Str × PV)} {gs gs':List (Str × V)} {ep ep':Nat} (r:Rep K J H) (h:J p=some (.dct kvs ep)) (k:H p=some (.dE gs ep)) (q:m3 (cq K J H) kvs' gs'):Rep K (put J p (.dct kvs' ep')) (upd H p (.dE gs' ep')):=by
 have e:=Ext.j7 (K:=K) (kvs':=kvs') (gs':=gs') (ep':=ep') h k
 refine r.Cv e p (λa ne=>ar ne) (λa o ne _ z=>by rw [aF ne];exact z) λu z=>?_
 rw [au] at z;cases z
 exact ⟨gs',aA,e.w_ (wV q)⟩
theorem Rep.ID {p:Addr} {ep:Nat} (r:Rep K J H) (n:H p=none):Rep K (put J p (.dct [] ep)) (upd H p (.dE [] ep)):=by
 have e:=Ext.laid (K:=K) (J:=J) (o:=.dE [] ep) (u:=.dct [] ep) n
 refine r.Cv e p (λa ne=>ar ne) (λa o ne _ z=>by rw [aF ne];exact z) λu z=>?_
 rw [au] at z;cases z
 exact ⟨[],aA,⟨rfl,rfl⟩⟩
end
def NB:k6:=λx y J Q=>B9 x λa=>Fs y λk=>Fq (J a) λkvs _=>uL (lT kvs k) λv=>Q v J
def Hv (f:Bool→Bool):k6:=λx y J Q=>Fs x λk=>B9 y λa=>Fq (J a) λkvs _=>Q (.bl (f (lT kvs k).isSome)) J
def I_:yb:=λxs J Q=>Ai xs λx=>B9 x λa=>Fq (J a) λkvs _=>Q (.int kvs.length) J
def Eu:yb:=λxs J Q=>Ai xs λx=>B9 x λa=>Fq (J a) λkvs _=>Q (.fl (kvs.map λkv=>.str kv.1)) J
def Jc:CY:=λx xs J Q=>B9 x λa=>Ai xs λy=>Fs y λk=>Fq (J a) λkvs _=>uL (lT kvs k) λv=>∀ep',Q v (put J a (.dct (zQ kvs k) ep'))
def Jd:Bw:=λo i y J R=>B9 o λa=>Fs i λk=>Fq (J a) λkvs _=>kvs.length < sizeLine∧∀ep',R (put J a (.dct (qz kvs k y) ep'))
def Ji:dg:=λ_ J Q=>∀p,J p=none→∀ep,Q (.ref p) (put J p (.dct [] ep))
def Q8 (te:dg):pP:=λτ J R=>te τ J λx J1=>B9 x λa=>Fq (J1 a) λkvs ep=>R ⟨kvs.map λkv=>.str kv.1,λJ'=>J' a=some (.dct kvs ep)⟩ J1
section
variable {X:Cx} {G:G2}
theorem fB:O2 X NB:=⟨_,L2.MG,λJ H x y v w Q2 Q rx ry r h kn=>by
 obtain ⟨a,ex,h⟩:=fG h;obtain ⟨k,ey,h⟩:=jL h;obtain ⟨kvs,ep,ja,h⟩:=lE h;obtain ⟨z,hz,q⟩:=d5 h
 subst ex ey
 cases rx;cases ry
 obtain ⟨gs,h1,h2⟩:=r _ _ ja
 obtain ⟨u,hu,ru⟩:=((dM h2).va k).1 z hz
 exact ⟨a,gs,ep,k,u,rfl,rfl,h1,hu,kn z J u H ru r .refl q⟩⟩
theorem DT (f:Bool→Bool):LR X.K (L2.K8 f) (Hv f):=λJ H x y v w Q2 Q rx ry r h kn=>by
 obtain ⟨k,ex,h⟩:=jL h;obtain ⟨a,ey,h⟩:=fG h;obtain ⟨kvs,ep,ja,q⟩:=lE h
 subst ex ey
 cases rx;cases ry
 obtain ⟨gs,h1,h2⟩:=r _ _ ja
 exact ⟨a,gs,ep,k,rfl,rfl,h1,by rw [← ((dM h2).va k).2];exact kn (.bl _) J _ H rfl r .refl q⟩
theorem KR:kG X (compareOp .In) (Hv id):=⟨_,L2.KO,DT id⟩
theorem G6:kG X (compareOp .NotIn) (Hv not):=⟨_,L2.B',DT not⟩
theorem oW:FA X (.builtin "len") I_:=⟨_,L2.yi,λJ H xs vs Q2 Q rs r h k=>by
 obtain ⟨x,ex,h⟩:=gB h;obtain ⟨a,ea,h⟩:=fG h;obtain ⟨kvs,ep,ja,q⟩:=lE h;subst ea
 subst ex;obtain ⟨v,us,rfl,rv,e⟩:=rs;cases e;cases rv
 obtain ⟨gs,h1,h2⟩:=r _ _ ja
 exact ⟨a,gs,ep,rfl,h1,by rw [← (dM h2).len];exact k (.int _) J _ H rfl r .refl q⟩⟩
theorem nJ {K:PySem.W.Frag} {J:Hq} {H:Hp}:∀{ks:List Str},aL K J H (ks.map PV.str) (ks.map V.str)
 | []=>rfl
 | k :: ks=>⟨_,_,rfl,rfl,nJ (ks:=ks)⟩
theorem vW (hc:X.calm=true):FA X (.type "list") Eu:=⟨_,L2.vT hc,λJ H xs vs Q2 Q rs r h k=>by
 obtain ⟨x,ex,h⟩:=gB h;obtain ⟨a,ea,h⟩:=fG h;obtain ⟨kvs,ep,ja,q⟩:=lE h;subst ea
 subst ex;obtain ⟨v,us,rfl,rv,e⟩:=rs;cases e;cases rv
 obtain ⟨gs,h1,h2⟩:=r _ _ ja
 refine ⟨a,gs,ep,rfl,h1,λp hp=>?_⟩
 have hk:aL X.K J H (kvs.map λkv=>PV.str kv.1) (gs.map λkv=>V.str kv.1):=by
  have:=(dM h2).keys
  rw [show (kvs.map λkv=>PV.str kv.1)=(kvs.map (·.1)).map PV.str by rw [Sl];rfl,show (gs.map λkv=>V.str kv.1)=(gs.map (·.1)).map V.str by rw [Sl];rfl,this]
  exact nJ
 obtain ⟨x1,x2,x3⟩:=nk r hk hp
 exact k _ J _ _ x1 x2 x3 q⟩
theorem GG:Md X "dict" "dict.pop" Jc:=⟨_,L2.GI,λJ H x xs v vs Q2 Q rx rs r h kn=>by
 obtain ⟨a,ex,h⟩:=fG h;obtain ⟨y,exs,h⟩:=gB h;obtain ⟨k,ek,h⟩:=jL h;obtain ⟨kvs,ep,ja,h⟩:=lE h;obtain ⟨z,hz,q⟩:=d5 h;subst ek
 subst ex exs;cases rx
 obtain ⟨u,us,rfl,ru,e⟩:=rs;cases e;cases ru
 obtain ⟨gs,h1,h2⟩:=r _ _ ja
 have pk:=dM h2
 obtain ⟨y,hy,ry⟩:=(pk.va k).1 z hz
 refine ⟨a,gs,ep,k,y,rfl,rfl,h1,hy,λep'=>?_⟩
 have e2:=Ext.j7 (K:=X.K) (kvs':=zQ kvs k) (gs':=zQ gs k) (ep':=ep') ja h1
 exact kn z _ y _ (e2.rep ry) (r.j7 ja h1 (pk.dr k)) e2 (q ep')⟩
theorem pz:O6 X Jd:=⟨_,L2.Lk,λJ H o i y ov iv u R2 R ro ri ry r h kk=>by
 obtain ⟨a,eo,h⟩:=fG h;obtain ⟨k,ei,h⟩:=jL h;obtain ⟨kvs,ep,ja,hl,q⟩:=lE h
 subst eo ei;cases ro;cases ri
 obtain ⟨gs,h1,h2⟩:=r _ _ ja
 have pk:=dM h2
 refine ⟨a,gs,ep,k,rfl,rfl,h1,by rw [← pk.len];exact hl,λep'=>?_⟩
 exact kk _ _ (r.j7 ja h1 (pk.pu ry)) (Ext.j7 (K:=X.K) ja h1) (q ep')⟩
theorem AB {pos:Pos}:RE X G (.Dict [] [] pos) Ji:=⟨kK L2.Hf λσ H Q ⟨τ,J,Q2,a2,q,k⟩ p hp ep=>k (.ref p) _ _ _ rfl (a2.hp.ID hp) (.laid hp) (q p (a2.hp.free hp) ep)⟩
theorem AD {tg l:Expr} {tl:dg} (hl:RE X G l tl):RI X G tg l (Q8 tl):=⟨L5 (L2.Hg hl.run) λσ H R ⟨τ,J,R2,a2,h,k⟩=>⟨τ,J,_,a2,h,λx J1 v H1 rx r1 e1 h=>by
 obtain ⟨a,ex,h⟩:=fG h;obtain ⟨kvs,ep,ja,q⟩:=lE h
 subst ex;cases rx
 obtain ⟨gs,h1,h2⟩:=r1 _ _ ja
 have pk:=dM h2
 have hl':=pk.len
 refine ⟨a,gs,ep,rfl,h1,k _ J1 _ H1 ?_ r1 e1 q⟩
 have hks:=pk.keys
 have key:∀J' H',Rep X.K J' H'→J' a=some (.dct kvs ep)→∃gs',H' a=some (.dE gs' ep)∧gs'.map (·.1)=gs.map (·.1):=λJ' H' r o=>by
  obtain ⟨gs',h1',h2'⟩:=r _ _ o
  exact ⟨gs',h1',by rw [← (dM h2').keys,hks]⟩
 exact {
  go:=λJ' H' e r o i hi=>⟨key J' H' r o,by rw [R6] at hi ⊢;omega⟩
  yl:=λJ' H' e r o i hi v H2 y=>by
   obtain ⟨rfl,k,hk,rfl⟩:=y
   rw [← hks,Sb] at hk
   obtain ⟨kv,hkv,rfl⟩:=Option.map_eq_some_iff.mp hk
   exact ⟨.str kv.1,by rw [Sb,hkv];rfl,rfl,r,.refl⟩
  stop:=λJ' H' e r o=>⟨key J' H' r o,by rw [R6,R6];omega⟩ }⟩⟩
def Qg (wi:pP) (ks:List (Str × Nat)) (tc:k9) (tk te:dg):dg:=λτ J Q=>wi τ J λit J1=>∀D,J1 D=none→∀ep,∃W:Nat→Hq→Prop,W 0 (put J1 D (.dct [] ep))∧(∀i J2,W i J2→it.ok J2) ∧
 (∀i x J2,it.xs[i]?=some x→W i J2→tc (some x :: oU ks τ) J2 λb J3=>if b=true then tk (some x :: oU ks τ) J3 λy J4=>te (some x :: oU ks τ) J4 λz J5 =>
  ∃kvs ep k,y=.str k∧J5 D=some (.dct kvs ep)∧kvs.length < sizeLine∧∀ep',W (i + 1) (put J5 D (.dct (qz kvs k z) ep')) else W (i + 1) J3)∧∀J2,W it.xs.length J2→Q (.ref D) J2
theorem F_ {wi:pP} {ks:List (Str × Nat)} {tc:k9} {tk te:dg}:∀σ H Q,LE X.K G (Qg wi ks tc tk te) σ H Q→Rw (LI X.K G wi) ks (LT X.K G tc) (LE X.K G tk) (LE X.K G te) σ H Q:=λσ H Q ⟨τ,J,Q2,a2,h,k⟩ =>
 ⟨τ,J,_,a2,h,λit J1 I H1 ir r1 e1 w D hD ep=>by
  obtain ⟨W,w0,wok,step,fin⟩:=w D (r1.free hD) ep
  refine ⟨λi m H2=>m=it.xs.length - i∧i≤it.xs.length∧∃J2,Rep X.K J2 H2∧Ext X.K J1 H1 J2 H2∧W i J2,⟨_,rfl,SG _,_,r1.ID hD,.laid hD,w0⟩,?_⟩
  rintro i m H2 ⟨rfl,hi,J2,r2,e2,w2⟩
  by_cases hlt:i < it.xs.length
  ·refine .inr ⟨ir.go J2 H2 e2 r2 (wok i J2 w2) i hlt,λv H3 y=>?_⟩
   obtain ⟨x,ex,rx,r3,e3⟩:=ir.yl J2 H2 e2 r2 (wok i J2 w2) i hlt v H3 y
   have a3:vH X.K G (some x :: oU ks τ) J2 (some v :: dO ks σ) H3:=⟨AF (a2.sl.ext ((e1.trans e2).trans e3)) rx ks,r3,((a2.ext.trans e1).trans e2).trans e3⟩
   refine ⟨_,_,_,a3,step i x J2 ex w2,λb J4 H4 r4 e4 q=>?_⟩
   cases b with
   | false =>
    simp only [Ss,if_false] at q ⊢
    exact ⟨_,by omega,rfl,hlt,J4,r4,(e2.trans e3).trans e4,q⟩
   | true =>
    simp only [if_true] at q ⊢
    refine ⟨_,_,_,a3.go r4 e4,q,λyk J5 u H5 rk r5 e5 q5=>?_⟩
    refine ⟨_,_,_,(a3.go r4 e4).go r5 e5,q5,λz J6 vz H6 rz r6 e6 ⟨kvs,ep2,kk,ek,jD,hl,q6⟩=>?_⟩
    subst ek
    cases rk
    obtain ⟨gs,h1,h2⟩:=r6 _ _ jD
    have pk:=dM h2
    refine ⟨gs,ep2,kk,rfl,h1,by rw [← pk.len];exact hl,it.xs.length - (i + 1),by omega,λep'=>⟨rfl,hlt,_,r6.j7 jD h1 (pk.pu rz),?_,q6 ep'⟩⟩
    exact ((((e2.trans e3).trans e4).trans e5).trans e6).trans (Ext.j7 (K:=X.K) jD h1)
  ·have ei:i=it.xs.length:=by omega
   subst ei
   exact .inl ⟨ir.stop J2 H2 e2 r2 (wok _ J2 w2),k (.ref D) J2 _ H2 rfl r2 (e1.trans e2) (fin J2 w2)⟩⟩
theorem P_ {X:Cx} {ifs:List Expr} {t t':TT} (h:FY X ifs t) (k:∀σ H Q,t' σ H Q→t σ H Q):FY X ifs t':=λpins s σ H Q I q=>h pins s σ H Q I (k _ _ _ q)
variable {kx vx iter cnd:Expr} {x y:Str} {px py:Pos} {sc:Scope} {pos spos:Pos} {wi:pP} {tk te:dg} {tc:k9} {i:Nat}
theorem N9 (osc:Scope) (N:List Str) (ks:List (Str × Nat)) (hc:X.calm=true) (ho:X.env.scope=osc) (hN:X.N=N) (hi:RI X G (.Name x px) iter wi) (hk:∀cl C s₀ H₀ fp pins,RE (f7 X sc cl C x ks s₀ H₀ fp pins) G kx tk) (he:∀cl C s₀ H₀ fp pins,RE (f7 X sc cl C x ks s₀ H₀ fp pins) G vx te)
  (ok:de sc osc N x ks:=by decide +kernel) (hs:∀x,foldedSetIterable iter X.env x=pure x:=by intro _;rfl):RE X G (.DictComp kx vx [⟨.Name x px,iter,[],0⟩] sc pos) (Qg wi ks Az tk te) :=
 ⟨kK (Nu osc N ks hc ho hN hi.run (λcl C s₀ H₀ fp pins=>(hk cl C s₀ H₀ fp pins).run) (λcl C s₀ H₀ fp pins=>(he cl C s₀ H₀ fp pins).run) (λcl C s₀ H₀ fp pins=>P_ uS λσ H Q ⟨τ,J,Q2,a2,q,k⟩=>k true J H a2.hp .refl q) ok hs) F_⟩
end
def zp (tabs:List Addr):cI:=λxs J Q _=>∃ns:List Int,xs=[.fl (ns.map .int)]∧ns.length≤63∧(∀T∈tabs,J T=some .tab)∧(∀a,a ∉ tabs→J a=none)∧∀J',(∀T∈tabs,J' T=some .tab)→Q (.bl true) J'
def EW (tabs:List Addr) (K:PySem.W.Frag):Sp:=λvs H Q _=>∃(a:Addr) (ns:List Int),vs=[.ref a]∧cP K H a (ns.map V.int)∧ns.length≤63∧(∀T∈tabs,H T=some (.ext (dY T))) ∧
 (∀b,H b≠none→b=a∨b∈tabs)∧(∀u,H a=some u→∃o xs,u=.oY o (.lst xs))∧∀H',bq H H'→Q (.bl true) H'
theorem BM {P:Program} {w:World} {K:PySem.W.Frag} {mg:Str→Option Value} {base:Heap} {k:Nat} {f:Addr} {fd:FuncData} {ps:List Str} {tabs:List Addr} (F:aJ P w K mg base (cY P w) k f fd ps (dI K (zp tabs))) :
  aJ P w K mg base L2.pE k f fd ps (EW tabs K) :=
 F.OB.imp λvs H Q E ⟨a,ns,e,hS,hl,hT,hA,hK,q⟩=>by
  subst e
  classical
  have na:∀u,H a=some u→a ∉ tabs:=λu hu hm=>by
   obtain ⟨o,xs,rfl⟩:=hK u hu
   rw [hT a hm] at hu;cases hu
  refine ⟨[.fl (ns.map .int)],λb=>if b∈tabs then some .tab else none,λx J'=>x=.bl true∧∀T∈tabs,J' T=some .tab,λ_ _=>False,⟨.ref a,[],rfl,⟨a,ns.map V.int,rfl,?_,nI ns⟩,rfl⟩,?_,⟨ns,rfl,hl,λT hT=>if_pos hT,λb hb=>if_neg hb,λJ' h=>⟨rfl,h⟩⟩,?_,?_⟩
  ·rcases hS with h | h
   ·refine .inl ⟨?_,h⟩
    have:a ∉ tabs:=by
     rcases h with h | ⟨o,h⟩
     ·exact na _ h
     ·exact na _ h
    exact if_neg this
   ·exact .inr h
  ·intro b o z
   by_cases hb:b∈tabs
   ·have z':=(if_pos hb).symm.trans z
    cases z'
    exact hT b hb
   ·have z':=(if_neg hb).symm.trans z
    cases z'
  ·rintro z J' u H' rz rr ee ⟨rfl,ht⟩
   cases rz
   refine q H' λb o hb=>?_
   rcases hA b (by rw [hb];simp) with rfl | hm
   ·obtain ⟨ob,xs,rfl⟩:=hK o hb
    exact (ee.ll b _ (if_neg (na _ hb)) hb (.inr ⟨_,_,rfl⟩)).2
   ·have:=hT b hm
    rw [hb] at this;cases this
    exact rr b _ (ht b hm)
  ·intro _ _ _ _ _ z;exact z.elim
end Ov
namespace L2
open PySem PySem.Spec PyProof.Rows
def Pn (k:Str):Value→Bool
 | .str y _=>y.cps.toList == k.cps.toList
 | _=>false
theorem Cy {ss:List Str} {us:List Value} (r:Vals (ss.map V.str) us):us.length=ss.length∧∀(j:Nat) (u:Value),us[j]?=some u→∃y t,ss[j]?=some y∧u=.str y t:=by
 induction ss generalizing us with
 | nil=>cases r;exact ⟨rfl,λj u e=>by simp at e⟩
 | cons y ss ih =>
  rw [Sd] at r
  cases r with
  | cons ru rr =>
   obtain ⟨t,rfl⟩:=ru
   obtain ⟨h1,h2⟩:=ih rr
   refine ⟨by simp [h1],λj u e=>?_⟩
   cases j with
   | zero=>cases e;exact ⟨y,t,rfl,rfl⟩
   | succ j=>exact h2 j u (by simpa using e)
theorem sX {α β:Type} (f:α→β):∀(l:List α) (j:Nat),(l.eraseIdx j).map f=(l.map f).eraseIdx j
 | [],_=>rfl
 | _ :: _,0=>rfl
 | x :: l,j + 1=>by simp only [List.eraseIdx_cons_succ,Sd,sX f l j]
section
variable {X:Cx}
def Ey:V→List V→Hp→VK→Prop:=λx vs H Q=>∃(l:Addr) (ss:List Str) (k:Str) (j:Nat),x=.ref l∧vs=[.str k]∧H l=some (.lst (ss.map V.str))∧ss[j]?=some k∧(∀m:Nat,m < j→ss[m]?≠some k)∧Q .non (upd H l (.lst ((ss.eraseIdx j).map V.str)))
theorem yH:oJ X "list.remove" Ey:=by
 intro pins s σ H x vs v us Q I rx rv h
 obtain ⟨l,ss,k,j,rfl,rfl,hH,hj,hno,q⟩:=h
 cases rx
 obtain ⟨u,rfl,ru⟩:=rv.one
 obtain ⟨t,rfl⟩:=ru
 obtain ⟨z,its,n,r,hl,e⟩:=I.Kq hH
 obtain ⟨h1,h2⟩:=Cy r
 obtain ⟨hjl,hje⟩:=R8.mp hj
 have hz:ss.length≤sizeLine:=by simpa using z
 have at_:∀(m:Nat) (hm:m < its.toArray.size),Pn k its.toArray[m]=decide (ss[m]?=some k):=λm hm=>by
  obtain ⟨y,t',hy,hu⟩:=h2 m its[m] (R7 (by simpa using hm))
  show Pn k its[m]=_
  rw [hu,hy]
  show (y.cps.toList == k.cps.toList)=_
  by_cases hk:y=k
  ·subst hk;simp
  ·have:(y.cps.toList == k.cps.toList)=false:=by
    rw [beq_eq_false_iff_ne]
    intro z
    exact hk (by cases y;cases k;simp at z;rw [z])
   rw [this];symm;exact decide_eq_false λz=>hk (Option.some.inj z)
 refine call_meets PySem.F.slot_list_remove ⟨_,e,rfl⟩ PySem.F.entry_list_remove (PySem.F.args_list_remove_2 _ _)
  (MeetsSeq.list_remove l its.toArray n (.str k t) (Pn k) (λy hy=>?_) j (by simpa using (show j < its.length by omega)) ?_ (λm hm hlt=>?_) (by rw [Sa];omega)) ⟨e,?_⟩
 ·obtain ⟨m,hm⟩:=Sx.mp (show y∈its by simpa using hy)
  obtain ⟨y',t',_,rfl⟩:=h2 m y hm
  exact SeqRoads2.EqGives.str _ _ _ _
 ·rw [at_];exact decide_eq_true hj
 ·rw [at_];exact decide_eq_false (hno m hlt)
 ·refine ⟨.non,_,I.Kp (its':=its.eraseIdx j) hH e (by rw [List.eraseIdxIfInBounds_toArray]) ?_ ?_,rfl,q⟩
  ·rw [sX];exact r.eraseIdx j
  ·rw [R6];exact Su (List.length_eraseIdx_le _ _) hz
end
end L2
namespace Ov
open PySem PySem.Spec PyProof.Rows
open L2 (V HO Hp Inv Cx VK XK TE TT TA TS TG oi TI TO il Ends sL Loc Gl Rd RelV Vals er t_ bS og pO oJ ij R2 upd aA aF cP fv Sp oV It bq cJ bK Passes mS aI Meth Mk Binds aJ cm av cV fb dX)
section
variable {X:Cx} {G:G2}
def K4:CY:=λx xs J Q=>∃(a:Addr) (ss:List Str) (k:Str) (j:Nat),x=.ref a∧xs=[.str k]∧J a=some (.lst (ss.map .str))∧ss[j]?=some k∧(∀m:Nat,m < j→ss[m]?≠some k)∧Q (.int (j:Nat)) J
def Av:CY:=λx xs J Q=>∃(a:Addr) (ss:List Str) (k:Str) (j:Nat),x=.ref a∧xs=[.str k]∧J a=some (.lst (ss.map .str))∧ss[j]?=some k∧(∀m:Nat,m < j→ss[m]?≠some k)∧Q .non (put J a (.lst ((ss.eraseIdx j).map .str)))
theorem BW:Md X "list" "list.remove" Av:=⟨_,L2.yH,λJ H x xs v vs Q2 Q rx rs r ⟨a,ss,k,j,ex,exs,ja,hj,hno,q⟩ kn=>by
 subst ex exs;cases rx
 obtain ⟨w,us,rfl,rw',e⟩:=rs;cases e;cases rw'
 obtain ⟨ws,h1,h2⟩:=r _ _ ja
 cases iN h2
 exact ⟨a,ss,k,j,rfl,rfl,h1,hj,hno,kn .non _ _ _ rfl (r.wrote (ys:=(ss.eraseIdx j).map .str) ja h1 nJ) (.wrote ja h1) q⟩⟩
variable {a b c:Expr} {ta tb tc:dg} {pos:Pos}
def uW (q q':k6) (ta tb tc:dg):dg:=λτ J Q=>ta τ J λx J1=>tb τ J1 λy J2=>q x y J2 λz J3=>IM z λk=>(if k=true then tc τ J3 λw J4=>q' y w J4 Q else Q (.bl false) J3)
theorem yj {r r':R2} {q q':k6} (lr:LR X.K r q) (lr':LR X.K r' q'):∀σ H Q,LE X.K G (uW q q' ta tb tc) σ H Q→L2.E7 r r' (LE X.K G ta) (LE X.K G tb) (LE X.K G tc) σ H Q:=λσ H Q ⟨τ,J,Q2,a2,hh,k⟩=>⟨τ,J,_,a2,hh,λx J1 v H1 rx r1 e1 q1=>⟨τ,J1,_,a2.go r1 e1,q1,λy J2 w H2 ry r2 e2 q2 =>
  lr J2 H2 x y v w _ _ (e2.rep rx) ry r2 q2 λz J3 u H3 rz r3 e3 hz=>by
   obtain ⟨kk,ez,q3⟩:=nt hz
   subst ez;cases rz
   refine ⟨kk,rfl,?_⟩
   cases kk with
   | false=>simp only [Ss,if_false] at q3 ⊢;exact k (.bl false) J3 _ H3 rfl r3 ((e1.trans e2).trans e3) q3
   | true =>
    simp only [if_true] at q3 ⊢
    exact ⟨τ,J3,_,((a2.go r1 e1).go r2 e2).go r3 e3,q3,λw2 J4 u4 H4 r4 rr4 e4 q4=>lr' J4 H4 y w2 w u4 Q2 Q ((e3.trans e4).rep ry) r4 rr4 q4 λz' J' u' H' rz' rr' ee' qq=>k z' J' u' H' rz' rr' ((((e1.trans e2).trans e3).trans e4).trans ee') qq⟩⟩⟩
theorem ED {op op':CmpOp} {q q':k6} (ho:kG X (compareOp op) q) (ho':kG X (compareOp op') q') (ha:RE X G a ta) (hb:RE X G b tb) (hc:RE X G c tc) (hm:lastMarks [op,op'] [b,c]=false:=by with_unfolding_all rfl) :
  RE X G (.Compare a [op,op'] [b,c] pos) (uW q q' ta tb tc):=by
 obtain ⟨r,h,lr⟩:=ho
 obtain ⟨r',h',lr'⟩:=ho'
 exact ⟨kK (L2.Ee h h' ha.run hb.run hc.run hm) (yj lr lr')⟩
end
end Ov
namespace L2
open PySem PySem.Spec PyProof.Rows
def QV (K:PySem.W.Frag) (a:Addr):It :=
 ⟨λi H=>∃xs x,cP K H a xs∧xs[i]?=some x,
  λi H z H'=>∃T x,H T=none∧z=.ref T∧H'=upd H T (.tup [.int (i:Nat),x])∧(∀xs,cP K H a xs→xs[i]?=some x),
  λi H=>∃xs,cP K H a xs∧xs.length≤i⟩
theorem Cs {P:Program} {w:World} {K:PySem.W.Frag} {elts:List Expr} {x1} {pos:Pos} {e it l:Addr} (ne:e≠it) :
  Turn P w K (.Tuple elts x1 pos) (QV K l) [e,it] e (λi h=>(∃old,IsEnum h e it (i:Int) old)∧h.IsListIter it l i) where
 mem:=by simp
 obj:=λi h ⟨⟨old,he⟩,h1⟩ c hc=>by
  simp only [Sf,SF,or_false] at hc
  rcases hc with rfl | rfl
  ·exact ⟨_,he,λv z=>by cases z⟩
  ·obtain ⟨o,e,c,d⟩:=h1;exact ⟨o,e,λv z=>by rw [d] at z;cases z⟩
 keep:=λi h h' ⟨⟨old,he⟩,h1⟩ k=>⟨⟨old,k e (by simp) _ he⟩,h1.at λo q=>k it (by simp) o q⟩
 item:=by
  intro X hP hw hK hc i pins s σ H E I hf st hg
  subst hP hw hK
  obtain ⟨⟨old,he⟩,h1⟩:=st
  obtain ⟨xs,x,hqx,hx⟩:=hg
  obtain ⟨its,rv,p,hzx⟩:=I.list hqx
  obtain ⟨u,hu,rx⟩:=rv.get hx
  refine wpAny_pyNext_enum_item he h1 p.isList (x:=u) (by simpa using hu) ne λh' a1 a3 a5 a6 hk=>?_
  refine ⟨_,rfl,wpAny_letOwnedTupleGo_enum a1 λh'' hz' hs'=>?_⟩
  have hT:H s.heap.objs.size=none:=I.hok.fresh (R' _)
  have lt:∀{c o},s.heap.get? c=some o→c≠s.heap.objs.size:=λe=>Sw (Heap.lt_size e)
  have I0:Inv X pins σ (upd H s.heap.objs.size (.tup [.int (i:Nat),x])) { s with heap:=s.heap.push { cls:=.type "tuple",data:=.seq #[.int i s.toks,u] },toks:=s.toks + 1 }:=I.laid (t':=s.toks + 1) (λb u e=>Heap.get?_push_of_some _ e) (R' _) ⟨by simp [sizeLine],[.int i s.toks,u],.cons ⟨_,rfl⟩ (.cons rx .nil),⟨_,Heap.get?_push_size _ rfl,rfl,_,rfl⟩⟩
  have fpn:∀b∈[e,it],b≠s.heap.objs.size:=λb hb=>by
   simp only [Sf,SF,or_false] at hb
   rcases hb with rfl | rfl
   ·exact lt he
   ·obtain ⟨o,e,_⟩:=h1;exact lt e
  have fpu:∀b∈[e,it],jt X pins (upd H s.heap.objs.size (.tup [.int (i:Nat),x])) b:=λb hb=>⟨by rw [aF (fpn b hb)];exact (hf b hb).1,(hf b hb).2⟩
  have I1:Inv X pins σ (upd H s.heap.objs.size (.tup [.int (i:Nat),x])) { s with heap:=h'',toks:=s.toks + 1 }:=Inv.pD (s:={ s with heap:=s.heap.push { cls:=.type "tuple",data:=.seq #[.int i s.toks,u] },toks:=s.toks + 1 }) (t':=s.toks + 1) (ch:=[e,it]) I0 (λb o hb eb=>by
   simp only [Sf,SF,or_false,not_or] at hb
   rcases Heap.get?_push_cases eb with ⟨rfl,rfl⟩ | e'
   ·exact hs'.extBut _ _ hb.1 a5
   ·exact hs'.extBut _ _ hb.1 (hk b o hb.1 hb.2 e')) fpu
  refine ⟨.ref s.heap.objs.size,_,I1,rfl,⟨_,x,hT,rfl,rfl,λzs hq=>by rw [I.jH hq hqx];exact hx⟩,⟨⟨_,by rw [Int.natCast_add];exact hz'⟩,a3.extBut hs'.extBut (Ne.symm ne)⟩,λb hb=>(fpu b hb).1⟩
 done:=by
  intro X hP hw hK hc i pins s σ H E I hf st hg
  subst hP hw hK
  obtain ⟨⟨old,he⟩,h1⟩:=st
  obtain ⟨xs,hqx,hl⟩:=hg
  obtain ⟨its,rv,p,hzx⟩:=I.list hqx
  have e1:=rv.length
  refine wpAny_pyNext_enum_end (I.ok.hd hc) he h1 p.isList (by rw [List.getElem?_toArray,T'];omega) λh' hk=>⟨rfl,I.pD (t':=s.toks) (ch:=[e,it]) (λb o hb e=>?_) hf⟩
  simp only [Sf,SF,or_false,not_or] at hb
  exact hk b o hb.2 e
 self:=λ_ _ _ _ _ st h=>let ⟨⟨_,he⟩,_⟩:=st;wpAny_pyIter_enum he h
def MD (K:PySem.W.Frag) (ta:TA):TI:=λσ H R=>ta σ H λvs H1=>∃a xs,vs=[.ref a]∧cP K H1 a xs∧R (QV K a) H1
section
variable {X:Cx}
theorem Hh {l:Expr} {elts:List Expr} {x1} {tp:Pos} {ta:TA} {p pos:Pos} (hg:Gl X "enumerate") (hm:X.mg "enumerate"=none) (ha:PA X [l] ta) (hs:starEach [l] X.env=(false,eval l X.env) :: starEach [] X.env:=by rfl) (hp:(backTo pos (starEach [] X.env)).any (·.1)=false:=by rfl):PI X (.Tuple elts x1 tp) (.Call (.Name "enumerate" p) [l] [] pos) (MD X.K ta):=by
 intro pins s σ H R I h
 refine Call_ (lq I hg hm PyProof.Rows.Boot.«enumerate» (PyProof.Rows.callWith_type1 (cn (ha pos pins s σ H _ I h) λus s1 ⟨vs,H1,I1,r1,q1⟩=>?_) hs hp))
 obtain ⟨a,xs,e,hqa,q⟩:=q1
 subst e
 cases r1 with
 | cons r rr =>
  cases rr
  cases r
  obtain ⟨its,rv,pl,hz⟩:=I1.list hqa
  refine call_enumerate_list pl.isList ?_
  intro h' b1 b2 b6 hk
  refine wpAny_pyIter_enum b1 ?_
  have ne:s1.heap.objs.size + 1≠s1.heap.objs.size:=Nat.succ_ne_self _
  refine ⟨_,_,_,_,H1,rfl,I1.kept (t':=s1.toks) hk,Cs ne,⟨⟨_,b1⟩,b2⟩,λc hc=>?_,q⟩
  have hc':s1.heap.objs.size≤c:=by
   simp only [Sf,SF,or_false] at hc
   show @LE.le Nat _ _ _
   rcases hc with rfl | rfl
   ·exact To _ _
   ·exact R' _
  exact I1.BE hc' (I1.hok.fresh hc')
end
end L2
namespace Ov
open PySem PySem.Spec PyProof.Rows
open L2 (V HO Hp Inv Cx VK XK TE TT TA TS TG oi TI TO il Ends sL Loc Gl Rd RelV Vals er t_ bS og pO oJ ij R2 upd aA aF cP fv Sp oV It bq cJ bK Passes mS aI Meth Mk Binds aJ cm av cV fb dX)
def vX (xs:List PV):List PV:=(SS xs.length).zipWith (λi x=>PV.tup [.int ((i:Nat):Int),x]) xs
theorem kb (xs:List PV):(vX xs).length=xs.length:=by unfold vX;simp
theorem sW (xs:List PV) (i:Nat) (x:PV) (h:xs[i]?=some x):(vX xs)[i]?=some (.tup [.int (i:Int),x]):=by
 unfold vX
 obtain ⟨hi,e⟩:=R8.mp h
 rw [List.getElem?_zipWith,Uw hi,h]
section
variable {X:Cx} {G:G2}
def Q9 (ta:oh):pP:=λτ J R=>ta τ J λvs J1=>Ai vs λx=>uL (lA J1 x) λxs=>R ⟨vX xs,λJ'=>lA J' x=some xs⟩ J1
theorem HF {l:Expr} {elts:List Expr} {x1} {tp:Pos} {ta:oh} {p pos:Pos} (hg:Gl X "enumerate") (hm:X.mg "enumerate"=none) (ha:RA X G [l] ta) (hs:starEach [l] X.env=(false,eval l X.env) :: starEach [] X.env:=by rfl) (hp:(backTo pos (starEach [] X.env)).any (·.1)=false:=by rfl) :
  RI X G (.Tuple elts x1 tp) (.Call (.Name "enumerate" p) [l] [] pos) (Q9 ta):=⟨L5 (L2.Hh hg hm ha.run hs hp) λσ H R ⟨τ,J,R2,a2,h,k⟩=>⟨τ,J,_,a2,h,λvs J1 us H1 rs r1 e1 hh=>by
 obtain ⟨x,ev,hh⟩:=gB hh;obtain ⟨xs,hx,q⟩:=d5 hh
 subst ev
 obtain ⟨v,us',rfl,rv,e'⟩:=rs
 cases e'
 obtain ⟨a,ws,rfl,h1,h2⟩:=nj hx rv r1
 refine ⟨a,ws,rfl,h1,k _ J1 _ H1 ?_ r1 e1 q⟩
 have at_:∀J' H',Ext X.K J1 H1 J' H'→Rep X.K J' H'→lA J' x=some xs→∃vs,cP X.K H' a vs∧aL X.K J' H' xs vs:=λJ' H' e r o=>by
  obtain ⟨c,vs,eb,g1,g2⟩:=nj o (e.rep rv) r
  cases eb
  exact ⟨vs,g1,g2⟩
 exact {
  go:=λJ' H' e r o i hi=>by
   obtain ⟨vs,s,rs⟩:=at_ J' H' e r o
   rw [kb] at hi
   exact ⟨vs,vs[i]'(by rw [← rs.length];exact hi),s,by simp⟩
  yl:=λJ' H' e r o i hi v H2 y=>by
   obtain ⟨vs,s,rs⟩:=at_ J' H' e r o
   obtain ⟨T,z,hT,rfl,rfl,y1⟩:=y
   obtain ⟨c,ec,rc⟩:=rs.get' (y1 vs s)
   have sm:=bq.new hT (.tup [.int (i:Nat),z])
   have e2:=Ext.same (K:=X.K) (J:=J') sm
   refine ⟨.tup [.int (i:Int),c],sW _ _ _ ec,⟨T,[.int (i:Nat),z],rfl,.inl (.inl aA),e2.iM ⟨.int (i:Nat),_,rfl,rfl,z,_,rfl,rc,rfl⟩⟩,r.same sm,e2⟩
  stop:=λJ' H' e r o=>by
   obtain ⟨vs,s,rs⟩:=at_ J' H' e r o
   exact ⟨vs,s,by rw [kb,← rs.length];exact R' _⟩ }⟩⟩
end
section
variable {X:Cx} {pins:List (Addr × Obj)} {σ:L2.St} {H:Hp} {s:Shared}
open Classical in
def eT (K:PySem.W.Frag) (H:Hp) (zs:List Py) (y:Py) (u:Value):Bool:=decide (∃z∈zs,∃v,RelV v u∧At K H z v∧kg z y=true)
end
section
variable {X:Cx} {G:G2}
end
end Ov
namespace Ov
open PySem
structure aD where
 m:Rat
 h:Str
 f:Str
 deriving DecidableEq
def slt (a b:Str):Prop:=a.cps.toList < b.cps.toList
instance (a b:Str):Decidable (slt a b):=inferInstanceAs (Decidable (a.cps.toList < b.cps.toList))
def aD.lt (a b:aD):Bool:=if a.m=b.m then (if a.h=b.h then decide (slt a.f b.f) else decide (slt a.h b.h)) else decide (a.m < b.m)
theorem mK (a:Str):¬ slt a a:=List.lt_irrefl _
theorem n4 {a b c:Str} (h:slt a b) (k:slt b c):slt a c:=List.lt_trans h k
theorem DZ:∀(a b:List Nat),a≠b→a < b∨b < a
 | [],[],h=>absurd rfl h
 | [],_ :: _,_=>.inl (UK _ _)
 | _ :: _,[],_=>.inr (UK _ _)
 | x :: a,y :: b,h=>by
  rcases UC x y with z | z | z
  ·exact .inl (Tt.mpr (.inl z))
  ·subst z
   rcases DZ a b (λe=>h (by rw [e])) with q | q
   ·exact .inl (Tt.mpr (.inr ⟨rfl,q⟩))
   ·exact .inr (Tt.mpr (.inr ⟨rfl,q⟩))
  ·exact .inr (Tt.mpr (.inl z))
theorem vp {a b:Str} (h:a≠b):slt a b∨slt b a:=by
 have ne:a.cps.toList≠b.cps.toList:=λe=>h (by cases a;cases b;simp at e;rw [e])
 exact DZ _ _ ne
theorem Lm {a b:Str} (h:slt a b):a≠b:=λe=>by subst e;exact mK _ h
theorem aD.lt_iff (a b:aD):a.lt b=true↔a.m < b.m∨(a.m=b.m∧(slt a.h b.h∨(a.h=b.h∧slt a.f b.f))):=by
 unfold aD.lt
 by_cases e:a.m=b.m
 ·rw [if_pos e]
  have n:¬ a.m < b.m:=by rw [e];exact Rat.lt_irrefl
  by_cases k:a.h=b.h
  ·rw [if_pos k]
   have n2:¬ slt a.h b.h:=λz=>Lm z k
   simp [e,k,n,n2]
   try (intro z;first | exact absurd z Rat.lt_irrefl | exact absurd z (mK _))
  ·rw [if_neg k]
   simp [e,k]
   try (intro z;exact absurd z Rat.lt_irrefl)
 ·rw [if_neg e]
  simp [e]
theorem aD.Ks (a:aD):a.lt a=false:=by
 cases h:a.lt a with
 | false=>rfl
 | true =>
  rcases (aD.lt_iff a a).mp h with h | ⟨_,h | ⟨_,h⟩⟩
  ·exact absurd h Rat.lt_irrefl
  ·exact absurd h (mK _)
  ·exact absurd h (mK _)
theorem tJ {a b c:Rat} (h:a < b) (k:b < c):a < c:=by grind
theorem aD.lt_trans {a b c:aD} (h:a.lt b=true) (k:b.lt c=true):a.lt c=true:=by
 rw [aD.lt_iff] at *
 rcases h with h | ⟨e,h⟩ <;> rcases k with k | ⟨e',k⟩
 ·exact .inl (tJ h k)
 ·exact .inl (e' ▸ h)
 ·exact .inl (e ▸ k)
 ·refine .inr ⟨e.trans e',?_⟩
  rcases h with h | ⟨z,h⟩ <;> rcases k with k | ⟨z',k⟩
  ·exact .inl (n4 h k)
  ·exact .inl (z' ▸ h)
  ·exact .inl (z ▸ k)
  ·exact .inr ⟨z.trans z',n4 h k⟩
theorem aD.DV {a b:aD} (h:a≠b):a.lt b=true∨b.lt a=true:=by
 rw [aD.lt_iff,aD.lt_iff]
 by_cases e:a.m=b.m
 ·by_cases z:a.h=b.h
  ·have:a.f≠b.f:=λq=>h (by cases a;cases b;simp_all)
   rcases vp this with q | q
   ·exact .inl (.inr ⟨e,.inr ⟨z,q⟩⟩)
   ·exact .inr (.inr ⟨e.symm,.inr ⟨z.symm,q⟩⟩)
  ·rcases vp z with q | q
   ·exact .inl (.inr ⟨e,.inl q⟩)
   ·exact .inr (.inr ⟨e.symm,.inl q⟩)
 ·rcases (by grind:a.m < b.m∨b.m < a.m) with q | q
  ·exact .inl (.inl q)
  ·exact .inr (.inl q)
def ik (l:List aD):Prop:=l.Pairwise λa b=>a.lt b=true
def jk (b:aD) (l:List aD):List aD:=l.filter (λx=>x.lt b) ++ b :: l.filter (λx=>!x.lt b)
def tK (h f:Str) (x:aD):Bool:=decide (x.h=h∧x.f=f)
def cX (h f:Str) (l:List aD):List aD:=l.filter λx=>!tK h f x
theorem sV {h f:Str} {l:List aD} (s:ik l):ik (cX h f l):=s.filter _
theorem v9 {b:aD} {l:List aD} (s:ik l) (n:∀x∈l,x≠b):ik (jk b l):=by
 unfold jk ik
 rw [Ut]
 refine ⟨s.filter _,?_,?_⟩
 ·rw [TM]
  refine ⟨λy hy=>?_,s.filter _⟩
  rw [Sg] at hy
  rcases aD.DV (n y hy.1) with q | q
  ·simp [q] at hy
  ·exact q
 ·intro x hx y hy
  rw [Sg] at hx
  rcases Sf.mp hy with rfl | hy
  ·exact hx.2
  ·rw [Sg] at hy
   rcases aD.DV (n y hy.1) with q | q
   ·simp [q] at hy
   ·exact aD.lt_trans hx.2 q
theorem Ge {h f:Str} {l:List aD} {m:Rat}:∀x∈cX h f l,x≠⟨m,h,f⟩:=λx hx e=>by
 subst e
 unfold cX at hx
 rw [Sg] at hx
 simp [tK] at hx
theorem tG (p:aD→Bool):∀{l:List aD} {i:Nat},i≤l.length→(∀(j:Nat) x,j < i→l[j]?=some x→p x=true)→(∀(j:Nat) x,i≤j→l[j]?=some x→p x=false)→l.take i ++ l.drop i=l∧l.filter p=l.take i∧l.filter (λx=>!p x)=l.drop i
 | l,0,_,_,h=>by
  refine ⟨by simp,?_,?_⟩
  ·rw [Uu]
   apply Ui.mpr
   intro x hx
   obtain ⟨j,hj⟩:=Sx.mp hx
   rw [h j x (SG _) hj];simp
  ·rw [TY]
   apply S2.mpr
   intro x hx
   obtain ⟨j,hj⟩:=Sx.mp hx
   rw [h j x (SG _) hj];rfl
 | [],i + 1,hi,_,_=>by simp at hi
 | x :: l,i + 1,hi,h1,h2=>by
  obtain ⟨a,b,c⟩:=tG p (l:=l) (i:=i) (by simpa using hi) (λj y hj e=>h1 (j + 1) y (by omega) (by simpa using e)) (λj y hj e=>h2 (j + 1) y (by omega) (by simpa using e))
  have hx:p x=true:=h1 0 x (by omega) rfl
  refine ⟨by simp,?_,?_⟩
  ·rw [SJ,hx];simp [b]
  ·rw [SJ,hx];simp [c]
theorem z_ {b:aD} {l:List aD} {i:Nat} (hi:i≤l.length) (h1:∀(j:Nat) x,j < i→l[j]?=some x→x.lt b=true) (h2:∀(j:Nat) x,i≤j→l[j]?=some x→x.lt b=false):l.take i ++ b :: l.drop i=jk b l:=by
 obtain ⟨_,e1,e2⟩:=tG (λx=>x.lt b) hi h1 h2
 unfold jk
 rw [e1,e2]
theorem A2 {l:List aD} {b x y:aD} {i j:Nat} (s:ik l) (hx:l[i]?=some x) (hy:l[j]?=some y) (h:j≤i) (k:x.lt b=true):y.lt b=true:=by
 rcases TN h with h | h
 ·obtain ⟨hi,ei⟩:=R8.mp hx
  obtain ⟨hj,ej⟩:=R8.mp hy
  have:=SV.mp s j i hj hi h
  rw [ei,ej] at this
  exact aD.lt_trans this k
 ·subst h;rw [hx] at hy;cases hy;exact k
theorem xB {l:List aD} {b x y:aD} {i j:Nat} (s:ik l) (hx:l[i]?=some x) (hy:l[j]?=some y) (h:i≤j) (k:x.lt b=false):y.lt b=false:=by
 cases q:y.lt b with
 | false=>rfl
 | true=>rw [A2 s hy hx h q] at k;cases k
theorem Dv {b x:aD} {l:List aD} (h:x∈jk b l):x=b∨x∈l:=by
 unfold jk at h
 rcases Se.mp h with h | h
 ·exact .inr (Sg.mp h).1
 ·rcases Sf.mp h with h | h
  ·exact .inl h
  ·exact .inr (Sg.mp h).1
theorem l_ (p:aD→Bool):∀l:List aD,(l.filter p).length + (l.filter λx=>!p x).length=l.length
 | []=>rfl
 | x :: l=>by
  have:=l_ p l
  cases h:p x <;> simp [h] <;> omega
theorem v8 (b:aD) (l:List aD):(jk b l).length=l.length + 1:=by
 unfold jk
 rw [So,Sv]
 have:=l_ (λx=>x.lt b) l
 omega
theorem m6 (h f:Str) (l:List aD):(cX h f l).length≤l.length:=Ts _ _
structure aZ where
 m:Rat
 p:Rat
 v:Int
 deriving DecidableEq
def aZ.at (l:aZ) (t:Rat):Rat:=l.p + (t - l.m) * l.v
def turned (rows:List aZ) (t:Rat) (v:Int):List aZ :=
 match rows.getLast? with
 | none=>[]
 | some l =>
  let rest:=if l.m=t then rows.dropLast else rows
  if rest.getLast?.map aZ.v=some v then rest else rest ++ [⟨t,l.at t,v⟩]
theorem gx (ls:List aZ) (l:aZ) (t:Rat) (v:Int):turned (ls ++ [l]) t v =
  if l.m=t then (if ls.getLast?.map aZ.v=some v then ls else ls ++ [⟨t,l.at t,v⟩]) else (if l.v=v then ls ++ [l] else ls ++ [l] ++ [⟨t,l.at t,v⟩]):=by
 unfold turned
 simp only [SX,List.dropLast_concat]
 split
 ·rfl
 ·simp only [SX,UP,Option.some.injEq]
theorem Cu {rows:List aZ} {t:Rat} {v:Int} (h:rows≠[]):turned rows t v≠[]:=by
 obtain ⟨ls,l,rfl⟩:∃ls l,rows=ls ++ [l]:=⟨rows.dropLast,rows.getLast h,(S5 h).symm⟩
 rw [gx]
 split
 ·split
  ·rename_i e
   intro z;subst z;cases e
  ·simp
 ·split <;> simp
theorem Lx {rows:List aZ} {t:Rat} {v:Int} {x:aZ} (h:x∈turned rows t v):x∈rows∨∃l∈rows,x=⟨t,l.at t,v⟩:=by
 by_cases e:rows=[]
 ·subst e;cases h
 obtain ⟨ls,l,rfl⟩:∃ls l,rows=ls ++ [l]:=⟨rows.dropLast,rows.getLast e,(S5 e).symm⟩
 rw [gx] at h
 have key:∀{y:List aZ},(∀z∈y,z∈ls ++ [l])→x∈y ++ [⟨t,l.at t,v⟩]→x∈ls ++ [l]∨∃l'∈ls ++ [l],x=⟨t,l'.at t,v⟩:=λhy hx=>by
  rcases Se.mp hx with h | h
  ·exact .inl (hy _ h)
  ·exact .inr ⟨l,by simp,by simpa using h⟩
 split at h
 ·split at h
  ·exact .inl (Se.mpr (.inl h))
  ·exact key (λz hz=>Se.mpr (.inl hz)) h
 ·split at h
  ·exact .inl h
  ·exact key (λz hz=>hz) h
theorem Lw (rows:List aZ) (t:Rat) (v:Int):(turned rows t v).length≤rows.length + 1:=by
 by_cases e:rows=[]
 ·subst e;simp [turned]
 obtain ⟨ls,l,rfl⟩:∃ls l,rows=ls ++ [l]:=⟨rows.dropLast,rows.getLast e,(S5 e).symm⟩
 rw [gx]
 split <;> split <;> simp <;> omega
def we (rows:List aZ) (t:Rat):Option aZ:=(rows.filter λl=>decide (l.m≤t)).getLast?
def lb (ms:List Rat) (t:Rat):Nat→Nat
 | 0=>0
 | k + 1=>if ms.getD k 0≤t then k + 1 else lb ms t k
theorem IE (ms:List Rat) (t:Rat):∀k,lb ms t k≤k
 | 0=>R' _
 | k + 1=>by unfold lb;split;exact R' _;exact Nat.le_succ_of_le (IE ms t k)
theorem DM {ms:List Rat} {t:Rat} {j:Nat} (h:ms.getD j 0≤t):∀{k},j < k→0 < lb ms t k
 | 0,hk=>absurd hk (T3 _)
 | k + 1,hk=>by
  unfold lb
  split
  ·exact Nat.succ_pos _
  ·rename_i c
   exact DM h (by rcases Nat.lt_succ_iff_lt_or_eq.mp hk with e | e;exact e;subst e;exact absurd h c)
theorem Af (t:Rat) (rows:List aZ):∀k,k≤rows.length→((rows.take k).filter λl=>decide (l.m≤t)).getLast?=if lb (rows.map aZ.m) t k=0 then none else rows[lb (rows.map aZ.m) t k - 1]?
 | 0,_=>rfl
 | k + 1,hk=>by
  have hk':k < rows.length:=by omega
  have e:rows.take (k + 1)=rows.take k ++ [rows[k]]:=by rw [SK,R7 hk'];rfl
  have em:(rows.map aZ.m).getD k 0=rows[k].m:=by simp [Vb,hk']
  rw [e,TK]
  unfold lb
  rw [em]
  by_cases c:rows[k].m≤t
  ·rw [if_pos c,SJ,if_pos (decide_eq_true c),Um,SX,if_neg (Nat.succ_ne_zero _),Nat.add_sub_cancel,R7 hk']
  ·rw [if_neg c,SJ,if_neg (by simp [c]),Um,Tf]
   exact Af t rows k (by omega)
theorem DR (rows:List aZ) (t:Rat):we rows t=if lb (rows.map aZ.m) t rows.length=0 then none else rows[lb (rows.map aZ.m) t rows.length - 1]?:=by
 have:=Af t rows rows.length (R' _)
 rw [SO] at this
 exact this
def OJ (g:Option Rat) (t:Rat):Bool:=match g with | none=>true | some q=>decide (t < q)
def there (rows:List aZ) (g:Option Rat) (t:Rat):Bool :=
 match rows.head? with
 | none=>false
 | some l=>!decide (t < l.m) && OJ g t
theorem Fc {rows:List aZ} {g:Option Rat} {t:Rat} (h:there rows g t=true):∃l,we rows t=some l∧l∈rows∧l.m≤t∧0 < lb (rows.map aZ.m) t rows.length∧rows[lb (rows.map aZ.m) t rows.length - 1]?=some l:=by
 cases rows with
 | nil=>cases h
 | cons l0 ls =>
  have h0:l0.m≤t:=by
   unfold there at h
   simp only [Uq,SA,UA,decide_eq_false_iff_not] at h
   exact Rat.not_lt.mp h.1
  have hp:0 < lb ((l0 :: ls).map aZ.m) t (l0 :: ls).length:=DM (j:=0) (by simpa using h0) (by simp)
  have hle:=IE ((l0 :: ls).map aZ.m) t (l0 :: ls).length
  have hx:=DR (l0 :: ls) t
  rw [if_neg (by omega)] at hx
  obtain ⟨l,hl⟩:∃l,(l0 :: ls)[lb ((l0 :: ls).map aZ.m) t (l0 :: ls).length - 1]?=some l:=⟨_,R7 (by omega)⟩
  rw [hl] at hx
  have hm:=List.mem_of_getLast? hx
  rw [Sg] at hm
  exact ⟨l,hx,hm.1,of_decide_eq_true hm.2,hp,hl⟩
def Sc (D A:Nat) (q:Rat):Prop:=∃a:Int,q * (D:Rat)=(a:Rat)∧a.natAbs≤A
theorem Sc.mono {D A B:Nat} {q:Rat} (h:Sc D A q) (k:A≤B):Sc D B q:=let ⟨a,e,l⟩:=h;⟨a,e,Su l k⟩
theorem M9 {D:Nat} (h:0 < D):(D:Rat)≠0:=by
 intro e
 have:D=0:=by exact_mod_cast e
 omega
theorem Sc.sz {D A n:Nat} {q:Rat} (h:Sc D A q) (hD:0 < D) (h1:D < 2 ^ n) (h2:A < 2 ^ n):Sz n q:=by
 obtain ⟨a,e,l⟩:=h
 have nz:=M9 hD
 have:q=Rat.divInt a (D:Int):=by
  rw [Rat.divInt_eq_div,← e]
  have:((D:Int):Rat)=(D:Rat):=rfl
  rw [this]
  generalize (D:Rat)=d at nz ⊢
  grind
 rw [this]
 exact Sz.div ⟨Tb l h2⟩ ⟨by simpa using h1⟩ (by omega)
theorem Sc.scale {D A E:Nat} {p:Rat} (h:Sc D A p):Sc (E * D) (E * A) p:=by
 obtain ⟨a,e,l⟩:=h
 refine ⟨E * a,?_,?_⟩
 ·rw [Rat.intCast_mul,← e]
  have h1:((E * D:Nat):Rat)=(E:Rat) * (D:Rat):=Rat.natCast_mul ..
  have h2:((E:Int):Rat)=(E:Rat):=rfl
  rw [h1,h2]
  grind
 ·rw [Int.natAbs_mul];exact Nat.mul_le_mul (by simp) l
theorem Sc.Ku {D A:Nat} {t:Int} {b:Nat} (hb:0 < b) (hd:b ∣ D) (hA:t.natAbs * (D / b)≤A):Sc D A (Rat.divInt t b):=by
 obtain ⟨c,rfl⟩:=hd
 rw [Uh _ hb] at hA
 refine ⟨t * c,?_,by rw [Int.natAbs_mul];simpa using hA⟩
 have nb:=M9 hb
 have e1:((b:Int):Rat)=(b:Rat):=rfl
 have e2:((c:Int):Rat)=(c:Rat):=rfl
 rw [Rat.divInt_eq_div,Rat.intCast_mul,e1,e2,Rat.natCast_mul]
 generalize (b:Rat)=b at nb ⊢
 grind
def gy:Nat:=9690712164777231700912800
theorem Rf:∀b:Nat,1≤b→b≤60→b ∣ gy:=by
 intro b h1 h2
 have:∀b:Fin 61,1≤b.val→b.val ∣ gy:=by decide
 exact this ⟨b,by omega⟩ h1
theorem uv:0 < gy:=by decide
def MM:Nat:=2097152 * gy
structure RC (D k:Nat) (l:aZ):Prop where
 m:Sc gy MM l.m
 p:Sc (D * gy) (gy * 2 ^ 101 + k * (2000 * (D * MM))) l.p
 v:l.v.natAbs≤1000
theorem M8:MM < 2 ^ 106:=by decide
theorem wu {q:Rat} (h:Sc gy MM q):Sz 106 q:=h.sz uv (by decide) M8
structure Gd (D k:Nat) (rows:List aZ):Prop where
 ne:rows≠[]
 ok:∀l∈rows,RC D k l
 len:rows.length≤k + 1
def Later (c q:Rat):Prop:=q=c∨∃u s:Nat,1≤u∧u≤60∧1≤s∧s≤500 * u∧q=Rat.divInt ((c.num * u).fdiv c.den + s) u
theorem Later.sc {c q:Rat} {A:Nat} (h:Later c q) (k:Sc gy A c):Sc gy (A + 501 * gy) q:=by
 rcases h with rfl | ⟨u,s,h1,h2,h3,h4,rfl⟩
 ·exact k.mono (To _ _)
 obtain ⟨a,e,l⟩:=k
 obtain ⟨w,hw⟩:=Rf u h1 h2
 refine Sc.Ku (by omega) ⟨w,hw⟩ ?_
 have ew:gy / u=w:=by rw [hw,Uh _ (by omega)]
 rw [ew]
 have hf:((c.num * u).fdiv c.den) * c.den≤c.num * u∧c.num * u < ((c.num * u).fdiv c.den + 1) * c.den:=by
  rw [Int.fdiv_eq_ediv_of_nonneg _ (by omega)]
  have:=eJ c
  constructor
  ·exact Int.ediv_mul_le _ (by omega)
  ·have:=Int.lt_ediv_add_one_mul_self (c.num * u) this;exact this
 have ea:c.num * (gy:Int)=a * c.den:=by
  have h1:=cast_eq c
  have h2:=dJ c
  have h3:((gy:Nat):Rat)=(((gy:Nat):Int):Rat):=rfl
  have:((c.num * (gy:Int):Int):Rat)=((a * c.den:Int):Rat):=by
   rw [Rat.intCast_mul,Rat.intCast_mul,h1,← e,h3]
   grind
  exact_mod_cast this
 have hL:(gy:Int)=u * w:=by rw [hw];simp
 have hw0:0 < w:=by
  rcases Nat.eq_zero_or_pos w with z | z
  ·rw [z,Nat.mul_zero] at hw;exact absurd hw (by decide)
  ·exact z
 rw [hL] at ea
 have hd:=eJ c
 generalize hF:(c.num * u).fdiv c.den=F at hf ⊢
 generalize hN:c.num=N at *
 generalize hDD:(c.den:Int)=d at *
 have g1:F * w≤a:=by
  have:F * w * d≤a * d:=by
   rw [← ea]
   have:=Int.mul_le_mul_of_nonneg_right hf.1 (show (0:Int)≤w by omega)
   calc F * w * d=F * d * w:=by rw [Int.mul_right_comm]
    _≤N * u * w:=this
    _=N * (u * w):=Int.mul_assoc ..
  exact Int.le_of_mul_le_mul_right this hd
 have g2:a≤(F + 1) * w:=by
  have:a * d≤(F + 1) * w * d:=by
   rw [← ea]
   have:=Int.mul_le_mul_of_nonneg_right (Int.le_of_lt hf.2) (show (0:Int)≤w by omega)
   calc N * (u * w)=N * u * w:=(Int.mul_assoc ..).symm
    _≤(F + 1) * d * w:=this
    _=(F + 1) * w * d:=by rw [Int.mul_right_comm]
  exact Int.le_of_mul_le_mul_right this hd
 have hsw:s * w≤500 * (u * w):=by
  calc s * w≤500 * u * w:=Nat.mul_le_mul_right _ h4
   _=500 * (u * w):=Nat.mul_assoc ..
 have huw:w≤u * w:=Nat.le_mul_of_pos_left _ (by omega)
 rw [hw]
 have:(F + s).natAbs * w=((F + s) * w).natAbs:=by rw [Int.natAbs_mul];simp
 rw [this,Int.add_mul]
 rw [Int.add_mul,Int.one_mul] at g2
 have hsw':(s:Int) * w≤500 * ((u * w:Nat):Int):=by exact_mod_cast hsw
 generalize F * (w:Int)=x at *
 have hs0:(0:Int)≤(s:Int) * w:=Int.mul_nonneg (by omega) (by omega)
 generalize (s:Int) * w=y at *
 generalize u * w=z at *
 omega
theorem Later.le {c q:Rat} (h:Later c q):c≤q:=by
 rcases h with rfl | ⟨u,s,h1,h2,h3,h4,rfl⟩
 ·exact Rat.le_refl
 have hf:c.num * u < ((c.num * u).fdiv c.den + 1) * c.den:=by
  rw [Int.fdiv_eq_ediv_of_nonneg _ (by omega)]
  exact Int.lt_ediv_add_one_mul_self (c.num * u) (eJ c)
 generalize (c.num * u).fdiv c.den=F at hf ⊢
 have h5:c.num * u≤(F + s) * c.den:=by
  have:(F + 1) * c.den≤(F + s) * c.den:=Int.mul_le_mul_of_nonneg_right (by omega) (by omega)
  omega
 have hu:(0:Rat) < (u:Rat):=by exact_mod_cast (show 0 < u by omega)
 have hd:(0:Rat) < ((c.den:Int):Rat):=by exact_mod_cast eJ c
 refine Rat.not_lt.mp λhlt=>?_
 rw [Rat.divInt_eq_div] at hlt
 have e1:((u:Int):Rat)=(u:Rat):=rfl
 rw [e1,Rat.div_lt_iff hu] at hlt
 have h6:=Rat.mul_lt_mul_of_pos_right hlt hd
 have e2:c * (u:Rat) * ((c.den:Int):Rat)=((c.num * u:Int):Rat):=by
  rw [Rat.intCast_mul,cast_eq c,e1];grind
 rw [e2,← Rat.intCast_mul] at h6
 have h7:(F + s) * c.den < c.num * u:=by exact_mod_cast h6
 omega
section
variable {α:Type} {lt:α→α→Bool}
def oM (lt:α→α→Bool) (b:α) (l:List α):List α:=l.filter (λx=>lt x b) ++ b :: l.filter (λx=>!lt x b)
def m4 (lt:α→α→Bool) (l:List α):Prop:=l.Pairwise λa b=>lt a b=true
theorem Ec (p:α→Bool):∀{l:List α} {i:Nat},i≤l.length→(∀(j:Nat) x,j < i→l[j]?=some x→p x=true)→(∀(j:Nat) x,i≤j→l[j]?=some x→p x=false)→l.filter p=l.take i∧l.filter (λx=>!p x)=l.drop i
 | l,0,_,_,h=>by
  refine ⟨?_,?_⟩
  ·rw [Uu]
   apply Ui.mpr
   intro x hx
   obtain ⟨j,hj⟩:=Sx.mp hx
   rw [h j x (SG _) hj];simp
  ·rw [TY]
   apply S2.mpr
   intro x hx
   obtain ⟨j,hj⟩:=Sx.mp hx
   rw [h j x (SG _) hj];rfl
 | [],i + 1,hi,_,_=>by simp at hi
 | x :: l,i + 1,hi,h1,h2=>by
  obtain ⟨b,c⟩:=Ec p (l:=l) (i:=i) (by simpa using hi) (λj y hj e=>h1 (j + 1) y (by omega) (by simpa using e)) (λj y hj e=>h2 (j + 1) y (by omega) (by simpa using e))
  have hx:p x=true:=h1 0 x (by omega) rfl
  refine ⟨?_,?_⟩
  ·rw [SJ,hx];simp [b]
  ·rw [SJ,hx];simp [c]
theorem Aa {b:α} {l:List α} {i:Nat} (hi:i≤l.length) (h1:∀(j:Nat) x,j < i→l[j]?=some x→lt x b=true) (h2:∀(j:Nat) x,i≤j→l[j]?=some x→lt x b=false):l.take i ++ b :: l.drop i=oM lt b l:=by
 obtain ⟨e1,e2⟩:=Ec (λx=>lt x b) hi h1 h2
 unfold oM
 rw [e1,e2]
theorem v_ {b x:α} {l:List α}:x∈oM lt b l↔x=b∨x∈l:=by
 unfold oM
 rw [Se,Sf,Sg,Sg]
 constructor
 ·rintro (h | h | h)
  ·exact .inr h.1
  ·exact .inl h
  ·exact .inr h.1
 ·rintro (h | h)
  ·exact .inr (.inl h)
  ·cases e:lt x b
   ·exact .inr (.inr ⟨h,by simp⟩)
   ·exact .inl ⟨h,rfl⟩
theorem Dw (b:α) (l:List α):(oM lt b l).length=l.length + 1:=by
 unfold oM
 rw [So,Sv]
 have:∀l:List α,(l.filter λx=>lt x b).length + (l.filter λx=>!lt x b).length=l.length:=by
  intro l
  induction l with
  | nil=>rfl
  | cons x l ih=>cases h:lt x b <;> simp [h] <;> omega
 have:=this l
 omega
theorem Dx (tr:∀{a b c},lt a b=true→lt b c=true→lt a c=true) {b:α} {l:List α} (s:m4 lt l) (Oi:∀x∈l,lt x b=true∨lt b x=true):m4 lt (oM lt b l):=by
 unfold oM m4
 rw [Ut]
 refine ⟨s.filter _,?_,?_⟩
 ·rw [TM]
  refine ⟨λy hy=>?_,s.filter _⟩
  rw [Sg] at hy
  rcases Oi y hy.1 with q | q
  ·simp [q] at hy
  ·exact q
 ·intro x hx y hy
  rw [Sg] at hx
  rcases Sf.mp hy with rfl | hy
  ·exact hx.2
  ·rw [Sg] at hy
   rcases Oi y hy.1 with q | q
   ·simp [q] at hy
   ·exact tr hx.2 q
theorem xA (tr:∀{a b c},lt a b=true→lt b c=true→lt a c=true) {l:List α} {b x y:α} {i j:Nat} (s:m4 lt l) (hx:l[i]?=some x) (hy:l[j]?=some y) (h:j≤i) (k:lt x b=true):lt y b=true:=by
 rcases TN h with h | h
 ·obtain ⟨hi,ei⟩:=R8.mp hx
  obtain ⟨hj,ej⟩:=R8.mp hy
  have:=SV.mp s j i hj hi h
  rw [ei,ej] at this
  exact tr this k
 ·subst h;rw [hx] at hy;cases hy;exact k
theorem Co (tr:∀{a b c},lt a b=true→lt b c=true→lt a c=true) {l:List α} {b x y:α} {i j:Nat} (s:m4 lt l) (hx:l[i]?=some x) (hy:l[j]?=some y) (h:i≤j) (k:lt x b=false):lt y b=false:=by
 cases q:lt y b with
 | false=>rfl
 | true=>have:=xA (lt:=lt) (b:=b) tr s hy hx h q;rw [this] at k;cases k
theorem mL (Fp:∀a,lt a a=false) (tr:∀{a b c},lt a b=true→lt b c=true→lt a c=true):∀{l k:List α},m4 lt l→m4 lt k→(∀x,x∈l↔x∈k)→l=k
 | [],[],_,_,_=>rfl
 | [],y :: k,_,_,h=>by have:=(h y).mpr SD;cases this
 | x :: l,[],_,_,h=>by have:=(h x).mp SD;cases this
 | x :: l,y :: k,hl,hk,h=>by
  obtain ⟨a1,a2⟩:=TM.mp hl
  obtain ⟨b1,b2⟩:=TM.mp hk
  have exy:x=y:=by
   rcases Sf.mp ((h x).mp SD) with e | e
   ·exact e
   ·rcases Sf.mp ((h y).mpr SD) with e' | e'
    ·exact e'.symm
    ·have:=tr (a1 y e') (b1 x e)
     rw [Fp] at this;cases this
  subst exy
  rw [mL Fp tr a2 b2 λz=>?_]
  constructor
  ·intro hz
   rcases Sf.mp ((h z).mp (Sm _ hz)) with e | e
   ·have:=a1 z hz;rw [e,Fp] at this;cases this
   ·exact e
  ·intro hz
   rcases Sf.mp ((h z).mpr (Sm _ hz)) with e | e
   ·have:=b1 z hz;rw [e,Fp] at this;cases this
   ·exact e
end
structure Ky where
 p:Rat
 v:Int
 n:Str
 deriving DecidableEq
def Ky.lt (a b:Ky):Bool:=if a.p=b.p then (if a.v=b.v then decide (slt a.n b.n) else decide (a.v < b.v)) else decide (a.p < b.p)
theorem Ky.lt_iff (a b:Ky):a.lt b=true↔a.p < b.p∨(a.p=b.p∧(a.v < b.v∨(a.v=b.v∧slt a.n b.n))):=by
 unfold Ky.lt
 by_cases e:a.p=b.p
 ·rw [if_pos e]
  have n:¬ a.p < b.p:=by rw [e];exact Rat.lt_irrefl
  by_cases k:a.v=b.v
  ·rw [if_pos k,decide_eq_true_eq]
   have n2:¬ a.v < b.v:=by omega
   exact ⟨λh=>.inr ⟨e,.inr ⟨k,h⟩⟩,λh=>by
    rcases h with h | ⟨_,h | h⟩
    ·exact absurd h n
    ·exact absurd h n2
    ·exact h.2⟩
  ·rw [if_neg k,decide_eq_true_eq]
   exact ⟨λh=>.inr ⟨e,.inl h⟩,λh=>by
    rcases h with h | ⟨_,h | h⟩
    ·exact absurd h n
    ·exact h
    ·exact absurd h.1 k⟩
 ·rw [if_neg e,decide_eq_true_eq]
  exact ⟨.inl,λh=>by
   rcases h with h | h
   ·exact h
   ·exact absurd h.1 e⟩
theorem Ky.Fp (a:Ky):a.lt a=false:=by
 cases h:a.lt a with
 | false=>rfl
 | true =>
  rcases (Ky.lt_iff a a).mp h with h | ⟨_,h | ⟨_,h⟩⟩
  ·exact absurd h Rat.lt_irrefl
  ·omega
  ·exact absurd h (mK _)
theorem Ky.tr {a b c:Ky} (h:a.lt b=true) (k:b.lt c=true):a.lt c=true:=by
 rw [Ky.lt_iff] at *
 rcases h with h | ⟨e,h⟩ <;> rcases k with k | ⟨e',k⟩
 ·exact .inl (tJ h k)
 ·exact .inl (e' ▸ h)
 ·exact .inl (e ▸ k)
 ·refine .inr ⟨e.trans e',?_⟩
  rcases h with h | ⟨z,h⟩ <;> rcases k with k | ⟨z',k⟩
  ·exact .inl (by omega)
  ·exact .inl (by omega)
  ·exact .inl (by omega)
  ·exact .inr ⟨z.trans z',n4 h k⟩
theorem Ky.Oi {a b:Ky} (h:a.n≠b.n):a.lt b=true∨b.lt a=true:=by
 rw [Ky.lt_iff,Ky.lt_iff]
 by_cases e:a.p=b.p
 ·by_cases z:a.v=b.v
  ·rcases vp h with q | q
   ·exact .inl (.inr ⟨e,.inr ⟨z,q⟩⟩)
   ·exact .inr (.inr ⟨e.symm,.inr ⟨z.symm,q⟩⟩)
  ·rcases (by omega:a.v < b.v∨b.v < a.v) with q | q
   ·exact .inl (.inr ⟨e,.inl q⟩)
   ·exact .inr (.inr ⟨e.symm,.inl q⟩)
 ·rcases (by grind:a.p < b.p∨b.p < a.p) with q | q
  ·exact .inl (.inl q)
  ·exact .inr (.inl q)
theorem Ky.Mi {a b:Ky} (h:a.lt b=true):b.lt a=false:=by
 cases k:b.lt a with
 | false=>rfl
 | true=>have:=Ky.tr h k;rw [Ky.Fp] at this;cases this
def cu (ks:List Ky):List Ky:=ks.foldl (λacc x=>oM Ky.lt x acc) []
theorem hE (ks:List Ky) (x:Ky):cu (ks ++ [x])=oM Ky.lt x (cu ks):=by unfold cu;rw [Ud];rfl
theorem snoc_ind {α:Type} {p:List α→Prop} (h0:p []) (h1:∀l x,p l→p (l ++ [x])) (l:List α):p l:=by
 have:∀l:List α,p l.reverse:=by
  intro l
  induction l with
  | nil=>exact h0
  | cons x l ih=>rw [Uc];exact h1 _ _ ih
 have:=this l.reverse
 rwa [List.reverse_reverse] at this
theorem iI {α:Type} {l:List α} {x:α} (h:(l ++ [x]).Nodup):l.Nodup∧x ∉ l:=by
 rw [Tg] at h
 exact ⟨h.1,λhm=>h.2.2 x hm x (by simp) rfl⟩
theorem bh:∀(ks:List Ky) (x:Ky),x∈cu ks↔x∈ks:=by
 intro ks
 refine snoc_ind (p:=λks=>∀x:Ky,x∈cu ks↔x∈ks) (λx=>by simp [cu]) (λks y ih x=>?_) ks
 rw [hE,v_,ih,Se,Si]
 exact Or.comm
theorem cM {ks:List Ky} (h:(ks.map Ky.n).Nodup):m4 Ky.lt (cu ks):=by
 revert h
 refine snoc_ind (p:=λks=>(ks.map Ky.n).Nodup→m4 Ky.lt (cu ks)) (λ_=>List.Pairwise.nil) (λks y ih h=>?_) ks
 ·rw [Sk,Sd,Th] at h
  obtain ⟨h1,h2⟩:=iI h
  rw [hE]
  refine Dx (lt:=Ky.lt) Ky.tr (ih h1) λx hx=>Ky.Oi λe=>h2 ?_
  rw [← e]
  exact T6 ((bh ks x).mp hx)
theorem g_ (ks:List Ky):(cu ks).length=ks.length:=by
 refine snoc_ind (p:=λks=>(cu ks).length=ks.length) rfl (λks y ih=>?_) ks
 rw [hE,Dw,ih,So];rfl
theorem wK {ks js:List Ky} (h:(ks.map Ky.n).Nodup) (k:(js.map Ky.n).Nodup) (e:∀x,x∈ks↔x∈js):cu ks=cu js :=
 mL (lt:=Ky.lt) Ky.Fp Ky.tr (cM h) (cM k) λx=>by rw [bh,bh];exact e x
def key (t:Rat) (x:Str × aZ):Ky:=⟨x.2.at t,x.2.v,x.1⟩
def cT (t:Rat) (fs:List (Str × aZ)):List Str:=(cu (fs.map (key t))).map Ky.n
theorem cZ (t:Rat) (fs:List (Str × aZ)):(fs.map (key t)).map Ky.n=fs.map (·.1):=by rw [Sl];rfl
theorem wQ {t:Rat} {fs:List (Str × aZ)} {n:Str}:n∈cT t fs↔n∈fs.map (·.1):=by
 rw [← cZ t fs]
 unfold cT
 rw [R_,R_]
 exact ⟨λ⟨x,h,e⟩=>⟨x,(bh _ _).mp h,e⟩,λ⟨x,h,e⟩=>⟨x,(bh _ _).mpr h,e⟩⟩
theorem wO (t:Rat) (fs:List (Str × aZ)):(cT t fs).length=fs.length:=by unfold cT;rw [R6,g_,R6]
theorem kD {l:List Ky} (s:m4 Ky.lt l) (h:∀x∈l,∀y∈l,x.n=y.n→x=y):(l.map Ky.n).Nodup:=by
 refine List.pairwise_map.mpr (s.imp_of_mem λ{a b} ha hb hab e=>?_)
 have:=h a ha b hb e
 subst this
 rw [Ky.Fp] at hab;cases hab
theorem g9 {ks:List Ky} (h:(ks.map Ky.n).Nodup):∀x∈ks,∀y∈ks,x.n=y.n→x=y:=by
 intro x hx y hy e
 obtain ⟨i,hi,rfl⟩:=SM hx
 obtain ⟨j,hj,rfl⟩:=SM hy
 have:=(S9 (xs:=ks.map Ky.n) (i:=i) (j:=j) (h₀:=by simpa using hi) (h₁:=by simpa using hj) h).mp (by rw [S4,S4];exact e)
 subst this;rfl
theorem qk {t:Rat} {fs:List (Str × aZ)} (h:(fs.map (·.1)).Nodup):(cT t fs).Nodup:=by
 rw [← cZ t fs] at h
 exact kD (cM h) λx hx y hy e=>g9 h x ((bh _ _).mp hx) y ((bh _ _).mp hy) e
theorem wM {t:Rat} {fs gs:List (Str × aZ)} (h:(fs.map (·.1)).Nodup) (k:(gs.map (·.1)).Nodup) (e:∀x,x∈fs.map (key t)↔x∈gs.map (key t)):cT t fs=cT t gs:=by
 unfold cT
 rw [wK (by rw [cZ];exact h) (by rw [cZ];exact k) e]
theorem lU {α β:Type} {fs:List (Str × α)} {f:α→β} (h:(fs.map (·.1)).Nodup) {n:Str} {l:α} (hm:(n,l)∈fs):L2.lT (fs.map λx=>(x.1,f x.2)) n=some (f l):=by
 induction fs with
 | nil=>cases hm
 | cons x fs ih =>
  rw [Sd,S6] at h
  rw [Sd,L2.mR]
  rcases Sf.mp hm with e | e
  ·subst e;rw [if_pos rfl]
  ·have ne:x.1≠n:=λz=>h.1 (by rw [z];exact T6 (f:=λx:Str × α=>x.1) e)
   rw [if_neg ne];exact ih h.2 e
theorem Ba {α β:Type} {fs:List (Str × α)} {f:α→β} (h:(fs.map (·.1)).Nodup) {n:Str} (hm:n∈fs.map (·.1)):∃l,(n,l)∈fs∧L2.lT (fs.map λx=>(x.1,f x.2)) n=some (f l):=by
 obtain ⟨⟨m,l⟩,hx,rfl⟩:=R_.mp hm
 exact ⟨l,hx,lU h hx⟩
theorem Ij {α β:Type} {fs:List (Str × α)} {f:α→β} {n:Str} (hm:n ∉ fs.map (·.1)):L2.lT (fs.map λx=>(x.1,f x.2)) n=none:=by
 induction fs with
 | nil=>rfl
 | cons x fs ih =>
  rw [Sd,L2.mR]
  rw [Sd,Sf,not_or] at hm
  rw [if_neg (λe=>hm.1 e.symm)];exact ih hm.2
theorem Cw {α β:Type} {fs:List (Str × α)} {f:α→β} {n:Str} (h:(fs.map (·.1)).Nodup):(L2.lT (fs.map λx=>(x.1,f x.2)) n).isSome=decide (n∈fs.map (·.1)):=by
 by_cases hm:n∈fs.map (·.1)
 ·obtain ⟨l,_,e⟩:=Ba (f:=f) h hm
  rw [e,decide_eq_true hm];rfl
 ·rw [Ij hm,decide_eq_false hm];rfl
theorem y4 {α β:Type} {fs:List (Str × α)} {f:α→β} {n:Str} {l:α} (hm:n ∉ fs.map (·.1)):L2.qz (fs.map λx=>(x.1,f x.2)) n (f l)=(fs ++ [(n,l)]).map λx=>(x.1,f x.2):=by
 unfold L2.qz
 rw [if_neg,Sk]
 ·rfl
 ·intro h
  rw [List.any_eq_true] at h
  obtain ⟨y,hy,e⟩:=h
  obtain ⟨x,hx,rfl⟩:=R_.mp hy
  exact hm (by rw [← of_decide_eq_true e];exact T6 (f:=λx:Str × α=>x.1) hx)
def PP:Nat:=1000000 * gy + 1000 * MM
structure tS (l:aZ):Prop where
 m0:0≤l.m
 m:Sc gy MM l.m
 p:∃a:Int,l.p * (gy:Rat)=(a:Rat)
 b0:-(1000000 + 1000 * l.m)≤l.p
 b1:l.p≤1000000 + 1000 * l.m
 v:l.v.natAbs≤1000
theorem MN:(0:Rat) < (gy:Rat):=by
 have:((0:Nat):Rat) < ((gy:Nat):Rat):=Rat.natCast_lt_natCast.mpr uv
 simpa using this
theorem tS.sc {l:aZ} (h:tS l):Sc gy PP l.p:=by
 obtain ⟨a,ha⟩:=h.p
 obtain ⟨k,hk,hk1⟩:=h.m
 have hL:=MN
 have b0:=h.b0
 have b1:=h.b1
 have e1:(a:Rat)≤(((1000000 * gy + 1000 * k:Int)):Rat):=by
  rw [← ha,Rat.intCast_add,Rat.intCast_mul,Rat.intCast_mul,← hk]
  have:l.p * (gy:Rat)≤(1000000 + 1000 * l.m) * (gy:Rat):=Rat.mul_le_mul_of_nonneg_right b1 (Rat.le_of_lt hL)
  have e:(((gy:Nat):Int):Rat)=(gy:Rat):=rfl
  rw [e]
  grind
 have e2:(((-(1000000 * gy + 1000 * k):Int)):Rat)≤(a:Rat):=by
  rw [← ha,Rat.intCast_neg,Rat.intCast_add,Rat.intCast_mul,Rat.intCast_mul,← hk]
  have:-(1000000 + 1000 * l.m) * (gy:Rat)≤l.p * (gy:Rat):=Rat.mul_le_mul_of_nonneg_right b0 (Rat.le_of_lt hL)
  have e:(((gy:Nat):Int):Rat)=(gy:Rat):=rfl
  rw [e]
  grind
 have e1:=Rat.intCast_le_intCast.mp e1
 have e2:=Rat.intCast_le_intCast.mp e2
 refine ⟨a,ha,?_⟩
 unfold PP
 have:(k:Int)≤MM:=by omega
 have:-(MM:Int)≤k:=by omega
 omega
theorem Nw:PP < 2 ^ 120:=by decide
theorem tS.Rk {l:aZ} (h:tS l):Sz 120 l.p:=h.sc.sz uv (by decide) Nw
theorem tS.Rg {l:aZ} (h:tS l):Sz 120 l.m:=(wu h.m).mono (by decide)
theorem tS.at {l:aZ} {t:Rat} {v:Int} (h:tS l) (h0:l.m≤t) (ht:Sc gy MM t) (hv:v.natAbs≤1000):tS ⟨t,l.at t,v⟩:=by
 have hm:=h.m0
 have t0:0≤t:=Rat.le_trans hm h0
 have d0:0≤t - l.m:=by grind
 have v1:(l.v:Rat)≤1000:=by
  have:((l.v:Int):Rat)≤((1000:Int):Rat):=Rat.intCast_le_intCast.mpr (by have:=h.v;omega)
  exact this
 have v2:-1000≤(l.v:Rat):=by
  have:((-1000:Int):Rat)≤((l.v:Int):Rat):=Rat.intCast_le_intCast.mpr (by have:=h.v;omega)
  exact this
 have m1:(t - l.m) * (l.v:Rat)≤(t - l.m) * 1000:=Rat.mul_le_mul_of_nonneg_left v1 d0
 have m2:(t - l.m) * (-1000)≤(t - l.m) * (l.v:Rat):=Rat.mul_le_mul_of_nonneg_left v2 d0
 have b0:=h.b0
 have b1:=h.b1
 refine ⟨t0,ht,?_,?_,?_,hv⟩
 ·obtain ⟨a,ha⟩:=h.p
  obtain ⟨k,hk,_⟩:=h.m
  obtain ⟨j,hj,_⟩:=ht
  refine ⟨a + (j - k) * l.v,?_⟩
  unfold aZ.at
  dsimp only
  rw [Rat.intCast_add,Rat.intCast_mul,Rat.intCast_sub,← ha,← hk,← hj]
  grind
 ·show -(1000000 + 1000 * t)≤l.p + (t - l.m) * (l.v:Rat)
  grind
 ·show l.p + (t - l.m) * (l.v:Rat)≤1000000 + 1000 * t
  grind
theorem tS.new {t:Rat} {p v:Int} (t0:0≤t) (ht:Sc gy MM t) (hp:p.natAbs≤1000000) (hv:v.natAbs≤1000):tS ⟨t,(p:Rat),v⟩:=by
 have p1:(p:Rat)≤1000000:=by
  have:((p:Int):Rat)≤((1000000:Int):Rat):=Rat.intCast_le_intCast.mpr (by omega)
  exact this
 have p2:-1000000≤(p:Rat):=by
  have:((-1000000:Int):Rat)≤((p:Int):Rat):=Rat.intCast_le_intCast.mpr (by omega)
  exact this
 refine ⟨t0,ht,⟨p * gy,by rw [Rat.intCast_mul];rfl⟩,?_,?_,hv⟩
 ·show -(1000000 + 1000 * t)≤(p:Rat)
  grind
 ·show (p:Rat)≤1000000 + 1000 * t
  grind
def Bx (b:aD) (l:List aD):List aD:=if b∈l then l else jk b l
theorem s_ {b x:aD} {l:List aD}:x∈jk b l↔x=b∨x∈l:=v_ (lt:=aD.lt)
theorem C0 {b x:aD} {l:List aD}:x∈Bx b l↔x=b∨x∈l:=by
 unfold Bx
 split
 ·rename_i h
  exact ⟨.inr,λz=>by rcases z with rfl | z;exact h;exact z⟩
 ·exact s_
theorem C1 {b:aD} {l:List aD} (s:ik l):ik (Bx b l):=by
 unfold Bx
 split
 ·exact s
 ·rename_i h
  exact v9 s λx hx e=>h (e ▸ hx)
def sx (bs:List aD):List aD:=bs.foldl (λacc b=>Bx b acc) []
theorem tF (bs:List aD) (b:aD):sx (bs ++ [b])=Bx b (sx bs):=by unfold sx;rw [Ud];rfl
theorem wI (bs:List aD) (x:aD):x∈sx bs↔x∈bs:=by
 refine snoc_ind (p:=λbs=>∀x:aD,x∈sx bs↔x∈bs) (λx=>by simp [sx]) (λbs y ih x=>?_) bs x
 rw [tF,C0,ih,Se,Si]
 exact Or.comm
theorem wJ (bs:List aD):ik (sx bs):=by
 refine snoc_ind (p:=λbs=>ik (sx bs)) List.Pairwise.nil (λbs y ih=>?_) bs
 rw [tF];exact C1 ih
theorem xC {l k:List aD} (h:ik l) (h':ik k) (e:∀x,x∈l↔x∈k):l=k:=mL (lt:=aD.lt) aD.Ks aD.lt_trans h h' e
def dZ (t:Rat) (a b:Ky):Rat:=t + (b.p - a.p) / ((a.v - b.v:Int):Rat)
def gd (t:Rat) (a b:Ky):aD:=⟨dZ t a b,a.n,b.n⟩
def qo (t:Rat) (ks:List Ky) (m:Rat):List aD:=sx (((ks.flatMap λa=>ks.map λb=>(a,b)).filter λp=>decide (p.2.v < p.1.v∧p.1.p < p.2.p∧dZ t p.1 p.2≤m)).map λp=>gd t p.1 p.2)
theorem Ca {t m:Rat} {ks:List Ky} {x:aD}:x∈qo t ks m↔∃a∈ks,∃b∈ks,b.v < a.v∧a.p < b.p∧dZ t a b≤m∧x=gd t a b:=by
 unfold qo
 rw [wI,R_]
 constructor
 ·rintro ⟨⟨a,b⟩,h,rfl⟩
  rw [Sg,UL] at h
  obtain ⟨⟨c,hc,h1⟩,h2⟩:=h
  obtain ⟨d,hd,e⟩:=R_.mp h1
  cases e
  have h2:=of_decide_eq_true h2
  exact ⟨_,hc,_,hd,h2.1,h2.2.1,h2.2.2,rfl⟩
 ·rintro ⟨a,ha,b,hb,h1,h2,h3,rfl⟩
  exact ⟨(a,b),Sg.mpr ⟨UL.mpr ⟨a,ha,R_.mpr ⟨b,hb,rfl⟩⟩,decide_eq_true ⟨h1,h2,h3⟩⟩,rfl⟩
theorem Cb (t m:Rat) (ks:List Ky):ik (qo t ks m):=wJ _
def eI (t:Rat) (ks:List Ky):List aD:=sx ((((cu ks).zip (cu ks).tail).filter λp=>decide (p.2.v < p.1.v)).map λp=>gd t p.1 p.2)
theorem cU {α:Type} {l:List α} {a b:α}:(a,b)∈l.zip l.tail↔∃i:Nat,l[i]?=some a∧l[i + 1]?=some b:=by
 constructor
 ·intro h
  obtain ⟨i,hi⟩:=Sx.mp h
  obtain ⟨h1,h2⟩:=SU.mp hi
  exact ⟨i,h1,by rw [TQ] at h2;exact h2⟩
 ·rintro ⟨i,h1,h2⟩
  exact Sx.mpr ⟨i,SU.mpr ⟨h1,by rw [TQ];exact h2⟩⟩
theorem yg {t:Rat} {ks:List Ky} {x:aD}:x∈eI t ks↔∃(i:Nat) (a b:Ky),(cu ks)[i]?=some a∧(cu ks)[i + 1]?=some b∧b.v < a.v∧x=gd t a b:=by
 unfold eI
 rw [wI,R_]
 constructor
 ·rintro ⟨⟨a,b⟩,h,rfl⟩
  rw [Sg] at h
  obtain ⟨i,h1,h2⟩:=cU.mp h.1
  exact ⟨i,a,b,h1,h2,of_decide_eq_true h.2,rfl⟩
 ·rintro ⟨i,a,b,h1,h2,h3,rfl⟩
  exact ⟨(a,b),Sg.mpr ⟨cU.mpr ⟨i,h1,h2⟩,decide_eq_true h3⟩,rfl⟩
theorem yh (t:Rat) (ks:List Ky):ik (eI t ks):=wJ _
theorem ye {t:Rat} {ks js:List Ky} (h:(ks.map Ky.n).Nodup) (k:(js.map Ky.n).Nodup) (e:∀x,x∈ks↔x∈js):eI t ks=eI t js:=by
 unfold eI;rw [wK h k e]
def ml (l l':aZ):Rat:=(l'.at 0 - l.at 0) / ((l.v - l'.v:Int):Rat)
theorem E3 {a b:Int} (h:a≠b):((a - b:Int):Rat)≠0:=by
 intro e
 have:(a - b:Int)=0:=by exact_mod_cast (show ((a - b:Int):Rat)=((0:Int):Rat) from e)
 omega
theorem o5 {t:Rat} {n n':Str} {l l':aZ} (h:l.v≠l'.v):ml l l'=dZ t (key t (n,l)) (key t (n',l')):=by
 have k:=E3 h
 unfold ml dZ key aZ.at
 dsimp only
 rw [Rat.intCast_sub] at *
 grind
theorem EC {a b:Rat} (ha:0 < a) (hb:0 < b):0 < a / b:=by
 have e:a / b * b=a:=by grind
 rcases Rat.le_total (a:=a / b) (b:=0) with h | h
 ·have:=Rat.mul_le_mul_of_nonneg_right h (Rat.le_of_lt hb)
  rw [e,Rat.zero_mul] at this
  exact absurd ha (Rat.not_lt.mpr this)
 ·rcases (by grind:a / b=0∨0 < a / b) with h | h
  ·rw [h,Rat.zero_mul] at e;rw [← e] at ha;exact absurd ha Rat.lt_irrefl
  ·exact h
def GC (t:Rat) (l l':aZ):Option Rat:=if l.v≠l'.v∧t < ml l l' then some (ml l l') else none
theorem GD {t:Rat} {n n':Str} {l l':aZ} (h:(key t (n,l)).lt (key t (n',l'))=true):(l.v≠l'.v∧t < ml l l')↔(l'.v < l.v∧l.at t < l'.at t):=by
 rw [Ky.lt_iff] at h
 unfold key at h
 dsimp only at h
 constructor
 ·rintro ⟨h1,h2⟩
  rw [o5 (t:=t) (n:=n) (n':=n') h1] at h2
  unfold dZ key at h2
  dsimp only at h2
  have k:=E3 h1
  have h3:0 < (l'.at t - l.at t) / ((l.v - l'.v:Int):Rat):=by grind
  have hp:l.at t≠l'.at t:=by
   intro e
   rw [e] at h3
   have:(l'.at t - l'.at t) / ((l.v - l'.v:Int):Rat)=0:=by grind
   rw [this] at h3
   exact absurd h3 Rat.lt_irrefl
  have hlt:l.at t < l'.at t:=by
   rcases h with h | ⟨h,_⟩
   ·exact h
   ·exact absurd h hp
  refine ⟨?_,hlt⟩
  rcases (by omega:l'.v < l.v∨l.v < l'.v) with q | q
  ·exact q
  ·exfalso
   have hn:((l.v - l'.v:Int):Rat) < 0:=by
    have:((l.v - l'.v:Int):Rat) < ((0:Int):Rat):=Rat.intCast_lt_intCast.mpr (by omega)
    exact this
   have hd:0 < l'.at t - l.at t:=by grind
   have e:(l'.at t - l.at t) / ((l.v - l'.v:Int):Rat) * ((l.v - l'.v:Int):Rat)=l'.at t - l.at t:=by grind
   generalize (l'.at t - l.at t) / ((l.v - l'.v:Int):Rat)=z at h3 e
   have:z * ((l.v - l'.v:Int):Rat) < 0:=by
    have:=Rat.mul_lt_mul_of_pos_left hn h3
    rwa [Rat.mul_zero] at this
   grind
 ·rintro ⟨h1,h2⟩
  have hne:l.v≠l'.v:=by omega
  refine ⟨hne,?_⟩
  rw [o5 (t:=t) (n:=n) (n':=n') hne]
  unfold dZ key
  dsimp only
  have hpos:0 < ((l.v - l'.v:Int):Rat):=by
   have:((0:Int):Rat) < ((l.v - l'.v:Int):Rat):=Rat.intCast_lt_intCast.mpr (by omega)
   exact this
  have hd:0 < l'.at t - l.at t:=by grind
  have:0 < (l'.at t - l.at t) / ((l.v - l'.v:Int):Rat):=EC hd hpos
  grind
end Ov
namespace Ov
def gK (t:Rat) (c:Ky × Ky→Bool) (rows:List aD) (p:Ky × Ky):List aD:=if c p=true then jk (gd t p.1 p.2) (cX p.1.n p.2.n rows) else rows
def bM (t:Rat) (c:Ky × Ky→Bool) (ps:List (Ky × Ky)):List aD:=ps.foldl (gK t c) []
theorem dQ (t:Rat) (c:Ky × Ky→Bool) (ps:List (Ky × Ky)) (p:Ky × Ky):bM t c (ps ++ [p])=gK t c (bM t c ps) p:=by unfold bM;rw [Ud];rfl
theorem gX (t:Rat) (c:Ky × Ky→Bool) (ps:List (Ky × Ky)):ik (bM t c ps):=by
 refine snoc_ind (p:=λps=>ik (bM t c ps)) List.Pairwise.nil (λl x ih=>?_) ps
 rw [dQ]
 unfold gK
 split
 ·exact v9 (sV ih) Ge
 ·exact ih
theorem m9 (t:Rat) (c:Ky × Ky→Bool) (ps:List (Ky × Ky)):(bM t c ps).length≤ps.length:=by
 refine snoc_ind (p:=λps=>(bM t c ps).length≤ps.length) (R' _) (λl x ih=>?_) ps
 rw [dQ,So]
 unfold gK
 split
 ·rw [v8]
  have:=m6 x.1.n x.2.n (bM t c l)
  simp only [Sv,T4];omega
 ·omega
theorem gY {t:Rat} {c:Ky × Ky→Bool} {x:aD} (ps:List (Ky × Ky)):x∈bM t c ps→∃p∈ps,c p=true∧x=gd t p.1 p.2:=by
 refine snoc_ind (p:=λps=>x∈bM t c ps→∃p∈ps,c p=true∧x=gd t p.1 p.2) (λh=>by cases h) (λl y ih h=>?_) ps
 rw [dQ] at h
 unfold gK at h
 split at h
 ·rename_i hc
  rcases Dv h with e | h
  ·exact ⟨y,by simp,hc,e⟩
  ·obtain ⟨p,hp,k⟩:=ih (Sg.mp h).1
   exact ⟨p,Se.mpr (.inl hp),k⟩
 ·obtain ⟨p,hp,k⟩:=ih h
  exact ⟨p,Se.mpr (.inl hp),k⟩
def vO (ps:List (Ky × Ky)):Prop:=∀p∈ps,∀q∈ps,p.1.n=q.1.n→p.2.n=q.2.n→p=q
theorem sY {t:Rat} {c:Ky × Ky→Bool} {x:aD} (ps:List (Ky × Ky)):vO ps→(x∈bM t c ps↔∃p∈ps,c p=true∧x=gd t p.1 p.2):=by
 refine snoc_ind (p:=λps=>vO ps→(x∈bM t c ps↔∃p∈ps,c p=true∧x=gd t p.1 p.2)) (λ_=>Iff.intro (λh=>nomatch h) (λh=>by obtain ⟨_,h,_⟩:=h;cases h)) (λl y ih inj=>?_) ps
 have ih:=ih λp hp q hq=>inj p (Se.mpr (.inl hp)) q (Se.mpr (.inl hq))
 refine ⟨gY _,?_⟩
 rintro ⟨p,hp,hc,rfl⟩
 rw [dQ]
 unfold gK
 have hold:p∈l→gd t p.1 p.2∈bM t c l:=λh=>ih.mpr ⟨p,h,hc,rfl⟩
 split
 ·rename_i hy
  rw [s_]
  by_cases e:p=y
  ·left;rw [e]
  ·right
   have hl:p∈l:=by
    rcases Se.mp hp with h | h
    ·exact h
    ·exact absurd (by simpa using h) e
   refine Sg.mpr ⟨hold hl,?_⟩
   unfold tK
   have:¬ ((gd t p.1 p.2).h=y.1.n∧(gd t p.1 p.2).f=y.2.n):=λz=>e (inj p hp y (by simp) z.1 z.2)
   rw [decide_eq_false this];rfl
 ·rename_i hy
  rcases Se.mp hp with h | h
  ·exact hold h
  ·have:p=y:=by simpa using h
   subst this;exact absurd hc hy
theorem BD {t:Rat} {c:Ky × Ky→Bool} {ps:List (Ky × Ky)} {p:Ky × Ky} (inj:vO (ps ++ [p])) (h:p ∉ ps):cX p.1.n p.2.n (bM t c ps)=bM t c ps:=by
 unfold cX
 refine S2.mpr λx hx=>?_
 obtain ⟨q,hq,_,rfl⟩:=gY _ hx
 unfold tK
 have:¬ ((gd t q.1 q.2).h=p.1.n∧(gd t q.1 q.2).f=p.2.n):=λz=>by
  have:=inj q (Se.mpr (.inl hq)) p (by simp) z.1 z.2
  subst this;exact h hq
 rw [decide_eq_false this];rfl
theorem vO.of {ks:List Ky} (h:(ks.map Ky.n).Nodup) {ps:List (Ky × Ky)} (hp:∀p∈ps,p.1∈ks∧p.2∈ks):vO ps:=λp h1 q h2 e1 e2=>by
 have a:=g9 h p.1 (hp p h1).1 q.1 (hp q h2).1 e1
 have b:=g9 h p.2 (hp p h1).2 q.2 (hp q h2).2 e2
 cases p;cases q;simp only at a b;rw [a,b]
def xI (ks:List Ky):Nat→List (Ky × Ky)
 | 0=>[]
 | i + 1=>xI ks i ++ (match ks[i]? with | some a=>(ks.drop (i + 1)).map λb=>(a,b) | none=>[])
theorem mQ {ks:List Ky} {p:Ky × Ky}:∀{i:Nat},p∈xI ks i↔∃i' j,i' < i∧i' < j∧ks[i']?=some p.1∧ks[j]?=some p.2
 | 0=>⟨λh=>(by cases h),λ⟨_,_,h,_⟩=>by omega⟩
 | i + 1=>by
  unfold xI
  rw [Se,mQ (i:=i)]
  constructor
  ·rintro (⟨i',j,h1,h⟩ | h)
   ·exact ⟨i',j,by omega,h⟩
   ·cases e:ks[i]? with
    | none=>rw [e] at h;cases h
    | some a =>
     rw [e] at h
     obtain ⟨b,hb,rfl⟩:=R_.mp h
     obtain ⟨j,hj⟩:=Sx.mp hb
     rw [T_] at hj
     exact ⟨i,_,by omega,by omega,e,hj⟩
  ·rintro ⟨i',j,h1,h2,h3,h4⟩
   by_cases e:i' < i
   ·exact .inl ⟨i',j,e,h2,h3,h4⟩
   ·have:i'=i:=by omega
    subst this
    right
    rw [h3]
    refine R_.mpr ⟨p.2,Sx.mpr ⟨j - (i' + 1),?_⟩,rfl⟩
    rw [T_,show i' + 1 + (j - (i' + 1))=j by omega];exact h4
def fw (t m:Rat) (p:Ky × Ky):Bool:=decide (p.2.v < p.1.v∧p.1.p < p.2.p∧dZ t p.1 p.2≤m)
def cH (p:Ky × Ky):Bool:=decide (p.2.v < p.1.v)
theorem Ii {t m:Rat} {ks:List Ky} (h:(ks.map Ky.n).Nodup):bM t (fw t m) (xI (cu ks) (cu ks).length)=qo t ks m:=by
 have hs:=cM h
 have hn:((cu ks).map Ky.n).Nodup:=kD hs (λx hx y hy e=>g9 h x ((bh _ _).mp hx) y ((bh _ _).mp hy) e)
 refine xC (gX _ _ _) (Cb _ _ _) λx=>?_
 rw [sY _ (vO.of hn λp hp=>by
  obtain ⟨i,j,_,_,h3,h4⟩:=mQ.mp hp
  exact ⟨R9 h3,R9 h4⟩),Ca]
 constructor
 ·rintro ⟨p,hp,hc,rfl⟩
  obtain ⟨i,j,_,_,h3,h4⟩:=mQ.mp hp
  have hc:=of_decide_eq_true hc
  exact ⟨p.1,(bh _ _).mp (R9 h3),p.2,(bh _ _).mp (R9 h4),hc.1,hc.2.1,hc.2.2,rfl⟩
 ·rintro ⟨a,ha,b,hb,h1,h2,h3,rfl⟩
  obtain ⟨i,hi⟩:=Sx.mp ((bh _ _).mpr ha)
  obtain ⟨j,hj⟩:=Sx.mp ((bh _ _).mpr hb)
  have hab:a.lt b=true:=(Ky.lt_iff a b).mpr (.inl h2)
  have hij:i < j:=by
   obtain ⟨hil,ei⟩:=R8.mp hi
   obtain ⟨hjl,ej⟩:=R8.mp hj
   rcases UC i j with z | z | z
   ·exact z
   ·subst z;rw [ei] at ej;subst ej;rw [Ky.Fp] at hab;cases hab
   ·have:=SV.mp hs j i hjl hil z
    rw [ei,ej] at this
    rw [Ky.Mi this] at hab;cases hab
  exact ⟨(a,b),mQ.mpr ⟨i,j,(R8.mp hi).1,hij,hi,hj⟩,decide_eq_true ⟨h1,h2,h3⟩,rfl⟩
theorem rg {t:Rat} {ks:List Ky} (h:(ks.map Ky.n).Nodup):bM t cH ((cu ks).zip (cu ks).tail)=eI t ks:=by
 have hs:=cM h
 have hn:((cu ks).map Ky.n).Nodup:=kD hs (λx hx y hy e=>g9 h x ((bh _ _).mp hx) y ((bh _ _).mp hy) e)
 refine xC (gX _ _ _) (yh _ _) λx=>?_
 rw [sY _ (vO.of hn λp hp=>by
  obtain ⟨i,h3,h4⟩:=cU.mp (show (p.1,p.2)∈_ from hp)
  exact ⟨R9 h3,R9 h4⟩),yg]
 constructor
 ·rintro ⟨p,hp,hc,rfl⟩
  obtain ⟨i,h3,h4⟩:=cU.mp (show (p.1,p.2)∈_ from hp)
  exact ⟨i,p.1,p.2,h3,h4,of_decide_eq_true hc,rfl⟩
 ·rintro ⟨i,a,b,h1,h2,h3,rfl⟩
  exact ⟨(a,b),cU.mpr ⟨i,h1,h2⟩,decide_eq_true h3,rfl⟩
end Ov
namespace L2
open PySem PySem.Spec PyProof.Rows
end L2
namespace Ov
open PySem PySem.Spec PyProof.Rows
open L2 (V HO Hp Inv Cx VK XK TE TT TA TS TG oi TI TO il Ends sL Loc Gl Rd RelV Vals er t_ bS og pO oJ ij R2 upd aA aF cP fv Sp oV It bq cJ bK Passes mS aI Meth Mk Binds aJ cm av cV fb dX lT qz zQ m3)
end Ov
namespace Ov
open PySem PySem.Spec PyProof.Rows L2
section
variable {X:Cx}
end
end Ov
namespace Ov
open PySem PySem.Spec PyProof.Rows
open L2 (V HO Hp Inv Cx VK XK TE TT TA TS TG oi TI TO il Ends sL Loc Gl Rd RelV Vals er t_ bS og pO oJ ij R2 upd aA aF cP fv Sp oV It bq cJ bK Passes mS aI Meth Mk Binds aJ cm av cV fb dX lT qz zQ m3)
section
variable {X:Cx} {G:G2} {kx vx iter cnd:Expr} {x y:Str} {px py:Pos} {sc:Scope} {pos spos:Pos} {wi:pP} {tk te:dg} {tc:k9} {i:Nat}
end
end Ov
namespace L2
open PySem PySem.Spec PySem.W PySem.Calls PyProof.Rows
theorem G3 {X:Cx}:er X (binaryOp .Mult) (λx y H Q=>∃l k xs,x=.ref l∧y=.int k∧cP X.K H l xs∧0≤k∧k≤1000∧xs.length * k.toNat≤1000∧∀p,H p=none→Q (.ref p) (upd H p (.lst (Sq k.toNat xs).flatten))):=by
 intro pins s σ H x y v u Q I rx ry h
 obtain ⟨l,k,xs,rfl,rfl,hH,h1,h2,hz,q⟩:=h
 cases rx
 obtain ⟨t,rfl⟩:=ry
 obtain ⟨its,r,pl,_⟩:=I.list hH
 have hl:=r.length
 obtain ⟨⟨cls,d,data,sl⟩,n,ho,hcl,hd,hda⟩:=pl
 simp only at hcl hd hda
 subst hcl hd hda
 have hsz2:its.length * k.toNat≤1000:=by rw [← hl];exact hz
 have hsz':its.toArray.size * k.toNat≤1000:=by rw [Sa,← hl];exact hz
 refine wpAny_binaryOp_repeat_ref (T:="list") (U:="int") (by decide) ⟨_,ho,rfl⟩ (λs'=>typeIs_int s' k t) noFill_list_mul F.fills_int_mul F.slot_int_rmul repeat_list F.slot_int_index.lookup
  (call_meets F.slot_int_rmul (typeIs_int s k t) F.entry_int_rmul (F.args_int_rmul_2 _ _) (lm_int_rmul_list_any k t l its.toArray n none sl)
   ⟨ho,rfl,⟨_,ho,rfl⟩,call_meets F.slot_list_mul ⟨_,ho,rfl⟩ F.entry_list_mul (F.args_list_mul_2 _ _)
    (lm_list_mul_any l its.toArray n none sl k t (by simp [Builtin.List.listFitsIndex];omega) (by omega) (by simp [Builtin.List.listTooLong,sizeLine];omega))
    ⟨ho,?_⟩⟩)
 rw [listMul_foldl_if]
 exact ⟨.ref _,_,I.M6 (t':=s.toks) (r.rep k.toNat) (by rw [len_rep,UH];exact Su hz (by decide)),rfl,q _ I.fresh⟩
theorem G0 {X:Cx}:er X (compareOp .NotIn) (λx y H Q=>∃a b,x=.str a∧y=.str b∧Q (.bl (!(!(Builtin.Str.occurrences b a 0 b.length 1).isEmpty))) H):=by
 intro pins s σ H x y v u Q I rx ry h
 obtain ⟨a,b,rfl,rfl,q⟩:=h
 obtain ⟨t,rfl⟩:=rx
 obtain ⟨t',rfl⟩:=ry
 exact PySem.P.notIn_str ⟨.bl _,H,I,rfl,q⟩
end L2
namespace Ov
open PySem PySem.Spec PyProof.Rows
open L2 (V HO Hp Inv Cx VK XK TE TT TA TS TG oi TI TO il Ends sL Loc Gl Rd RelV Vals er t_ bS og pO oJ ij R2 upd aA aF cP fv Sp oV It bq cJ bK Passes mS aI Meth Mk Binds aJ cm av cV fb dX lT qz zQ m3)
section
variable {X:Cx} {G:G2}
def NG:k6:=λx y J Q=>∃xs k,lA J x=some xs∧y=.int (k:Nat)∧k≤1000∧xs.length * k≤1000∧Q (.fl (Sq k xs).flatten) J
theorem G8:kG X (binaryOp .Mult) NG:=⟨_,L2.G3,λJ H x y v w Q2 Q rx ry r ⟨xs,k,ex,ey,hk,hl,q⟩ kk=>by
 subst ey;cases ry
 obtain ⟨a,vs,rfl,h1,h2⟩:=kj rx r ex
 refine ⟨a,k,vs,rfl,rfl,h1,by omega,by omega,by rw [← h2.length];simpa using hl,λp hp=>?_⟩
 obtain ⟨x1,x2,x3⟩:=nk r (h2.flat k) hp
 rw [Int.toNat_natCast]
 exact kk _ J _ _ x1 x2 x3 q⟩
def NF:k6:=λx y J Q=>∃a b,x=.str a∧y=.str b∧Q (.bl (!(!(Builtin.Str.occurrences b a 0 b.length 1).isEmpty))) J
theorem G7:kG X (compareOp .NotIn) NF:=⟨_,L2.G0,λJ H x y v w Q2 Q rx ry r ⟨a,b,ex,ey,q⟩ k=>by
 subst ex ey;cases rx;cases ry
 exact ⟨a,b,rfl,rfl,k (.bl _) J _ H rfl r .refl q⟩⟩
def NH:k6:=λx y J Q=>∃(ch:Nat) (n:Int),x=.str (sgn ch)∧y=.int n∧0≤n∧n≤1000∧Q (.str ⟨(Sq n.toNat ch).toArray⟩) J
theorem G9:kG X (binaryOp .Mult) NH:=⟨_,G4,λJ H x y v w Q2 Q rx ry r ⟨ch,n,ex,ey,h0,h1,q⟩ k=>by
 subst ex ey;cases rx;cases ry
 exact ⟨ch,n,rfl,rfl,h0,h1,k (.str _) J _ H rfl r .refl q⟩⟩
def NC:yb:=λxs J Q=>Ai xs λx=>Fs x λy=>y.length≤sizeLine∧Q (.int y.length) J
theorem zI:FA X (.builtin "len") NC:=⟨_,L2.iw,λJ H xs vs Q2 Q rs r h k=>by
 obtain ⟨x,ex,h⟩:=gB h;obtain ⟨y,ey,hl,q⟩:=jL h
 subst ex ey;obtain ⟨v,us,rfl,rv,e⟩:=rs;cases e;cases rv
 exact ⟨y,rfl,hl,k (.int _) J _ H rfl r .refl q⟩⟩
def Rb (te:dg):pP:=λτ J R=>te τ J λx J1=>Fs x λy=>R ⟨y.cps.toList.map λch=>.str (sgn ch),λ_=>True⟩ J1
theorem Lb {tg l:Expr} {tl:dg} (hl:RE X G l tl):RI X G tg l (Rb tl):=⟨L5 (Hi hl.run) λσ H R ⟨τ,J,R2,a2,h,k⟩=>⟨τ,J,_,a2,h,λx J1 v H1 rx r1 e1 hh=>by
 obtain ⟨y,ex,q⟩:=jL hh
 subst ex;cases rx
 refine ⟨y,rfl,k _ J1 _ H1 ?_ r1 e1 q⟩
 exact {
  go:=λJ' H' e r o i hi=>by
   rw [R6,Array.length_toList] at hi;exact hi
  yl:=λJ' H' e r o i hi v H2 yy=>by
   obtain ⟨e1,ch,hc,ev⟩:=yy
   subst e1 ev
   exact ⟨.str (sgn ch),by rw [Sb,Array.getElem?_toList,hc];rfl,rfl,r,.refl⟩
  stop:=λJ' H' e r o=>by
   show y.cps.size≤_
   rw [R6,Array.length_toList];exact R' _ }⟩⟩
end
end Ov
set_option maxHeartbeats 4000000
namespace Ov
open PySem PySem.Spec PyProof.Rows L2
def top (i:Nat):Stmt:=PySem.Challenge.pw_overhaul_k17_joining_refused.main.body.getD i (.Pass ⟨0,0,0,0⟩)
set_option compiler.extract_closed false
set_option hygiene false
local macro_rules | `(tactic| dsimp! [$ls,*])=>`(tactic| simp only [H_,A5,xE,om,H0,Jt,HV,A8,E_,OY,zu,tC,rI,Ft,rU,Rp,Rt,HN,HM,HP,Int.reduceLT,HZ,eG,vD,HU,ra,Ia,Cp,HX,A6,A3,HY,E6,Og,tB,OV,A4,OU,Aw,Gp,zV,Gm,zY,zZ,Iz,NR,NT,Jh,NU,R1,l5,l6,sM,C5,HO.lst.injEq,HO.tup.injEq,List.set_cons_zero,List.set_cons_succ,List.getElem?_cons_zero,List.getElem?_cons_succ,Option.some.injEq,exists_eq_left',exists_eq_left,exists_and_left,exists_eq,exists_eq',V.int.injEq,V.bl.injEq,V.ref.injEq,V.str.injEq,V.ty.injEq,decide_eq_true_eq,true_and,and_true,List.cons.injEq,List.append_nil,List.cons_append,List.nil_append,reduceCtorEq,Bool.not_eq_true',decide_eq_false_iff_not,and_assoc,ite_not,if_true,if_false,Bool.false_eq_true,decide_true,decide_false,L2.start,List.map_cons,List.map_nil,List.length_cons,List.length_nil,Nat.reduceAdd,Nat.reduceSub,List.replicate,ug,Cx.Kt,Cx.rb,false_and,and_false,exists_false,false_or,or_false,id,dO,Option.getD_some,NS,OX,A7,pA,N5,Lr,Gn,Jl,$ls,*])
local macro_rules | `(tactic| simp_arith [$t:term])=>`(tactic| refine P1 F $t (fun xs J Q E h=>?_) (fun cdv A outer s H E G xs J Q E2 hr h B=>?_))
local macro_rules | `(tactic| simp_arith [$t:term,$r:term])=>`(tactic| refine RY F $t (fun xs J Q E h=>?_) (fun cdv A outer s H E G E2 hr B=>$r) (fun xs J Q E2 h X hX=>?_))
local macro_rules | `(tactic| simp_arith [$t:term,$r:term,$u:term])=>`(tactic| refine P0 F $t (fun xs J Q E h=>?_) (fun cdv A outer s H E G E2 hr B=>$r) (fun xs J Q E2 h X hX=>?_))
local macro_rules | `(tactic| simp_arith! [$ls,*])=>`(tactic| simp only [Hx,N7,Pj,NI,NL,w9,rC,HC,Rv,rB,N6,Hw,Qi,NX,Je,NY,Jj,Rr,y_,w8,N8,NW,Rq,Ay,Jk,Ru,NN,Ro,Qe,Ex,NO,HB,HA,Ax,Jf,N2,N3,Hy,JX,Q6,Q5,Q7,w6,NZ,Jg,nG,Az,Q_,RM,Ra,RL,NM,Qf,Es,qI,qU,ND,Rn,Et,Qa,NK,NJ,Qd,Ny,K5,NA,K3,Ep,Qb,As,Qc,K2,Au,IZ,PB,Pz,MK,PM,PN,MQ,MP,IF,Qw,Ox,Qv,Qx,Qy,Qu,Oz,Om,Ju,Ol,Oq,Oj,Oo,Pw,Px,MF,Po,Pq,Pt,Pu,Pp,Pr,Qp,Qr,Qq,OT,JM,JO,Mt,JN,Mu,Hr,uT,y6,Hs,y8,eq_int,eq_str,Mx,Iv,Ka,Kb,Oy,Kj,p9,JV,vC,LN,LP,LL,LM,Nat.reduceAdd,Nat.reduceSub,Nat.reduceLeDiff,QL,QM,LJ,LK,List.append_nil,QC,QD,QN,QP,Option.some.injEq,exists_eq_left',exists_eq_left,exists_and_left,exists_eq,exists_eq',PV.int.injEq,PV.bl.injEq,PV.ref.injEq,PV.str.injEq,PV.ty.injEq,PV.tup.injEq,PV.fl.injEq,HQ.lst.injEq,HQ.ins.injEq,HQ.dct.injEq,decide_eq_true_eq,true_and,and_true,List.cons.injEq,reduceCtorEq,Bool.not_eq_true',decide_eq_false_iff_not,and_assoc,ite_not,if_true,if_false,Bool.false_eq_true,decide_true,decide_false,false_and,and_false,exists_false,false_or,or_false,id,l5,l6,sM,C5,Mj,Ml,Mm,Mn,Mo,Mp,JI,JJ,R4,QH,QF,QK,au,Bool.and_true,QQ,Bool.and_false,Qz,MR,MS,MT,MU,MV,MW,MX,MY,MZ,M0,Kk,Kl,Km,OA,Lz,Ig,LB,LC,Ih,String.reduceEq,OC,OD,oU,QJ,List.not_mem_nil,exists_const,Nj,Na,Nd,Nb,Nk,Ni,Nl,M',Nf,Nc,IP,Ng,KD,Nh,Nn,NB,Hv,I_,Eu,Jc,Jd,Ji,Q8,K4,Av,uW,Q9,$ls,*])
local macro_rules | `(tactic| simp_all! [$ls,*])=>`(tactic| repeat (first | (with_reducible refine hNq _ _ ?_;clear hNq Nq) | with_reducible refine Li fun Nq hNq=>?_ | simp_arith! [$ls,*]))
section
variable {P:Program} {w:World} {K:PySem.W.Frag} {mg:Str→Option Value} {base:Heap}
abbrev qH:Stmt:=(top 14)
abbrev h_:List Str:=["one","two"]
theorem nY:L2.av ["one","two"] ["one","two"] (L2.aj qH):=dT
def qY:Sp:=λvs H Q _=>∃a b:Int,vs=[.int a,.int b]∧Q (.int (Int.gcd a b:Nat)) H
theorem B1 {f:Addr} {fd:FuncData} (F:cm K "shared" "shared" qH f fd) (Z:Cz mg):aJ P w K mg base pE 1 f fd h_ qY:=by
 refine F.ok nY (λvs H Q E h=>?_) (λcdv A outer s H vs Q E hr h=>?_)
 ·obtain ⟨a,b,rfl,_⟩:=h
  rfl
 obtain ⟨a,b,rfl,q⟩:=h
 refine ⟨_,(QB.run (aU (nC (i:=0) (j:=1) rfl nY.nd rfl rfl (by decide) rfl rfl (ak (aR l7 rfl Z.abs boot_abs (ak (pv 0) aO)) (ak (aR l7 rfl Z.abs boot_abs (ak (pv 1) aO)) aO)) rfl)
   (aU (jU PassesOwn.never (dB IU (pv 1) aK (eL _)) (bC (nC (i:=0) (j:=1) rfl nY.nd rfl rfl (by decide) rfl rfl (ak (pv 1) (ak (bp fI (pv 0) (pv 1)) aO)) rfl)))
   (bC (dH (pv 0)))))),?_⟩
 refine ⟨_,rfl,a,rfl,_,rfl,b,rfl,_,_,rfl,?_⟩
 refine xG (λσ H'=>∃x y:Int,σ=[some (.int x),some (.int y)]∧H=H'∧0≤x∧0≤y∧Int.gcd x y=Int.gcd a b) (λσ _=>match σ with | [_,some (.int y)]=>y.toNat | _=>0)
  ⟨_,_,rfl,rfl,by split <;> omega,by split <;> omega,Gq a b⟩ ?_ (λσ H Q Q' m h=>?_)
 ·rintro σ H' ⟨x,y,rfl,rfl,hx,hy,hg⟩
  dsimp! [rJoin]
  split
  ·rename_i hy0
   subst hy0
   rw [← hg,zW hx] at q
   exact q
  ·rename_i hy0
   have h1:=Int.emod_lt_of_pos x (show 0 < y by omega)
   have h2:=Int.emod_nonneg x hy0
   exact ⟨by omega,hy,h2,(vZ hy0).trans hg,by omega⟩
 ·obtain ⟨v,e,hs,k,ek,hq⟩:=h
  exact ⟨v,e,hs,k,ek,m _ _ hq⟩
def Dig:List Int→List Int→Prop
 | [],[]=>True
 | d :: ds,s :: ss=>(0≤d∧d < s)∧Dig ds ss
 | _,_=>False
theorem Dig.snoc:∀{ds ss:List Int} {d s:Int},Dig ds ss→0≤d→d < s→Dig (ds ++ [d]) (ss ++ [s])
 | [],[],_,_,_,h0,h1=>⟨⟨h0,h1⟩,trivial⟩
 | _ :: _,_ :: _,_,_,h,h0,h1=>⟨h.1,Dig.snoc h.2 h0 h1⟩
 | [],_ :: _,_,_,h,_,_=>h.elim
 | _ :: _,[],_,_,h,_,_=>h.elim
theorem Dig.cons:∀{ds ss:List Int} {s:Int},Dig ds (s :: ss)→∃d r,ds=d :: r∧0≤d∧d < s∧Dig r ss
 | [],_,_,h=>h.elim
 | d :: r,_,_,h=>⟨d,r,rfl,h.1.1,h.1.2,h.2⟩
theorem Dig.nil:∀{ds:List Int},Dig ds []→ds=[]
 | [],_=>rfl
 | _ :: _,h=>h.elim
theorem Dig.len:∀{ds ss:List Int},Dig ds ss→ds.length=ss.length
 | [],[],_=>rfl
 | _ :: _,_ :: _,h=>congrArg Nat.succ (Dig.len h.2)
 | [],_ :: _,h=>h.elim
 | _ :: _,[],h=>h.elim
theorem take_snoc {xs:List Int} {i:Nat} {x:Int} (h:xs[i]?=some x):xs.take (i + 1)=xs.take i ++ [x]:=by
 rw [SK,h]
 rfl
theorem p7 {ns:List Int} {i:Nat} {y:V} (h:(ns.map V.int)[i]?=some y):∃z,y=V.int z∧ns[i]?=some z:=by
 rw [Sb] at h
 cases e:ns[i]? with
 | none=>rw [e] at h;cases h
 | some z=>rw [e] at h;exact ⟨z,(Option.some.inj h).symm,rfl⟩
abbrev zf:Stmt:=(top 46)
abbrev my:List Str:=["_law_script","_law_k"]
theorem HI:L2.av ["_law_script","_law_k"] ["_law_script","_law_k"] (L2.aj zf):=dT
abbrev qF:Stmt:=(top 47)
abbrev dt:List Str:=["_law_cell_here","_law_sizes"]
theorem dD:L2.av ["_law_cell_here","_law_sizes","_law_out","_law_rest","_law_size","_law_one","_law_k","_law_two"] ["_law_cell_here","_law_sizes"] (L2.aj qF):=dT
def qQ (K:PySem.W.Frag):Sp:=λvs H Q _=>∃(c:Int) (a:Addr) (ss:List Int),vs=[.int c,.ref a]∧cP K H a (ss.map V.int)∧(∀s∈ss,0 < s∧Bd 9000 s)∧ss.length≤1000 ∧
 ∀(r:Addr) (H':Hp) (ds:List Int),H r=none→bq H H'→H' r=some (.lst (ds.map V.int))→Dig ds ss→Q (.ref r) H'
theorem B0 {f:Addr} {fd:FuncData} (F:cm K "_law_digits" "_law_digits" qF f fd) (Z:Cz mg):aJ P w K mg base pE 1 f fd dt (qQ K):=by
 refine F.ok dD (λvs H Q E h=>?_) (λcdv A outer s H vs Q E hr h=>?_)
 ·obtain ⟨c,a,ss,rfl,_⟩:=h
  rfl
 obtain ⟨c,a,ss,rfl,hS,hs,hl,q⟩:=h
 refine ⟨_,(QB.run (aU (cF (i:=2) dD.nd rfl (Or.inl rfl) (gE aO))
   (aU (mB (dB IQ (pv 0) (bp yO aK aK) (eL _)) (aU (cF (i:=3) dD.nd rfl (Or.inl rfl) (bp yP (pv 0) (bp yO aK aK)))
   (aU (nB PassesOwn.never rfl (mr (pv 1)) (ko (i:=4) dD.nd rfl (Or.inl rfl)) (aU (kr (qp PySem.F.plainAttrs_list PySem.F.slot_list_append PySem.F.type_list_append g8 (pv 2) (ak (bp fI (pv 3) (pv 4)) aO)))
   (bC (cF (i:=3) dD.nd rfl (Or.inl rfl) (bp fH (pv 3) (pv 4))))))
   (bC (dH (pv 2))))) fm)
   (aU (cF (i:=5) dD.nd rfl (Or.inl rfl) (bp fI (pv 0) aK))
   (aU (nB PassesOwn.never rfl (ft rfl Z.range (ak (aR iu rfl Z.len boot_len (ak (pv 1) aO)) aO)) (ko (i:=6) dD.nd rfl (Or.inl rfl)) (aU (cF (i:=5) dD.nd rfl (Or.inl rfl) (bp fI (bp iJ (bp cK (pv 5) aK) (bp cK aK (bp iJ (pv 6) aK))) aK))
   (aU (cF (i:=7) dD.nd rfl (Or.inl rfl) (bp fI (bp iJ (bp iJ (bp cK (pv 5) (pv 5)) (bp cK aK (pv 5))) (pv 6)) aK))
   (bC (kr (qp PySem.F.plainAttrs_list PySem.F.slot_list_append PySem.F.type_list_append g8 (pv 2) (ak (bp fI (bp fH (pv 7) aK) (cj uq (pv 1) (pv 6) (λ_ _=>rfl))) aO)))))))
   (bC (dH (pv 2)))))))),?_⟩
 refine ⟨SG _,λr hr'=>?_⟩
 have g0:=bq.new hr' (.lst [])
 refine ⟨_,rfl,_,_,rfl,rfl,⟨by decide,by decide,by decide⟩,_,_,rfl,rfl,_,rfl,?_⟩
 refine DD (λ_=>?_) (λ_=>?_)
 ·refine ⟨_,rfl,_,_,rfl,rfl,⟨by decide,by decide,by decide⟩,_,_,rfl,rfl,?_⟩
  refine ⟨_,rfl,a,rfl,⟨_,g0.seq hS⟩,Dm (K:=K) (a:=a) (xs:=ss.map V.int) (λi σ H2=>∃(ds:List Int) (rest:Int) (u:Option V),σ=[some (.int c),some (.ref a),some (.ref r),some (.int rest),u,none,none,none] ∧
   bq H H2∧H2 r=some (.lst (ds.map V.int))∧Dig ds (ss.take i)) ⟨[],_,none,rfl,g0,aA,trivial⟩ (λi σ H2 _ ⟨_,_,_,_,s2,_⟩=>s2.seq hS) ?_ ?_⟩
  ·rintro i y σ H2 hi ⟨ds,rest,u,rfl,s2,hd,hD⟩
   obtain ⟨z,rfl,hz⟩:=p7 hi
   obtain ⟨z0,zb⟩:=hs z (R9 hz)
   have hil:i < ss.length:=(R8.mp hz).1
   have dl:=hD.len
   rw [Sy] at dl
   refine ⟨_,rfl,.inl ⟨rfl,_,cP.of hd⟩,_,rfl,_,rfl,_,_,rfl,rfl,z0,r,_,_,rfl,rfl,hd,?_,?_⟩
   ·rw [R6]
    exact ba (by omega)
   refine ⟨_,rfl,_,rfl,_,_,rfl,rfl,⟨by omega,zb⟩,?_⟩
   refine ⟨ds ++ [rest % z],_,_,rfl,s2.L6 hr' _,?_,?_⟩
   ·rw [aA,Sk]
    rfl
   ·rw [take_snoc hz]
    exact hD.snoc (Int.emod_nonneg _ (by omega)) (Int.emod_lt_of_pos _ z0)
  ·rintro σ H2 ⟨ds,rest,u,rfl,s2,hd,hD⟩
   rw [R6,SO] at hD
   exact ⟨_,rfl,q r H2 ds hr' s2 hd hD⟩
 ·refine ⟨_,rfl,_,_,rfl,rfl,(show (0:Int) < 2147483647 by decide),?_⟩
  refine ⟨_,rfl,a,_,rfl,.inl (g0.seq hS),_,rfl,?_,?_,sZ (lo:=0) (n:=(ss.map V.int).length) (λi σ H2=>∃(ds:List Int) (one:Int) (u v:Option V),σ=[some (.int c),some (.ref a),some (.ref r),none,none,some (.int one),u,v] ∧
   0≤one∧one < 2147483647∧bq H H2∧H2 r=some (.lst (ds.map V.int))∧Dig ds (ss.take i)) ⟨[],_,none,none,rfl,Int.emod_nonneg _ (by decide),Int.emod_lt_of_pos _ (by decide),g0,aA,trivial⟩ ?_ ?_⟩
  ·omega
  ·rw [R6];omega
  ·rintro i σ H2 hi ⟨ds,one,u,v,rfl,o0,o1,s2,hd,hD⟩
   rw [R6] at hi
   have hz:ss[i]?=some ss[i]:=R7 hi
   obtain ⟨z0,zb⟩:=hs ss[i] (SW hi)
   have dl:=hD.len
   rw [Sy] at dl
   have e1:cV (ss.map V.int) (0 + (i:Int))=some (.int ss[i]):=by
    rw [Int.zero_add]
    exact aY (by rw [Sb,hz];rfl)
   dsimp! [rJoin]
   have A0:0≤(one * 48271 + 10007 * (0 + (i:Int) + 1)) % 2147483629:=Int.emod_nonneg _ (by decide)
   have A1:(one * 48271 + 10007 * (0 + (i:Int) + 1)) % 2147483629 < 2147483629:=Int.emod_lt_of_pos _ (by decide)
   generalize (one * 48271 + 10007 * (0 + (i:Int) + 1)) % 2147483629=A at A0 A1 ⊢
   generalize ((A * A + 69621 * A + (0 + (i:Int))) % 2147483563).fdiv 11=B
   have small:∀x:Int,0≤x→x < 2147483648→Bd 64 x:=λx h1 h2=>Bd.small (by omega) (by omega)
   refine ⟨.of (small _ o0 (by omega)) (small _ (by decide) (by decide)),.of (small _ (by decide) (by decide)) (small _ (by omega) (by omega)),.of (small _ A0 (by omega)) (small _ A0 (by omega)),
    .of (small _ (by decide) (by decide)) (small _ A0 (by omega)),.inl ⟨rfl,_,cP.of hd⟩,⟨by decide,(small _ (by decide) (by decide)).mono (by decide)⟩,_,s2.seq hS,_,e1,_,rfl,z0,_,hd,?_,A0,by omega,s2.L6 hr' _,ds ++ [B % ss[i]],?_,?_⟩
   ·rw [R6]
    exact ba (by omega)
   ·rw [aA,Sk]
    rfl
   ·rw [take_snoc hz]
    exact hD.snoc (Int.emod_nonneg _ (by omega)) (Int.emod_lt_of_pos _ z0)
  ·rintro σ H2 ⟨ds,one,u,v,rfl,o0,o1,s2,hd,hD⟩
   rw [R6,SO] at hD
   exact ⟨_,rfl,q r H2 ds hr' s2 hd hD⟩
def Mf (H:Hp) (q:Rat) (Q:VK):Prop:=∀(r:Addr) (H':Hp),bq H H'→H' r=some (.tup [.int q.num,.int q.den])→Q (.ref r) H'
abbrev lK:Stmt:=(top 15)
abbrev du:List Str:=["top","bottom"]
theorem j1:L2.av ["top","bottom","divisor"] ["top","bottom"] (L2.aj lK):=dT
def fY:Sp:=λvs H Q _=>∃t b:Int,vs=[.int t,.int b]∧b≠0∧Bd 9000 b∧Mf H (Rat.divInt t b) Q
theorem Dq {n:Nat} {t b:Int} (h:b≠0) (hb:Bd n b):Bd n ((Int.gcd t b:Nat):Int):=hb.le (by have:=JY (t:=t) h;omega)
theorem wA {f:Addr} {fd:FuncData} (F:cm K "fraction" "fraction" lK f fd) (Z:Cz mg) (gU:rh P w K mg base 1 "shared" h_ qY):aJ P w K mg base pE 2 f fd du fY:=by
 refine F.ok j1 (λvs H Q E h=>?_) (λcdv A outer s H vs Q E hr h=>?_)
 ·obtain ⟨t,b,rfl,_⟩:=h
  rfl
 obtain ⟨t,b,rfl,hb,bb,q⟩:=h
 have hg:=zX (t:=t) hb
 have gb:=Dq (t:=t) hb bb
 refine ⟨_,(QB.run (aU (mB (dB D_ (pv 1) aK (eL _)) nE fm)
   (aU (cF (i:=2) j1.nd rfl (Or.inl rfl) (wU gU hr (by decide) rfl (ak (pv 0) (ak (pv 1) aO))))
   (wW (mB (dB Aj (pv 1) aK (eL _)) (bC (cF (i:=2) j1.nd rfl (Or.inl rfl) (Am Ff (pv 2)))) fm)
   (bC (dH (qs (ak (bp fH (pv 0) (pv 2)) (ak (bp fH (pv 1) (pv 2)) aO))))))))),?_⟩
 refine ⟨_,rfl,rfl,_,rfl,?_⟩
 refine DD (λc=>absurd (V.int.inj (of_decide_eq_true c)) hb) (λ_=>?_)
 refine ⟨_,rfl,_,rfl,t,b,rfl,?_⟩
 refine ⟨λσ' H'=>∃d:Int,σ'=[some (.int t),some (.int b),some (.int d)]∧H=H'∧d≠0∧Bd 9000 d∧t.fdiv d=(Rat.divInt t b).num∧b.fdiv d=(Rat.divInt t b).den,?_,?_⟩
 ·refine ⟨_,rfl,_,_,rfl,rfl,_,rfl,DD (λc=>?_) (λc=>?_)⟩
  ·have c':b < 0:=of_decide_eq_true c
   exact ⟨_,rfl,_,rfl,_,rfl,rfl,by omega,gb.neg,Ah c',Ga c'⟩
  ·have c':0 < b:=by
    have:=of_decide_eq_false (TV.mpr c)
    omega
   exact ⟨_,rfl,rfl,by omega,gb,uA c',den_pos c'⟩
 rintro _ _ ⟨d,rfl,rfl,hd,bd,e1,e2⟩
 refine ⟨_,rfl,_,rfl,_,_,rfl,rfl,⟨hd,bd⟩,_,rfl,_,rfl,_,_,rfl,rfl,⟨hd,bd⟩,(by show 2≤sizeLine;decide),λp hp=>?_⟩
 exact q p _ (bq.new hp _) (by rw [aA];show some (HO.tup [V.int (t.fdiv d),V.int (b.fdiv d)])=_;rw [e1,e2])
abbrev EJ:Stmt:=(top 49)
abbrev dW:List Str:=["_law_top","_law_bottom"]
theorem vm:L2.av ["_law_top","_law_bottom","_law_one","_law_two"] ["_law_top","_law_bottom"] (L2.aj EJ):=dT
def Jr:Sp:=λvs H Q _=>∃t b:Int,vs=[.int t,.int b]∧0 < b∧Bd 9000 b∧Mf H (Rat.divInt t b) Q
theorem Kv {f:Addr} {fd:FuncData} (F:cm K "_law_low" "_law_low" EJ f fd) (Z:Cz mg):aJ P w K mg base pE 1 f fd dW Jr:=by
 refine F.ok vm (λvs H Q E h=>?_) (λcdv A outer s H vs Q E hr h=>?_)
 ·obtain ⟨t,b,rfl,_⟩:=h
  rfl
 obtain ⟨t,b,rfl,hb,bb,q⟩:=h
 have hg:=zX (t:=t) (show b≠0 by omega)
 have gb:=Dq (t:=t) (show b≠0 by omega) bb
 refine ⟨_,(QB.run (aU (cF (i:=2) vm.nd rfl (Or.inl rfl) (aR l7 rfl Z.abs boot_abs (ak (pv 0) aO)))
   (aU (cF (i:=3) vm.nd rfl (Or.inl rfl) (pv 1))
   (aU (jU PassesOwn.never (dB IU (pv 3) aK (eL _)) (bC (nC (i:=2) (j:=3) rfl vm.nd rfl rfl (by decide) rfl rfl (ak (pv 3) (ak (bp fI (pv 2) (pv 3)) aO)) rfl)))
   (bC (dH (qs (ak (bp fH (pv 0) (pv 2)) (ak (bp fH (pv 1) (pv 2)) aO))))))))),?_⟩
 refine ⟨_,rfl,t,rfl,_,rfl,?_⟩
 refine xG (λσ H'=>∃x y:Int,σ=[some (.int t),some (.int b),some (.int x),some (.int y)]∧H=H'∧0≤x∧0≤y∧Int.gcd x y=Int.gcd t b) (λσ _=>match σ with | [_,_,_,some (.int y)]=>y.toNat | _=>0)
  ⟨_,_,rfl,rfl,by split <;> omega,by omega,Dp t b⟩ ?_ (λσ H Q Q' m h=>?_)
 ·rintro σ H' ⟨x,y,rfl,rfl,hx,hy,hg'⟩
  dsimp! [rJoin]
  split
  ·rename_i hy0
   subst hy0
   have ex:x=((Int.gcd t b:Nat):Int):=by rw [← hg',zW hx]
   subst ex
   refine ⟨⟨by omega,gb⟩,⟨by omega,gb⟩,(by show 2≤sizeLine;decide),λp hp=>?_⟩
   exact q p _ (bq.new hp _) (by rw [aA,uA hb,den_pos hb])
  ·rename_i hy0
   have h1:=Int.emod_lt_of_pos x (show 0 < y by omega)
   have h2:=Int.emod_nonneg x hy0
   exact ⟨by omega,hy,h2,(vZ hy0).trans hg',by omega⟩
 ·obtain ⟨v,e,hs,k,ek,hq⟩:=h
  exact ⟨v,e,hs,k,ek,m _ _ hq⟩
theorem E4 {m n:Nat} {t b:Int} (hb:b≠0) (h1:Bd m t) (h2:Bd n b) (k:Nat) (hm:m≤k) (hn:n≤k):Sz k (Rat.divInt t b) :=
 ⟨(h1.le (Ag t b)).mono hm,(h2.le (uh hb)).mono hn⟩
theorem uz (p q:Rat):(p.den:Int) * (q.den:Int)≠0:=Int.mul_ne_zero (eK p) (eK q)
theorem Sz.add {m n k:Nat} {p q:Rat} (h:Sz m p) (g:Sz n q) (hk:m + n + 1≤k:=by decide):Sz k (p + q):=by
 rw [← add_eq]
 exact E4 (uz p q) (.add (.mul h.num g.den (R' _)) (.mul g.num h.den (R' _)) (R' _)) (.mul h.den g.den (R' _)) k (by omega) (by omega)
theorem Sz.sub {m n k:Nat} {p q:Rat} (h:Sz m p) (g:Sz n q) (hk:m + n + 1≤k:=by decide):Sz k (p - q):=by
 rw [← sub_eq]
 exact E4 (uz p q) (.sub (.mul h.num g.den (R' _)) (.mul g.num h.den (R' _)) (R' _)) (.mul h.den g.den (R' _)) k (by omega) (by omega)
theorem Sz.mul {m n k:Nat} {p:Rat} {i:Int} (h:Sz m p) (g:Bd n i) (hk:m + n≤k:=by decide):Sz k (p * i):=by
 rw [← mul_eq]
 exact E4 (eK p) (.mul h.num g (R' _)) h.den k hk (by omega)
def Oa (K:PySem.W.Frag) (g:Rat→Rat→Rat):Sp:=λvs H Q _=>∃(a b:Addr) (p q:Rat),vs=[.ref a,.ref b]∧LQ K H a p∧LQ K H b q∧Sz 4000 p∧Sz 4000 q∧Mf H (g p q) Q
abbrev zi:Stmt:=(top 16)
abbrev o9:List Str:=["one","two"]
theorem HL:L2.av ["one","two"] ["one","two"] (L2.aj zi):=dT
theorem GS {f:Addr} {fd:FuncData} (F:cm K "plus" "plus" zi f fd) (Z:Cz mg) (bU:rh P w K mg base 2 "fraction" du fY):aJ P w K mg base pE 3 f fd o9 (Oa K λp q=>p + q):=by
 refine F.ok HL (λvs H Q E h=>?_) (λcdv A outer s H vs Q E hr h=>?_)
 ·obtain ⟨a,b,p,q,rfl,_⟩:=h
  rfl
 obtain ⟨a,b,p,q,rfl,ha,hb,sp,sq,k⟩:=h
 refine ⟨_,(QB.run (bC (dH (wU bU hr (by decide) rfl (ak (bp iJ (bp cK (cj cS (pv 0) aK (λ_ _=>rfl)) (cj cS (pv 1) aK (λ_ _=>rfl))) (bp cK (cj cS (pv 1) aK (λ_ _=>rfl)) (cj cS (pv 0) aK (λ_ _=>rfl)))) (ak (bp cK (cj cS (pv 0) aK (λ_ _=>rfl)) (cj cS (pv 1) aK (λ_ _=>rfl))) aO)))))),?_⟩
 refine ⟨_,rfl,_,_,_,_,rfl,rfl,ha,rfl,_,rfl,_,_,_,_,rfl,rfl,hb,rfl,_,_,rfl,rfl,.of sp.num sq.den,_,rfl,_,_,_,_,rfl,rfl,hb,rfl,_,rfl,_,_,_,_,rfl,rfl,ha,rfl,_,_,rfl,rfl,.of sq.num sp.den,_,_,rfl,rfl,_,rfl,_,_,_,_,rfl,rfl,ha,rfl,_,rfl,_,_,_,_,rfl,rfl,hb,rfl,_,_,rfl,rfl,.of sp.den sq.den,_,_,rfl,uz p q,.mul sp.den sq.den,?_⟩
 rw [add_eq]
 exact k
abbrev vc:Stmt:=(top 17)
abbrev jR:List Str:=["one","two"]
theorem EL:L2.av ["one","two"] ["one","two"] (L2.aj vc):=dT
theorem D0 {f:Addr} {fd:FuncData} (F:cm K "minus" "minus" vc f fd) (Z:Cz mg) (bU:rh P w K mg base 2 "fraction" du fY):aJ P w K mg base pE 3 f fd jR (Oa K λp q=>p - q):=by
 refine F.ok EL (λvs H Q E h=>?_) (λcdv A outer s H vs Q E hr h=>?_)
 ·obtain ⟨a,b,p,q,rfl,_⟩:=h
  rfl
 obtain ⟨a,b,p,q,rfl,ha,hb,sp,sq,k⟩:=h
 refine ⟨_,(QB.run (bC (dH (wU bU hr (by decide) rfl (ak (bp yP (bp cK (cj cS (pv 0) aK (λ_ _=>rfl)) (cj cS (pv 1) aK (λ_ _=>rfl))) (bp cK (cj cS (pv 1) aK (λ_ _=>rfl)) (cj cS (pv 0) aK (λ_ _=>rfl)))) (ak (bp cK (cj cS (pv 0) aK (λ_ _=>rfl)) (cj cS (pv 1) aK (λ_ _=>rfl))) aO)))))),?_⟩
 refine ⟨_,rfl,_,_,_,_,rfl,rfl,ha,rfl,_,rfl,_,_,_,_,rfl,rfl,hb,rfl,_,_,rfl,rfl,.of sp.num sq.den,_,rfl,_,_,_,_,rfl,rfl,hb,rfl,_,rfl,_,_,_,_,rfl,rfl,ha,rfl,_,_,rfl,rfl,.of sq.num sp.den,_,_,rfl,rfl,_,rfl,_,_,_,_,rfl,rfl,ha,rfl,_,rfl,_,_,_,_,rfl,rfl,hb,rfl,_,_,rfl,rfl,.of sp.den sq.den,_,_,rfl,uz p q,.mul sp.den sq.den,?_⟩
 rw [sub_eq]
 exact k
abbrev ve:Stmt:=(top 18)
abbrev mC:List Str:=["one","many"]
theorem EN:L2.av ["one","many"] ["one","many"] (L2.aj ve):=dT
def AX (K:PySem.W.Frag):Sp:=λvs H Q _=>∃(a:Addr) (p:Rat) (m:Int),vs=[.ref a,.int m]∧LQ K H a p∧Sz 9000 p∧Bd 9000 m∧Mf H (p * m) Q
theorem D3 {f:Addr} {fd:FuncData} (F:cm K "times" "times" ve f fd) (Z:Cz mg) (bU:rh P w K mg base 2 "fraction" du fY):aJ P w K mg base pE 3 f fd mC (AX K):=by
 refine F.ok EN (λvs H Q E h=>?_) (λcdv A outer s H vs Q E hr h=>?_)
 ·obtain ⟨a,p,m,rfl,_⟩:=h
  rfl
 obtain ⟨a,p,m,rfl,ha,sp,bm,k⟩:=h
 refine ⟨_,(QB.run (bC (dH (wU bU hr (by decide) rfl (ak (bp cK (cj cS (pv 0) aK (λ_ _=>rfl)) (pv 1)) (ak (cj cS (pv 0) aK (λ_ _=>rfl)) aO)))))),?_⟩
 refine ⟨_,rfl,_,_,_,_,rfl,rfl,ha,rfl,_,rfl,_,_,rfl,rfl,.of sp.num bm,_,rfl,_,_,_,_,rfl,rfl,ha,rfl,_,_,rfl,eK p,sp.den,?_⟩
 rw [mul_eq]
 exact k
abbrev zg:Stmt:=(top 19)
abbrev fk:List Str:=["one","two"]
theorem HJ:L2.av ["one","two"] ["one","two"] (L2.aj zg):=dT
def EX (K:PySem.W.Frag):Sp:=λvs H Q _=>∃(a b:Addr) (p q:Rat),vs=[.ref a,.ref b]∧LQ K H a p∧LQ K H b q∧Sz 9000 p∧Sz 9000 q∧Q (.bl (decide (p < q))) H
theorem Gy (p q:Rat):decide (p.num * q.den < q.num * p.den)=decide (p < q):=decide_eq_decide.mpr (Rat.lt_iff p q).symm
theorem GR {f:Addr} {fd:FuncData} (F:cm K "less" "less" zg f fd) (Z:Cz mg):aJ P w K mg base pE 1 f fd fk (EX K):=by
 refine F.ok HJ (λvs H Q E h=>?_) (λcdv A outer s H vs Q E hr h=>?_)
 ·obtain ⟨a,b,p,q,rfl,_⟩:=h
  rfl
 obtain ⟨a,b,p,q,rfl,ha,hb,sp,sq,k⟩:=h
 refine ⟨_,(QB.run (bC (dH (o7 Aj (bp cK (cj cS (pv 0) aK (λ_ _=>rfl)) (cj cS (pv 1) aK (λ_ _=>rfl))) (bp cK (cj cS (pv 1) aK (λ_ _=>rfl)) (cj cS (pv 0) aK (λ_ _=>rfl))) (eL _))))),?_⟩
 refine ⟨_,rfl,_,_,_,_,rfl,rfl,ha,rfl,_,rfl,_,_,_,_,rfl,rfl,hb,rfl,_,_,rfl,rfl,.of sp.num sq.den,_,rfl,_,_,_,_,rfl,rfl,hb,rfl,_,rfl,_,_,_,_,rfl,rfl,ha,rfl,_,_,rfl,rfl,.of sq.num sp.den,_,_,rfl,rfl,?_⟩
 show Q (.bl (decide (p.num * q.den < q.num * p.den))) H
 rw [Gy]
 exact k
theorem Ab {K:PySem.W.Frag} {J:Hq} {H:Hp}:∀{ns:List Int} {vs:List V},aL K J H (ns.map PV.int) vs→vs=ns.map V.int
 | [],_,h=>h
 | n :: ns,_,⟨v,us,e,h,k⟩=>by subst e;cases h;rw [Ab k];rfl
theorem KL {K:PySem.W.Frag} {J:Hq} {H:Hp} {x:PV} {vs:List V} (h:aL K J H [x] vs):∃v,vs=[v]∧cq K J H x v:=by
 obtain ⟨v,us,rfl,h1,h2⟩:=h;cases h2;exact ⟨v,rfl,h1⟩
theorem i6 {K:PySem.W.Frag} {J:Hq} {H:Hp} {x y:PV} {vs:List V} (h:aL K J H [x,y] vs):∃v u,vs=[v,u]∧cq K J H x v∧cq K J H y u:=by
 obtain ⟨v,us,rfl,h1,u,us',rfl,h2,h3⟩:=h;cases h3;exact ⟨v,u,rfl,h1,h2⟩
theorem pX {K:PySem.W.Frag} {J:Hq} {H:Hp} {q:Rat} {v:V} (h:cq K J H (fr q) v):∃a,v=.ref a∧LQ K H a q:=by
 obtain ⟨a,vs,rfl,h1,h2⟩:=h
 obtain ⟨x,y,rfl,r1,r2⟩:=i6 h2
 cases r1;cases r2
 exact ⟨a,rfl,h1⟩
theorem uY {K:PySem.W.Frag} {J:Hq} {H:Hp} {q:Rat} {Q2:PV→Hq→Prop} {Q:VK} (r:Rep K J H) (k:Kn K J H Q2 Q) (h:Q2 (fr q) J):Mf H q Q:=λa H' s e =>
 k (fr q) J (.ref a) H' ⟨a,_,rfl,fv.of e,⟨_,_,rfl,rfl,_,_,rfl,rfl,rfl⟩⟩ (r.same s) (.same s) h
def ET:cI:=λxs J Q _=>∃(c:Int) (ss:List Int),xs=[.int c,.fl (ss.map .int)]∧(∀s∈ss,0 < s∧Bd 9000 s)∧ss.length≤1000∧∀ds,Dig ds ss→Q (.fl (ds.map .int)) J
theorem wj (C:rh P w K mg base 1 "_law_digits" dt (qQ K)):bt P w K mg base 1 "_law_digits" dt ET:=C.lift λxs J vs H Q2 E2 Q E rs r ⟨c,ss,ex,h0,h1,q⟩ kn=>by
 subst ex
 obtain ⟨v,u,rfl,r1,⟨a,ws,rfl,h2,h3⟩⟩:=i6 rs
 cases r1;cases Ab h3
 refine ⟨c,a,ss,rfl,h2.sq,h0,h1,λp H' ds hp s e D=>kn (.fl (ds.map .int)) J (.ref p) H' ⟨p,_,rfl,.inl ⟨r.free hp,.inl e⟩,nI ds⟩ (r.same s) (.same s) (q ds D)⟩
def lR:cI:=λxs J Q _=>∃t b:Int,xs=[.int t,.int b]∧0 < b∧Bd 9000 b∧Q (fr (Rat.divInt t b)) J
theorem DS (C:rh P w K mg base 1 "_law_low" dW Jr):bt P w K mg base 1 "_law_low" dW lR:=C.lift λxs J vs H Q2 E2 Q E rs r ⟨t,b,ex,h0,h1,q⟩ kn=>by
 subst ex
 obtain ⟨v,u,rfl,r1,r2⟩:=i6 rs
 cases r1;cases r2
 exact ⟨t,b,rfl,h0,h1,uY r kn q⟩
def dF:cI:=λxs J Q _=>∃p q:Rat,xs=[fr p,fr q]∧Sz 9000 p∧Sz 9000 q∧Q (.bl (decide (p < q))) J
theorem BO (C:rh P w K mg base 1 "less" fk (EX K)):bt P w K mg base 1 "less" fk dF:=C.lift λxs J vs H Q2 E2 Q E rs r ⟨p,q,ex,h0,h1,z⟩ kn=>by
 subst ex
 obtain ⟨v,u,rfl,r1,r2⟩:=i6 rs
 obtain ⟨a,rfl,f1⟩:=pX r1
 obtain ⟨b,rfl,f2⟩:=pX r2
 exact ⟨a,b,p,q,rfl,f1,f2,h0,h1,kn (.bl _) J _ H rfl r .refl z⟩
def zm (g:Rat→Rat→Rat):cI:=λxs J Q _=>∃p q:Rat,xs=[fr p,fr q]∧Sz 4000 p∧Sz 4000 q∧Q (fr (g p q)) J
theorem IG {x:Str} {ps:List Str} {k:Nat} {g:Rat→Rat→Rat} (C:rh P w K mg base k x ps (Oa K g)):bt P w K mg base k x ps (zm g):=C.lift λxs J vs H Q2 E2 Q E rs r ⟨p,q,ex,h0,h1,z⟩ kn=>by
 subst ex
 obtain ⟨v,u,rfl,r1,r2⟩:=i6 rs
 obtain ⟨a,rfl,f1⟩:=pX r1
 obtain ⟨b,rfl,f2⟩:=pX r2
 exact ⟨a,b,p,q,rfl,f1,f2,h0,h1,uY r kn z⟩
theorem BP (C:rh P w K mg base 3 "plus" o9 (Oa K λp q=>p + q)):bt P w K mg base 3 "plus" o9 (zm λp q=>p + q):=IG C
theorem yx (C:rh P w K mg base 3 "minus" jR (Oa K λp q=>p - q)):bt P w K mg base 3 "minus" jR (zm λp q=>p - q):=IG C
def qZ:cI:=λxs J Q _=>∃(p:Rat) (m:Int),xs=[fr p,.int m]∧Sz 9000 p∧Bd 9000 m∧Q (fr (p * m)) J
theorem yA (C:rh P w K mg base 3 "times" mC (AX K)):bt P w K mg base 3 "times" mC qZ:=C.lift λxs J vs H Q2 E2 Q E rs r ⟨p,m,ex,h0,h1,z⟩ kn=>by
 subst ex
 obtain ⟨v,u,rfl,r1,r2⟩:=i6 rs
 obtain ⟨a,rfl,f1⟩:=pX r1
 cases r2
 exact ⟨a,p,m,rfl,f1,h0,h1,uY r kn z⟩
def aZ.V (l:aZ):PV:=.tup [fr l.m,fr l.p,.int l.v]
theorem Ow (m p:Rat) (v:Int):PV.tup [fr m,fr p,.int v]=(aZ.mk m p v).V:=rfl
theorem DI (J:Hq) (l:aZ):vI J l.V (.int 0)=some (fr l.m):=l5 _ _
theorem MJ (J:Hq) (l:aZ):vI J l.V (.int 1)=some (fr l.p):=l6 _ _ _
theorem tm (J:Hq) (l:aZ):vI J l.V (.int 2)=some (.int l.v):=sM _ _ _ _
def tM:cI:=λxs J Q _=>∃(l:aZ) (t:Rat),xs=[l.V,fr t]∧Sz 900 l.m∧Sz 900 l.p∧Sz 900 t∧Bd 64 l.v∧Q (fr (l.at t)) J
abbrev lN:Stmt:=(top 27)
abbrev jS:List Str:=["leg","moment"]
theorem gu:L2.av ["leg","moment","begun","place","pace"] ["leg","moment"] (L2.aj lN):=dT
theorem uK {f:Addr} {fd:FuncData} (F:cm K "place_on" "place_on" lN f fd) (Z:bT mg) (xO:bt P w K mg base 3 "plus" o9 (zm λp q=>p + q)) (lX:bt P w K mg base 3 "minus" jR (zm λp q=>p - q)) (tX:bt P w K mg base 3 "times" mC qZ) :
  aJ P w K mg base (cY P w) 4 f fd jS (dI K tM):=by
 simp_arith [gu,(ai (zd (rv 0) (uZ (n:=3) rfl (d8 (bX (i:=2) gu.nd) (d8 (bX (i:=3) gu.nd) (d8 (bX (i:=4) gu.nd) pd)))))
   (aq (az (aQ xO B hr (af (rv 3) (af (aQ tX B hr (af (aQ lX B hr (af (rv 1) (af (rv 2) ah))) (af (rv 4) ah))) ah))))))]
 ·obtain ⟨l,t,rfl,_⟩:=h;rfl
 obtain ⟨l,t,rfl,sb,sp,sm,bv,q⟩:=h
 have s1:Sz 1801 (t - l.m):=sm.sub sb
 have s2:Sz 1900 ((t - l.m) * (l.v:Rat)):=s1.mul bv
 refine hX ?_
 simp_arith! [cQ,aZ.V,zm,qZ]
 exact ⟨sm.mono (by decide),sb.mono (by decide),s1.mono (by decide),bv.mono (by decide),sp.mono (by decide),s2.mono (by decide),q⟩
theorem ka (p q:Rat):p.num * (q.den:Int)=q.num * (p.den:Int)↔p=q:=by
 have a:=cast_eq p
 have b:=cast_eq q
 have c:=dJ p
 have d:=dJ q
 constructor
 ·intro h
  have h':((p.num * (q.den:Int):Int):Rat)=((q.num * (p.den:Int):Int):Rat):=by rw [h]
  rw [Rat.intCast_mul,Rat.intCast_mul,a,b] at h'
  grind
 ·intro h;rw [h]
def gv:Option Rat→PV
 | none=>.non
 | some q=>fr q
structure FP (cL:Addr) (J:Hq) (p r:Addr) (rows:List aZ) (g:Option Rat):Prop where
 o:J p=some (.ins cL [("rows",.ref r),("gone",gv g)])
 l:J r=some (.lst (rows.map aZ.V))
theorem FP.ne {cL:Addr} {J:Hq} {p r:Addr} {rows:List aZ} {g:Option Rat} (h:FP cL J p r rows g):r≠p:=by
 intro e;subst e;have:=h.o;rw [h.l] at this;cases this
structure pH (n:Nat) (l:aZ):Prop where
 m:Sz n l.m
 p:Sz n l.p
 v:Bd 64 l.v
theorem pH.mono {n k:Nat} {l:aZ} (h:pH n l) (e:n≤k):pH k l:=⟨h.m.mono e,h.p.mono e,h.v⟩
theorem OO (a b:PV):([("rows",a),("gone",b)]:List (Str × PV)).lookup ("rows":Str)=some a:=rfl
theorem RQ (a b:PV):([("rows",a),("gone",b)]:List (Str × PV)).lookup ("gone":Str)=some b:=rfl
theorem Gz {m:Str} (a b:PV) (h:(m == ("rows":Str))=false) (k:(m == ("gone":Str))=false):([("rows",a),("gone",b)]:List (Str × PV)).lookup m=none:=by rw [SI,h];simp only;rw [SI,k];rfl
theorem PH (a b:PV):([("rows",a),("gone",b)]:List (Str × PV)).lookup ("leave":Str)=none:=Gz a b (by decide +kernel) (by decide +kernel)
theorem PJ (a b:PV):([("rows",a),("gone",b)]:List (Str × PV)).lookup ("legs":Str)=none:=Gz a b (by decide +kernel) (by decide +kernel)
theorem PK (a b:PV):([("rows",a),("gone",b)]:List (Str × PV)).lookup ("there":Str)=none:=Gz a b (by decide +kernel) (by decide +kernel)
theorem PL (a b:PV):([("rows",a),("gone",b)]:List (Str × PV)).lookup ("leg_at":Str)=none:=Gz a b (by decide +kernel) (by decide +kernel)
theorem IL:(("rows":Str)=("gone":Str))=False:=eq_false (by decide +kernel)
theorem g7 {J:Hq} {l:Addr} {o:HQ} (h:J l=none):mU J (put J l o):=λa=>by
 by_cases e:a=l
 ·subst e;exact .inr h
 ·rw [ar e];exact .inl rfl
theorem Hl (x z:PV):nG ("gone":Str) z (nG ("rows":Str) x [])=([("rows",x),("gone",z)]:List (Str × PV)):=by simp only [nG,IL,if_false]
abbrev fU:Stmt:=(L2.inClass (top 31) 0)
abbrev jc:List Str:=["self","moment","place","pace"]
theorem oT:L2.av ["self","moment","place","pace"] ["self","moment","place","pace"] (L2.aj fU):=dT
def AM (cL:Addr):cI:=λxs J Q _=>∃(p:Addr) (l:aZ),xs=[.ref p,fr l.m,fr l.p,.int l.v]∧J p=some (.ins cL [])∧∀r,J r=none→Q .non (put (put J r (.lst [l.V])) p (.ins cL [("rows",.ref r),("gone",.non)]))
theorem wy {cL f:Addr} {fd:FuncData} (F:cm K "__init__" "Log.__init__" fU f fd) (bV:eu K mg "Log" cL) (bE:aI K cL "rows") (bZ:aI K cL "gone"):aJ P w K mg base (cY P w) 1 f fd jc (dI K (AM cL)):=by
 simp_arith [oT,(ai (gL bV.cl bE (rv 0) (nH (af (eO (af (rv 1) (af (rv 2) (af (rv 3) ah)))) ah)))
   (aq (gL bV.cl bZ (rv 0) lH)))]
 ·obtain ⟨p,l,rfl,_⟩:=h;rfl
 obtain ⟨p,l,rfl,hp,q⟩:=h
 refine hX ?_
 simp_arith! [cQ,Ow]
 intro r hr'
 have ne:p≠r:=by intro e;subst e;rw [hp] at hr';cases hr'
 refine lD (by rw [ar ne];exact hp) ⟨by decide,lD au ⟨by show (1:Nat) < 1000;decide,?_⟩⟩
 rw [gj,Hl]
 exact q r hr'
abbrev lI:Stmt:=(L2.inClass (top 31) 3)
abbrev oA:List Str:=["self"]
theorem xh:L2.av ["self"] ["self"] (L2.aj lI):=dT
def AN (cL:Addr):cI:=λxs J Q _=>∃p r rows g,xs=[.ref p]∧FP cL J p r rows g∧(Q (.fl (rows.map aZ.V)) J∨∀l,J l=none→Q (.ref l) (put J l (.lst (rows.map aZ.V))))
theorem wz {cL f:Addr} {fd:FuncData} (F:cm K "legs" "Log.legs" lI f fd) (Z:bT mg) (bV:eu K mg "Log" cL) (bE:aI K cL "rows"):aJ P w K mg base (cY P w) 1 f fd oA (dI K (AN cL)):=by
 simp_arith [xh,(aq (az (ib pS rfl Z.list boot_list (af (bj bV.cl bE (rv 0)) ah)))),F]
 ·obtain ⟨p,r,rows,g,rfl,_⟩:=h;rfl
 obtain ⟨p,r,rows,g,rfl,b,q⟩:=h
 have bo:=b.o
 have bl:=b.l
 refine hX ?_
 simp_arith! [cQ,bo,bl,OO]
 intro l hl
 rcases q with q | q
 ·exact Fg.oY (g7 hl) au hl q
 ·exact Fg.same (q l hl)
theorem RJ {rows:List aZ} {i:Nat} {b:aZ} (h:rows[i]?=some b):cV (rows.map aZ.V) (i:Int)=some b.V:=aY (by rw [Sb,h];rfl)
abbrev nL:Stmt:=(top 21)
abbrev qx:List Str:=["rows","moment"]
theorem lP:L2.av ["rows","moment","at"] ["rows","moment"] (L2.aj nL):=dT
def xp:cI:=λxs J Q _=>∃(x:PV) (t:Rat) (ys:List PV) (ms:List Rat),xs=[x,fr t]∧lA J x=some ys∧ys.length=ms.length∧ms.length≤900∧(∀(i:Nat) y m,ys[i]?=some y→ms[i]?=some m→vI J y (.int 0)=some (fr m))∧Sz 9000 t∧(∀m∈ms,Sz 9000 m)∧Q (.int ((lb ms t ms.length:Int) - 1)) J
theorem wB {f:Addr} {fd:FuncData} (F:cm K "last_by" "last_by" nL f fd) (Z:bT mg) (dP:bt P w K mg base 1 "less" fk dF):aJ P w K mg base (cY P w) 2 f fd qx (dI K xp):=by
 simp_arith [lP,(ai (aE (i:=2) lP.nd (aB dq (aM dn rfl Z.len boot_len (af (rv 0) ah)) ag))
   (ai (jW cy (fS (nK (aS wH (rv 2) ag) (kB (bL (aQ dP B hr (af (rv 1) (af (aw ay (aw ay (rv 0) (rv 2)) ag) ah))))))) (aq (EF (i:=2) lP.nd ag Dy)))
   (aq (az (rv 2)))))]
 ·obtain ⟨x,t,ys,ms,rfl,_⟩:=h;rfl
 obtain ⟨x,t,ys,ms,rfl,hx,hlen,hl,h0,st,sm,q⟩:=h
 refine hX ?_
 simp_arith! [cQ,DU hx,hlen]
 refine ⟨λk τ J'=>∃j:Nat,τ=[some x,some (fr t),some (.int ((j:Int) - 1))]∧J'=J∧j≤ms.length∧k=j∧lb ms t ms.length=lb ms t j,⟨_,ms.length,rfl,rfl,R' _,rfl,rfl⟩,?_⟩
 rintro k τ J' ⟨j,rfl,rfl,hj,rfl,hb⟩
 simp_arith! [cQ,II hx,dF]
 cases k with
 | zero =>
  rw [if_neg (by omega)]
  rw [hb] at q
  exact q
 | succ k =>
  rw [if_pos (by omega)]
  obtain ⟨y,hy⟩:∃y,ys[k]?=some y:=⟨_,R7 (by omega)⟩
  obtain ⟨m,hm⟩:∃m,ms[k]?=some m:=⟨_,R7 (by omega)⟩
  have ha:cV ys (((k + 1:Nat):Int) - 1)=some y:=by
   have:((k + 1:Nat):Int) - 1=(k:Int):=by omega
   rw [this];exact aY hy
  have em:ms.getD k 0=m:=by simp [Vb,hm]
  have hu:lb ms t (k + 1)=if m≤t then k + 1 else lb ms t k:=by
   show (if ms.getD k 0≤t then k + 1 else lb ms t k)=_
   rw [em]
  refine nu ha (nu (h0 k y m hy hm) ?_)
  simp_arith! [cQ]
  refine ⟨st,sm m (R9 hm),?_⟩
  by_cases c:t < m
  ·rw [if_pos c]
   have hn:¬ m≤t:=Rat.not_le.mpr c
   rw [if_neg hn] at hu
   refine ⟨λτ J''=>τ=[some x,some (fr t),some (.int ((k:Int) - 1))]∧J''=J',λτ' J'' ⟨e1,e2⟩=>⟨k,Tz _,k,e1,e2,by omega,rfl,by rw [hb,hu]⟩,?_⟩
   simp_arith! [cQ]
   have:((k + 1:Nat):Int) - 1 - 1=(k:Int) - 1:=by omega
   exact this
  ·rw [if_neg c]
   rw [if_pos (Rat.not_lt.mp c)] at hu
   rw [hb,hu] at q
   exact q
abbrev j0:Stmt:=(L2.inClass (top 31) 5)
abbrev mx:List Str:=["self","moment"]
theorem mH:L2.av ["self","moment","joined"] ["self","moment"] (L2.aj j0):=dT
def xo (cL:Addr):cI:=λxs J Q _=>∃p r rows g t,xs=[.ref p,fr t]∧FP cL J p r rows g∧rows≠[]∧Sz 900 t∧(∀l∈rows,pH 900 l)∧(∀q,g=some q→Sz 900 q)∧Q (.bl (there rows g t)) J
theorem uF {cL f:Addr} {fd:FuncData} (F:cm K "there" "Log.there" j0 f fd) (Z:bT mg) (bV:eu K mg "Log" cL) (bE:aI K cL "rows") (bZ:aI K cL "gone") (dP:bt P w K mg base 1 "less" fk dF):aJ P w K mg base (cY P w) 2 f fd mx (dI K (xo cL)):=by
 simp_arith [mH,(ai (aE (i:=2) mH.nd (aw ay (aw ay (bj bV.cl bE (rv 0)) ag) ag))
   (ai (a_ (bL (aQ dP B hr (af (rv 1) (af (rv 2) ah)))) (aq (az d7)) aP)
   (aq (az (Jp (dv Nr (bj bV.cl bZ (rv 0)) lH) (qC (aQ dP B hr (af (rv 1) (af (bj bV.cl bZ (rv 0)) ah)))))))))]
 ·obtain ⟨p,r,rows,g,t,rfl,_⟩:=h;rfl
 obtain ⟨p,r,rows,g,t,rfl,b,hne,st,sl,sg,q⟩:=h
 have bo:=b.o
 have bl:=b.l
 obtain ⟨l,ls,rfl⟩:∃l ls,rows=l :: ls:=T7 hne
 have sl':=(sl l (by simp)).m
 refine hX ?_
 simp_arith! [cQ,bo,bl,OO,RQ,DI,dF]
 refine ⟨st.mono (by decide),sl'.mono (by decide),?_⟩
 unfold there at q
 simp only [Uq] at q
 by_cases c:t < l.m
 ·rw [if_pos c]
  rw [decide_eq_true c] at q
  exact q
 ·rw [if_neg c]
  rw [decide_eq_false c] at q
  cases g with
  | none=>simpa [gv,MF,Ju,OJ] using q
  | some u =>
   simp only [gv,p9,Ss,if_false]
   simp only [OJ] at q
   refine ⟨u,rfl,st.mono (by decide),(sg u rfl).mono (by decide),?_⟩
   simpa using q
abbrev i0:Stmt:=(L2.inClass (top 31) 6)
abbrev kR:List Str:=["self","moment"]
theorem sF:L2.av ["self","moment"] ["self","moment"] (L2.aj i0):=dT
def xn (cL eN:Addr):cI:=λxs J Q E=>∃p r rows g t,xs=[.ref p,fr t]∧FP cL J p r rows g∧rows≠[]∧rows.length≤900∧Sz 900 t∧(∀l∈rows,pH 900 l)∧(∀q,g=some q→Sz 900 q)∧(there rows g t=true→∀l,we rows t=some l→Q l.V J)∧(there rows g t=false→E eN J)
theorem sv {cL eN f:Addr} {fd:FuncData} (F:cm K "leg_at" "Log.leg_at" i0 f fd) (Z:bT mg) (bV:eu K mg "Log" cL) (bE:aI K cL "rows") (k4:Own K mg "NotThere" eN) (jK:dk P w K mg base cL 2 "there" mx (xo cL))
  (Be:bt P w K mg base 2 "last_by" qx xp):aJ P w K mg base (cY P w) 3 f fd kR (dI K (xn cL eN)):=by
 simp_arith [sF,(ai (a_ (cO (bL (bI (pl:=_) jK B hr (rv 0) (af (rv 1) ah)))) (aq (d9 k4 rfl cR B.kn rfl (af bP ah))) aP)
   (aq (az (aw ay (bj bV.cl bE (rv 0)) (aQ Be B hr (af (bj bV.cl bE (rv 0)) (af (rv 1) ah)))))))]
 ·obtain ⟨p,r,rows,g,t,rfl,_⟩:=h;rfl
 obtain ⟨p,r,rows,g,t,rfl,b,hne,hl,st,sl,sg,q,qe⟩:=h
 have bo:=b.o
 have bl:=b.l
 refine hX ?_
 simp_arith! [cQ,bo,bl,OO]
 refine ⟨PK _ _,p,r,rows,g,t,rfl,b,hne,st,sl,sg,?_⟩
 simp_arith! [cQ,fQ,bo,bl,OO]
 cases hc:there rows g t with
 | false=>rw [if_pos rfl];exact qe hc
 | true =>
  rw [if_neg (by decide)]
  obtain ⟨l,h1,h2,h3,h4,h5⟩:=Fc hc
  refine ⟨_,t,rows.map aZ.V,rows.map aZ.m,rfl,by simp_arith! [cQ,bl],by simp,by simpa using hl,?_,st.mono (by decide),?_,?_⟩
  ·intro i y m hy hm
   rw [Sb] at hy hm
   cases e:rows[i]? with
   | none=>rw [e] at hy;cases hy
   | some z=>rw [e] at hy hm;cases hy;cases hm;exact DI _ _
  ·intro m hm
   obtain ⟨z,hz,rfl⟩:=R_.mp hm
   exact (sl z hz).m.mono (by decide)
  ·rw [R6]
   simp_arith! [cQ,bl]
   refine nu (x:=l.V) ?_ (q hc l h1)
   have:((lb (rows.map aZ.m) t rows.length:Nat):Int) - 1=((lb (rows.map aZ.m) t rows.length - 1:Nat):Int):=by omega
   rw [this]
   exact RJ h5
abbrev jZ:Stmt:=(L2.inClass (top 31) 2)
abbrev mw:List Str:=["self","moment"]
theorem vi:L2.av ["self","moment"] ["self","moment"] (L2.aj jZ):=dT
def xm (cL:Addr):cI:=λxs J Q _=>∃p r rows g t,xs=[.ref p,fr t]∧FP cL J p r rows g∧Q .non (put J p (.ins cL [("rows",.ref r),("gone",fr t)]))
theorem uE {cL f:Addr} {fd:FuncData} (F:cm K "leave" "Log.leave" jZ f fd) (Z:bT mg) (bV:eu K mg "Log" cL) (bZ:aI K cL "gone"):aJ P w K mg base (cY P w) 1 f fd mw (dI K (xm cL)):=by
 simp_arith [vi,(aq (gL bV.cl bZ (rv 0) (rv 1)))]
 ·obtain ⟨p,r,rows,g,t,rfl,_⟩:=h;rfl
 obtain ⟨p,r,rows,g,t,rfl,b,q⟩:=h
 have bo:=b.o
 refine hX ?_
 simp_arith! [cQ,bo,IL]
 exact ⟨by decide,q⟩
theorem jv {l:aZ} {t:Rat} (h:pH 900 l) (sm:Sz 900 t):Sz 3000 (l.at t):=by
 have s1:Sz 1801 (t - l.m):=sm.sub h.m
 have s2:Sz 1900 ((t - l.m) * (l.v:Rat)):=s1.mul h.v
 exact h.p.add s2
abbrev gR:Stmt:=(top 29)
abbrev jQ:List Str:=["name","leg","other_name","other_leg","moment"]
theorem fW:L2.av ["name","leg","other_name","other_leg","moment","place","other_place"] ["name","leg","other_name","other_leg","moment"] (L2.aj gR):=dT
def EY:cI:=λxs J Q _=>∃(n n':Str) (l l':aZ) (t:Rat),xs=[.str n,l.V,.str n',l'.V,fr t]∧pH 900 l∧pH 900 l'∧Sz 900 t∧Q (.bl ((key t (n,l)).lt (key t (n',l')))) J
theorem oQ {f:Addr} {fd:FuncData} (F:cm K "lies_behind" "lies_behind" gR f fd) (Z:bT mg) (fu:bt P w K mg base 4 "place_on" jS tM) (dP:bt P w K mg base 1 "less" fk dF):aJ P w K mg base (cY P w) 5 f fd jQ (dI K EY):=by
 simp_arith [fW,(ai (aE (i:=5) fW.nd (aQ fu B hr (af (rv 1) (af (rv 4) ah))))
   (ai (aE (i:=6) fW.nd (aQ fu B hr (af (rv 3) (af (rv 4) ah))))
   (ai (a_ (aS (i_ hr.bB) (rv 5) (rv 6)) (aq (az (aQ dP B hr (af (rv 5) (af (rv 6) ah))))) aP)
   (ai (a_ (aS (i_ hr.bB) (aw ay (rv 1) ag) (aw ay (rv 3) ag)) (aq (az (dv i9 (aw ay (rv 1) ag) (aw ay (rv 3) ag)))) aP)
   (aq (az (dv yQ (rv 0) (rv 2))))))))]
 ·obtain ⟨n,n',l,l',t,rfl,_⟩:=h;rfl
 obtain ⟨n,n',l,l',t,rfl,sl,sl',st,q⟩:=h
 refine hX ?_
 simp_all! []
 refine ⟨l,t,rfl,sl.m,sl.p,st,sl.v,?_⟩
 simp_all! []
 refine ⟨l',t,rfl,sl'.m,sl'.p,st,sl'.v,?_⟩
 have a1:=jv sl st
 have a2:=jv sl' st
 simp_all! []
 unfold Ky.lt key at q
 dsimp only at q
 by_cases e:l.at t=l'.at t
 ·rw [if_pos e] at q
  rw [if_pos e]
  simp_all! [tm]
  by_cases e2:l.v=l'.v
  ·rw [if_pos e2] at q
   rw [if_pos e2]
   simp_all! []
   exact q
  ·rw [if_neg e2] at q
   rw [if_neg e2]
   simp_all! [tm]
   exact q
 ·rw [if_neg e] at q
  rw [if_neg e]
  simp_all! [dF]
  exact ⟨a1.mono (by decide),a2.mono (by decide),q⟩
abbrev lL:Stmt:=(top 43)
abbrev oC:List Str:=["legs","moment"]
theorem e9:L2.av ["legs","moment","names","name","at"] ["legs","moment"] (L2.aj lL):=dT
def bO (fs:List (Str × aZ)):List (Str × PV):=fs.map λx=>(x.1,x.2.V)
def tL:cI:=λxs J Q _=>∃(D:Addr) (fs:List (Str × aZ)) (ep:Nat) (t:Rat),xs=[.ref D,fr t]∧J D=some (.dct (bO fs) ep)∧(fs.map (·.1)).Nodup∧fs.length≤100∧Sz 900 t∧(∀x∈fs,pH 900 x.2)∧∀p,J p=none→Q (.ref p) (put J p (.lst ((cT t fs).map .str)))
theorem uI {f:Addr} {fd:FuncData} (F:cm K "in_order" "in_order" lL f fd) (Z:bT mg) (rA:bt P w K mg base 5 "lies_behind" jQ EY):aJ P w K mg base (cY P w) 6 f fd oC (dI K tL):=by
 simp_arith [e9,(ai (aE (i:=2) e9.nd (nH ah))
   (ai (fe cy rfl (AD (rv 0)) (bX (i:=3) e9.nd) (ai (aE (i:=4) e9.nd (aM dn rfl Z.len boot_len (af (rv 2) ah)))
   (ai (jW cy (fS (nK (aS oz (rv 4) ag) (kB (bL (aQ rA B hr (af (rv 3) (af (aw fB (rv 0) (rv 3)) (af (aw ay (rv 2) (aB dq (rv 4) ag)) (af (aw fB (rv 0) (aw ay (rv 2) (aB dq (rv 4) ag))) (af (rv 1) ah)))))))))) (aq (EF (i:=4) e9.nd ag Dy)))
   (aq (bJ (qA PySem.F.plainAttrs_list PySem.F.slot_list_insert PySem.F.type_list_insert km (rv 2) (af (rv 4) (af (rv 3) ah))))))))
   (aq (az (rv 2)))))]
 ·obtain ⟨D,fs,ep,t,rfl,_⟩:=h;rfl
 obtain ⟨D,fs,ep,t,rfl,hD,hnd,hlen,st,sl,q⟩:=h
 refine hX ?_
 simp_all! []
 intro r hr'
 have nDr:D≠r:=by intro e;subst e;rw [hD] at hr';cases hr'
 simp_all! [ar nDr,hD]
 have hkv:(bO fs).map (λkv=>PV.str kv.1)=fs.map λx=>PV.str x.1:=by unfold bO;rw [Sl];rfl
 rw [hkv]
 obtain ⟨Inv,hInv⟩:∃Inv:Nat→Sr→Hq→Prop,∀i τ J',Inv i τ J'↔∃(u3 u4:Option PV),τ=[some (.ref D),some (fr t),some (.ref r),u3,u4]∧J'=put J r (.lst ((cT t (fs.take i)).map .str)):=⟨_,λ_ _ _=>Iff.rfl⟩
 refine jC Inv ((hInv _ _ _).mpr ⟨_,_,rfl,rfl⟩) (λi τ J' h=>?_) ?_ ?_
 ·obtain ⟨_,_,_,rfl⟩:=(hInv _ _ _).mp h
  rw [ar nDr];exact hD
 ·intro i x τ J' hx hv
  obtain ⟨u3,u4,rfl,rfl⟩:=(hInv _ _ _).mp hv
  clear hv
  have hi:i < fs.length:=by have:=(R8.mp hx).1;simpa using this
  rw [Sb,R7 hi] at hx
  cases hx
  rcases hfi:fs[i] with ⟨n,l⟩
  have hmem:(n,l)∈fs:=by rw [← hfi];exact SW hi
  have et:fs.take (i + 1)=fs.take i ++ [(n,l)]:=by rw [SK,R7 hi,hfi];rfl
  have hndt:((fs.take (i + 1)).map (·.1)).Nodup:=by rw [Ti];exact hnd.sublist (Tv _ _)
  rw [et,Sk,Sd,Th] at hndt
  obtain ⟨hnd1,hnew⟩:=iI hndt
  obtain ⟨ys,hys⟩:∃ys,cu ((fs.take i).map (key t))=ys:=⟨_,rfl⟩
  have srt:m4 Ky.lt ys:=by rw [← hys];exact cM (by rw [cZ];exact hnd1)
  have hyl:ys.length=i:=by rw [← hys,g_,R6,Sy];omega
  have hym:∀y∈ys,∃l',(y.n,l')∈fs∧y=key t (y.n,l')∧y.n≠n:=λy hy=>by
   rw [← hys,bh,R_] at hy
   obtain ⟨x',hx',rfl⟩:=hy
   exact ⟨x'.2,SR hx',rfl,λe=>hnew (R_.mpr ⟨x',hx',e⟩)⟩
  have eo:(cT t (fs.take i)).map PV.str=ys.map λy=>PV.str y.n:=by unfold cT;rw [hys,Sl];rfl
  have en:(cT t (fs.take (i + 1))).map PV.str=(oM Ky.lt (key t (n,l)) ys).map λy=>PV.str y.n:=by
   unfold cT;rw [et,Sk,Sd,Th,hE,hys,Sl];rfl
  rw [eo]
  have hvn:lT (bO fs) n=some l.V:=lU (f:=aZ.V) hnd hmem
  have sll:=sl _ hmem
  simp_all! [au,R6]
  refine ⟨λm τ' J'=>m≤ys.length∧τ'=[some (.ref D),some (fr t),some (.ref r),some (.str n),some (.int (m:Nat))]∧J'=put J r (.lst (ys.map λy=>PV.str y.n))∧∀(j:Nat) y,m≤j→ys[j]?=some y→(key t (n,l)).lt y=true,⟨ys.length,R' _,rfl,rfl,λj y hj e=>by rw [SN hj] at e;cases e⟩,?_⟩
  rintro m τ' J' ⟨hm,rfl,rfl,hall⟩
  have fin:(∀(j:Nat) y,j < m→ys[j]?=some y→y.lt (key t (n,l))=true)→Inv (i + 1) [some (.ref D),some (fr t),some (.ref r),some (.str n),some (.int (m:Nat))] (put J r (.lst ((ys.map λy=>PV.str y.n).take m ++ .str n :: (ys.map λy=>PV.str y.n).drop m))):=λhlow=>by
   refine (hInv _ _ _).mpr ⟨_,_,rfl,?_⟩
   rw [en,← Aa hm hlow λj y hj e=>Ky.Mi (hall j y hj e),Sk,Sd,Ti,TR]
   rfl
  simp_all! [au,ar nDr,hD,hvn]
  by_cases c0:0 < m
  ·rw [if_pos (by omega)]
   obtain ⟨m',rfl⟩:∃m',m=m' + 1:=⟨m - 1,by omega⟩
   obtain ⟨y,hy⟩:∃y,ys[m']?=some y:=⟨_,R7 (by omega)⟩
   obtain ⟨l',hl',ey,ny⟩:=hym y (R9 hy)
   have ha:cV (ys.map λy=>PV.str y.n) (((m' + 1:Nat):Int) - 1)=some (.str y.n):=by
    rw [show ((m' + 1:Nat):Int) - 1=((m':Nat):Int) by omega]
    exact aY (by rw [Sb,hy];rfl)
   have hvy:lT (bO fs) y.n=some l'.V:=lU (f:=aZ.V) hnd hl'
   simp_all! [ha,au,ar nDr,hD,hvn,hvy]
   refine ⟨n,y.n,l,l',t,rfl,sll,sl _ hl',st,?_⟩
   rw [← ey]
   cases hc:(key t (n,l)).lt y with
   | true =>
    simp_all! []
    refine ⟨_,λτ'' J'' h=>⟨m',Tz _,h⟩,⟨by omega,?_,rfl,λj z hj e=>?_⟩⟩
    ·rw [show ((m' + 1:Nat):Int) - 1=((m':Nat):Int) by omega]
    ·rcases TN hj with h | h
     ·exact hall j z (by omega) e
     ·subst h;rw [hy] at e;cases e;exact hc
   | false =>
    simp_all! [au]
    refine ⟨_,m' + 1,rfl,rfl,by rw [R6];omega,ba (by rw [R6];omega),by omega,?_⟩
    rw [gj]
    refine fin λj z hj e=>?_
    have hyx:y.lt (key t (n,l))=true:=by
     rcases Ky.Oi (a:=y) (b:=key t (n,l)) ny with h | h
     ·exact h
     ·rw [hc] at h;cases h
    exact xA (lt:=Ky.lt) Ky.tr srt hy e (by omega) hyx
  ·rw [if_neg (by omega)]
   simp_all! [au]
   refine ⟨_,m,rfl,rfl,by rw [R6];omega,ba (by rw [R6];omega),by omega,?_⟩
   rw [gj]
   exact fin λj z hj e=>by omega
 ·intro τ J' hv
  obtain ⟨u3,u4,rfl,rfl⟩:=(hInv _ _ _).mp hv
  rw [R6,SO]
  simp_all! []
  exact q r hr'
def pM (K:PySem.W.Frag) (mg:Str→Option Value):Prop:=∃a:Addr,mg "NOUGHT"=some (.ref a)∧∀H:Hp,fv K H a [.int 0,.int 1]
theorem BY {K:PySem.W.Frag} {h:Heap} {mg:Str→Option Value} (X:K.In h) (G:h.Ns mainGlobals mg) {a:Addr} {od:Option Addr} {n:Nat} {sl:Array (Option Value)} {t u:Tok}
  (e:PySem.W.nsIn K mainGlobals "NOUGHT"=some (some (.ref a))) (l:K.lookup a=some ⟨.type "tuple",od,.seq #[.int 0 t,.int 1 u] n,sl⟩):pM K mg :=
 ⟨a,PySem.W.mg_of X G e,λ_=>.inr ⟨_,_,_,l,rfl,rfl,(by show 2≤sizeLine;decide),.cons ⟨t,rfl⟩ (.cons ⟨u,rfl⟩ .nil)⟩⟩
structure Cf where
 n:Str
 a:Addr
 r:Addr
 w:List aZ
 g:Option Rat
structure Ln where
 t:Rat
 d:Addr
 e:Nat
 o:Addr
 cs:List Cf
 row:List Str
def Cf.cur (c:Cf):aZ:=c.w.getLast?.getD ⟨0,0,0⟩
def Ln.CB (L:Ln):List Cf:=L.cs.filter λc=>c.g.isNone
def Ln.fs (L:Ln):List (Str × aZ):=L.CB.map λc=>(c.n,c.cur)
structure bc (cN cL:Addr) (J:Hq) (p:Addr) (L:Ln):Prop where
 ob:J p=some (.ins cN [("now",fr L.t),("logs",.ref L.d),("row",.ref L.o)])
 dc:J L.d=some (.dct (L.cs.map λc=>(c.n,PV.ref c.a)) L.e)
 rw:J L.o=some (.lst (L.row.map .str))
 lg:∀c∈L.cs,FP cL J c.a c.r c.w c.g
 ap:(L.cs.map Cf.r).Nodup
 ao:∀c∈L.cs,c.r≠L.o
structure bA (L:Ln):Prop where
 nd:(L.cs.map Cf.n).Nodup
 ne:∀c∈L.cs,c.w≠[]
 le:∀c∈L.cs,∀l∈c.w,l.m≤L.t
 ck:∀c∈L.cs,∀l∈c.w,tS l
 len:∀c∈L.cs,c.w.length≤200
 gz:∀c∈L.cs,∀q,c.g=some q→Sc gy MM q∧q≤L.t
 t0:0≤L.t
 ts:Sc gy MM L.t
 many:L.cs.length≤100
 rm:∀n,n∈L.row↔n∈L.fs.map (·.1)
 rn:L.row.Nodup
 rl:L.row.length≤12
structure df (L:Ln):Prop extends bA L where
 row:L.row=cT L.t L.fs
def Ln.own (L:Ln) (p a:Addr):Prop:=a=p∨a=L.d∨a=L.o∨∃c∈L.cs,a=c.a∨a=c.r
structure Mv (J J':Hq) (S S':Addr→Prop):Prop where
 keep:∀a o,J a=some o→¬ S a→J' a=some o
 own:∀a,S' a→S a∨J a=none
 mono:∀a,J' a=none→J a=none
theorem Mv.refl (J:Hq) (S:Addr→Prop):Mv J J S S:=⟨λ_ _ h _=>h,λ_ h=>.inl h,λ_ h=>h⟩
theorem Mv.trans {J J' J'':Hq} {S S' S'':Addr→Prop} (h:Mv J J' S S') (k:Mv J' J'' S' S''):Mv J J'' S S'':=by
 refine ⟨λa o e n=>k.keep a o (h.keep a o e n) λz=>?_,λa z=>?_,λa z=>h.mono a (k.mono a z)⟩
 ·rcases h.own a z with q | q
  ·exact n q
  ·rw [q] at e;cases e
 ·rcases k.own a z with q | q
  ·exact h.own a q
  ·exact .inr (h.mono a q)
theorem Mv.new {J:Hq} {S:Addr→Prop} {x:Addr} {o:HQ} (h:J x=none):Mv J (put J x o) S S:=by
 refine ⟨λa u e _=>?_,λ_ z=>.inl z,λa z=>?_⟩
 ·rw [ar (λq=>by subst q;rw [h] at e;cases e)];exact e
 ·by_cases q:a=x
  ·subst q;rw [au] at z;cases z
  ·rw [ar q] at z;exact z
theorem Mv.GL {J:Hq} {S:Addr→Prop} {x:Addr} {o:HQ} (h:J x=none):Mv J (put J x o) S (λa=>S a∨a=x) :=
 ⟨(Mv.new (S:=S) h).keep,λa z=>z.elim .inl λe=>.inr (by rw [e];exact h),(Mv.new (S:=S) h).mono⟩
theorem bc.keep {cN cL:Addr} {J J':Hq} {p:Addr} {L:Ln} (h:bc cN cL J p L) (k:∀a o,L.own p a→J a=some o→J' a=some o):bc cN cL J' p L :=
 ⟨k _ _ (.inl rfl) h.ob,k _ _ (.inr (.inl rfl)) h.dc,k _ _ (.inr (.inr (.inl rfl))) h.rw,λc hc=>⟨k _ _ (.inr (.inr (.inr ⟨c,hc,.inl rfl⟩))) (h.lg c hc).o,k _ _ (.inr (.inr (.inr ⟨c,hc,.inr rfl⟩))) (h.lg c hc).l⟩,h.ap,h.ao⟩
theorem bc.some {cN cL:Addr} {J:Hq} {p:Addr} {L:Ln} (h:bc cN cL J p L) {a:Addr} (o:L.own p a):J a≠none:=by
 rcases o with rfl | rfl | rfl | ⟨c,hc,rfl | rfl⟩
 ·rw [h.ob];exact λz=>nomatch z
 ·rw [h.dc];exact λz=>nomatch z
 ·rw [h.rw];exact λz=>nomatch z
 ·rw [(h.lg c hc).o];exact λz=>nomatch z
 ·rw [(h.lg c hc).l];exact λz=>nomatch z
theorem bc.fresh {cN cL:Addr} {J:Hq} {p x:Addr} {L:Ln} {o:HQ} (h:bc cN cL J p L) (hx:J x=none):bc cN cL (put J x o) p L :=
 h.keep λa u ow e=>by rw [ar (λq=>by subst q;rw [hx] at e;cases e)];exact e
theorem JZ {J:Hq} {a b C C':Addr} {fs gs:List (Str × PV)} (h:J a=S1 (.ins C fs)) (k:J b=S1 (.ins C' gs)) (n:fs.map (·.1)≠gs.map (·.1)):a≠b:=by
 intro e;subst e;rw [h] at k
 have:=HQ.ins.inj (Option.some.inj k)
 exact n (by rw [this.2])
theorem bc.GJ {cN cL:Addr} {J:Hq} {p:Addr} {L:Ln} (h:bc cN cL J p L):L.d≠p:=by intro e;have:=h.ob;rw [← e,h.dc] at this;cases this
theorem bc.GN {cN cL:Addr} {J:Hq} {p:Addr} {L:Ln} (h:bc cN cL J p L):L.o≠p:=by intro e;have:=h.ob;rw [← e,h.rw] at this;cases this
theorem bc.PX {cN cL:Addr} {J:Hq} {p:Addr} {L:Ln} (h:bc cN cL J p L):L.d≠L.o:=by intro e;have:=h.rw;rw [← e,h.dc] at this;cases this
theorem DY:([("rows":Str),("gone":Str)]:List Str)≠[("now":Str),("logs":Str),("row":Str)]:=by decide +kernel
theorem bc.OP {cN cL:Addr} {J:Hq} {p:Addr} {L:Ln} (h:bc cN cL J p L) {c:Cf} (hc:c∈L.cs):c.a≠p:=JZ (h.lg c hc).o h.ob DY
theorem bc.LX {cN cL:Addr} {J:Hq} {p:Addr} {L:Ln} (h:bc cN cL J p L) {c:Cf} (hc:c∈L.cs):c.r≠p:=by intro e;have:=h.ob;rw [← e,(h.lg c hc).l] at this;cases this
theorem bc.Rh {cN cL:Addr} {J:Hq} {p:Addr} {L:Ln} (h:bc cN cL J p L) {c:Cf} (hc:c∈L.cs):c.a≠L.d:=by intro e;have:=h.dc;rw [← e,(h.lg c hc).o] at this;cases this
theorem bc.Ri {cN cL:Addr} {J:Hq} {p:Addr} {L:Ln} (h:bc cN cL J p L) {c:Cf} (hc:c∈L.cs):c.r≠L.d:=by intro e;have:=h.dc;rw [← e,(h.lg c hc).l] at this;cases this
theorem bc.PU {cN cL:Addr} {J:Hq} {p:Addr} {L:Ln} (h:bc cN cL J p L) {c:Cf} (hc:c∈L.cs):c.a≠L.o:=by intro e;have:=h.rw;rw [← e,(h.lg c hc).o] at this;cases this
theorem bc.RU {cN cL:Addr} {J:Hq} {p:Addr} {L:Ln} (h:bc cN cL J p L) {c c':Cf} (hc:c∈L.cs) (hc':c'∈L.cs):c.a≠c'.r:=by intro e;have:=(h.lg c' hc').l;rw [← e,(h.lg c hc).o] at this;cases this
theorem bc.Lj {cN cL:Addr} {J:Hq} {p o':Addr} {L:Ln} {row:List Str} (h:bc cN cL J p L) (ho:J o'=S1 (.lst (row.map .str))) (nc:∀c∈L.cs,c.r≠o'):bc cN cL (put J p (.ins cN [("now",fr L.t),("logs",.ref L.d),("row",.ref o')])) p { L with o:=o',row:=row } :=
 ⟨au,by show put J p _ L.d=_;rw [ar h.GJ];exact h.dc,by show put J p _ o'=_;rw [ar (λe=>by rw [e,h.ob] at ho;cases ho)];exact ho,
  λc hc=>⟨by rw [ar (h.OP hc)];exact (h.lg c hc).o,by rw [ar (h.LX hc)];exact (h.lg c hc).l⟩,h.ap,nc⟩
theorem iH {J:Hq} {S S':Addr→Prop} {x:Addr} {o:HQ} (hx:S x) (hS:∀a,S' a→S a∨J a=none):Mv J (put J x o) S S':=by
 refine ⟨λa u e n=>?_,hS,λa z=>?_⟩
 ·rw [ar (λq=>by subst q;exact n hx)];exact e
 ·by_cases q:a=x
  ·subst q;rw [au] at z;cases z
  ·rw [ar q] at z;exact z
theorem bA.Ot {L:Ln} (h:bA L):Sz 900 L.t:=(wu h.ts).mono (by decide)
theorem tS.PQ {l:aZ} (h:tS l):pH 900 l:=⟨h.Rg.mono (by decide),h.Rk.mono (by decide),.small (by have:=h.v;omega) (by have:=h.v;omega)⟩
theorem Cf.l8 {c:Cf} (h:c.w≠[]):c.w.getLast?=S1 c.cur∧c.cur∈c.w:=by
 unfold Cf.cur
 rw [List.getLast?_eq_some_getLast h]
 exact ⟨rfl,List.getLast_mem h⟩
theorem bA.RP {L:Ln} (h:bA L) {c:Cf} (hc:c∈L.cs):we c.w L.t=S1 c.cur:=by
 unfold we
 rw [S2.mpr λl hl=>decide_eq_true (h.le c hc l hl)]
 exact (Cf.l8 (h.ne c hc)).1
theorem bA.there {L:Ln} (h:bA L) {c:Cf} (hc:c∈L.cs) (hg:c.g=none):there c.w c.g L.t=true:=by
 obtain ⟨l,ls,e⟩:=T7 (h.ne c hc)
 have:=h.le c hc l (by rw [e];simp)
 rw [hg,e]
 unfold Ov.there
 simp only [Uq,OJ,Tx]
 rw [decide_eq_false (Rat.not_lt.mpr this)];rfl
theorem Ln.eR {L:Ln} {c:Cf}:c∈L.CB↔c∈L.cs∧c.g=none:=by
 unfold Ln.CB
 rw [Sg]
 cases c.g <;> simp
theorem eX (L:Ln):L.fs.map (·.1)=L.CB.map Cf.n:=by unfold Ln.fs;rw [Sl];rfl
theorem bA.zT {L:Ln} (h:bA L):(L.fs.map (·.1)).Nodup:=by
 rw [eX]
 unfold Ln.CB
 exact h.nd.sublist (List.Sublist.map _ TC)
theorem bA.found {L:Ln} (h:bA L) {n:Str} (hn:n∈L.row):∃c∈L.cs,c.n=n∧c.g=none:=by
 have:=(h.rm n).mp hn
 rw [eX,R_] at this
 obtain ⟨c,hc,e⟩:=this
 exact ⟨c,(Ln.eR.mp hc).1,e,(Ln.eR.mp hc).2⟩
theorem bA.va {L:Ln} (h:bA L) {c:Cf} (hc:c∈L.cs):lT (L.cs.map λc=>(c.n,PV.ref c.a)) c.n=S1 (.ref c.a):=by
 have e:(L.cs.map λc=>(c.n,PV.ref c.a))=((L.cs.map λc=>(c.n,c.a)).map λx=>(x.1,PV.ref x.2)):=by rw [Sl];rfl
 rw [e]
 exact lU (f:=PV.ref) (by rw [Sl];exact h.nd) (R_.mpr ⟨c,hc,rfl⟩)
theorem bA.Rx {L:Ln} (h:bA L) {n:Str}:(lT (L.cs.map λc=>(c.n,PV.ref c.a)) n).isSome=decide (n∈L.cs.map Cf.n):=by
 have e:(L.cs.map λc=>(c.n,PV.ref c.a))=((L.cs.map λc=>(c.n,c.a)).map λx=>(x.1,PV.ref x.2)):=by rw [Sl];rfl
 rw [e,Cw (f:=PV.ref) (by rw [Sl];exact h.nd)]
 rw [Sl];rfl
theorem bA.uniq {L:Ln} (h:bA L) {c c':Cf} (hc:c∈L.cs) (hc':c'∈L.cs) (e:c.n=c'.n):c=c':=by
 obtain ⟨i,hi,rfl⟩:=SM hc
 obtain ⟨j,hj,rfl⟩:=SM hc'
 have:=(S9 (xs:=L.cs.map Cf.n) (i:=i) (j:=j) (h₀:=by simpa using hi) (h₁:=by simpa using hj) h.nd).mp (by rw [S4,S4];exact e)
 subst this;rfl
theorem yB (a b c:PV):([("now",a),("logs",b),("row",c)]:List (Str × PV)).lookup ("now":Str)=S1 a:=rfl
theorem BQ (a b c:PV):([("now",a),("logs",b),("row",c)]:List (Str × PV)).lookup ("logs":Str)=S1 b:=rfl
theorem uy (a b c:PV):([("now",a),("logs",b),("row",c)]:List (Str × PV)).lookup ("row":Str)=S1 c:=rfl
theorem f9 (m:Str) (a b c:PV) (h:(m == ("now":Str))=false:=by decide +kernel) (k:(m == ("logs":Str))=false:=by decide +kernel) (l:(m == ("row":Str))=false:=by decide +kernel):([("now",a),("logs",b),("row",c)]:List (Str × PV)).lookup m=none:=by
 rw [SI,h];simp only;rw [SI,k];simp only;rw [SI,l];rfl
theorem M_:(("now":Str)=("logs":Str))=False:=eq_false (by decide +kernel)
theorem IK:(("now":Str)=("row":Str))=False:=eq_false (by decide +kernel)
theorem IJ:(("logs":Str)=("row":Str))=False:=eq_false (by decide +kernel)
theorem Hk (a b c z:PV):nG ("row":Str) z ([("now",a),("logs",b),("row",c)]:List (Str × PV))=([("now",a),("logs",b),("row",z)]:List (Str × PV)):=by simp only [nG,IK,IJ,if_false,if_true]
theorem Lp {J:Hq} {a:Addr} {xs:List PV} (h:J a=S1 (.lst xs)):Ob J (.ref a)=S1 xs:=by unfold Ob;simp only [h]
abbrev ff:Stmt:=(L2.inClass (top 44) 0)
abbrev hG:List Str:=["self"]
theorem nW:L2.av ["self"] ["self"] (L2.aj ff):=dT
def AU (cN cL:Addr):cI:=λxs J Q _=>∃p,xs=[.ref p]∧J p=some (.ins cN [])∧∀J' d e o,bc cN cL J' p ⟨0,d,e,o,[],[]⟩→Mv J J' (λa=>a=p) (Ln.own ⟨0,d,e,o,[],[]⟩ p)→Q .non J'
theorem uC {cN cL f:Addr} {fd:FuncData} (F:cm K "__init__" "Lane.__init__" ff f fd) (N:pM K mg) (ax:eu K mg "Lane" cN) (aH:aI K cN "now") (aV:aI K cN "logs") (aG:aI K cN "row"):aJ P w K mg base (cY P w) 1 f fd hG (dI K (AU cN cL)):=by
 simp_arith [nW]
 ·obtain ⟨p,rfl,_⟩:=h;rfl
 obtain ⟨p,rfl,hp,q⟩:=h
 obtain ⟨aN,gN,sN⟩:=N
 have rN:∀(J:Hq) (H:Hp),cq K J H (fr 0) (.ref aN):=λJ H=>⟨aN,_,rfl,sN H,⟨_,_,rfl,rfl,_,_,rfl,rfl,rfl⟩⟩
 refine ⟨_,(ai (gL ax.cl aH (rv 0) (gm (v:=.ref aN) (fr 0) rfl gN rfl rN))
   (ai (gL ax.cl aV (rv 0) AB)
   (aq (gL ax.cl aG (rv 0) (nH ah))))),?_⟩
 simp_all! [hp]
 refine ⟨by decide,?_⟩
 simp_all! []
 intro d hd ep
 have GJ:d≠p:=by intro e;subst e;rw [au] at hd;cases hd
 simp_all! [ar (Ne.symm GJ),au]
 simp only [M_,if_false]
 refine ⟨by decide,?_⟩
 simp_all! []
 intro o ho
 have jd:J d=none:=by rw [ar GJ] at hd;exact hd
 have GN:o≠p:=by intro e;subst e;rw [au] at ho;cases ho
 have nod:o≠d:=by intro e;subst e;rw [ar GN,au] at ho;cases ho
 have jo:J o=none:=by rw [ar GN,ar nod,ar GN] at ho;exact ho
 refine lD (by rw [ar (Ne.symm GN)];exact au) ⟨by show (2:Nat) < 1000;decide,?_⟩
 have pr:nG ("row":Str) (PV.ref o) ([("now",fr 0),("logs",.ref d)]:List (Str × PV))=([("now",fr 0),("logs",.ref d),("row",.ref o)]:List (Str × PV)):=by simp only [nG,IK,IJ,if_false]
 rw [pr]
 refine q _ d ep o ⟨au,by rw [ar GJ,ar (Ne.symm nod),ar GJ];exact au,by rw [ar GN];exact au,(by simp),(by simp),(by simp)⟩ ⟨λa u e na=>?_,λa ow=>?_,λa z=>?_⟩
 ·have na1:a≠d:=λz=>by subst z;rw [jd] at e;cases e
  have na2:a≠o:=λz=>by subst z;rw [jo] at e;cases e
  rw [ar na,ar na2,ar na,ar na1,ar na];exact e
 ·rcases ow with rfl | rfl | rfl | ⟨c,hc,_⟩
  ·exact .inl rfl
  ·exact .inr jd
  ·exact .inr jo
  ·cases hc
 ·by_cases z1:a=p
  ·subst z1;rw [au] at z;cases z
  by_cases z2:a=o
  ·subst z2;exact jo
  by_cases z3:a=d
  ·subst z3;exact jd
  rw [ar z1,ar z2,ar z1,ar z3,ar z1] at z;exact z
abbrev dw:Stmt:=(L2.inClass (top 44) 22)
abbrev dh:List Str:=["self","name"]
theorem jm:L2.av ["self","name"] ["self","name"] (L2.aj dw):=dT
def vA (cN cL eC:Addr):cI:=λxs J Q E=>∃p L n,xs=[.ref p,.str n]∧bc cN cL J p L∧(n∈L.row→Q .non J)∧(n ∉ L.row→E eC J)
theorem jl {cN cL eC f:Addr} {fd:FuncData} (F:cm K "must_be_there" "Lane.must_be_there" dw f fd) (Z:bT mg) (ax:eu K mg "Lane" cN) (aG:aI K cN "row") (fq:Own K mg "NoCraft" eC):aJ P w K mg base (cY P w) 1 f fd dh (dI K (vA cN cL eC)):=by
 simp_arith [jm,(aq (a_ (aS Ak (rv 1) (bj ax.cl aG (rv 0))) (aq (d9 fq rfl cR B.kn rfl (af bP ah))) aP))]
 ·obtain ⟨p,L,n,rfl,_⟩:=h;rfl
 obtain ⟨p,L,n,rfl,b,q,qe⟩:=h
 have bo:=b.ob
 refine hX ?_
 simp_all! [bo,uy,Nz,Lp b.rw]
 refine ⟨L.row,rfl,?_⟩
 by_cases c:n∈L.row
 ·rw [if_pos (by simp [c])]
  exact q c
 ·rw [if_neg (by simp [c])]
  simp_all! [fQ]
  exact qe c
abbrev gM:Stmt:=(L2.inClass (top 44) 23)
abbrev fJ:List Str:=["self","name"]
theorem qK:L2.av ["self","name"] ["self","name"] (L2.aj gM):=dT
def qT (cN cL eC:Addr):cI:=λxs J Q E=>∃p L n,xs=[.ref p,.str n]∧bc cN cL J p L∧bA L∧(∀c∈L.cs,c.n=n→c.g=none→Q c.cur.V J)∧(n ∉ L.row→E eC J)
theorem qg {cN cL eC eN f:Addr} {fd:FuncData} (F:cm K "leg_of" "Lane.leg_of" gM f fd) (Z:bT mg) (ax:eu K mg "Lane" cN) (aV:aI K cN "logs") (aH:aI K cN "now") (bF:dk P w K mg base cN 1 "must_be_there" dh (vA cN cL eC)) (iG:dk P w K mg base cL 3 "leg_at" kR (xn cL eN)) :
  aJ P w K mg base (cY P w) 4 f fd fJ (dI K (qT cN cL eC)):=by
 simp_arith [qK,(ai (bJ (bI (pl:=_) bF B hr (rv 0) (af (rv 1) ah)))
   (aq (az (bI (pl:=_) iG B hr (aw fB (bj ax.cl aV (rv 0)) (rv 1)) (af (bj ax.cl aH (rv 0)) ah)))))]
 ·obtain ⟨p,L,n,rfl,_⟩:=h;rfl
 obtain ⟨p,L,n,rfl,b,ok,q,qe⟩:=h
 have bo:=b.ob
 have bd:=b.dc
 refine hX ?_
 simp_all! [bo]
 refine ⟨f9 _ _ _ _,p,L,n,rfl,b,λhn=>?_,qe⟩
 obtain ⟨c,hc,rfl,hg⟩:=ok.found hn
 have lo:=(b.lg c hc).o
 simp_all! [bo,BQ,bd,ok.va hc,lo]
 refine ⟨PL _ _,?_⟩
 simp_all! [bo,yB]
 refine ⟨c.a,c.r,c.w,c.g,L.t,rfl,b.lg c hc,ok.ne c hc,Su (ok.len c hc) (by decide),ok.Ot,λl hl=>(ok.ck c hc l hl).PQ,λq' hq=>(wu (ok.gz c hc q' hq).1).mono (by decide),λ_ l hl=>?_,λz=>?_⟩
 ·rw [ok.RP hc] at hl;cases hl
  exact q c hc rfl hg
 ·rw [ok.there hc hg] at z;cases z
abbrev eV:Stmt:=(L2.inClass (top 44) 24)
abbrev fK:List Str:=["self"]
theorem qM:L2.av ["self"] ["self"] (L2.aj eV):=dT
theorem Ea {L:Ln} (ok:bA L) {f:Str→aZ} (hf:∀c∈L.cs,c.g=none→f c.n=c.cur):cT L.t (L.row.map λn=>(n,f n))=cT L.t L.fs:=by
 refine wM (by rw [Sl];show (L.row.map λn=>n).Nodup;rw [List.map_id'];exact ok.rn) ok.zT λx=>?_
 rw [R_,R_]
 constructor
 ·rintro ⟨y,hy,rfl⟩
  obtain ⟨n,hn,rfl⟩:=R_.mp hy
  obtain ⟨c,hc,rfl,hg⟩:=ok.found hn
  exact ⟨(c.n,c.cur),R_.mpr ⟨c,Ln.eR.mpr ⟨hc,hg⟩,rfl⟩,by rw [hf c hc hg]⟩
 ·rintro ⟨y,hy,rfl⟩
  obtain ⟨c,hc,rfl⟩:=R_.mp hy
  obtain ⟨hc,hg⟩:=Ln.eR.mp hc
  refine ⟨(c.n,f c.n),R_.mpr ⟨c.n,(ok.rm c.n).mpr ?_,rfl⟩,by rw [hf c hc hg]⟩
  rw [eX];exact R_.mpr ⟨c,Ln.eR.mpr ⟨hc,hg⟩,rfl⟩
def Ln.ux (L:Ln) (n:Str):aZ:=((L.cs.find? λc=>decide (c.n=n)).map Cf.cur).getD ⟨0,0,0⟩
theorem bA.ux {L:Ln} (ok:bA L) {c:Cf} (hc:c∈L.cs):L.ux c.n=c.cur:=by
 unfold Ln.ux
 cases h:L.cs.find? λd=>decide (d.n=c.n) with
 | none=>have:=List.find?_eq_none.mp h c hc;simp at this
 | some d =>
  have h1:=List.mem_of_find?_eq_some h
  have h2:d.n=c.n:=by simpa using List.find?_some h
  rw [ok.uniq h1 hc h2];rfl
def n6 (cN cL:Addr):cI:=λxs J Q E=>∃p L,xs=[.ref p]∧bc cN cL J p L∧bA L∧∀J' o',bc cN cL J' p { L with o:=o',row:=cT L.t L.fs }→Mv J J' (L.own p) (Ln.own { L with o:=o',row:=cT L.t L.fs } p)→Q .non J'
theorem qi {cN cL eC f:Addr} {fd:FuncData} (F:cm K "settle" "Lane.settle" eV f fd) (Z:bT mg) (ax:eu K mg "Lane" cN) (aG:aI K cN "row") (aH:aI K cN "now") (cD:dk P w K mg base cN 4 "leg_of" fJ (qT cN cL eC)) (xK:bt P w K mg base 6 "in_order" oC tL) :
  aJ P w K mg base (cY P w) 7 f fd fK (dI K (n6 cN cL)):=by
 simp_arith [qM,(aq (gL ax.cl aG (rv 0) (aQ xK B hr (af (N9 (L2.aj eV) ["self"] [("self",0)] rfl rfl rfl (gn (bj ax.cl aG (rv 0))) (λ_ _ _ _ _ _=>(rv 0)) (λ_ _ _ _ _ _=>(bI (pl:=_) cD Pe hr (rv 1) (af (rv 0) ah)))) (af (bj ax.cl aH (rv 0)) ah)))))]
 ·obtain ⟨p,L,rfl,_⟩:=h;rfl
 obtain ⟨p,L,rfl,b,ok,q⟩:=h
 have bo:=b.ob
 have br:=b.rw
 refine hX ?_
 simp_all! [Qg,bo,uy,br]
 intro D hD ep
 have bf:∀e2 kvs,bc cN cL (put J D (.dct kvs e2)) p L:=λe2 kvs=>b.fresh hD
 have hrl:=ok.rl
 refine ⟨λi J2=>∃e2,J2=put J D (.dct (bO ((L.row.take i).map λn=>(n,L.ux n))) e2),⟨ep,rfl⟩,?_,?_,?_⟩
 ·rintro i J2 ⟨e2,rfl⟩;exact (bf e2 _).rw
 ·rintro i x J2 hx ⟨e2,rfl⟩
  have hi:i < L.row.length:=by have:=(R8.mp hx).1;simpa using this
  rw [Sb,R7 hi] at hx
  cases hx
  have hn:L.row[i]∈L.row:=SW hi
  refine lD (bf e2 _).ob ⟨f9 _ _ _ _,p,L,L.row[i],rfl,bf e2 _,ok,λc hc e hg=>?_,λz=>absurd hn z⟩
  refine ⟨_,e2,L.row[i],rfl,au,ba (by simp only [bO,R6,Sy];omega),λep'=>⟨ep',?_⟩⟩
  rw [gj]
  congr 2
  have et:L.row.take (i + 1)=L.row.take i ++ [L.row[i]]:=by rw [SK,R7 hi];rfl
  rw [et,Sk,Sd,Th,← e,ok.ux hc]
  refine y4 (f:=aZ.V) (l:=c.cur) λz=>?_
  rw [Sl] at z
  obtain ⟨m,hm,e3⟩:=R_.mp z
  have hnd:(L.row.take (i + 1)).Nodup:=ok.rn.sublist (Tv _ _)
  rw [et] at hnd
  exact (iI hnd).2 (by rw [← e,← e3];exact hm)
 ·rintro J2 ⟨e2,rfl⟩
  rw [R6,SO]
  refine lD (bf e2 _).ob (nu (yB _ _ _) ⟨D,_,e2,L.t,rfl,au,?_,by rw [R6];omega,ok.Ot,?_,λo' ho'=>?_⟩)
  ·rw [Sl];show (L.row.map λn=>n).Nodup;rw [List.map_id'];exact ok.rn
  ·intro x hx
   obtain ⟨n,hn,rfl⟩:=R_.mp hx
   obtain ⟨c,hc,rfl,hg⟩:=ok.found hn
   show pH 900 (L.ux c.n)
   rw [ok.ux hc]
   exact (ok.ck c hc _ (Cf.l8 (ok.ne c hc)).2).PQ
  ·rw [Ea ok λc hc _=>ok.ux hc]
   have b2:bc cN cL (put (put J D (.dct (bO (L.row.map λn=>(n,L.ux n))) e2)) o' (.lst ((cT L.t L.fs).map .str))) p L:=(bf e2 _).fresh ho'
   have jo:J o'=none:=by
    by_cases z:o'=D
    ·subst z;exact hD
    ·rw [ar z] at ho';exact ho'
   refine lD b2.ob ⟨by show (3:Nat) < 1000;decide,?_⟩
   rw [Hk]
   refine q _ o' (b2.Lj au λc hc e=>?_) ?_
   ·have:=(b.lg c hc).l;rw [e,jo] at this;cases this
   ·refine ((Mv.new hD).trans (Mv.GL ho')).trans (iH (.inl (.inl rfl)) λa ow=>.inl ?_)
    rcases ow with h | h | h | h
    ·exact .inl (.inl h)
    ·exact .inl (.inr (.inl h))
    ·exact .inr h
    ·exact .inl (.inr (.inr (.inr h)))
abbrev gq:Stmt:=(top 35)
abbrev fj:List Str:=["text"]
theorem vj:L2.av ["text"] ["text"] (L2.aj gq):=dT
def aX:Str:="abcdefghijklmnopqrstuvwxyz0123456789"
def good (y:Str):Bool:=decide (1≤y.cps.size) && decide (y.cps.size≤8) && y.cps.toList.all (bY aX)
def EV (T:Addr):Sp:=λvs H Q _=>∃y:Str,vs=[.str y]∧y.length≤sizeLine∧H T=some (.ext (dY T))∧Q (.bl (good y)) H
theorem uG {T f c:Addr} {fd:FuncData} (F:FN K mg "good_name" gq T f fd c) (Z:Cz mg) (Bm:BMain mg base) {kF pB:Tok} (g6:mg "LONGEST"=some (.int 8 kF)) (ma:mg "SIGNS"=some (.str "abcdefghijklmnopqrstuvwxyz0123456789" pB)) :
  aJ P w K mg base pE 1 f fd fj (EV T):=by
 refine RX F vj (λvs H Q E h=>?_) (λA outer s H vs Q E hr h=>?_)
 ·obtain ⟨y,rfl,_⟩:=h
  rfl
 obtain ⟨y,rfl,hz,hT,q⟩:=h
 refine ⟨_,(aU (mB (IY (Ar (dB Aj (aR iw rfl Z.len boot_len (ak (pv 0) aO)) aK (eL _)) (uV (dB IS (aR iw rfl Z.len boot_len (ak (pv 0) aO)) (bG (v:=.int 8) rfl g6 ⟨_,rfl⟩) (eL _))))) (bC (dH wR)) fm)
   (bC (dH (Ed rfl Bm rfl F.tab hr rfl Z.all ma (pv 0))))),?_⟩
 have el:y.cps.size=y.length:=rfl
 refine ⟨_,rfl,y,rfl,hz,_,_,rfl,rfl,_,rfl,DD (λe=>?_) (λe=>⟨_,rfl,y,rfl,hz,_,_,rfl,rfl,_,rfl,DD (λe2=>?_) (λe2=>?_)⟩)⟩
 ·have e:(y.length:Int) < 1:=of_decide_eq_true e
  have z:good y=false:=by
   unfold good
   rw [decide_eq_false (show ¬ 1≤y.cps.size by omega)]
   rfl
  show Q (.bl false) H
  rw [← z]
  exact q
 ·have e2:(8:Int) < (y.length:Int):=of_decide_eq_true e2
  have z:good y=false:=by
   unfold good
   rw [decide_eq_false (show ¬ y.cps.size≤8 by omega),TZ]
   rfl
  show Q (.bl false) H
  rw [← z]
  exact q
 ·have e:¬ (y.length:Int) < 1:=of_decide_eq_false (TV.mpr e)
  have e2:¬ (8:Int) < (y.length:Int):=of_decide_eq_false (TV.mpr e2)
  have z:good y=y.cps.toList.all (bY aX):=by
   unfold good
   rw [decide_eq_true (show 1≤y.cps.size by omega),decide_eq_true (show y.cps.size≤8 by omega)]
   rfl
  refine ⟨_,rfl,y,rfl,hT,?_⟩
  show Q (.bl (y.cps.toList.all (bY aX))) H
  rw [← z]
  exact q
def AL (T:Addr):cI:=λxs J Q _=>∃y:Str,xs=[.str y]∧y.length≤sizeLine∧J T=some .tab∧Q (.bl (good y)) J
theorem p_ {T:Addr} (C:rh P w K mg base 1 "good_name" fj (EV T)):bt P w K mg base 1 "good_name" fj (AL T):=C.lift λxs J vs H Q2 E2 Q E rs r ⟨y,ex,hl,hT,q⟩ kn=>by
 subst ex
 obtain ⟨v,rfl,r1⟩:=KL rs
 cases r1
 exact ⟨y,rfl,hl,r _ _ hT,kn (.bl _) J _ H rfl r .refl q⟩
theorem zU (L:Ln) {L':Ln} {c:Cf} (h:L'.cs=L.cs ++ [c]) (hg:c.g=none):L'.fs=L.fs ++ [(c.n,c.cur)]:=by
 unfold Ln.fs Ln.CB
 rw [h,TK,Sk]
 simp [hg]
def Ln.joined (L:Ln) (n:Str) (x v:Int) (L':Ln):Prop:=∃a r,L'.cs=L.cs ++ [⟨n,a,r,[⟨L.t,(x:Rat),v⟩],none⟩]∧L'.t=L.t
def Fn (x v:Int):Prop:=x.natAbs≤1000000∧v.natAbs≤1000
def pq (cN cL T eB eF eT eU:Addr):cI:=λxs J Q E=>∃p L n x v,xs=[.ref p,.str n,.int x,.int v]∧bc cN cL J p L∧df L∧J T=some .tab∧n.length≤sizeLine∧L.cs.length < 100∧(good n=false→E eB J)∧(good n=true→¬ Fn x v→E eF J) ∧
 (good n=true→Fn x v→n∈L.cs.map Cf.n→E eT J)∧(good n=true→Fn x v→n ∉ L.cs.map Cf.n→12≤L.row.length→E eU J) ∧
 (good n=true→Fn x v→n ∉ L.cs.map Cf.n→L.row.length < 12→∀J' L',bc cN cL J' p L'→df L'→L.joined n x v L'→Mv J J' (L.own p) (L'.own p)→Q .non J')
abbrev jY:Stmt:=(L2.inClass (top 44) 1)
abbrev fi:List Str:=["self","name","place","pace"]
theorem vh:L2.av ["self","name","place","pace"] ["self","name","place","pace"] (L2.aj jY):=dT
theorem bc.add {cN cL:Addr} {J:Hq} {p:Addr} {L:Ln} {c:Cf} {ep:Nat} (h:bc cN cL J p L) (hc:FP cL J c.a c.r c.w c.g) (h1:c.r ∉ L.cs.map Cf.r) (h2:c.r≠L.o) :
  bc cN cL (put (put J L.d (.dct ((L.cs ++ [c]).map λc=>(c.n,PV.ref c.a)) ep)) L.o (.lst ((L.row ++ [c.n]).map .str))) p ⟨L.t,L.d,ep,L.o,L.cs ++ [c],L.row ++ [c.n]⟩:=by
 have n1:c.a≠L.d:=by intro e;have:=h.dc;rw [← e,hc.o] at this;cases this
 have n2:c.a≠L.o:=by intro e;have:=h.rw;rw [← e,hc.o] at this;cases this
 have n3:c.r≠L.d:=by intro e;have:=h.dc;rw [← e,hc.l] at this;cases this
 refine ⟨?_,?_,au,λx hx=>?_,?_,λx hx=>?_⟩
 ·rw [ar (Ne.symm h.GN),ar (Ne.symm h.GJ)];exact h.ob
 ·show put (put J L.d _) L.o _ L.d=_
  rw [ar h.PX];exact au
 ·rcases Se.mp hx with hx | hx
  ·exact ⟨by rw [ar (h.PU hx),ar (h.Rh hx)];exact (h.lg x hx).o,by rw [ar (h.ao x hx),ar (h.Ri hx)];exact (h.lg x hx).l⟩
  ·rw [Si] at hx;subst hx
   exact ⟨by rw [ar n2,ar n1];exact hc.o,by rw [ar h2,ar n3];exact hc.l⟩
 ·show ((L.cs ++ [c]).map Cf.r).Nodup
  rw [Sk,Sd,Th,Tg]
  exact ⟨h.ap,by simp,λx hx y hy e=>by rw [Si] at hy;subst hy;subst e;exact h1 hx⟩
 ·show x.r≠L.o
  rcases Se.mp hx with hx | hx
  ·exact h.ao x hx
  ·rw [Si] at hx;subst hx;exact h2
theorem bA.add {L:Ln} (h:bA L) {c:Cf} {l:aZ} {ep:Nat} (hw:c.w=[l]) (hg:c.g=none) (hl:tS l) (hm:l.m=L.t) (hn:c.n ∉ L.cs.map Cf.n) (hr:L.row.length < 12) (hs:L.cs.length < 100):bA ⟨L.t,L.d,ep,L.o,L.cs ++ [c],L.row ++ [c.n]⟩:=by
 have hf:Ln.fs ⟨L.t,L.d,ep,L.o,L.cs ++ [c],L.row ++ [c.n]⟩=L.fs ++ [(c.n,c.cur)]:=zU L rfl hg
 have all:∀{P:Cf→Prop},(∀x∈L.cs,P x)→P c→∀x∈L.cs ++ [c],P x:=λh1 h2 x hx=>by
  rcases Se.mp hx with hx | hx
  ·exact h1 x hx
  ·rw [Si] at hx;subst hx;exact h2
 refine ⟨?_,all h.ne (by rw [hw];simp),all h.le (by rw [hw];simp [hm]),all h.ck (by rw [hw];simpa using hl),all h.len (by rw [hw];show (1:Nat)≤200;decide),all h.gz (by rw [hg];intro q e;cases e),h.t0,h.ts,by show (L.cs ++ [c]).length≤100;rw [So];simp;omega,λn=>?_,?_,by show (L.row ++ [c.n]).length≤12;rw [So];simp;omega⟩
 ·show ((L.cs ++ [c]).map Cf.n).Nodup
  rw [Sk,Sd,Th,Tg]
  exact ⟨h.nd,by simp,λx hx y hy e=>by rw [Si] at hy;subst hy;subst e;exact hn hx⟩
 ·rw [hf,Sk,Se,Se,h.rm n];simp
 ·show (L.row ++ [c.n]).Nodup
  rw [Tg]
  refine ⟨h.rn,by simp,λx hx y hy e=>?_⟩
  rw [Si] at hy
  rw [e,hy] at hx
  have:=(h.rm _).mp hx
  rw [eX,R_] at this
  obtain ⟨d,hd,e⟩:=this
  exact hn (R_.mpr ⟨d,(Ln.eR.mp hd).1,e⟩)
theorem df.settled {L:Ln} (h:bA L) (o':Addr):df { L with o:=o',row:=cT L.t L.fs }:=by
 have hl:(cT L.t L.fs).length≤12:=by
  have h1:(cT L.t L.fs).Perm L.row:=(List.perm_ext_iff_of_nodup (qk h.zT) h.rn).mpr λn=>by rw [wQ];exact (h.rm n).symm
  rw [h1.length_eq];exact h.rl
 exact ⟨⟨h.nd,h.ne,h.le,h.ck,h.len,h.gz,h.t0,h.ts,h.many,λn=>wQ,qk h.zT,hl⟩,rfl⟩
theorem uD {cN cL T eB eF eT eU f:Addr} {fd:FuncData} (F:cm K "join" "Lane.join" jY f fd) (Z:bT mg) (ax:eu K mg "Lane" cN) (aG:aI K cN "row") (aH:aI K cN "now") (aV:aI K cN "logs") {i5 kE vF:Tok} (fA:mg "FARTHEST"=some (.int 1000000 i5)) (gZ:mg "FASTEST"=some (.int 1000 kE)) (pY:mg "MOST"=some (.int 12 vF))
  (mZ:Own K mg "BadName" eB) (pN:Own K mg "TooFar" eF) (t9:Own K mg "Taken" eT) (x9:Own K mg "Full" eU) (jq:bt P w K mg base 1 "good_name" fj (AL T)) (CV:x8 P w K mg base cL 1 "Log" jc (AM cL)) (c_:dk P w K mg base cN 7 "settle" fK (n6 cN cL)) :
  aJ P w K mg base (cY P w) 8 f fd fi (dI K (pq cN cL T eB eF eT eU)):=by
 simp_arith [vh,(ai (a_ (cO (bL (aQ jq B hr (af (rv 1) ah)))) (aq (d9 mZ rfl cR B.kn rfl (af bP ah))) aP)
   (ai (a_ (fS (mE (aS oz (aM uf rfl Z.abs boot_abs (af (rv 2) ah)) (gm (v:=.int 1000000) (.int 1000000) rfl fA ⟨_,rfl⟩ (λ_ _=>rfl))) (iS (aS oz (aM uf rfl Z.abs boot_abs (af (rv 3) ah)) (gm (v:=.int 1000) (.int 1000) rfl gZ ⟨_,rfl⟩ (λ_ _=>rfl)))))) (aq (d9 pN rfl cR B.kn rfl (af bP ah))) aP)
   (ai (a_ (aS KR (rv 1) (bj ax.cl aV (rv 0))) (aq (d9 t9 rfl cR B.kn rfl (af bP ah))) aP)
   (ai (a_ (aS wH (aM dn rfl Z.len boot_len (af (bj ax.cl aG (rv 0)) ah)) (gm (v:=.int 12) (.int 12) rfl pY ⟨_,rfl⟩ (λ_ _=>rfl))) (aq (d9 x9 rfl cR B.kn rfl (af bP ah))) aP)
   (ai (u_ pz (bj ax.cl aV (rv 0)) (rv 1) (HE CV B hr (af (bj ax.cl aH (rv 0)) (af (eO (af (rv 2) (af ag ah))) (af (rv 3) ah)))))
   (ai (bJ (qA PySem.F.plainAttrs_list PySem.F.slot_list_append PySem.F.type_list_append BV (bj ax.cl aG (rv 0)) (af (rv 1) ah)))
   (aq (bJ (e8 (pl:=_) c_ B hr (rv 0))))))))))]
 ·obtain ⟨p,L,n,x,v,rfl,_⟩:=h;rfl
 obtain ⟨p,L,n,x,v,rfl,b,ok,hT,hnl,hcs,qb,qf,qt,qu,q⟩:=h
 have bo:=b.ob
 have bd:=b.dc
 have br:=b.rw
 refine hX ?_
 simp_all! []
 refine ⟨n,rfl,hnl,hT,?_⟩
 cases hg:good n with
 | false =>
  simp_all! [fQ]
  exact qb hg
 | true =>
 simp_all! []
 by_cases hB:Fn x v
 ·obtain ⟨hx,hv⟩:=id hB
  rw [if_neg (by split <;> omega),if_neg (by split <;> omega)]
  simp_all! [bo,BQ,bd,ok.Rx]
  by_cases hm:n∈L.cs.map Cf.n
  ·rw [if_pos hm]
   simp_all! [fQ]
   exact qt hg hB hm
  rw [if_neg hm]
  simp_all! [bo,uy,br,R6]
  by_cases hr12:12≤L.row.length
  ·rw [if_pos (by omega)]
   simp_all! [fQ]
   exact qu hg hB hm hr12
  rw [if_neg (by omega)]
  simp_all! [bo,yB]
  intro a ha
  refine ⟨a,⟨L.t,(x:Rat),v⟩,rfl,au,λr hr'=>?_⟩
  have nra:r≠a:=by intro e;subst e;rw [au] at hr';cases hr'
  have jr:J r=none:=by rw [ar nra] at hr';exact hr'
  have b1:bc cN cL (put (put (put J a (.ins cL [])) r (.lst [(aZ.mk L.t (x:Rat) v).V])) a (.ins cL [("rows",.ref r),("gone",.non)])) p L:=b.keep λc u ow e=>by
   have n1:c≠a:=λz=>by subst z;rw [ha] at e;cases e
   have n2:c≠r:=λz=>by subst z;rw [jr] at e;cases e
   rw [ar n1,ar n2,ar n1];exact e
  have l1:FP cL (put (put (put J a (.ins cL [])) r (.lst [(aZ.mk L.t (x:Rat) v).V])) a (.ins cL [("rows",.ref r),("gone",.non)])) a r [⟨L.t,(x:Rat),v⟩] none:=⟨au,by rw [ar nra];exact au⟩
  have mv1:Mv J (put (put (put J a (.ins cL [])) r (.lst [(aZ.mk L.t (x:Rat) v).V])) a (.ins cL [("rows",.ref r),("gone",.non)])) (L.own p) (λc=>(L.own p c∨c=a)∨c=r) :=
   ((Mv.GL ha).trans (Mv.GL hr')).trans (iH (.inl (.inr rfl)) λc h=>.inl h)
  generalize (put (put (put J a (.ins cL [])) r (.lst [(aZ.mk L.t (x:Rat) v).V])) a (.ins cL [("rows",.ref r),("gone",.non)]))=J1 at b1 l1 mv1 ⊢
  have bo1:=b1.ob
  have bd1:=b1.dc
  simp_all! [bo1,BQ,bd1]
  refine ⟨ba (by rw [R6];omega),λep'=>?_⟩
  have epu:qz (L.cs.map λc=>(c.n,PV.ref c.a)) n (PV.ref a)=(L.cs ++ [Cf.mk n a r [⟨L.t,(x:Rat),v⟩] none]).map λc=>(c.n,PV.ref c.a):=by
   have e:(L.cs.map λc=>(c.n,PV.ref c.a))=((L.cs.map λc=>(c.n,c.a)).map λx=>(x.1,PV.ref x.2)):=by rw [Sl];rfl
   rw [e,y4 (f:=PV.ref) (l:=a) (by rw [Sl];exact hm),Sk,Sk,Sl];rfl
  rw [epu]
  have hrs:r ∉ L.cs.map Cf.r:=λh=>by
   obtain ⟨c,hc,e⟩:=R_.mp h
   have:=(b.lg c hc).l;rw [e,jr] at this;cases this
  have hro:r≠L.o:=λe=>by have:=b.rw;rw [← e,jr] at this;cases this
  have b2:=b1.add (c:=Cf.mk n a r [⟨L.t,(x:Rat),v⟩] none) (ep:=ep') l1 hrs hro
  have ok2:bA ⟨L.t,L.d,ep',L.o,L.cs ++ [Cf.mk n a r [⟨L.t,(x:Rat),v⟩] none],L.row ++ [n]⟩:=ok.tobA.add (c:=Cf.mk n a r [⟨L.t,(x:Rat),v⟩] none) rfl rfl (tS.new ok.t0 ok.ts hx hv) rfl hm (by omega) hcs
  have bo2:(put J1 L.d (HQ.dct ((L.cs ++ [Cf.mk n a r [⟨L.t,(x:Rat),v⟩] none]).map λc=>(c.n,PV.ref c.a)) ep')) p=some (.ins cN [("now",fr L.t),("logs",.ref L.d),("row",.ref L.o)]):=by rw [ar (Ne.symm b1.GJ)];exact b1.ob
  have br2:(put J1 L.d (HQ.dct ((L.cs ++ [Cf.mk n a r [⟨L.t,(x:Rat),v⟩] none]).map λc=>(c.n,PV.ref c.a)) ep')) L.o=some (.lst (L.row.map .str)):=by rw [ar (Ne.symm b1.PX)];exact b1.rw
  have mv2:Mv J1 (put (put J1 L.d (HQ.dct ((L.cs ++ [Cf.mk n a r [⟨L.t,(x:Rat),v⟩] none]).map λc=>(c.n,PV.ref c.a)) ep')) L.o (.lst ((L.row ++ [n]).map .str))) (λc=>(L.own p c∨c=a)∨c=r) (Ln.own ⟨L.t,L.d,ep',L.o,L.cs ++ [Cf.mk n a r [⟨L.t,(x:Rat),v⟩] none],L.row ++ [n]⟩ p):=by
   refine (iH (S':=λc=>(L.own p c∨c=a)∨c=r) (.inl (.inl (.inr (.inl rfl)))) λc h=>.inl h).trans (iH (.inl (.inl (.inr (.inr (.inl rfl))))) λc h=>.inl ?_)
   rcases h with h | h | h | ⟨d,hd,h⟩
   ·exact .inl (.inl (.inl h))
   ·exact .inl (.inl (.inr (.inl h)))
   ·exact .inl (.inl (.inr (.inr (.inl h))))
   ·rcases Se.mp hd with hd | hd
    ·exact .inl (.inl (.inr (.inr (.inr ⟨d,hd,h⟩))))
    ·rw [Si] at hd;subst hd
     rcases h with h | h
     ·exact .inl (.inr h)
     ·exact .inr h
  have mv3:=mv1.trans mv2
  simp_all! [bo2,uy,br2]
  refine ⟨ba (by rw [R6];omega),?_⟩
  rw [show L.row.map PV.str ++ [PV.str n]=(L.row ++ [n]).map .str by rw [Sk];rfl]
  have bo3:=b2.ob
  generalize (put (put J1 L.d (HQ.dct ((L.cs ++ [Cf.mk n a r [⟨L.t,(x:Rat),v⟩] none]).map λc=>(c.n,PV.ref c.a)) ep')) L.o (.lst ((L.row ++ [n]).map .str)))=J2 at b2 mv3 bo3 ⊢
  simp_all! [bo3]
  refine ⟨f9 _ _ _ _,p,_,rfl,b2,ok2,λJ' o' b' mv'=>?_⟩
  exact q hg hB hm (by omega) J' _ b' (df.settled ok2 o') ⟨a,r,rfl,rfl⟩ (mv3.trans mv')
 ·have hf:=qf hg hB
  by_cases h1:x.natAbs≤1000000
  ·have h2:¬ v.natAbs≤1000:=λh=>hB ⟨h1,h⟩
   rw [if_neg (by split <;> omega),if_pos (by split <;> omega)]
   simp_all! [fQ]
   exact hf
  ·rw [if_pos (by split <;> omega)]
   simp_all! [fQ]
   exact hf
abbrev iV:Stmt:=(L2.inClass (top 44) 7)
abbrev kO:List Str:=["self"]
theorem sC:L2.av ["self"] ["self"] (L2.aj iV):=dT
def xt (cN cL:Addr):cI:=λxs J Q _=>∃p L,xs=[.ref p]∧bc cN cL J p L∧Q (fr L.t) J
theorem si {cN cL f:Addr} {fd:FuncData} (F:cm K "clock" "Lane.clock" iV f fd) (Z:bT mg) (ax:eu K mg "Lane" cN) (aH:aI K cN "now"):aJ P w K mg base (cY P w) 1 f fd kO (dI K (xt cN cL)):=by
 simp_arith [sC,(aq (az (bj ax.cl aH (rv 0))))]
 ·obtain ⟨p,L,rfl,_⟩:=h;rfl
 obtain ⟨p,L,rfl,b,q⟩:=h
 have bo:=b.ob
 refine hX ?_
 simp_all! [bo,yB]
 exact q
abbrev iZ:Stmt:=(L2.inClass (top 44) 8)
abbrev kQ:List Str:=["self"]
theorem sE:L2.av ["self"] ["self"] (L2.aj iZ):=dT
def xw (cN cL:Addr):cI:=λxs J Q _=>∃p L,xs=[.ref p]∧bc cN cL J p L∧(Q (.fl (L.row.map .str)) J∨∀l,J l=none→Q (.ref l) (put J l (.lst (L.row.map .str))))
theorem su {cN cL f:Addr} {fd:FuncData} (F:cm K "order" "Lane.order" iZ f fd) (Z:bT mg) (ax:eu K mg "Lane" cN) (aG:aI K cN "row"):aJ P w K mg base (cY P w) 1 f fd kQ (dI K (xw cN cL)):=by
 simp_arith [sE,(aq (az (ib pS rfl Z.list boot_list (af (bj ax.cl aG (rv 0)) ah)))),F]
 ·obtain ⟨p,L,rfl,_⟩:=h;rfl
 obtain ⟨p,L,rfl,b,q⟩:=h
 have bo:=b.ob
 have br:=b.rw
 refine hX ?_
 simp_all! [bo,br,uy]
 intro l hl
 rcases q with q | q
 ·exact Fg.oY (g7 hl) au hl q
 ·exact Fg.same (q l hl)
def aD.v (b:aD):PV:=.tup [fr b.m,.str b.h,.str b.f]
theorem DF (J:Hq) (b:aD):vI J b.v (.int 0)=some (fr b.m):=l5 _ _
theorem DG (J:Hq) (b:aD):vI J b.v (.int 1)=some (.str b.h):=l6 _ _ _
theorem DH (J:Hq) (b:aD):vI J b.v (.int 2)=some (.str b.f):=sM _ _ _ _
theorem Qt (J:Hq) (b:aD):A_ J b.v=some "tuple":=rfl
theorem MO (J:Hq) (b:aD):wg J b.v=some 3:=rfl
theorem IX (b:aD):lG b.v=true:=by simp [aD.v,Ht,nF,wY,y8,uT]
theorem Pd (b:aD):F7 b.v=True:=eq_true ⟨IX b,by simp [aD.v,fr,fP,fh,dep,dG]⟩
theorem Pg (a b:aD):eqQ a.v b.v=decide (a=b):=by
 unfold aD.v
 rw [yp,fz,fz,fz,ui,Iv,eq_str,eq_str,Tx,← T5,← T5]
 apply decide_eq_decide.mpr
 cases a;cases b
 simp [aD.mk.injEq]
theorem Jv (a:Rat) (h f:Str):PV.tup [fr a,.str h,.str f]=(aD.mk a h f).v:=rfl
theorem Dc (J:Hq) (b:aD):∃xs,b.v=.tup xs∧¬ (HT.dS xs.length 0 (some 1)=0∧HT.dS xs.length xs.length none=xs.length)∧jx xs (some 1) none=[b.h,b.f].map .str:=⟨_,rfl,λh=>absurd h.1 (show HT.dS 3 0 (some 1)≠0 by decide),rfl⟩
abbrev gS:Stmt:=(top 23)
abbrev jT:List Str:=["one","other"]
theorem qN:L2.av ["one","other"] ["one","other"] (L2.aj gS):=dT
def vq:cI:=λxs J Q _=>∃a b:aD,xs=[a.v,b.v]∧Sz 9000 a.m∧Sz 9000 b.m∧Q (.bl (a.lt b)) J
theorem PD (a b c d:Str):ly [a,b] [c,d]=if a=c then decide (slt b d) else decide (slt a c):=by
 rw [ni]
 by_cases h:a=c
 ·rw [if_pos h,if_pos h,ni]
  by_cases k:b=d
  ·rw [if_pos k,mh];subst k;exact (decide_eq_false (by unfold slt;exact List.lt_irrefl _)).symm
  ·rw [if_neg k];rfl
 ·rw [if_neg h,if_neg h];rfl
theorem oR {f:Addr} {fd:FuncData} (F:cm K "rings_ahead" "rings_ahead" gS f fd) (Z:bT mg) (dP:bt P w K mg base 1 "less" fk dF):aJ P w K mg base (cY P w) 2 f fd jT (dI K vq):=by
 simp_arith [qN,(ai (a_ (aS (i_ hr.bB) (aw ay (rv 0) ag) (aw ay (rv 1) ag)) (aq (az (aQ dP B hr (af (aw ay (rv 0) ag) (af (aw ay (rv 1) ag) ah))))) aP)
   (aq (az (dv (G5 hr.LD) (fR zq (rv 0) (iQ ag) iP) (fR zq (rv 1) (iQ ag) iP)))))]
 ·obtain ⟨a,b,rfl,_⟩:=h;rfl
 obtain ⟨a,b,rfl,sa,sb,q⟩:=h
 refine hX ?_
 simp_arith! [cQ,DF,DG,DH,dF,Jb]
 unfold aD.lt at q
 by_cases e:a.m=b.m
 ·rw [if_pos e] at q ⊢
  obtain ⟨xs,h1,h2,h3⟩:=Dc J a
  obtain ⟨ys,h4,h5,h6⟩:=Dc J b
  refine yN h1 ⟨h2,?_⟩
  refine yN h4 ⟨h5,?_⟩
  exact ⟨[a.h,a.f],[b.h,b.f],congrArg PV.tup h3,congrArg PV.tup h6,by rw [PD];exact q⟩
 ·rw [if_neg e] at q ⊢
  exact ⟨sa,sb,q⟩
theorem M3 (v:PV):([("rows",v)]:List (Str × PV)).lookup ("rows":Str)=some v:=rfl
theorem Ko {m:Str} (v:PV) (h:(m == ("rows":Str))=false):([("rows",v)]:List (Str × PV)).lookup m=none:=by rw [SI,h];rfl
theorem PF (v:PV):([("rows",v)]:List (Str × PV)).lookup ("drop":Str)=none:=Ko v (by decide +kernel)
theorem M4 (v:PV):([("rows",v)]:List (Str × PV)).lookup ("put":Str)=none:=Ko v (by decide +kernel)
theorem M5 (v:PV):([("rows",v)]:List (Str × PV)).lookup ("told":Str)=none:=Ko v (by decide +kernel)
theorem Hu {J:Hq} {r p:Addr} {a b c:HQ} (h:r≠p):put (put (put J r a) p b) r c=put (put J r c) p b:=by
 rw [Eo (Ne.symm h),gj]
structure Fu (cB:Addr) (J:Hq) (p r:Addr) (rows:List aD):Prop where
 o:J p=some (.ins cB [("rows",.ref r)])
 l:J r=some (.lst (rows.map aD.v))
abbrev eQ:Stmt:=(L2.inClass (top 24) 0)
abbrev d6:List Str:=["self"]
theorem mG:L2.av ["self"] ["self"] (L2.aj eQ):=dT
def vt (cB:Addr):cI:=λxs J Q _=>∃p,xs=[.ref p]∧J p=some (.ins cB [])∧∀r,J r=none→Q .non (put (put J r (.lst [])) p (.ins cB [("rows",.ref r)]))
theorem se {cB f:Addr} {fd:FuncData} (F:cm K "__init__" "Bells.__init__" eQ f fd) (bD:eu K mg "Bells" cB) (aT:aI K cB "rows"):aJ P w K mg base (cY P w) 1 f fd d6 (dI K (vt cB)):=by
 simp_arith [mG,(aq (gL bD.cl aT (rv 0) (nH ah)))]
 ·obtain ⟨p,rfl,_⟩:=h;rfl
 obtain ⟨p,rfl,hp,q⟩:=h
 refine hX ?_
 simp_arith! [cQ]
 intro r hr'
 have ne:p≠r:=by intro e;subst e;rw [hp] at hr';cases hr'
 exact lD (x:=[]) (by rw [ar ne];exact hp) ⟨by decide,q r hr'⟩
abbrev fo:Stmt:=(L2.inClass (top 24) 2)
abbrev kL:List Str:=["self","hind","fore"]
theorem gT:L2.av ["self","hind","fore","kept","found"] ["self","hind","fore"] (L2.aj fo):=dT
def AH (cB:Addr):cI:=λxs J Q _=>∃p r rows h f,xs=[.ref p,.str h,.str f]∧Fu cB J p r rows∧rows.length≤900∧∀r',J r'=none→Q (.bl (decide ((cX h f rows).length < rows.length))) (put (put J r' (.lst ((cX h f rows).map aD.v))) p (.ins cB [("rows",.ref r')]))
def tail3:PV→PV
 | .tup xs=>.tup (jx xs (some 1) none)
 | _=>.non
def Ae (h f:Str) (x:PV):Bool:=!eqQ (tail3 x) (.tup [.str h,.str f])
theorem Kc (h f:Str) (b:aD):Ae h f b.v=!tK h f b:=by
 show (!eqQ (.tup [.str b.h,.str b.f]) (.tup [.str h,.str f]))=_
 rw [yp,fz,fz,ui,eq_str,eq_str,Tx,← T5]
 rfl
theorem Dj (h f:Str):∀rows:List aD,((rows.map aD.v).filter (Ae h f)).map (λx=>x)=(cX h f rows).map aD.v
 | []=>rfl
 | b :: rows=>by
  have ih:=Dj h f rows
  unfold cX at ih ⊢
  rw [Sd,SJ,SJ,Kc]
  cases tK h f b <;> simp at ih ⊢ <;> exact ih
theorem sd {cB f:Addr} {fd:FuncData} (F:cm K "drop" "Bells.drop" fo f fd) (Z:bT mg) (bD:eu K mg "Bells" cB) (aT:aI K cB "rows"):aJ P w K mg base (cY P w) 1 f fd kL (dI K (AH cB)):=by
 simp_arith [gT,(ai (HH (i:=3) (L2.aj fo) ["self","hind","fore","kept","found"] [("hind",1),("fore",2)] rfl rfl rfl gT.nd rfl (Or.inl rfl) (gn (bj bD.cl aT (rv 0))) (λ_ _ _ _ _ _=>(rv 0)) (λ_ _ _ _ _ _=>(aS (i_ hr.bB) (fR zq (rv 0) (iQ ag) iP) (eO (af (rv 1) (af (rv 2) ah))))))
   (ai (aE (i:=4) gT.nd (dv i9 (aM dn rfl Z.len boot_len (af (rv 3) ah)) (aM dn rfl Z.len boot_len (af (bj bD.cl aT (rv 0)) ah))))
   (ai (gL bD.cl aT (rv 0) (rv 3))
   (aq (az (rv 4))))))]
 ·obtain ⟨p,r,rows,h,f,rfl,_⟩:=h;rfl
 obtain ⟨p,r,rows,h,f,rfl,b,hl,q⟩:=h
 have bo:=b.o
 have bl:=b.l
 refine hX ?_
 simp_arith! [cQ,K9,bo,bl,M3]
 refine ⟨Ae h f,λx=>x,⟨by rw [R6];exact ba (by omega),λJ' sub=>⟨sub _ _ bl,λx hx=>?_⟩⟩,λr' hr'=>?_⟩
 ·obtain ⟨b,_,rfl⟩:=R_.mp hx
  obtain ⟨xs,h1,h2,h3⟩:=Dc J' b
  have hk:Ae h f b.v=!eqQ (.tup (jx xs (some 1) none)) (.tup [.str h,.str f]):=by rw [h1];rfl
  simp_arith! [cQ]
  refine ⟨yN h1 ⟨h2,?_⟩,λ_=>trivial⟩
  simp_arith! [cQ]
  rw [hk,h3]
  refine ⟨⟨by simp [lG,ia],by simp [fP,fh,dep,dG]⟩,by simp [lG,ia],rfl⟩
 ·have ne:p≠r':=by intro e;subst e;rw [bo] at hr';cases hr'
  have nr:r≠r':=by intro e;subst e;rw [bl] at hr';cases hr'
  simp_arith! [cQ,ar ne,ar nr,bo,bl,M3,Dj,R6,Int.ofNat_lt]
  exact ⟨by decide,q r' hr'⟩
abbrev jX:Stmt:=(L2.inClass (top 24) 1)
abbrev iK:List Str:=["self","moment","hind","fore"]
theorem dC:L2.av ["self","moment","hind","fore","bell","low","high","middle"] ["self","moment","hind","fore"] (L2.aj jX):=dT
def zo (cB:Addr):cI:=λxs J Q _=>∃p r rows m h f,xs=[.ref p,fr m,.str h,.str f]∧Fu cB J p r rows∧ik rows∧rows.length≤800∧Sz 9000 m∧(∀x∈rows,Sz 9000 x.m) ∧
 ∀r',J r'=none→Q .non (put (put J r' (.lst ((jk ⟨m,h,f⟩ (cX h f rows)).map aD.v))) p (.ins cB [("rows",.ref r')]))
theorem Iw (a b:Nat):((a:Int) + (b:Int)).fdiv 2=(((a + b) / 2:Nat):Int):=by rw [Int.fdiv_eq_ediv_of_nonneg _ (by decide)];omega
theorem Q4 (a:Int):CQ a 2=True:=eq_true ⟨by decide,Bd.mono (Bd.small (by decide) (by decide)) (by decide)⟩
theorem C6 {rows:List aD} {i:Nat} {b:aD} (h:rows[i]?=some b):cV (rows.map aD.v) (i:Int)=some b.v:=aY (by rw [Sb,h];rfl)
theorem uB {cB f:Addr} {fd:FuncData} (F:cm K "put" "Bells.put" jX f fd) (Z:bT mg) (bD:eu K mg "Bells" cB) (aT:aI K cB "rows") (iB:dk P w K mg base cB 1 "drop" kL (AH cB))
  (rD:bt P w K mg base 2 "rings_ahead" jT vq):aJ P w K mg base (cY P w) 3 f fd iK (dI K (zo cB)):=by
 simp_arith [dC,(ai (bJ (bI (pl:=_) iB B hr (rv 0) (af (rv 2) (af (rv 3) ah))))
   (ai (aE (i:=4) dC.nd (eO (af (rv 1) (af (rv 2) (af (rv 3) ah)))))
   (ai (Le (i:=5) (j:=6) rfl dC.nd rfl rfl (by decide) rfl rfl (af ag (af (aM dn rfl Z.len boot_len (af (bj bD.cl aT (rv 0)) ah)) ah)) rfl)
   (ai (jW cy (aS i9 (rv 5) (rv 6)) (ai (aE (i:=7) dC.nd (aB mn (aB bW (rv 5) (rv 6)) ag))
   (aq (a_ (bL (aQ rD B hr (af (aw ay (bj bD.cl aT (rv 0)) (rv 7)) (af (rv 4) ah)))) (aq (aE (i:=5) dC.nd (aB bW (rv 7) ag))) (aq (aE (i:=6) dC.nd (rv 7)))))))
   (aq (bJ (qA PySem.F.plainAttrs_list PySem.F.slot_list_insert PySem.F.type_list_insert km (bj bD.cl aT (rv 0)) (af (rv 5) (af (rv 4) ah)))))))))]
 ·obtain ⟨p,r,rows,m,h,f,rfl,_⟩:=h;rfl
 obtain ⟨p,r,rows,m,h,f,rfl,b,srt,hl,sm,sr,q⟩:=h
 have bo:=b.o
 refine hX ?_
 simp_arith! [cQ,bo,PF]
 refine ⟨p,r,rows,h,f,rfl,b,by omega,λr' hr'=>?_⟩
 have LX:r'≠p:=by intro e;subst e;rw [bo] at hr';cases hr'
 have b1:Fu cB (put (put J r' (.lst ((cX h f rows).map aD.v))) p (.ins cB [("rows",.ref r')])) p r' (cX h f rows):=⟨au,by rw [ar LX];exact au⟩
 have kl:(cX h f rows).length≤800:=Su (m6 _ _ _) hl
 have ks:ik (cX h f rows):=sV srt
 have kz:∀x∈cX h f rows,Sz 9000 x.m:=λx hx=>sr x (Sg.mp hx).1
 have q:=q r' hr'
 generalize hJ:put (put J r' (.lst ((cX h f rows).map aD.v))) p (.ins cB [("rows",.ref r')])=J1 at b1 ⊢
 have hq:put J1 r' (.lst ((jk ⟨m,h,f⟩ (cX h f rows)).map aD.v))=put (put J r' (.lst ((jk ⟨m,h,f⟩ (cX h f rows)).map aD.v))) p (.ins cB [("rows",.ref r')]):=by rw [← hJ,Hu LX]
 rw [← hq] at q
 clear hq hJ hr'
 have bo:=b1.o
 have bl:=b1.l
 generalize cX h f rows=ks' at *
 simp_arith! [cQ,bo,bl,M3,Jv,R6]
 refine ⟨λk τ J'=>∃(lo hi:Nat) (u:Option PV),τ=[some (.ref p),some (fr m),some (.str h),some (.str f),some (aD.mk m h f).v,some (.int lo),some (.int hi),u]∧J'=J1∧k=hi - lo∧lo≤hi∧hi≤ks'.length ∧
  (∀(j:Nat) x,j < lo→ks'[j]?=some x→x.lt ⟨m,h,f⟩=true)∧(∀(j:Nat) x,hi≤j→ks'[j]?=some x→x.lt ⟨m,h,f⟩=false),⟨_,0,ks'.length,none,rfl,rfl,rfl,SG _,R' _,λj x hj=>absurd hj (T3 _),λj x hj e=>by rw [SN hj] at e;cases e⟩,?_⟩
 rintro k τ J' ⟨lo,hi,u,rfl,rfl,rfl,h1,h2,hlo,hhi⟩
 simp_arith! [cQ,bo,bl,M3,Q4,Iw,Int.ofNat_lt,vq]
 by_cases hlt:lo < hi
 ·rw [if_pos hlt]
  have hm:(lo + hi) / 2 < ks'.length:=by omega
  obtain ⟨x,hx⟩:∃x,ks'[(lo + hi) / 2]?=some x:=⟨_,R7 hm⟩
  obtain ⟨N,hN⟩:∃N:Sr→Hq→Prop,∀τ' J'',N τ' J''↔∃(lo' hi':Nat) (u:Option PV),τ'=[some (.ref p),some (fr m),some (.str h),some (.str f),some (aD.mk m h f).v,some (.int lo'),some (.int hi'),u]∧J''=J'∧lo'≤hi'∧hi'≤ks'.length∧hi' - lo' < hi - lo ∧
   (∀(j:Nat) x,j < lo'→ks'[j]?=some x→x.lt ⟨m,h,f⟩=true)∧(∀(j:Nat) x,hi'≤j→ks'[j]?=some x→x.lt ⟨m,h,f⟩=false):=⟨_,λ_ _=>Iff.rfl⟩
  refine ⟨N,λτ' J'' hn=>by obtain ⟨lo',hi',u,e1,e2,e3,e4,e5,e6,e7⟩:=(hN _ _).mp hn;exact ⟨_,e5,lo',hi',u,e1,e2,rfl,e3,e4,e6,e7⟩,nu (C6 hx) ⟨x,⟨m,h,f⟩,rfl,kz x (R9 hx),sm,?_⟩⟩
  simp_arith! [cQ,Q4,Iw,Int.ofNat_lt]
  cases hc:x.lt ⟨m,h,f⟩ with
  | true =>
   rw [if_pos rfl]
   exact (hN _ _).mpr ⟨(lo + hi) / 2 + 1,hi,_,rfl,rfl,by omega,h2,by omega,λj y hj e=>A2 ks hx e (by omega) hc,hhi⟩
  | false =>
   rw [if_neg Sj]
   exact (hN _ _).mpr ⟨lo,(lo + hi) / 2,_,rfl,rfl,by omega,by omega,by omega,hlo,λj y hj e=>xB ks hx e hj hc⟩
 ·rw [if_neg hlt]
  have e:lo=hi:=by omega
  subst e
  refine ⟨_,lo,rfl,rfl,by rw [R6];exact h2,by rw [R6];exact ba (by omega),Tb h2 (Tb kl (by decide)),?_⟩
  rw [← z_ h2 hlo hhi,Sk,Sd,Ti,TR] at q
  exact q
abbrev iT:Stmt:=(L2.inClass (top 24) 5)
abbrev gF:List Str:=["self"]
theorem sy:L2.av ["self"] ["self"] (L2.aj iT):=dT
def vw (cB:Addr):cI:=λxs J Q _=>∃p r rows,xs=[.ref p]∧Fu cB J p r rows∧(Q (.fl (rows.map aD.v)) J∨∀l,J l=none→Q (.ref l) (put J l (.lst (rows.map aD.v))))
theorem sf {cB f:Addr} {fd:FuncData} (F:cm K "told" "Bells.told" iT f fd) (Z:bT mg) (bD:eu K mg "Bells" cB) (aT:aI K cB "rows"):aJ P w K mg base (cY P w) 1 f fd gF (dI K (vw cB)):=by
 simp_arith [sy,(aq (az (ib pS rfl Z.list boot_list (af (bj bD.cl aT (rv 0)) ah)))),F]
 ·obtain ⟨p,r,rows,rfl,_⟩:=h;rfl
 obtain ⟨p,r,rows,rfl,b,q⟩:=h
 have bo:=b.o
 have bl:=b.l
 refine hX ?_
 simp_arith! [cQ,bo,bl,M3]
 intro l hl
 rcases q with q | q
 ·exact Fg.oY (g7 hl) au hl q
 ·exact Fg.same (q l hl)
def AJ:cI:=λxs J Q _=>∃t b:Int,xs=[.int t,.int b]∧b≠0∧Bd 9000 b∧Q (fr (Rat.divInt t b)) J
theorem r_ (C:rh P w K mg base 2 "fraction" du fY):bt P w K mg base 2 "fraction" du AJ:=C.lift λxs J vs H Q2 E2 Q E rs r ⟨t,b,ex,h0,h1,q⟩ kn=>by
 subst ex
 obtain ⟨v,u,rfl,r1,r2⟩:=i6 rs
 cases r1;cases r2
 exact ⟨t,b,rfl,h0,h1,uY r kn q⟩
theorem wo (l l':aZ) (h:l.v≠l'.v):Rat.divInt ((l'.at 0 - l.at 0).num) (((l'.at 0 - l.at 0).den:Int) * (l.v - l'.v))=ml l l':=by
 rw [K6 _ _ (by omega)];rfl
abbrev nM:Stmt:=(top 28)
abbrev qy:List Str:=["one","other"]
theorem lQ:L2.av ["one","other","gain","gap"] ["one","other"] (L2.aj nM):=dT
def AQ:cI:=λxs J Q _=>∃l l':aZ,xs=[l.V,l'.V]∧pH 900 l∧pH 900 l'∧(l.v=l'.v→Q .non J)∧(l.v≠l'.v→Q (fr (ml l l')) J)
theorem wC {f:Addr} {fd:FuncData} (F:cm K "meeting" "meeting" nM f fd) (Z:bT mg) (N:pM K mg) (fu:bt P w K mg base 4 "place_on" jS tM) (lX:bt P w K mg base 3 "minus" jR (zm λp q=>p - q)) (bU:bt P w K mg base 2 "fraction" du AJ) :
  aJ P w K mg base (cY P w) 5 f fd qy (dI K AQ):=by
 obtain ⟨aN,gN,sN⟩:=N
 have rN:∀(J:Hq) (H:Hp),cq K J H (fr 0) (.ref aN):=λJ H=>⟨aN,_,rfl,sN H,⟨_,_,rfl,rfl,_,_,rfl,rfl,rfl⟩⟩
 simp_arith [lQ,(ai (aE (i:=2) lQ.nd (aB dq (aw ay (rv 0) ag) (aw ay (rv 1) ag)))
   (ai (a_ (aS (gi hr.bB) (rv 2) ag) (aq (az lH)) aP)
   (ai (aE (i:=3) lQ.nd (aQ lX B hr (af (aQ fu B hr (af (rv 1) (af (gm (v:=.ref aN) (fr 0) rfl gN rfl rN) ah))) (af (aQ fu B hr (af (rv 0) (af (gm (v:=.ref aN) (fr 0) rfl gN rfl rN) ah))) ah))))
   (aq (az (aQ bU B hr (af (aw ay (rv 3) ag) (af (aB b_ (aw ay (rv 3) ag) (rv 2)) ah))))))))]
 ·obtain ⟨l,l',rfl,_⟩:=h;rfl
 obtain ⟨l,l',rfl,sl,sl',q0,q1⟩:=h
 refine hX ?_
 have z1:Sz 900 (0:Rat):=⟨⟨by decide⟩,⟨by decide⟩⟩
 have s3:=jv sl z1
 have s3':=jv sl' z1
 have s4:Sz 6001 (l'.at 0 - l.at 0):=s3'.sub s3
 have bg:Bd 65 (l.v - l'.v):=sl.v.sub sl'.v
 simp_all! [tm]
 split
 ·rename_i e;simp_all! [];exact q0 (by omega)
 rename_i e
 have hv:l.v≠l'.v:=by omega
 simp_all! []
 refine ⟨l',0,rfl,sl'.m,sl'.p,z1,sl'.v,l,0,rfl,sl.m,sl.p,z1,sl.v,l'.at 0,l.at 0,rfl,s3'.mono (by decide),s3.mono (by decide),?_⟩
 simp_all! []
 refine ⟨.of s4.den bg,_,_,rfl,Int.mul_ne_zero (eK _) e,(Bd.mul s4.den bg (k:=6100)).mono (by decide),?_⟩
 rw [wo l l' hv]
 exact q1 hv
theorem wq {l l':aZ} (sl:pH 900 l) (sl':pH 900 l') (h:l.v≠l'.v):Sz 8000 (ml l l'):=by
 rw [← wo l l' h]
 have z1:Sz 900 (0:Rat):=⟨⟨by decide⟩,⟨by decide⟩⟩
 have s4:Sz 6001 (l'.at 0 - l.at 0):=(jv sl' z1).sub (jv sl z1)
 have bg:Bd 65 (l.v - l'.v):=sl.v.sub sl'.v
 exact Sz.div (s4.num.mono (by decide)) ((Bd.mul s4.den bg (k:=6100)).mono (by decide)) (Int.mul_ne_zero (eK _) (by omega))
theorem bA.OL {L:Ln} (h:bA L) {c:Cf} (hc:c∈L.cs):pH 900 c.cur:=(h.ck c hc _ (Cf.l8 (h.ne c hc)).2).PQ
abbrev iY:Stmt:=(L2.inClass (top 44) 13)
abbrev gH:List Str:=["self","name","other"]
theorem kZ:L2.av ["self","name","other","met"] ["self","name","other"] (L2.aj iY):=dT
def qV (cN cL eC:Addr):cI:=λxs J Q E=>∃p L n n',xs=[.ref p,.str n,.str n']∧bc cN cL J p L∧bA L∧(∀c∈L.cs,∀c'∈L.cs,c.n=n→c'.n=n'→c.g=none→c'.g=none→Q (gv (GC L.t c.cur c'.cur)) J)∧(n ∉ L.row∨n' ∉ L.row→E eC J)
theorem so {cN cL eC f:Addr} {fd:FuncData} (F:cm K "meets" "Lane.meets" iY f fd) (Z:bT mg) (ax:eu K mg "Lane" cN) (aH:aI K cN "now") (cD:dk P w K mg base cN 4 "leg_of" fJ (qT cN cL eC)) (Bf:bt P w K mg base 5 "meeting" qy AQ) (dP:bt P w K mg base 1 "less" fk dF):aJ P w K mg base (cY P w) 6 f fd gH (dI K (qV cN cL eC)):=by
 simp_arith [kZ,(ai (aE (i:=3) kZ.nd (aQ Bf B hr (af (bI (pl:=_) cD B hr (rv 0) (af (rv 1) ah)) (af (bI (pl:=_) cD B hr (rv 0) (af (rv 2) ah)) ah))))
   (aq (az (Jm (fS (nK (aS qj (rv 3) lH) (kB (bL (aQ dP B hr (af (bj ax.cl aH (rv 0)) (af (rv 3) ah))))))) (rv 3) lH))))]
 ·obtain ⟨p,L,n,n',rfl,_⟩:=h;rfl
 obtain ⟨p,L,n,n',rfl,b,ok,q,qe⟩:=h
 have bo:=b.ob
 refine hX ?_
 simp_all! [bo]
 refine ⟨f9 _ _ _ _,p,L,n,rfl,b,ok,λc hc e hg=>?_,λz=>qe (.inl z)⟩
 simp_all! [bo]
 refine ⟨f9 _ _ _ _,p,L,n',rfl,b,ok,λc' hc' e' hg'=>?_,λz=>qe (.inr z)⟩
 have q:=q c hc c' hc' e e' hg hg'
 have sl:=ok.OL hc
 have sl':=ok.OL hc'
 unfold GC at q
 refine ⟨c.cur,c'.cur,rfl,sl,sl',λhv=>?_,λhv=>?_⟩
 ·rw [if_neg (λz=>z.1 hv)] at q
  simp_all! []
  exact q
 ·simp_all! [p9,bo,yB,dF]
  refine ⟨ok.Ot.mono (by decide),(wq sl sl' hv).mono (by decide),?_⟩
  split
  ·rename_i c1
   rw [if_pos ⟨hv,c1⟩] at q
   simp_all! []
   exact q
  ·rename_i c1
   rw [if_neg (λz=>c1 z.2)] at q
   exact q
theorem R3 (A:Nat):Sc gy A 0:=⟨0,by rw [Rat.zero_mul];rfl,SG _⟩
theorem bc.GO {cN cL:Addr} {J:Hq} {p T:Addr} {L:Ln} (h:bc cN cL J p L) (hT:J T=S1 .tab):¬ L.own p T:=by
 rintro (rfl | rfl | rfl | ⟨c,hc,rfl | rfl⟩)
 ·rw [h.ob] at hT;cases hT
 ·rw [h.dc] at hT;cases hT
 ·rw [h.rw] at hT;cases hT
 ·rw [(h.lg c hc).o] at hT;cases hT
 ·rw [(h.lg c hc).l] at hT;cases hT
theorem MA {L:Ln} {n:Str} {l:aZ} (h:(n,l)∈L.fs):∃c∈L.cs,c.n=n∧c.g=none∧c.cur=l:=by
 obtain ⟨c,hc,e⟩:=R_.mp h
 have:=Ln.eR.mp hc
 cases e
 exact ⟨c,this.1,rfl,this.2,rfl⟩
def n9:cI:=λxs J Q _=>∃a b:Int,xs=[.int a,.int b]∧Q (.int (Int.gcd a b:Nat)) J
theorem wk (C:rh P w K mg base 1 "shared" h_ qY):bt P w K mg base 1 "shared" h_ n9:=C.lift λxs J vs H Q2 E2 Q E rs r ⟨a,b,ex,q⟩ kn=>by
 subst ex
 obtain ⟨v,u,rfl,r1,r2⟩:=i6 rs
 cases r1;cases r2
 exact ⟨a,b,rfl,kn (.int _) J _ H rfl r .refl q⟩
abbrev d_:Stmt:=(top 20)
abbrev fN:List Str:=["pair"]
theorem lO:L2.av ["pair"] ["pair"] (L2.aj d_):=dT
def xq:cI:=λxs J Q _=>∃a b:Int,xs=[.tup [.int a,.int b]]∧Q (.bl (decide (1≤b∧Int.gcd a b=1))) J
theorem kH {f:Addr} {fd:FuncData} (F:cm K "in_lowest_terms" "in_lowest_terms" d_ f fd) (Z:bT mg) (gU:bt P w K mg base 1 "shared" h_ n9):aJ P w K mg base (cY P w) 2 f fd fN (dI K xq):=by
 simp_arith [lO,(aq (az (za (dv wH (aw ay (rv 0) ag) ag) (qC (dv (gi hr.bB) (aQ gU B hr (af (aw ay (rv 0) ag) (af (aw ay (rv 0) ag) ah))) ag)))))]
 ·obtain ⟨a,b,rfl,_⟩:=h;rfl
 obtain ⟨a,b,rfl,q⟩:=h
 refine hX ?_
 simp_all! []
 by_cases c:1≤b
 ·simp only [c,decide_true,true_and,if_true] at q ⊢
  simp_all! [n9]
  have:decide (((Int.gcd a b:Nat):Int)=1)=decide (Int.gcd a b=1):=decide_eq_decide.mpr (by omega)
  rw [this];exact q
 ·simp only [c,decide_false,false_and] at q ⊢
  rw [if_neg (λz=>z)]
  exact q
abbrev gQ:Stmt:=(top 42)
abbrev jP:List Str:=["moment"]
theorem fV:L2.av ["moment","top","bottom"] ["moment"] (L2.aj gQ):=dT
def i8 (a b:Int):Bool:=decide (b≤60∧1≤b∧Int.gcd a b=1∧0≤a∧a≤1000000 * b)
def AK:cI:=λxs J Q _=>∃a b:Int,xs=[.tup [.int a,.int b]]∧Q (.bl (i8 a b)) J
theorem oP {f:Addr} {fd:FuncData} (F:cm K "good_moment" "good_moment" gQ f fd) (Z:bT mg) {mM mO:Tok} (jF:mg "FINEST"=some (.int 60 mM)) (jG:mg "LATEST"=some (.int 1000000 mO)) (lW:bt P w K mg base 2 "in_lowest_terms" fN xq):aJ P w K mg base (cY P w) 3 f fd jP (dI K AK):=by
 simp_arith [fV,(ai (zd (rv 0) (uZ (n:=2) rfl (d8 (bX (i:=1) fV.nd) (d8 (bX (i:=2) fV.nd) pd))))
   (ai (a_ (fS (mE (aS oz (rv 2) (gm (v:=.int 60) (.int 60) rfl jF ⟨_,rfl⟩ (λ_ _=>rfl))) (iS (cO (bL (aQ lW B hr (af (rv 0) ah))))))) (aq (az d7)) aP)
   (aq (az (ED IV IV ag (rv 1) (aB b_ (gm (v:=.int 1000000) (.int 1000000) rfl jG ⟨_,rfl⟩ (λ_ _=>rfl)) (rv 2)))))))]
 ·obtain ⟨a,b,rfl,_⟩:=h;rfl
 obtain ⟨a,b,rfl,q⟩:=h
 refine hX ?_
 unfold i8 at q
 simp_all! []
 simp_all! []
 by_cases c1:60 < b
 ·rw [if_pos c1]
  rw [decide_eq_false (λz=>by omega)] at q
  exact q
 rw [if_neg c1]
 simp_all! []
 refine ⟨a,b,rfl,?_⟩
 by_cases c2:1≤b∧Int.gcd a b=1
 ·rw [decide_eq_true c2]
  simp_all! [uW]
  by_cases c3:0≤a
  ·simp only [c3,decide_true,if_true]
   refine ⟨.of (.small (x:=1000000) (by decide) (by decide)) (.small (x:=b) (by omega) (by omega)),?_⟩
   have:decide (a≤1000000 * b)=decide (b≤60∧1≤b∧Int.gcd a b=1∧0≤a∧a≤1000000 * b):=decide_eq_decide.mpr ⟨λz=>⟨by omega,c2.1,c2.2,c3,z⟩,λz=>z.2.2.2.2⟩
   rw [this];exact q
  ·rw [decide_eq_false (λz=>c3 z.2.2.2.1)] at q
   simp only [c3,decide_false]
   rw [if_neg (λz=>z)]
   exact q
 ·rw [decide_eq_false c2]
  rw [decide_eq_false (λz=>c2 ⟨z.2.1,z.2.2.1⟩)] at q
  simp_all! []
  exact q
theorem bc.less {cN cL:Addr} {J J':Hq} {p:Addr} {L:Ln} (h:bc cN cL J p L) (l:mU J J'):bc cN cL J' p L:=h.keep λa o _ e=>by
 rcases l a with z | z
 ·rw [← z];exact e
 ·rw [z] at e;cases e
theorem nh {J J':Hq} {p r:Addr} {x y:HQ} (l:mU J J') (hp:J p=none) (hr:J' r=none):mU J (put (put J' r x) p y):=λa=>by
 by_cases e:a=p
 ·exact .inr (by rw [e];exact hp)
 by_cases e2:a=r
 ·rcases l a with z | z
  ·right;rw [z,e2];exact hr
  ·exact .inr z
 ·rw [ar e,ar e2];exact l a
theorem tu {J:Hq} {p r:Addr} {x y z:HQ} (hp:J p=none) (hr:put J p x r=none):mU J (put (put (put J p x) r y) p z):=nh (g7 hp) hp hr
theorem pT (xs:List PV) (k:Nat) (h:k≤xs.length):jx xs (some (k:Int)) none=xs.drop k:=by
 unfold jx HT.dS
 simp only [Int.toNat_natCast]
 rw [if_neg (by omega),Ur h]
 rw [S7 (by rw [S_];exact R' _)]
theorem df.keys {L:Ln} (ok:df L):L.row.map PV.str=(cu (L.fs.map (key L.t))).map λk=>PV.str k.n:=by rw [ok.row];unfold cT;rw [Sl];rfl
theorem uu {L:Ln} (ok:bA L) {a:Ky} (ha:a∈cu (L.fs.map (key L.t))) {c:Cf} (hc:c∈L.cs) (hg:c.g=none) (e:c.n=a.n):a=key L.t (c.n,c.cur):=by
 obtain ⟨x,hx,rfl⟩:=R_.mp ((bh _ _).mp ha)
 obtain ⟨c0,hc0,h1,h2,h3⟩:=MA (n:=x.1) (l:=x.2) hx
 have:c0=c:=ok.uniq hc0 hc (h1.trans e.symm)
 subst this
 show key L.t (x.1,x.2)=_
 rw [← h3,← h1]
theorem kA {L:Ln} (ok:df L) {a:Ky} (ha:a∈cu (L.fs.map (key L.t))):a.n∈L.row:=by
 rw [ok.row];unfold cT;exact R_.mpr ⟨a,ha,rfl⟩
theorem mj {L:Ln} (ok:df L) {a b:Ky} (ha:a∈cu (L.fs.map (key L.t))) (hb:b∈cu (L.fs.map (key L.t))) (h:b.v < a.v):Sz 9000 (dZ L.t a b):=by
 obtain ⟨c,hc,hcn,hcg⟩:=ok.found (kA ok ha)
 obtain ⟨c',hc',hcn',hcg'⟩:=ok.found (kA ok hb)
 have ea:=uu ok.tobA ha hc hcg hcn
 have eb:=uu ok.tobA hb hc' hcg' hcn'
 have hv:c.cur.v≠c'.cur.v:=by rw [ea,eb] at h;exact λz=>by have:c'.cur.v < c.cur.v:=h;omega
 rw [ea,eb,← o5 hv]
 exact (wq (ok.OL hc) (ok.OL hc') hv).mono (by decide)
theorem df.knd {L:Ln} (ok:df L):((L.fs.map (key L.t)).map Ky.n).Nodup:=by rw [cZ];exact ok.zT
theorem df.ML {L:Ln} (ok:df L):(cu (L.fs.map (key L.t))).length≤12:=by
 have h1:=ok.rl
 have h2:=congrArg Tc ok.keys
 rw [R6,R6] at h2
 omega
theorem wt {L:Ln} (ok:df L) {i j:Nat} {a b:Ky} (ha:(cu (L.fs.map (key L.t)))[i]?=some a) (hb:(cu (L.fs.map (key L.t)))[j]?=some b) (hij:i < j) {c c':Cf} (hc:c∈L.cs) (hc':c'∈L.cs) (hg:c.g=none) (hg':c'.g=none) (e:c.n=a.n) (e':c'.n=b.n) :
  GC L.t c.cur c'.cur=if b.v < a.v∧a.p < b.p then some (dZ L.t a b) else none:=by
 have ea:=uu ok.tobA (R9 ha) hc hg e
 have eb:=uu ok.tobA (R9 hb) hc' hg' e'
 have hlt:a.lt b=true:=by
  obtain ⟨hil,ei⟩:=R8.mp ha
  obtain ⟨hjl,ej⟩:=R8.mp hb
  have:=SV.mp (cM ok.knd) i j hil hjl hij
  rw [ei,ej] at this;exact this
 rw [ea,eb] at hlt ⊢
 have key:=GD hlt
 unfold GC
 by_cases z:c.cur.v≠c'.cur.v∧L.t < ml c.cur c'.cur
 ·rw [if_pos z,if_pos (show (Ov.key L.t (c'.n,c'.cur)).v < (Ov.key L.t (c.n,c.cur)).v∧(Ov.key L.t (c.n,c.cur)).p < (Ov.key L.t (c'.n,c'.cur)).p from key.mp z),o5 z.1]
 ·rw [if_neg z,if_neg (show ¬ ((Ov.key L.t (c'.n,c'.cur)).v < (Ov.key L.t (c.n,c.cur)).v∧(Ov.key L.t (c.n,c.cur)).p < (Ov.key L.t (c'.n,c'.cur)).p) from λy=>z (key.mpr y))]
theorem HG {L:Ln} (ok:df L) {i j:Nat} {a b:Ky} (ha:(cu (L.fs.map (key L.t)))[i]?=some a) (hb:(cu (L.fs.map (key L.t)))[j]?=some b) (hij:i < j) (h:b.v < a.v):a.p < b.p:=by
 obtain ⟨hil,ei⟩:=R8.mp ha
 obtain ⟨hjl,ej⟩:=R8.mp hb
 have:=SV.mp (cM ok.knd) i j hil hjl hij
 rw [ei,ej,Ky.lt_iff] at this
 rcases this with z | ⟨_,z | ⟨z,_⟩⟩
 ·exact z
 ·omega
 ·omega
abbrev fg:Stmt:=(L2.inClass (top 44) 6)
abbrev hV:List Str:=["self","moment"]
theorem b9:L2.av ["self","moment","passings","at","hind","fore","met"] ["self","moment"] (L2.aj fg):=dT
theorem tw {J J':Hq} {l:Addr} {o:HQ} (h:mU J J'):mU (put J l o) (put J' l o):=λa=>by
 by_cases e:a=l
 ·subst e;rw [au,au];exact .inl rfl
 ·rw [ar e,ar e];exact h a
def AR (cN cL eM eP:Addr):cI:=λxs J Q E=>∃p L a b,xs=[.ref p,.tup [.int a,.int b]]∧bc cN cL J p L∧df L∧(i8 a b=false→E eM J)∧(∀m:Rat,m.num=a→(m.den:Int)=b→i8 a b=true→(m < L.t→E eP J)∧(L.t≤m→Q (.fl ((qo L.t (L.fs.map (key L.t)) m).map aD.v)) J∨∀l,J l=none→Q (.ref l) (put J l (.lst ((qo L.t (L.fs.map (key L.t)) m).map aD.v)))))
theorem nq {cN cL cB eM eP eC f:Addr} {fd:FuncData} (F:cm K "foretold" "Lane.foretold" fg f fd) (Z:bT mg) (ax:eu K mg "Lane" cN) (aH:aI K cN "now") (aG:aI K cN "row") (ju:Own K mg "BadMoment" eM) (x_:Own K mg "Past" eP) (rq:bt P w K mg base 3 "good_moment" jP AK) (dP:bt P w K mg base 1 "less" fk dF) (j8:x8 P w K mg base cB 1 "Bells" d6 (vt cB)) (dA:dk P w K mg base cN 6 "meets" gH (qV cN cL eC)) (dU:dk P w K mg base cB 3 "put" iK (zo cB)) (dy:dk P w K mg base cB 1 "told" gF (vw cB)):aJ P w K mg base (cY P w) 7 f fd hV (dI K (AR cN cL eM eP)):=by
 simp_arith [b9,(ai (a_ (cO (bL (aQ rq B hr (af (rv 1) ah)))) (aq (d9 ju rfl cR B.kn rfl (af bP ah))) aP)
   (ai (a_ (bL (aQ dP B hr (af (rv 1) (af (bj ax.cl aH (rv 0)) ah)))) (aq (d9 x_ rfl cR B.kn rfl (af bP ah))) aP)
   (ai (aE (i:=2) b9.nd (qB j8 B hr))
   (ai (fe cy rfl (HF rfl Z.enumerate (af (bj ax.cl aG (rv 0)) ah)) (uZ (n:=2) rfl (d8 (bX (i:=3) b9.nd) (d8 (bX (i:=4) b9.nd) pd))) (aq (fe cy rfl (gn (fR AZ (bj ax.cl aG (rv 0)) (iQ (aB bW (rv 3) ag)) iP)) (bX (i:=5) b9.nd) (ai (aE (i:=6) b9.nd (bI (pl:=_) dA B hr (rv 0) (af (rv 4) (af (rv 5) ah))))
   (aq (a_ (fS (nK (aS qj (rv 6) lH) (kB (cO (bL (aQ dP B hr (af (rv 1) (af (rv 6) ah)))))))) (aq (bJ (bI (pl:=_) dU B hr (rv 2) (af (rv 6) (af (rv 4) (af (rv 5) ah)))))) aP))))))
   (aq (az (e8 (pl:=_) dy B hr (rv 2)))))))),F]
 ·obtain ⟨p,L,a,b,rfl,_⟩:=h;rfl
 obtain ⟨p,L,a,bb,rfl,b,ok,qe,q⟩:=h
 have bo:=b.ob
 refine hX ?_
 simp_all! []
 refine ⟨a,bb,rfl,?_⟩
 cases hg:i8 a bb with
 | false =>
  simp_all! [fQ]
  exact qe hg
 | true =>
  have hgm:=of_decide_eq_true hg
  obtain ⟨m,hm1,hm2⟩:∃m:Rat,m.num=a∧(m.den:Int)=bb:=⟨⟨a,bb.toNat,by omega,by
   have:=hgm.2.2.1
   unfold Int.gcd at this
   show Nat.gcd a.natAbs bb.toNat=1
   rw [show bb.toNat=bb.natAbs by omega];exact this⟩,rfl,by show ((bb.toNat:Nat):Int)=bb;omega⟩
  obtain ⟨q1,q2⟩:=q m hm1 hm2 hg
  have ef:PV.tup [.int a,.int bb]=fr m:=by rw [← hm1,← hm2];rfl
  have sm:Sz 900 m:=⟨(Bd.small (x:=m.num) (by omega) (by omega)).mono (by decide),(Bd.small (x:=(m.den:Int)) (by omega) (by omega)).mono (by decide)⟩
  simp_all! [bo,yB,ef]
  refine ⟨_,_,rfl,sm.mono (by decide),ok.Ot.mono (by decide),?_⟩
  by_cases c1:m < L.t
  ·rw [decide_eq_true c1]
   simp_all! [fQ]
   exact q1 c1
  rw [decide_eq_false c1]
  have q:=q2 (by grind)
  simp_all! []
  intro pb hpb
  refine ⟨pb,rfl,au,λr0 hr0=>⟨rfl,?_⟩⟩
  have l0:=tu (y:=.lst []) (z:=.ins cB [("rows",.ref r0)]) hpb hr0
  have nr0:r0≠pb:=by intro e;subst e;rw [au] at hr0;cases hr0
  have b0:Fu cB (put (put (put J pb (.ins cB [])) r0 (.lst [])) pb (.ins cB [("rows",.ref r0)])) pb r0 []:=⟨au,by rw [ar nr0];exact au⟩
  generalize put (put (put J pb (.ins cB [])) r0 (.lst [])) pb (.ins cB [("rows",.ref r0)])=J0 at l0 b0 ⊢
  simp_all! [(b.less l0).ob,(b.less l0).rw,uy]
  obtain ⟨ks,hks⟩:∃ks,cu (L.fs.map (key L.t))=ks:=⟨_,rfl⟩
  have hrow:L.row.map PV.str=ks.map λk=>PV.str k.n:=by rw [← hks];exact ok.keys
  have hkl:ks.length≤12:=by rw [← hks];exact ok.ML
  have hup:∀{ps:List (Ky × Ky)},(∀p∈ps,p.1∈ks∧p.2∈ks)→∀x∈bM L.t (fw L.t m) ps,Sz 9000 x.m:=λhp x hx=>by
   obtain ⟨p,hp',hc,rfl⟩:=gY _ hx
   have:=of_decide_eq_true hc
   exact mj ok (by rw [hks];exact (hp p hp').1) (by rw [hks];exact (hp p hp').2) this.1
  rw [hrow]
  obtain ⟨Inv,hInv⟩:∃Inv:Nat→Sr→Hq→Prop,∀i τ J',Inv i τ J'↔∃(r:Addr) (u3 u4 u5 u6:Option PV),τ=[some (.ref p),some (fr m),some (.ref pb),u3,u4,u5,u6]∧mU J J'∧Fu cB J' pb r (bM L.t (fw L.t m) (xI ks i))∧(bM L.t (fw L.t m) (xI ks i)).length≤12 * i:=⟨_,λ_ _ _=>Iff.rfl⟩
  refine jC Inv ((hInv _ _ _).mpr ⟨r0,_,_,_,_,rfl,l0,b0,R' _⟩) (λi τ J' h=>?_) ?_ ?_
  ·obtain ⟨r,_,_,_,_,_,l',_⟩:=(hInv _ _ _).mp h
   rw [(b.less l').rw,hrow]
  ·intro i x τ J' hx hv
   obtain ⟨r,u3,u4,u5,u6,rfl,l',bb,hle⟩:=(hInv _ _ _).mp hv
   clear hv
   have hi:i < ks.length:=by have:=(R8.mp hx).1;rw [kb,R6] at this;exact this
   have ha:ks[i]?=some ks[i]:=R7 hi
   rw [sW _ i (.str (ks[i]).n) (by rw [Sb,ha];rfl)] at hx
   cases hx
   generalize ks[i]=a at ha ⊢
   simp_all! [(b.less l').ob,(b.less l').rw,uy]
   rw [hrow,show (i:Int) + 1=((i + 1:Nat):Int) by omega,pT _ _ (by rw [R6];omega),← TR]
   have eup:xI ks (i + 1)=xI ks i ++ (ks.drop (i + 1)).map λb=>(a,b):=by show xI ks i ++ _=_;rw [ha]
   have mup:∀j,∀p∈xI ks i ++ ((ks.drop (i + 1)).take j).map (λb=>(a,b)),p.1∈ks∧p.2∈ks:=λj p hp=>by
    rcases Se.mp hp with hp | hp
    ·obtain ⟨_,_,_,_,h3,h4⟩:=mQ.mp hp
     exact ⟨R9 h3,R9 h4⟩
    ·obtain ⟨y,hy,rfl⟩:=R_.mp hp
     exact ⟨R9 ha,T2 (SR hy)⟩
   obtain ⟨In2,hIn2⟩:∃In2:Nat→Sr→Hq→Prop,∀j τ J',In2 j τ J'↔∃(r:Addr) (u5 u6:Option PV),τ=[some (.ref p),some (fr m),some (.ref pb),some (.int (i:Int)),some (.str a.n),u5,u6]∧mU J J'∧Fu cB J' pb r (bM L.t (fw L.t m) (xI ks i ++ ((ks.drop (i + 1)).take j).map λb=>(a,b)))∧(bM L.t (fw L.t m) (xI ks i ++ ((ks.drop (i + 1)).take j).map λb=>(a,b))).length≤12 * i + j:=⟨_,λ_ _ _=>Iff.rfl⟩
   refine jC In2 ((hIn2 _ _ _).mpr ⟨r,_,_,rfl,l',by simpa using bb,by simpa using hle⟩) (λ_ _ _ _=>trivial) ?_ ?_
   ·intro j x τ J2 hx hv
    obtain ⟨r2,u5,u6,rfl,l2,bb2,hle2⟩:=(hIn2 _ _ _).mp hv
    clear hv
    have hj:j < (ks.drop (i + 1)).length:=by have:=(R8.mp hx).1;rw [R6] at this;exact this
    have hb:(ks.drop (i + 1))[j]?=some (ks.drop (i + 1))[j]:=R7 hj
    rw [Sb,hb] at hx
    cases hx
    generalize (ks.drop (i + 1))[j]=y at hb ⊢
    have hb':ks[i + 1 + j]?=some y:=by rw [T_] at hb;exact hb
    have hjl:j < 12:=by rw [S_] at hj;omega
    have ej:(ks.drop (i + 1)).take (j + 1)=(ks.drop (i + 1)).take j ++ [y]:=by rw [SK,hb];rfl
    have ef2:bM L.t (fw L.t m) (xI ks i ++ ((ks.drop (i + 1)).take (j + 1)).map λb=>(a,b))=gK L.t (fw L.t m) (bM L.t (fw L.t m) (xI ks i ++ ((ks.drop (i + 1)).take j).map λb=>(a,b))) (a,y):=by
     rw [ej,Sk,← List.append_assoc];exact dQ _ _ _ _
    have srt:=gX L.t (fw L.t m) (xI ks i ++ ((ks.drop (i + 1)).take j).map λb=>(a,b))
    have szs:=hup (mup j)
    generalize bM L.t (fw L.t m) (xI ks i ++ ((ks.drop (i + 1)).take j).map λb=>(a,b))=rows at bb2 hle2 ef2 srt szs
    have n_:fw L.t m (a,y)=false→∀{v5 v6},In2 (j + 1) [some (.ref p),some (fr m),some (.ref pb),some (.int (i:Int)),some (.str a.n),v5,v6] J2:=λhc v5 v6=>by
     have e:gK L.t (fw L.t m) rows (a,y)=rows:=by unfold gK;rw [if_neg (by rw [hc];decide)]
     exact (hIn2 _ _ _).mpr ⟨r2,_,_,rfl,l2,by rw [ef2,e];exact bb2,by rw [ef2,e];omega⟩
    have b2:=b.less l2
    simp_all! [b2.ob]
    refine ⟨f9 _ _ _ _,p,L,a.n,y.n,rfl,b2,ok.tobA,λc hc c' hc' e e' hg hg'=>?_,λz=>?_⟩
    ·have hmet:=wt ok (by rw [hks];exact ha) (by rw [hks];exact hb') (by omega) hc hc' hg hg' e e'
     rw [hmet]
     by_cases c2:y.v < a.v∧a.p < y.p
     ·rw [if_pos c2]
      have smk:=mj ok (by rw [hks];exact R9 ha) (by rw [hks];exact R9 hb') c2.1
      simp_all! [gv,p9,dF]
      refine ⟨sm.mono (by decide),smk,?_⟩
      by_cases c3:m < dZ L.t a y
      ·rw [if_pos c3]
       exact n_ (decide_eq_false (λz=>by have:=z.2.2;grind))
      ·rw [if_neg c3]
       have hcp:fw L.t m (a,y)=true:=decide_eq_true ⟨c2.1,c2.2,by grind⟩
       have e:gK L.t (fw L.t m) rows (a,y)=jk ⟨dZ L.t a y,a.n,y.n⟩ (cX a.n y.n rows):=by unfold gK;rw [if_pos hcp];rfl
       simp_all! [bb2.o]
       refine ⟨M4 _,pb,r2,rows,dZ L.t a y,a.n,y.n,rfl,bb2,srt,by omega,smk,szs,λr' hr'=>?_⟩
       have nr:r'≠pb:=by intro z;subst z;rw [bb2.o] at hr';cases hr'
       refine (hIn2 _ _ _).mpr ⟨r',_,_,rfl,nh l2 hpb hr',⟨au,by rw [ar nr,au,ef2,e]⟩,?_⟩
       rw [ef2,e,v8]
       have:=m6 a.n y.n rows
       omega
     ·rw [if_neg c2]
      simp_all! [gv]
      exact n_ (decide_eq_false (λz=>c2 ⟨z.1,z.2.1⟩))
    ·rcases z with z | z
     ·exact absurd (kA ok (by rw [hks];exact R9 ha)) z
     ·exact absurd (kA ok (by rw [hks];exact R9 hb')) z
   ·intro τ J2 hv
    obtain ⟨r2,u5,u6,rfl,l2,bb2,hle2⟩:=(hIn2 _ _ _).mp hv
    rw [R6,SO,← eup] at bb2 hle2
    rw [S_] at hle2
    exact (hInv _ _ _).mpr ⟨r2,_,_,_,_,rfl,l2,bb2,by omega⟩
  ·intro τ J' hv
   obtain ⟨r,u3,u4,u5,u6,rfl,l',bb,hle⟩:=(hInv _ _ _).mp hv
   rw [kb,R6,← hks,Ii ok.knd] at bb
   simp_all! [bb.o]
   exact ⟨M5 _,pb,r,_,rfl,bb,q.imp (λq=>Fg.less l' q) λq l hl=>Fg.less (tw l') (q l ((l' l).elim (λe=>e.trans hl) id))⟩
theorem p5 {m:Rat} (h:i8 m.num m.den=true):Sc gy MM m∧0≤m:=by
 have h:=of_decide_eq_true h
 have hd:m.den≤60:=by omega
 constructor
 ·have h1:Sc m.den m.num.natAbs m:=⟨m.num,by have:=cast_eq m;rw [this];rfl,R' _⟩
  obtain ⟨k,hk⟩:=Rf m.den m.den_pos hd
  have h2:=h1.scale (E:=k)
  rw [show k * m.den=gy by rw [hk,UH]] at h2
  refine h2.mono ?_
  have h3:m.num.natAbs≤1000000 * m.den:=by omega
  have h4:k * m.num.natAbs≤k * (1000000 * m.den):=Nat.mul_le_mul_left _ h3
  have h5:k * (1000000 * m.den)=1000000 * gy:=by rw [hk];rw [Nat.mul_left_comm,UH k]
  unfold MM
  omega
 ·exact Rat.num_nonneg.mp h.2.2.2.1
theorem bA.MB {L:Ln} (h:bA L) {m:Rat} (hm:L.t≤m) (hg:i8 m.num m.den=true):bA { L with t:=m } :=
 ⟨h.nd,h.ne,λc hc l hl=>Rat.le_trans (h.le c hc l hl) hm,h.ck,h.len,λc hc q e=>⟨(h.gz c hc q e).1,Rat.le_trans (h.gz c hc q e).2 hm⟩,(p5 hg).2,(p5 hg).1,h.many,h.rm,h.rn,h.rl⟩
abbrev iW:Stmt:=(L2.inClass (top 44) 5)
abbrev kP:List Str:=["self","moment"]
theorem kY:L2.av ["self","moment","passings"] ["self","moment"] (L2.aj iW):=dT
def Js (cN cL eM eP:Addr):cI:=λxs J Q E=>∃p L a b,xs=[.ref p,.tup [.int a,.int b]]∧bc cN cL J p L∧df L∧(i8 a b=false→E eM J)∧(∀m:Rat,m.num=a→(m.den:Int)=b→i8 a b=true→(m < L.t→E eP J)∧(L.t≤m→∀J' o',bc cN cL J' p { L with t:=m,o:=o',row:=cT m L.fs }→df { L with t:=m,o:=o',row:=cT m L.fs }→Mv J J' (L.own p) (Ln.own { L with t:=m,o:=o',row:=cT m L.fs } p)→Q (.fl ((qo L.t (L.fs.map (key L.t)) m).map aD.v)) J'))
theorem sj {cN cL eM eP f:Addr} {fd:FuncData} (F:cm K "go_to" "Lane.go_to" iW f fd) (Z:bT mg) (ax:eu K mg "Lane" cN) (aH:aI K cN "now") (fc:dk P w K mg base cN 7 "foretold" hV (AR cN cL eM eP)) (c_:dk P w K mg base cN 7 "settle" fK (n6 cN cL)):aJ P w K mg base (cY P w) 8 f fd kP (dI K (Js cN cL eM eP)):=by
 simp_arith [kY,(ai (aE (i:=2) kY.nd (bI (pl:=_) fc B hr (rv 0) (af (rv 1) ah)))
   (ai (gL ax.cl aH (rv 0) (rv 1))
   (ai (bJ (e8 (pl:=_) c_ B hr (rv 0)))
   (aq (az (rv 2))))))]
 ·obtain ⟨p,L,a,b,rfl,_⟩:=h;rfl
 obtain ⟨p,L,a,bb,rfl,b,ok,qe,q⟩:=h
 have bo:=b.ob
 refine hX ?_
 simp_all! [bo]
 refine ⟨f9 _ _ _ _,p,L,a,bb,rfl,b,ok,qe,λm h1 h2 hg=>⟨(q m h1 h2 hg).1,λhm=>.inl ?_⟩⟩
 have q:=(q m h1 h2 hg).2 hm
 have ef:PV.tup [.int a,.int bb]=fr m:=by rw [← h1,← h2];rfl
 have hgm:i8 m.num m.den=true:=by rw [h1,h2];exact hg
 have ok1:=ok.tobA.MB hm hgm
 simp_all! [bo,ef]
 refine ⟨by show (3:Nat) < 1000;decide,?_⟩
 have b1:bc cN cL (put J p (.ins cN [("now",fr m),("logs",.ref L.d),("row",.ref L.o)])) p { L with t:=m } :=
  ⟨au,by show put J p _ L.d=_;rw [ar b.GJ];exact b.dc,by show put J p _ L.o=_;rw [ar b.GN];exact b.rw,λc hc=>⟨by rw [ar (b.OP hc)];exact (b.lg c hc).o,by rw [ar (b.LX hc)];exact (b.lg c hc).l⟩,b.ap,b.ao⟩
 have mv1:Mv J (put J p (.ins cN [("now",fr m),("logs",.ref L.d),("row",.ref L.o)])) (L.own p) (L.own p):=iH (.inl rfl) λa h=>.inl h
 generalize put J p (.ins cN [("now",fr m),("logs",.ref L.d),("row",.ref L.o)])=J1 at b1 mv1 ⊢
 simp_all! [b1.ob]
 refine ⟨f9 _ _ _ _,p,{ L with t:=m },rfl,b1,ok1,λJ2 o' b2 mv2=>?_⟩
 simp_all! []
 exact q J2 o' b2 (df.settled ok1 o') (mv1.trans mv2)
abbrev iU:Stmt:=(L2.inClass (top 44) 9)
abbrev kM:List Str:=["self"]
theorem dN:L2.av ["self","ringing","hind","fore","met"] ["self"] (L2.aj iU):=dT
def xr (cN cL:Addr):cI:=λxs J Q E=>∃p L,xs=[.ref p]∧bc cN cL J p L∧df L∧(Q (.fl ((eI L.t (L.fs.map (key L.t))).map aD.v)) J∨∀l,J l=none→Q (.ref l) (put J l (.lst ((eI L.t (L.fs.map (key L.t))).map aD.v))))
theorem sh {cN cL cB eC f:Addr} {fd:FuncData} (F:cm K "bells" "Lane.bells" iU f fd) (Z:bT mg) (ax:eu K mg "Lane" cN) (aG:aI K cN "row") (j8:x8 P w K mg base cB 1 "Bells" d6 (vt cB)) (dA:dk P w K mg base cN 6 "meets" gH (qV cN cL eC)) (dU:dk P w K mg base cB 3 "put" iK (zo cB)) (dy:dk P w K mg base cB 1 "told" gF (vw cB)):aJ P w K mg base (cY P w) 7 f fd kM (dI K (xr cN cL)):=by
 simp_arith [dN,(ai (aE (i:=1) dN.nd (qB j8 B hr))
   (ai (fe cy rfl (Lc rfl Z.zip (af (bj ax.cl aG (rv 0)) (af (fR AZ (bj ax.cl aG (rv 0)) (iQ ag) iP) ah))) (uZ (n:=2) rfl (d8 (bX (i:=2) dN.nd) (d8 (bX (i:=3) dN.nd) pd))) (ai (aE (i:=4) dN.nd (bI (pl:=_) dA B hr (rv 0) (af (rv 2) (af (rv 3) ah))))
   (aq (a_ (aS qj (rv 4) lH) (aq (bJ (bI (pl:=_) dU B hr (rv 1) (af (rv 4) (af (rv 2) (af (rv 3) ah)))))) aP))))
   (aq (az (e8 (pl:=_) dy B hr (rv 1)))))),F]
 ·obtain ⟨p,L,rfl,_⟩:=h;rfl
 obtain ⟨p,L,rfl,b,ok,q⟩:=h
 refine hX ?_
 simp_all! []
 intro pb hpb
 refine ⟨pb,rfl,au,λr0 hr0=>⟨rfl,?_⟩⟩
 have l0:=tu (y:=.lst []) (z:=.ins cB [("rows",.ref r0)]) hpb hr0
 have nr0:r0≠pb:=by intro e;subst e;rw [au] at hr0;cases hr0
 have b0:Fu cB (put (put (put J pb (.ins cB [])) r0 (.lst [])) pb (.ins cB [("rows",.ref r0)])) pb r0 []:=⟨au,by rw [ar nr0];exact au⟩
 generalize put (put (put J pb (.ins cB [])) r0 (.lst [])) pb (.ins cB [("rows",.ref r0)])=J0 at l0 b0 ⊢
 obtain ⟨ks,hks⟩:∃ks,cu (L.fs.map (key L.t))=ks:=⟨_,rfl⟩
 have hrow:L.row.map PV.str=ks.map λk=>PV.str k.n:=by rw [← hks];exact ok.keys
 have hkl:ks.length≤12:=by rw [← hks];exact ok.ML
 have hct:jx (ks.map λk=>PV.str k.n) (some 1) none=ks.tail.map λk=>PV.str k.n:=by
  cases ks with
  | nil=>rfl
  | cons x ks=>exact pT (((x :: ks).map λk=>PV.str k.n)) 1 (by simp)
 have hup:∀{ps:List (Ky × Ky)},(∀p∈ps,p.1∈ks∧p.2∈ks)→∀x∈bM L.t cH ps,Sz 9000 x.m:=λhp x hx=>by
  obtain ⟨p,hp',hc,rfl⟩:=gY _ hx
  exact mj ok (by rw [hks];exact (hp p hp').1) (by rw [hks];exact (hp p hp').2) (of_decide_eq_true hc)
 simp_all! [Rc,(b.less l0).ob,(b.less l0).rw,uy,hrow,hct]
 have ez:((ks.map λk=>PV.str k.n).zip (ks.tail.map λk=>PV.str k.n)).map (λp=>PV.tup [p.1,p.2])=(ks.zip ks.tail).map λp=>PV.tup [.str p.1.n,.str p.2.n]:=by rw [List.zip_map,Sl];rfl
 rw [ez]
 generalize hps:ks.zip ks.tail=ps
 have hpl:ps.length≤12:=by rw [← hps,TL];omega
 have hpm:∀x∈ps,x.1∈ks∧x.2∈ks:=λx hx=>by
  rw [← hps] at hx
  obtain ⟨i,h3,h4⟩:=cU.mp (show (x.1,x.2)∈_ from hx)
  exact ⟨R9 h3,R9 h4⟩
 obtain ⟨Inv,hInv⟩:∃Inv:Nat→Sr→Hq→Prop,∀i τ J',Inv i τ J'↔∃(r:Addr) (u2 u3 u4:Option PV),τ=[some (.ref p),some (.ref pb),u2,u3,u4]∧mU J J'∧Fu cB J' pb r (bM L.t cH (ps.take i)):=⟨_,λ_ _ _=>Iff.rfl⟩
 refine jC Inv ((hInv _ _ _).mpr ⟨r0,_,_,_,rfl,l0,b0⟩) (λi τ J' h=>?_) ?_ ?_
 ·obtain ⟨r,_,_,_,_,l',_⟩:=(hInv _ _ _).mp h
  rw [(b.less l').rw,hrow]
 ·intro i x τ J' hx hv
  obtain ⟨r,u2,u3,u4,rfl,l',bb⟩:=(hInv _ _ _).mp hv
  clear hv
  have hi:i < ps.length:=by have:=(R8.mp hx).1;rw [R6] at this;exact this
  have hpi:ps[i]?=some ps[i]:=R7 hi
  rw [Sb,hpi] at hx
  cases hx
  have et:ps.take (i + 1)=ps.take i ++ [ps[i]]:=by rw [SK,hpi];rfl
  have szs:=hup (ps:=ps.take i) (λp hp=>hpm p (SR hp))
  have srt:=gX L.t cH (ps.take i)
  have hle:=m9 L.t cH (ps.take i)
  rw [Sy] at hle
  rcases hab:ps[i] with ⟨a,y⟩
  rw [hab] at hpi et
  have ef2:bM L.t cH (ps.take (i + 1))=gK L.t cH (bM L.t cH (ps.take i)) (a,y):=by rw [et];exact dQ _ _ _ _
  generalize bM L.t cH (ps.take i)=rows at bb szs srt hle ef2
  rw [← hps] at hpi
  obtain ⟨ha,hb⟩:=SU.mp hpi
  rw [TQ] at hb
  simp only at ha hb
  have b2:=b.less l'
  simp_all! [b2.ob]
  refine ⟨f9 _ _ _ _,p,L,a.n,y.n,rfl,b2,ok.tobA,λc hc c' hc' e e' hg hg'=>?_,λz=>?_⟩
  ·have hmet:=wt ok (by rw [hks];exact ha) (by rw [hks];exact hb) (by omega) hc hc' hg hg' e e'
   rw [hmet]
   by_cases c2:y.v < a.v
   ·have c3:=HG ok (by rw [hks];exact ha) (by rw [hks];exact hb) (by omega) c2
    rw [if_pos ⟨c2,c3⟩]
    have smk:=mj ok (by rw [hks];exact R9 ha) (by rw [hks];exact R9 hb) c2
    have hcp:cH (a,y)=true:=decide_eq_true c2
    have e:gK L.t cH rows (a,y)=jk ⟨dZ L.t a y,a.n,y.n⟩ (cX a.n y.n rows):=by unfold gK;rw [if_pos hcp];rfl
    simp_all! [gv,p9,bb.o]
    refine ⟨M4 _,pb,r,rows,dZ L.t a y,a.n,y.n,rfl,bb,srt,by omega,smk,szs,λr' hr'=>?_⟩
    have nr:r'≠pb:=by intro z;subst z;rw [bb.o] at hr';cases hr'
    exact (hInv _ _ _).mpr ⟨r',_,_,_,rfl,nh l' hpb hr',⟨au,by rw [ar nr,au,ef2,e]⟩⟩
   ·rw [if_neg (λz=>c2 z.1)]
    have e:gK L.t cH rows (a,y)=rows:=by
     have hcf:cH (a,y)=false:=decide_eq_false c2
     unfold gK;rw [if_neg (by rw [hcf];decide)]
    simp_all! [gv]
    exact (hInv _ _ _).mpr ⟨r,_,_,_,rfl,l',by rw [ef2,e];exact bb⟩
  ·rcases z with z | z
   ·exact absurd (kA ok (by rw [hks];exact R9 ha)) z
   ·exact absurd (kA ok (by rw [hks];exact R9 hb)) z
 ·intro τ J' hv
  obtain ⟨r,u2,u3,u4,rfl,l',bb⟩:=(hInv _ _ _).mp hv
  rw [R6,SO,← hps,← hks,rg ok.knd] at bb
  simp_all! [bb.o]
  exact ⟨M5 _,pb,r,_,rfl,bb,q.imp (λq=>Fg.less l' q) λq l hl=>Fg.less (tw l') (q l ((l' l).elim (λe=>e.trans hl) id))⟩
def Cf.turn (c:Cf) (t:Rat) (v:Int):Cf:={ c with w:=turned c.w t v }
def gw (n:Str) (t:Rat) (v:Int) (c:Cf):Cf:=if c.n=n then c.turn t v else c
theorem A9 (n:Str) (t:Rat) (v:Int) (c:Cf):(gw n t v c).n=c.n∧(gw n t v c).a=c.a∧(gw n t v c).r=c.r∧(gw n t v c).g=c.g:=by unfold gw;split <;> exact ⟨rfl,rfl,rfl,rfl⟩
theorem eZ {α β:Type} {f:α→β} {g:α→α} (h:∀x,f (g x)=f x) (l:List α):(l.map g).map f=l.map f:=by rw [Sl];exact Tj λx _=>h x
theorem bA.map {L:Ln} (h:bA L) {f:Cf→Cf} (hn:∀c,(f c).n=c.n∧(f c).a=c.a∧(f c).r=c.r∧(f c).g=c.g) (hw:∀c∈L.cs,(f c).w≠[]∧(∀l∈(f c).w,l.m≤L.t∧tS l)∧(f c).w.length≤200):bA { L with cs:=L.cs.map f }:=by
 have mem:∀c∈L.cs.map f,∃c0∈L.cs,f c0=c:=λc hc=>by obtain ⟨c0,h0,e⟩:=R_.mp hc;exact ⟨c0,h0,e⟩
 have hfs:(Ln.fs { L with cs:=L.cs.map f }).map (·.1)=L.fs.map (·.1):=by
  rw [eX,eX]
  unfold Ln.CB
  show ((L.cs.map f).filter _).map Cf.n=_
  rw [S3,Sl]
  have e1:(λc:Cf=>c.g.isNone) ∘ f=λc=>c.g.isNone:=by funext c;show (f c).g.isNone=_;rw [(hn c).2.2.2]
  rw [e1]
  exact Tj λc _=>(hn c).1
 refine ⟨?_,?_,?_,?_,?_,?_,h.t0,h.ts,by show (L.cs.map f).length≤100;rw [R6];exact h.many,λn=>by rw [hfs];exact h.rm n,h.rn,h.rl⟩
 ·show ((L.cs.map f).map Cf.n).Nodup
  rw [eZ (λc=>(hn c).1)];exact h.nd
 ·intro c hc;obtain ⟨c0,h0,rfl⟩:=mem c hc;exact (hw c0 h0).1
 ·intro c hc l hl;obtain ⟨c0,h0,rfl⟩:=mem c hc;exact ((hw c0 h0).2.1 l hl).1
 ·intro c hc l hl;obtain ⟨c0,h0,rfl⟩:=mem c hc;exact ((hw c0 h0).2.1 l hl).2
 ·intro c hc;obtain ⟨c0,h0,rfl⟩:=mem c hc;exact (hw c0 h0).2.2
 ·intro c hc q e;obtain ⟨c0,h0,rfl⟩:=mem c hc;exact h.gz c0 h0 q (by rw [← (hn c0).2.2.2];exact e)
theorem bc.turn {cN cL:Addr} {J:Hq} {p:Addr} {L:Ln} (h:bc cN cL J p L) (ok:bA L) {c:Cf} (hc:c∈L.cs) {t:Rat} {v:Int}:bc cN cL (put J c.r (.lst ((turned c.w t v).map aZ.V))) p { L with cs:=L.cs.map (gw c.n t v) }:=by
 have hcs:=A9 c.n t v
 refine ⟨by rw [ar (Ne.symm (h.LX hc))];exact h.ob,?_,?_,λx hx=>?_,?_,λx hx=>?_⟩
 ·show put J c.r _ L.d=_
  rw [ar (Ne.symm (h.Ri hc)),h.dc]
  show _=S1 (HQ.dct ((L.cs.map (gw c.n t v)).map λc=>(c.n,PV.ref c.a)) L.e)
  rw [eZ (f:=λc:Cf=>(c.n,PV.ref c.a)) (λx=>by rw [(hcs x).1,(hcs x).2.1])]
 ·show put J c.r _ L.o=_
  rw [ar (Ne.symm (h.ao c hc))];exact h.rw
 ·obtain ⟨x0,h0,rfl⟩:=R_.mp hx
  have hl:=h.lg x0 h0
  refine ⟨?_,?_⟩
  ·rw [(hcs x0).2.1,(hcs x0).2.2.1,(hcs x0).2.2.2,ar (h.RU h0 hc)];exact hl.o
  ·rw [(hcs x0).2.2.1]
   by_cases e:x0.n=c.n
   ·have:x0=c:=ok.uniq h0 hc e
    subst this
    rw [au]
    unfold gw;rw [if_pos rfl];rfl
   ·have hr:x0.r≠c.r:=λz=>e (by
     obtain ⟨i,hi,rfl⟩:=SM h0
     obtain ⟨j,hj,rfl⟩:=SM hc
     have:=(S9 (xs:=L.cs.map Cf.r) (i:=i) (j:=j) (h₀:=by simpa using hi) (h₁:=by simpa using hj) h.ap).mp (by rw [S4,S4];exact z)
     subst this;rfl)
    rw [ar hr]
    unfold gw;rw [if_neg e];exact hl.l
 ·show ((L.cs.map (gw c.n t v)).map Cf.r).Nodup
  rw [eZ (λx=>(hcs x).2.2.1)];exact h.ap
 ·obtain ⟨x0,h0,rfl⟩:=R_.mp hx
  rw [(hcs x0).2.2.1];exact h.ao x0 h0
def bN (n:Str) (t:Rat) (c:Cf):Cf:=if c.n=n then { c with g:=some t } else c
theorem eY (n:Str) (t:Rat) (c:Cf):(bN n t c).n=c.n∧(bN n t c).a=c.a∧(bN n t c).r=c.r∧(bN n t c).w=c.w:=by unfold bN;split <;> exact ⟨rfl,rfl,rfl,rfl⟩
theorem wd {L L':Ln} {n:Str} {t:Rat} (e:L'.cs=L.cs.map (bN n t)):L'.fs=L.fs.filter λx=>decide (x.1≠n):=by
 unfold Ln.fs Ln.CB
 rw [e,S3,Sl,S3,List.filter_filter]
 have e1:(λc:Cf=>c.g.isNone) ∘ bN n t=λc=>((λx:Str × aZ=>decide (x.1≠n)) ∘ λc:Cf=>(c.n,c.cur)) c && c.g.isNone:=by
  funext c
  show (bN n t c).g.isNone=(decide (c.n≠n) && c.g.isNone)
  unfold bN
  by_cases z:c.n=n
  ·rw [if_pos z];simp [z]
  ·rw [if_neg z];simp [z]
 rw [e1]
 refine Tj λc hc=>?_
 show ((bN n t c).n,(bN n t c).cur)=_
 unfold Cf.cur
 rw [(eY n t c).1,(eY n t c).2.2.2]
theorem wL {ks:List Ky} (h:(ks.map Ky.n).Nodup) (f:Ky→Bool):cu (ks.filter f)=(cu ks).filter f:=by
 have hs:((ks.filter f).map Ky.n).Nodup:=h.sublist (List.Sublist.map _ TC)
 refine mL (lt:=Ky.lt) Ky.Fp Ky.tr (cM hs) ((cM h).filter _) λx=>?_
 rw [bh,Sg,Sg,bh]
theorem wN {t:Rat} {fs:List (Str × aZ)} (h:(fs.map (·.1)).Nodup) (n:Str):cT t (fs.filter λx=>decide (x.1≠n))=(cT t fs).filter λx=>decide (x≠n):=by
 unfold cT
 have e:(fs.filter λx=>decide (x.1≠n)).map (key t)=(fs.map (key t)).filter λk=>decide (k.n≠n):=by rw [S3];rfl
 rw [e,wL (by rw [cZ];exact h),S3]
 rfl
theorem erase_filter {l:List Str} (h:l.Nodup) {j:Nat} {n:Str} (hj:l[j]?=some n):l.eraseIdx j=l.filter λx=>decide (x≠n):=by
 obtain ⟨hl,e⟩:=R8.mp hj
 rw [List.eraseIdx_eq_take_drop_succ]
 have hd:l=l.take j ++ n :: l.drop (j + 1):=by rw [← e,← Ua hl,Us]
 have hn:=h
 rw [hd,Tg] at hn
 have k1:∀x∈l.take j,x≠n:=λx hx=>hn.2.2 x hx n (by simp)
 have k2:∀x∈l.drop (j + 1),x≠n:=λx hx z=>(S6.mp hn.2.1).1 (by rw [← z];exact hx)
 conv=>rhs;rw [hd]
 rw [TK,SJ,if_neg (by simp),S2.mpr λx hx=>decide_eq_true (k1 x hx),S2.mpr λx hx=>decide_eq_true (k2 x hx)]
theorem df.leave {L:Ln} (ok:df L) (n:Str):df { L with cs:=L.cs.map (bN n L.t),row:=L.row.filter λx=>decide (x≠n) }:=by
 have hfs:Ln.fs { L with cs:=L.cs.map (bN n L.t),row:=L.row.filter λx=>decide (x≠n) }=L.fs.filter λx=>decide (x.1≠n):=wd (L:=L) (t:=L.t) rfl
 have mem:∀c∈L.cs.map (bN n L.t),∃c0∈L.cs,bN n L.t c0=c:=λc hc=>by obtain ⟨c0,h0,e⟩:=R_.mp hc;exact ⟨c0,h0,e⟩
 have hw:∀c,(bN n L.t c).w=c.w:=λc=>(eY n L.t c).2.2.2
 refine ⟨⟨?_,?_,?_,?_,?_,?_,ok.t0,ok.ts,?_,?_,?_,?_⟩,?_⟩
 ·show ((L.cs.map (bN n L.t)).map Cf.n).Nodup
  rw [eZ (λc=>(eY n L.t c).1)];exact ok.nd
 ·intro c hc;obtain ⟨c0,h0,rfl⟩:=mem c hc;rw [hw];exact ok.ne c0 h0
 ·intro c hc l hl;obtain ⟨c0,h0,rfl⟩:=mem c hc;rw [hw] at hl;exact ok.le c0 h0 l hl
 ·intro c hc l hl;obtain ⟨c0,h0,rfl⟩:=mem c hc;rw [hw] at hl;exact ok.ck c0 h0 l hl
 ·intro c hc;obtain ⟨c0,h0,rfl⟩:=mem c hc;rw [hw];exact ok.len c0 h0
 ·intro c hc q e
  obtain ⟨c0,h0,rfl⟩:=mem c hc
  unfold bN at e
  split at e
  ·cases e;exact ⟨ok.ts,Rat.le_refl⟩
  ·exact ok.gz c0 h0 q e
 ·show (L.cs.map (bN n L.t)).length≤100
  rw [R6];exact ok.many
 ·intro m
  rw [hfs]
  show m∈L.row.filter _↔_
  rw [Sg,ok.rm,R_,R_]
  constructor
  ·rintro ⟨⟨x,hx,rfl⟩,k⟩;exact ⟨x,Sg.mpr ⟨hx,k⟩,rfl⟩
  ·rintro ⟨x,hx,rfl⟩;exact ⟨⟨x,(Sg.mp hx).1,rfl⟩,(Sg.mp hx).2⟩
 ·exact ok.rn.sublist TC
 ·exact Su (Ts _ _) ok.rl
 ·rw [hfs]
  show L.row.filter _=_
  rw [wN ok.zT,← ok.row]
theorem zR {α:Type} [DecidableEq α]:∀{l:List α} {x:α},x∈l→∃j:Nat,l[j]?=some x∧∀m:Nat,m < j→l[m]?≠some x
 | y :: l,x,h=>by
  by_cases e:y=x
  ·exact ⟨0,by rw [e];rfl,λm hm=>by omega⟩
  ·rcases Sf.mp h with h | h
   ·exact absurd h.symm e
   ·obtain ⟨j,h1,h2⟩:=zR h
    refine ⟨j + 1,h1,λm hm=>?_⟩
    cases m with
    | zero=>intro z;exact e (Option.some.inj z)
    | succ m=>exact h2 m (by omega)
abbrev iX:Stmt:=(L2.inClass (top 44) 2)
abbrev gG:List Str:=["self","name"]
theorem sD:L2.av ["self","name"] ["self","name"] (L2.aj iX):=dT
def qS (cN cL eC:Addr):cI:=λxs J Q E=>∃p L n,xs=[.ref p,.str n]∧bc cN cL J p L∧df L∧(n ∉ L.row→E eC J)∧(n∈L.row→∀J' L',bc cN cL J' p L'→df L'→L'.cs=L.cs.map (bN n L.t)→L'.t=L.t→Mv J J' (L.own p) (L'.own p)→Q .non J')
theorem sk {cN cL eC f:Addr} {fd:FuncData} (F:cm K "leave" "Lane.leave" iX f fd) (Z:bT mg) (ax:eu K mg "Lane" cN) (aV:aI K cN "logs") (aH:aI K cN "now") (aG:aI K cN "row") (bF:dk P w K mg base cN 1 "must_be_there" dh (vA cN cL eC)) (jJ:dk P w K mg base cL 1 "leave" mw (xm cL)):aJ P w K mg base (cY P w) 2 f fd gG (dI K (qS cN cL eC)):=by
 simp_arith [sD,(ai (bJ (bI (pl:=_) bF B hr (rv 0) (af (rv 1) ah)))
   (ai (bJ (bI (pl:=_) jJ B hr (aw fB (bj ax.cl aV (rv 0)) (rv 1)) (af (bj ax.cl aH (rv 0)) ah)))
   (aq (bJ (qA PySem.F.plainAttrs_list PySem.F.slot_list_remove PySem.F.type_list_remove BW (bj ax.cl aG (rv 0)) (af (rv 1) ah))))))]
 ·obtain ⟨p,L,n,rfl,_⟩:=h;rfl
 obtain ⟨p,L,n,rfl,b,ok,qc,q⟩:=h
 have bo:=b.ob
 have bd:=b.dc
 refine hX ?_
 simp_all! [bo]
 refine ⟨f9 _ _ _ _,p,L,n,rfl,b,λhn=>?_,qc⟩
 obtain ⟨c,hc,rfl,hg⟩:=ok.found hn
 have lo:=(b.lg c hc).o
 simp_all! [bo,yB,BQ,bd,ok.va hc,lo]
 refine ⟨PH _ _,c.a,c.r,c.w,c.g,L.t,rfl,b.lg c hc,?_⟩
 simp_all! [ar (Ne.symm (b.OP hc)),bo,uy,ar (Ne.symm (b.PU hc)),b.rw]
 obtain ⟨j,h1,h2⟩:=zR hn
 refine ⟨L.row,rfl,j,h1,h2,?_⟩
 rw [erase_filter ok.rn h1]
 have hn':=eY c.n L.t
 have ok1:=ok.leave c.n
 refine q hn _ { L with cs:=L.cs.map (bN c.n L.t),row:=L.row.filter λx=>decide (x≠c.n) } ⟨?_,?_,au,λx hx=>?_,?_,λx hx=>?_⟩ ok1 rfl rfl ?_
 ·rw [ar (Ne.symm b.GN),ar (Ne.symm (b.OP hc))];exact bo
 ·show put (put J c.a _) L.o _ L.d=_
  rw [ar b.PX,ar (Ne.symm (b.Rh hc)),bd]
  show _=some (HQ.dct ((L.cs.map (bN c.n L.t)).map λc=>(c.n,PV.ref c.a)) L.e)
  rw [eZ (f:=λc:Cf=>(c.n,PV.ref c.a)) (λx=>by rw [(hn' x).1,(hn' x).2.1])]
 ·obtain ⟨x0,h0,rfl⟩:=R_.mp hx
  have hl:=b.lg x0 h0
  refine ⟨?_,?_⟩
  ·rw [(hn' x0).2.1,(hn' x0).2.2.1,ar (b.PU h0)]
   by_cases e:x0.n=c.n
   ·have:x0=c:=ok.uniq h0 hc e
    subst this
    rw [au]
    unfold bN;rw [if_pos rfl];rfl
   ·have ha:x0.a≠c.a:=λz=>by
     have hh:=hl.o
     have hh2:=(b.lg c hc).o
     rw [z,hh2] at hh
     have hrr:c.r=x0.r:=by
      have h3:=(HQ.ins.inj (Option.some.inj hh)).2
      have h4:=(List.cons.inj h3).1
      have h5:=(Prod.mk.inj h4).2
      exact PV.ref.inj h5
     obtain ⟨i,hi,rfl⟩:=SM h0
     obtain ⟨j',hj',rfl⟩:=SM hc
     have:=(S9 (xs:=L.cs.map Cf.r) (i:=i) (j:=j') (h₀:=by simpa using hi) (h₁:=by simpa using hj') b.ap).mp (by rw [S4,S4];exact hrr.symm)
     subst this;exact e rfl
    rw [ar ha]
    unfold bN;rw [if_neg e];exact hl.o
  ·rw [(hn' x0).2.2.1,(hn' x0).2.2.2,ar (b.ao x0 h0),ar (λz=>by have h3:=hl.l;rw [z,lo] at h3;cases h3)];exact hl.l
 ·show ((L.cs.map (bN c.n L.t)).map Cf.r).Nodup
  rw [eZ (λx=>(hn' x).2.2.1)];exact b.ap
 ·obtain ⟨x0,h0,rfl⟩:=R_.mp hx
  rw [(hn' x0).2.2.1];exact b.ao x0 h0
 ·have own':∀a,Ln.own { L with cs:=L.cs.map (bN c.n L.t),row:=L.row.filter λx=>decide (x≠c.n) } p a→L.own p a:=λa h=>by
   rcases h with h | h | h | ⟨x,hx,h⟩
   ·exact .inl h
   ·exact .inr (.inl h)
   ·exact .inr (.inr (.inl h))
   ·obtain ⟨c0,h0,rfl⟩:=R_.mp hx
    rw [(hn' c0).2.1,(hn' c0).2.2.1] at h
    exact .inr (.inr (.inr ⟨c0,h0,h⟩))
  refine (iH (S':=L.own p) (.inr (.inr (.inr ⟨c,hc,.inl rfl⟩))) λa h=>.inl h).trans (iH (.inr (.inr (.inl rfl))) λa h=>.inl (own' a h))
abbrev mF:Stmt:=(top 54)
abbrev eS:List Str:=["_law_cell_here","_law_many"]
theorem eh:L2.av ["_law_cell_here","_law_many","_law_signs","_law_row","_law_some","_law_body","_law_at_here","_law_out","_law_k"] ["_law_cell_here","_law_many"] (L2.aj mF):=dT
def AV:Sp:=λvs H Q _=>∃c m:Int,vs=[.int c,.int m]∧0≤m∧m≤36∧∀(r:Addr) (H':Hp) (xs:List Str),H r=none→bq H H'→H' r=some (.lst (xs.map V.str))→(xs.length:Int)=m→xs.Nodup→(∀x∈xs,good x=true)→Q (.ref r) H'
def menu:List Str:=["m","ab","a","zebra9","b0","0","abc","9zz","q7q7q7q7","aa","z","a1b2c3d4"]
def cW:Str:="abcdefghijklmnopqrstuvwxyz0123456789"
theorem GB:menu.Nodup:=by decide +kernel
theorem C3:cW.cps.toList.Nodup:=by decide +kernel
theorem j9:cW.cps.toList.length=36:=by decide +kernel
theorem JK {α:Type} {xs:List α} {j:Int} (h0:0≤j) (h1:j < xs.length):cV xs j=some (xs[j.toNat]'(by omega)):=by
 have h:=aY (xs:=xs) (j:=j.toNat) (R7 (by omega))
 rw [show ((j.toNat:Nat):Int)=j by omega] at h
 exact h
def Iu {α:Type} (xs:List α) (z:α) (d:Int) (k:Nat):α:=xs.getD ((d + 5 * (k:Int)) % (xs.length:Int)).toNat z
section
variable {α:Type} {xs:List α} {z:α} (d:Int)
theorem pU (h:0 < xs.length) (k:Nat):0≤(d + 5 * (k:Int)) % (xs.length:Int)∧(d + 5 * (k:Int)) % (xs.length:Int) < (xs.length:Int):=⟨Int.emod_nonneg _ (by omega),Int.emod_lt_of_pos _ (by omega)⟩
theorem l9 (h:0 < xs.length) (k:Nat):xs[((d + 5 * (k:Int)) % (xs.length:Int)).toNat]?=some (Iu xs z d k):=by
 have:=pU d h k
 unfold Iu
 rw [List.getD_eq_getElem?_getD,R7 (by omega)]
 rfl
theorem JR (h:0 < xs.length) (k:Nat):cV xs ((d + 5 * (k:Int)) % (xs.length:Int))=some (Iu xs z d k):=by
 have:=aY (l9 (z:=z) d h k)
 rwa [Int.toNat_of_nonneg (pU d h k).1] at this
theorem zM (h:0 < xs.length) (k:Nat):Iu xs z d k∈xs:=R9 (l9 d h k)
theorem Ph {M a b d u v:Int} (g:5 * u=1 + M * v) (a0:0≤a) (a1:a < M) (b0:0≤b) (b1:b < M) (e:(d + 5 * a) % M=(d + 5 * b) % M):a=b:=by
 have h:M ∣ 5 * (a - b):=by
  have:=Int.dvd_of_emod_eq_zero (Int.emod_eq_emod_iff_emod_sub_eq_zero.mp e)
  rwa [show d + 5 * a - (d + 5 * b)=5 * (a - b) by omega] at this
 obtain ⟨c,hc⟩:M ∣ a - b:=by
  obtain ⟨c,hc⟩:=h
  refine ⟨u * c - v * (a - b),?_⟩
  have h1:5 * u * (a - b)=u * (M * c):=by rw [← hc];grind
  rw [g] at h1
  grind
 rcases Int.lt_trichotomy c 0 with k | k | k
 ·have:M * c≤M * (-1):=Int.mul_le_mul_of_nonneg_left (by omega) (by omega)
  omega
 ·subst k;omega
 ·have:M * 1≤M * c:=Int.mul_le_mul_of_nonneg_left (by omega) (by omega)
  omega
theorem zL (u v:Int) (hn:xs.Nodup) (g:5 * u=1 + (xs.length:Int) * v) {i j:Nat} (hi:i < xs.length) (hj:j < xs.length) (e:Iu xs z d i=Iu xs z d j):i=j:=by
 have h:0 < xs.length:=by omega
 have a:=l9 (z:=z) d h i
 have b:=l9 (z:=z) d h j
 rw [e] at a
 obtain ⟨a1,a2⟩:=R8.mp a
 obtain ⟨b1,b2⟩:=R8.mp b
 have e1:=(S9 hn).mp (a2.trans b2.symm)
 have:=pU d h i
 have:=pU d h j
 exact Int.ofNat.inj (Ph g (Int.natCast_nonneg i) (Int.ofNat_lt.mpr hi) (Int.natCast_nonneg j) (Int.ofNat_lt.mpr hj) (show (d + 5 * (i:Int)) % _=(d + 5 * (j:Int)) % _ by omega))
end
theorem DX:menu.length=12:=by decide +kernel
abbrev pick:Int→Nat→Str:=Iu menu ""
theorem Hj (d:Int) (k:Nat):cV (menu.map V.str) ((d + 5 * (k:Int)) % 12)=some (.str (pick d k)):=by
 have h:=pU (xs:=menu) d (by decide +kernel) k
 have g:=aY (xs:=menu.map V.str) (j:=((d + 5 * (k:Int)) % (menu.length:Int)).toNat) (by rw [Sb,l9 (xs:=menu) (z:="") d (by decide +kernel) k];rfl)
 rw [Int.toNat_of_nonneg h.1,DX] at g
 exact g
theorem Ej (d:Int) {m:Nat} (hm:m≤12):((SS m).map (pick d)).Nodup:=by
 refine List.Pairwise.map (R:=λi j=>i < 12∧j < 12∧i≠j) _ (λi j ⟨a,b,c⟩ e=>c (zL d 5 2 GB (by decide +kernel) a b e)) ?_
 refine List.Pairwise.imp_of_mem (R:=λi j=>i≠j) (λ{i j} hi hj ne=>?_) (List.nodup_range)
 rw [Tq] at hi hj
 exact ⟨by omega,by omega,ne⟩
theorem BU:∀x∈menu,good x=true:=by decide +kernel
theorem pQ:∀c∈cW.cps.toList,bY aX c=true:=by decide +kernel
theorem Cd (d:Int) (k:Nat):good (pick d k)=true:=BU _ (zM d (by decide +kernel) k)
theorem Gr {cs:List Nat} (h0:0 < cs.length) (h1:cs.length≤8) (h:∀c∈cs,bY aX c=true):good ⟨cs.toArray⟩=true:=by
 unfold good
 rw [SA,SA]
 refine ⟨⟨decide_eq_true ?_,decide_eq_true ?_⟩,Tn.mpr λc hc=>h c (by simpa using hc)⟩
 ·show 1≤cs.toArray.size;rw [Sa];omega
 ·show cs.toArray.size≤8;rw [Sa];omega
abbrev sign:Int→Nat→Nat:=Iu cW.cps.toList 0
theorem HS (d:Int) (k:Nat):cV cW.cps.toList ((d + 5 * (k:Int)) % 36)=some (sign d k):=by
 have h:=JR (xs:=cW.cps.toList) (z:=0) d (by decide +kernel) k
 rw [j9] at h
 exact h
theorem Cn (d:Int) (k:Nat):bY aX (sign d k)=true:=pQ _ (zM d (by decide +kernel) k)
theorem ES (d:Int) {i j:Nat} (hi:i < 36) (hj:j < 36) (e:sign d i=sign d j):i=j:=zL d (-7) (-1) C3 (by decide +kernel) (by rw [j9];exact hi) (by rw [j9];exact hj) e
theorem Fb {d:Int} {n:Nat} {xs:List Str} (hl:xs.length≤36) (h:∀k x,xs[k]?=some x→x.cps.toList[n]?=some (sign d k)):xs.Nodup:=by
 refine SV.mpr λi j hi hj hij e=>?_
 have a:=h i _ (R7 hi)
 have b:=h j _ (R7 hj)
 rw [e] at a
 rw [a] at b
 have:=ES d (by omega) (by omega) (Option.some.inj b)
 omega
theorem Dd {xs:List V} {k:Int} (h:0≤k):m5 xs none (some k)=xs.take k.toNat:=by
 obtain ⟨j,rfl⟩:∃j:Nat,k=(j:Int):=⟨k.toNat,by omega⟩
 unfold m5
 rw [HT.xf,HT.pe,TY,Int.toNat_natCast]
 rcases Nat.le_total j xs.length with e | e
 ·rw [Ur e]
  rfl
 ·rw [Nat.min_eq_right e,Nat.sub_zero,S7 (R' _),S7 e]
theorem D9 (cs:List Nat):((cs.map one).map (·.length)).sum=cs.length:=by
 induction cs with
 | nil=>rfl
 | cons c cs ih =>
  rw [Sd,Sd,List.sum_cons,ih,Sv]
  show 1 + cs.length=cs.length + 1
  omega
theorem N' {ds:List Int} (hD:Dig ds [3,36,8,36,36,36,36,36,36,36,36,840]):∃(d0 d1 d2 d11:Int) (es:List Int),cV (ds.map V.int) 0=some (.int d0)∧cV (ds.map V.int) 1=some (.int d1)∧cV (ds.map V.int) 2=some (.int d2)∧cV (ds.map V.int) 11=some (.int d11) ∧
  m5 (ds.map V.int) (some 3) (some 11)=es.map V.int∧es.length=8∧(∀e∈es,0≤e∧e < 36)∧0≤d2∧d2 < 8:=by
 obtain ⟨d0,ds,rfl,_,_,hD⟩:=hD.cons
 obtain ⟨d1,ds,rfl,_,_,hD⟩:=hD.cons
 obtain ⟨d2,ds,rfl,d20,d21,hD⟩:=hD.cons
 have key:∀(n:Nat) {ds:List Int},Dig ds (Sq n 36 ++ [840])→∃es d,ds=es ++ [d]∧es.length=n∧∀e∈es,0≤e∧e < 36:=by
  intro n
  induction n with
  | zero=>intro ds h;obtain ⟨d,ds,rfl,_,_,h⟩:=h.cons;cases h.nil;exact ⟨[],d,rfl,rfl,λe he=>by cases he⟩
  | succ n ih =>
   intro ds h
   obtain ⟨d,ds,rfl,h0,h1,h⟩:=h.cons
   obtain ⟨es,x,rfl,hl,he⟩:=ih h
   exact ⟨d :: es,x,rfl,congrArg Nat.succ hl,List.forall_mem_cons.mpr ⟨⟨h0,h1⟩,he⟩⟩
 obtain ⟨es,d11,rfl,hl,he⟩:=key 8 hD
 refine ⟨d0,d1,d2,d11,es,aY (j:=0) rfl,aY (j:=1) rfl,aY (j:=2) rfl,aY (j:=11) ?_,?_,hl,he,d20,d21⟩
 ·rw [Sb,SH,SH,SH,S8 (by omega),hl];rfl
 ·have h11:((d0 :: d1 :: d2 :: (es ++ [d11])).map V.int).length=12:=by simp [hl]
  unfold m5
  rw [show (some (3:Int))=some ((3:Nat):Int) from rfl,show (some (11:Int))=some ((11:Nat):Int) from rfl,HT.pe,HT.pe,h11]
  show List.take 8 ((es ++ [d11]).map V.int)=_
  rw [Sk,List.take_append_of_le_length (by simp [hl]),S7 (by simp [hl])]
theorem Gv {p q a b:Prop} [Decidable p] [Decidable q]:(if p then if q then a else b else b)=if p∧q then a else b:=by by_cases hp:p <;> by_cases hq:q <;> simp [hp,hq]
theorem D1 {f:Addr} {fd:FuncData} (F:cm K "_law_names" "_law_names" mF f fd) (Z:Cz mg) (eW:rh P w K mg base 1 "_law_digits" dt (qQ K)):aJ P w K mg base pE 2 f fd eS AV:=by
 refine F.ok eh (λvs H Q E h=>?_) (λcdv A outer s H vs Q E hr h=>?_)
 ·obtain ⟨c,m,rfl,_⟩:=h
  rfl
 obtain ⟨c,m,rfl,m0,m1,q⟩:=h
 refine ⟨_,(QB.run (aU (cF (i:=2) eh.nd rfl (Or.inr rfl) nA)
   (aU (cF (i:=3) eh.nd rfl (Or.inr rfl) (wU eW hr (by decide) rfl (ak (pv 0) (ak (gE (Eb [.int 3,.int 36,.int 8,.int 36,.int 36,.int 36,.int 36,.int 36,.int 36,.int 36,.int 36,.int 840] rfl)) aO))))
   (aU (mB (IY (uU (dB D_ (cj fC (pv 3) aK (λ_ _=>rfl)) aK (eL _)) (o_ (dB IT (pv 1) aK (eL _))))) (aU (cF (i:=4) eh.nd rfl (Or.inr rfl) (gE (Eb [.str "m",.str "ab",.str "a",.str "zebra9",.str "b0",.str "0",.str "abc",.str "9zz",.str "q7q7q7q7",.str "aa",.str "z",.str "a1b2c3d4"] rfl)))
   (bC (dH (Hc (aj mF) ["_law_cell_here","_law_many","_law_signs","_law_row","_law_some","_law_body","_law_at_here","_law_out","_law_k"] [("_law_row",3),("_law_some",4)] rfl rfl rfl (ft rfl Z.range (ak (pv 1) aO)) (λ_ _ _ _ _ _=>(cj fC (pv 2) (bp fI (bp iJ (cj fC (pv 1) aK (λ_ _=>rfl)) (bp cK aK (pv 0))) aK) (λ_ _=>rfl))))))) fm)
   (aU (Hm (i:=5) (aj mF) ["_law_cell_here","_law_many","_law_signs","_law_row","_law_some","_law_body","_law_at_here","_law_out","_law_k"] [("_law_signs",2)] rfl rfl rfl eh.nd rfl (Or.inl rfl) (mr (jM vn (pv 3) (kq aK) (kq aK))) (λ_ _ _ _ _ _=>(cj DJ (pv 1) (pv 0) (λ_ _=>rfl))))
   (wW (mB (dB D_ (cj fC (pv 3) aK (λ_ _=>rfl)) aK (eL _)) (bC (cF (i:=5) eh.nd rfl (Or.inl rfl) (jM vn (pv 5) o8 (kq (bp iJ (cj fC (pv 3) aK (λ_ _=>rfl)) aK))))) fm)
   (aU (cF (i:=6) eh.nd rfl (Or.inl rfl) (bp fI (cj fC (pv 3) aK (λ_ _=>rfl)) (aR iu rfl Z.len boot_len (ak (pv 5) aO))))
   (aU (cF (i:=7) eh.nd rfl (Or.inl rfl) (gE aO))
   (aU (nB PassesOwn.never rfl (ft rfl Z.range (ak (pv 1) aO)) (ko (i:=8) eh.nd rfl (Or.inl rfl)) (aU (uR (cj DJ (pv 2) (bp fI (bp iJ (cj fC (pv 3) aK (λ_ _=>rfl)) (bp cK aK (pv 8))) aK) (λ_ _=>rfl)) (uO (pv 5) (pv 6) set_list))
   (bC (kr (qp PySem.F.plainAttrs_list PySem.F.slot_list_append PySem.F.type_list_append g8 (pv 7) (ak (qp PySem.F.plainAttrs_str PySem.F.slot_str_join PySem.F.type_str_join GH nA (ak (pv 5) aO)) aO))))))
   (bC (dH (pv 7)))))))))))),?_⟩
 refine ⟨_,rfl,(by show 12≤sizeLine;decide),λp hp=>?_⟩
 have ss:=mJ (ss:=[3,36,8,36,36,36,36,36,36,36,36,840]) (by decide)
 refine ⟨c,p,[3,36,8,36,36,36,36,36,36,36,36,840],rfl,cP.of aA,ss,by decide,λr H1 ds _ g1 hr1 hD=>?_⟩
 obtain ⟨d0,d1,d2,d11,es,at0,at1,at2,at11,hcut,el,be,d20,d21⟩:=N' hD
 clear hD
 generalize ds.map V.int=row at hr1 at0 at1 at2 at11 hcut
 have g1:=(bq.new hp _).trans g1
 dsimp! [rJoin,hr1,at0,at1]
 rw [Gv]
 split
 ·refine ⟨(by show 12≤sizeLine;decide),λp2 hp2=>?_⟩
  have g2:=bq.new hp2 (.lst (menu.map V.str))
  have h2:(upd H1 p2 (.lst (menu.map V.str))) p2=some (.lst (menu.map V.str)):=aA
  have hr2:=g2 _ _ hr1
  refine ⟨_,rfl,m,rfl,by omega,by omega,λD hD=>?_⟩
  refine DQ (lo:=0) (n:=m.toNat) (λi H'=>bq (upd H1 p2 (.lst (menu.map V.str))) H'∧H' D=some (.lst (((SS i).map (pick d1)).map V.str))) ⟨bq.new hD _,aA⟩ ?_ ?_
  ·rintro i H' R hi ⟨g,hd⟩ k
   have hr3:=g _ _ hr2
   have h3:=g _ _ h2
   dsimp! [rJoin,hr3,h3,at1,Int.zero_add]
   refine ⟨.of (Bd.small (by decide) (by decide)) (Bd.small (x:=(i:Int)) (by omega) (by omega)),_,Hj d1 i,?_⟩
   refine k _ _ _ hd (by rw [R6,R6,TX];exact ba (by omega)) ⟨g.L6 hD _,?_⟩
   rw [aA]
   simp [List.range_succ]
  ·rintro H' ⟨g,hd⟩
   exact q D H' _ (g1.free (g2.free hD)) (g1.trans (g2.trans g)) hd (by rw [R6,TX];omega) (Ej d1 (by omega)) (λx hx=>by obtain ⟨k,_,rfl⟩:=R_.mp hx;exact Cd d1 k)
 refine ⟨_,rfl,3,rfl,11,rfl,r,_,rfl,cP.of hr1,λp2 hp2=>⟨p2,rfl,⟨_,cP.of aA⟩,λD hD=>?_⟩⟩
 rw [hcut] at hD ⊢
 have g2:=bq.new hp2 (.lst (es.map V.int))
 have hr2:=g2 _ _ hr1
 have h2:(upd H1 p2 (.lst (es.map V.int))) p2=some (.lst (es.map V.int)):=aA
 have al:=j9
 have al2:cW.length≤sizeLine:=by decide +kernel
 refine Gx (K:=K) (a:=p2) (xs:=es.map V.int) (λi H'=>bq (upd H1 p2 (.lst (es.map V.int))) H'∧∃cs:List Nat,cs.length=i∧(∀c∈cs,bY aX c=true)∧H' D=some (.lst ((cs.map one).map V.str)))
  ⟨bq.new hD _,[],rfl,(λc hc=>by cases hc),aA⟩ (λi H' _ ⟨g,_⟩=>cP.of (g _ _ h2)) ?_ ?_
 ·rintro i y H' R hi ⟨g,cs,hcs,hca,hd⟩ k
  have hil:=(R8.mp hi).1
  obtain ⟨z,rfl,hz⟩:=p7 hi
  obtain ⟨z0,z1⟩:=be z (R9 hz)
  have at1:=JK (xs:=cW.cps.toList) z0 (by rw [al];exact z1)
  dsimp! [rJoin]
  refine ⟨al2,_,at1,?_⟩
  refine k _ _ _ hd (by rw [R6,R6,hcs];rw [R6] at hil;exact ba (by omega)) ⟨g.L6 hD _,cs ++ [cW.cps.toList[z.toNat]'(by rw [al];omega)],by rw [So,hcs];rfl,?_,?_⟩
  ·intro c hc
   rcases Se.mp hc with hc | hc
   ·exact hca c hc
   ·rw [Si] at hc;subst hc;exact pQ _ (SW _)
  rw [aA,Sk,Sk]
  rfl
 rintro H2 ⟨g,cs,hcs,hca,hd⟩
 have hr3:=g _ _ hr2
 have g:=g1.trans (g2.trans g)
 have hcs:cs.length=8:=hcs.trans ((R6 _).trans el)
 obtain ⟨M,hM⟩:∃M:L2.St→Hp→Prop,∀σ' H',M σ' H'↔∃(D:Addr) (cs:List Nat),σ'=[some (.int c),some (.int m),some (.str cW),some (.ref r),none,some (.ref D),none,none,none]∧bq H H'∧H D=none∧H' r=some (.lst row)∧D≠r∧0 < cs.length∧cs.length≤8∧(∀c∈cs,bY aX c=true)∧H' D=some (.lst ((cs.map one).map V.str)):=⟨_,λ_ _=>Iff.rfl⟩
 have fD:H D=none:=g1.free (g2.free hD)
 have nDr:D≠r:=(bz hr2 hD).symm
 refine ⟨M,?_,?_⟩
 ·dsimp! [rJoin,hr3,at0,at2]
  split
  ·refine ⟨_,cP.of hd,λp4 hp4=>(hM _ _).mpr ⟨p4,cs.take (d2 + 1).toNat,rfl,g.trans (bq.new hp4 _),g.free hp4,?_,?_,?_,?_,(λc hc=>hca c (SR hc)),?_⟩⟩
   ·exact (bq.new hp4 _) _ _ hr3
   ·exact (bz hr3 hp4).symm
   ·rw [Sy];omega
   ·rw [Sy];omega
   ·rw [aA,Dd (by omega),Ti,Ti]
  ·exact (hM _ _).mpr ⟨D,cs,rfl,g,fD,hr3,nDr,by omega,by omega,hca,hd⟩
 clear hca hd hr3 g fD nDr hcs
 intro σ5 H5 hm
 obtain ⟨D,cs,rfl,g,fD,hr3,nDr,l0,l1,hca,hd⟩:=(hM _ _).mp hm
 clear hm hM M
 have e0s:(Str.ofString "").length=0:=by decide +kernel
 have hl:((cs.map one).map V.str).length=cs.length:=by rw [R6,R6]
 have hlp:(0:Int) < (((cs.map one).map V.str).length:Nat):=by rw [hl];omega
 have a0:=Int.emod_nonneg d11 (show (((cs.map one).map V.str).length:Int)≠0 by omega)
 have a1:=Int.emod_lt_of_pos d11 hlp
 refine ⟨_,rfl,r,_,11,_,rfl,rfl,hr3,at11,_,rfl,D,rfl,_,.inl (cP.of hd),_,_,rfl,rfl,hlp,?_⟩
 generalize hat:d11 % (((cs.map one).map V.str).length:Int)=at' at a0 a1
 rw [hl] at a1
 refine ⟨SG _,λO hO=>?_⟩
 have gO:=bq.new hO (.lst [])
 have nOD:O≠D:=(bz hd hO).symm
 have nOr:O≠r:=(bz hr3 hO).symm
 have fO:H O=none:=g.free hO
 refine ⟨_,rfl,m,rfl,by omega,by omega,sZ (lo:=0) (n:=m.toNat) (λi σ H'=>∃(v:Option V) (cs':List Nat) (xs:List Str),σ=[some (.int c),some (.int m),some (.str cW),some (.ref r),none,some (.ref D),some (.int at'),some (.ref O),v] ∧
  bq H H'∧H' r=some (.lst row)∧cs'.length=cs.length∧(∀c∈cs',bY aX c=true)∧H' D=some (.lst ((cs'.map one).map V.str))∧H' O=some (.lst (xs.map V.str))∧xs.length=i∧(∀x∈xs,good x=true)∧∀k x,xs[k]?=some x→x.cps.toList[at'.toNat]?=some (sign d1 k)) ?_ ?_ ?_⟩
 ·exact ⟨none,cs,[],by rw [← hat];rfl,g.trans gO,gO _ _ hr3,rfl,hca,gO _ _ hd,aA,rfl,(λx hx=>by cases hx),λk x e=>by cases e⟩
 ·rintro i σ H' hi ⟨v,cs',xs,rfl,g',hr',hl',hca',hd',ho',hx,hxl,hs⟩
  have al2:cW.length≤sizeLine:=by decide +kernel
  have sg:=HS d1 i
  refine ⟨_,rfl,_,rfl,r,_,1,_,rfl,rfl,hr',at1,_,rfl,_,_,rfl,rfl,.of (Bd.small (by decide) (by decide)) (Bd.small (x:=0 + (i:Int)) (by omega) (by omega)),_,_,rfl,rfl,_,_,rfl,rfl,(show (0:Int) < 36 by decide),_,_,_,rfl,rfl,al2,(by rw [Int.zero_add];exact sg),?_⟩
  have ix:DE ((cs'.map one).map V.str).length at'=some at'.toNat:=by
   unfold DE
   rw [if_pos a0,if_pos (by rw [R6,R6,hl'];exact a1)]
  refine ⟨_,rfl,_,rfl,D,_,at',_,rfl,rfl,hd',ix,?_⟩
  have es:((cs'.map one).map V.str).set at'.toNat (.str ⟨#[sign d1 i]⟩)=((cs'.set at'.toNat (sign d1 i)).map one).map V.str:=by
   rw [List.map_set,List.map_set]
   rfl
  have gD:=bq.L6 fD g' (.lst (((cs'.map one).map V.str).set at'.toNat (.str ⟨#[sign d1 i]⟩)))
  have hD2:(upd H' D (.lst (((cs'.map one).map V.str).set at'.toNat (.str ⟨#[sign d1 i]⟩)))) D=some (.lst (((cs'.set at'.toNat (sign d1 i)).map one).map V.str)):=by rw [aA,es]
  have hr2:(upd H' D (.lst (((cs'.map one).map V.str).set at'.toNat (.str ⟨#[sign d1 i]⟩)))) r=_:=(aF nDr.symm).trans hr'
  have ho2:(upd H' D (.lst (((cs'.map one).map V.str).set at'.toNat (.str ⟨#[sign d1 i]⟩)))) O=_:=(aF nOD).trans ho'
  have lc:(cs'.set at'.toNat (sign d1 i)).length=cs.length:=by rw [TF,hl']
  have hcn:∀c∈cs'.set at'.toNat (sign d1 i),bY aX c=true:=λc hc=>by
   rcases List.mem_or_eq_of_mem_set hc with h | h
   ·exact hca' c h
   ·rw [h];exact Cn d1 i
  refine ⟨_,rfl,.inl ⟨rfl,_,cP.of ho2⟩,rfl,_,rfl,_,D,(cs'.set at'.toNat (sign d1 i)).map one,rfl,rfl,cP.of hD2,?_,O,_,_,rfl,rfl,ho2,?_,?_⟩
  ·rw [D9,R6,lc,e0s]
   omega
  ·rw [R6,hx]
   exact ba (by omega)
  ·rw [join_ones]
   refine ⟨_,cs'.set at'.toNat (sign d1 i),xs ++ [⟨(cs'.set at'.toNat (sign d1 i)).toArray⟩],rfl,gD.L6 fO _,(aF nOr.symm).trans hr2,lc,hcn,(aF nOD.symm).trans hD2,?_,by rw [So,hx];rfl,?_,?_⟩
   ·rw [aA,Sk]
    rfl
   ·intro x hx2
    rcases Se.mp hx2 with h | h
    ·exact hxl x h
    ·simp only [Sf,SF,or_false] at h
     subst h
     exact Gr (by rw [lc];exact l0) (by rw [lc];exact l1) hcn
   ·intro k x e
    rcases Up k xs.length with hk | hk
    ·rw [Td hk] at e
     exact hs k x e
    ·rw [S8 hk] at e
     have ek:k=i:=by
      cases hz:k - xs.length with
      | zero=>omega
      | succ z=>rw [hz] at e;cases e
     rw [show k - xs.length=0 by omega] at e
     have ex:=Option.some.inj e
     subst ex
     rw [ek]
     show (cs'.set at'.toNat (sign d1 i))[at'.toNat]?=some (sign d1 i)
     rw [SE (by omega)]
 ·rintro σ H' ⟨v,cs',xs,rfl,g',hr',hl',hca',hd',ho',hx,hxl,hs⟩
  exact ⟨_,rfl,q O H' xs fO g' ho' (by omega) (Fb (by omega) hs) hxl⟩
def xx:cI:=λxs J Q _=>∃c m:Int,xs=[.int c,.int m]∧0≤m∧m≤36∧∀ns:List Str,(ns.length:Int)=m→ns.Nodup→(∀x∈ns,good x=true)→Q (.fl (ns.map .str)) J
theorem tH {K:PySem.W.Frag} {J:Hq} {H:Hp}:∀ns:List Str,aL K J H (ns.map PV.str) (ns.map V.str)
 | []=>rfl
 | n :: ns=>⟨_,_,rfl,rfl,tH ns⟩
theorem yz (C:rh P w K mg base 2 "_law_names" eS AV):bt P w K mg base 2 "_law_names" eS xx:=C.lift λxs J vs H Q2 E2 Q E rs r ⟨c,m,ex,h0,h1,q⟩ kn=>by
 subst ex
 obtain ⟨v,u,rfl,r1,r2⟩:=i6 rs
 cases r1;cases r2
 exact ⟨c,m,rfl,h0,h1,λp H' ns hp s e hl nd lx=>kn (.fl (ns.map .str)) J (.ref p) H' ⟨p,_,rfl,.inl ⟨r.free hp,.inl e⟩,tH ns⟩ (r.same s) (.same s) (q ns hl nd lx)⟩
abbrev vf:Stmt:=(top 48)
abbrev kW:List Str:=["_law_found"]
theorem EO:L2.av ["_law_found"] ["_law_found"] (L2.aj vf):=dT
def q9:cI:=λxs J Q _=>∃i:Int,xs=[.int i]∧Q (.bl true) J
theorem B7 {f:Addr} {fd:FuncData} (F:cm K "_law_whole" "_law_whole" vf f fd) (Z:bT mg):aJ P w K mg base (cY P w) 1 f fd kW (dI K q9):=by
 simp_arith [EO,(aq (az (za (aM iy rfl Z.isinstance boot_isinstance (af (rv 0) (af (mD rfl Z.int boot_int) ah))) (qC (K' (aM iy rfl Z.isinstance boot_isinstance (af (rv 0) (af (mD rfl Z.bool boot_bool) ah))))))))]
 ·obtain ⟨i,rfl,_⟩:=h;rfl
 obtain ⟨i,rfl,q⟩:=h
 refine hX ?_
 simp_arith! [cQ]
 exact q
abbrev zh:Stmt:=(top 50)
abbrev iL:List Str:=["_law_found","_law_due"]
theorem HK:L2.av ["_law_found","_law_due"] ["_law_found","_law_due"] (L2.aj zh):=dT
def pw:cI:=λxs J Q _=>∃a:Rat,xs=[fr a,fr a]∧Q (.bl true) J
theorem D5 {f:Addr} {fd:FuncData} (F:cm K "_law_part" "_law_part" zh f fd) (Z:bT mg) (zy:bt P w K mg base 1 "_law_whole" kW q9):aJ P w K mg base (cY P w) 2 f fd iL (dI K pw):=by
 simp_arith [HK,(ai (a_ (fS (mE (cO (bL (aM iy rfl Z.isinstance boot_isinstance (af (rv 0) (af (mD rfl Z.tuple boot_tuple) ah))))) (iS (aS (i_ hr.bB) (aM dn rfl Z.len boot_len (af (rv 0) ah)) ag)))) (aq (az d7)) aP)
   (ai (a_ (fS (mE (cO (bL (aQ zy B hr (af (aw ay (rv 0) ag) ah)))) (iS (cO (bL (aQ zy B hr (af (aw ay (rv 0) ag) ah))))))) (aq (az d7)) aP)
   (aq (az (dv (gi hr.bB) (rv 0) (rv 1))))))]
 ·obtain ⟨a,rfl,_⟩:=h;rfl
 obtain ⟨a,rfl,q⟩:=h
 refine hX ?_
 simp_arith! [cQ,q9]
 exact q
abbrev qG:Stmt:=(top 55)
abbrev jO:List Str:=["_law_number","_law_mode"]
theorem Cj:L2.av ["_law_number","_law_mode"] ["_law_number","_law_mode"] (L2.aj qG):=dT
def tN:cI:=λxs J Q _=>∃n m:Int,xs=[.int n,.int m]∧0≤n∧∀v:Int,v.natAbs≤1000000→Q (.int v) J
theorem yJ {f:Addr} {fd:FuncData} (F:cm K "_law_placed" "_law_placed" qG f fd) (Z:bT mg):aJ P w K mg base (cY P w) 1 f fd jO (dI K tN):=by
 simp_arith [Cj,(ai (a_ (aS i9 (rv 1) ag) (aq (az (aB dq (aB dR (rv 0) ag) ag))) aP)
   (ai (a_ (aS (gi hr.bB) (rv 1) ag) (aq (az (aB dq (aB dR (rv 0) ag) ag))) aP)
   (aq (az (aB dq (aB dR (rv 0) ag) ag)))))]
 ·obtain ⟨n,m,rfl,_⟩:=h;rfl
 obtain ⟨n,m,rfl,n0,q⟩:=h
 refine hX ?_
 simp_all! []
 split
 ·simp_all! [];exact ⟨by decide,q _ (by omega)⟩
 simp_all! []
 split
 ·simp_all! [];exact ⟨by decide,q _ (by omega)⟩
 ·simp_all! [];exact ⟨by decide,q _ (by omega)⟩
abbrev vd:Stmt:=(top 56)
abbrev kU:List Str:=["_law_number","_law_mode"]
theorem EM:L2.av ["_law_number","_law_mode"] ["_law_number","_law_mode"] (L2.aj vd):=dT
def xy:cI:=λxs J Q _=>∃n m:Int,xs=[.int n,.int m]∧0≤n∧n < 2001∧∀v:Int,v.natAbs≤1000→Q (.int v) J
theorem B6 {f:Addr} {fd:FuncData} (F:cm K "_law_paced" "_law_paced" vd f fd) (Z:bT mg):aJ P w K mg base (cY P w) 1 f fd kU (dI K xy):=by
 simp_arith [EM,(ai (a_ (aS i9 (rv 1) ag) (aq (az (aB dq (aB dR (rv 0) ag) ag))) aP)
   (ai (a_ (aS (gi hr.bB) (rv 1) ag) (aq (az (aB dq (aB dR (rv 0) ag) ag))) aP)
   (aq (az (aB dq (aB dR (rv 0) ag) ag)))))]
 ·obtain ⟨n,m,rfl,_⟩:=h;rfl
 obtain ⟨n,m,rfl,n0,n1,q⟩:=h
 refine hX ?_
 simp_all! []
 split
 ·simp_all! [];exact ⟨by decide,q _ (by omega)⟩
 simp_all! []
 split
 ·simp_all! [];exact ⟨by decide,q _ (by omega)⟩
 ·simp_all! [];exact ⟨by decide,q _ (by omega)⟩
abbrev Lh:Stmt:=(top 58)
abbrev lF:List Str:=["_law_leg","_law_moment"]
theorem xj:L2.av ["_law_leg","_law_moment","_law_begun","_law_place","_law_way","_law_under"] ["_law_leg","_law_moment"] (L2.aj Lh):=dT
theorem Kw {f:Addr} {fd:FuncData} (F:cm K "_law_at" "_law_at" Lh f fd) (Z:bT mg) (pG:bt P w K mg base 1 "_law_low" dW lR):aJ P w K mg base (cY P w) 2 f fd lF (dI K tM):=by
 simp_arith [xj,(ai (aE (i:=2) xj.nd (aw ay (rv 0) ag))
   (ai (aE (i:=3) xj.nd (aw ay (rv 0) ag))
   (ai (aE (i:=4) xj.nd (aB b_ (aw ay (rv 0) ag) (aB dq (aB b_ (aw ay (rv 1) ag) (aw ay (rv 2) ag)) (aB b_ (aw ay (rv 2) ag) (aw ay (rv 1) ag)))))
   (ai (aE (i:=5) xj.nd (aB b_ (aw ay (rv 1) ag) (aw ay (rv 2) ag)))
   (aq (az (aQ pG B hr (af (aB bW (aB b_ (aw ay (rv 3) ag) (rv 5)) (aB b_ (rv 4) (aw ay (rv 3) ag))) (af (aB b_ (aw ay (rv 3) ag) (rv 5)) ah)))))))))]
 ·obtain ⟨l,t,rfl,_⟩:=h;rfl
 obtain ⟨l,m,rfl,sb,sp,sm,bv,q⟩:=h
 refine hX ?_
 simp_all! [DI,MJ,tm]
 have bn:Bd 1801 (m.num * l.m.den - l.m.num * m.den):=.sub (.mul sm.num sb.den (R' _)) (.mul sb.num sm.den (R' _))
 have bu:Bd 1800 ((m.den:Int) * l.m.den):=.mul sm.den sb.den
 have bw:Bd 1900 (l.v * (m.num * l.m.den - l.m.num * m.den)):=.mul bv bn
 refine ⟨.of sm.num sb.den,.of sb.num sm.den,.of bv bn,?_⟩
 simp_all! []
 refine ⟨.of sm.den sb.den,?_⟩
 simp_all! [lR]
 refine ⟨.of sp.num bu,.of bw sp.den,.of sp.den bu,Int.mul_pos (eJ _) (Int.mul_pos (eJ _) (eJ _)),.mul sp.den bu,?_⟩
 rw [Mq]
 exact q
abbrev vb:Stmt:=(top 57)
abbrev kT:List Str:=["_law_clock","_law_number","_law_bottom","_law_mode"]
theorem mI:L2.av ["_law_clock","_law_number","_law_bottom","_law_mode","_law_under","_law_steps"] ["_law_clock","_law_number","_law_bottom","_law_mode"] (L2.aj vb):=dT
def AO:cI:=λxs J Q _=>∃(c:Rat) (n b m:Int),xs=[fr c,.int n,.int b,.int m]∧0≤n∧0≤b∧0≤m∧m < 4∧n < 2 ^ 60∧Sz 900 c∧∀q,Later c q→Q (fr q) J
theorem B4 {f:Addr} {fd:FuncData} (F:cm K "_law_later" "_law_later" vb f fd) (Z:bT mg) (pG:bt P w K mg base 1 "_law_low" dW lR):aJ P w K mg base (cY P w) 2 f fd kT (dI K AO):=by
 simp_arith [mI,(ai (a_ (aS (gi hr.bB) (aB dR (rv 1) ag) ag) (aq (az (rv 0))) aP)
   (ai (aE (i:=4) mI.nd (aB bW ag (aB dR (rv 2) (aw ay (jh (uX [.int 4,.int 6,.int 60,.int 60] rfl [.int 4,.int 6,.int 60,.int 60] rfl)) (rv 3)))))
   (ai (aE (i:=5) mI.nd (aB bW ag (aB dR (aB mn (rv 1) ag) (aB b_ ag (rv 4)))))
   (AA (a_ (aS (gi hr.bB) (rv 3) ag) (aq (aE (i:=5) mI.nd (aB bW ag (aB dR (aB mn (rv 1) ag) (aB b_ ag (rv 4)))))) aP)
   (aq (az (aQ pG B hr (af (aB bW (aB mn (aB b_ (aw ay (rv 0) ag) (rv 4)) (aw ay (rv 0) ag)) (rv 5)) (af (rv 4) ah)))))))))]
 ·obtain ⟨c,n,b,m,rfl,_⟩:=h;rfl
 obtain ⟨c,n,b,m,rfl,n0,b0,m0,m1,n2,sc,q⟩:=h
 refine hX ?_
 simp_all! []
 refine ⟨by decide,?_⟩
 split
 ·simp_all! []
  exact q c (.inl rfl)
 obtain ⟨x,hx,x0,x1⟩:∃x:Int,cV [PV.int 4,PV.int 6,PV.int 60,PV.int 60] m=some (.int x)∧1≤x∧x≤60:=by
  rcases (by omega:m=0∨m=1∨m=2∨m=3) with e | e | e | e <;> subst e
  ·exact ⟨4,l5 _ _,by decide,by decide⟩
  ·exact ⟨6,l6 _ _ _,by decide,by decide⟩
  ·exact ⟨60,sM _ _ _ _,by decide,by decide⟩
  ·exact ⟨60,C5 _ _ _ _ _,by decide,by decide⟩
 have u0:0≤b % x:=Int.emod_nonneg _ (by omega)
 have u1:b % x < x:=Int.emod_lt_of_pos _ (by omega)
 have bu:Bd 64 (1 + b % x):=.small (by omega) (by omega)
 have b8:Bd 9000 8:=(Bd.small (x:=8) (by decide) (by decide)).mono (by decide)
 simp_all! [hx]
 refine ⟨by omega,?_⟩
 simp_all! []
 refine ⟨⟨by decide,b8⟩,.of (.small (x:=2) (by decide) (by decide)) bu,by omega,?_⟩
 generalize hu:1 + b % x=u at *
 have k0:0≤n.fdiv 8:=by rw [Int.fdiv_eq_ediv_of_nonneg _ (by decide)];exact Int.ediv_nonneg n0 (by decide)
 obtain ⟨M,hM⟩:∃M:Sr→Hq→Prop,∀τ' J',M τ' J'↔∃s:Int,τ'=[some (fr c),some (.int n),some (.int b),some (.int m),some (.int u),some (.int s)]∧J'=J∧1≤s∧s≤500 * u:=⟨_,λ_ _=>Iff.rfl⟩
 simp_all! []
 refine ⟨M,?_,?_⟩
 ·simp_arith! [cQ]
  have h2:0≤n.fdiv 8 % (2 * u):=Int.emod_nonneg _ (by omega)
  have h3:n.fdiv 8 % (2 * u) < 2 * u:=Int.emod_lt_of_pos _ (by omega)
  have h4:0≤n.fdiv 8 % (500 * u):=Int.emod_nonneg _ (by omega)
  have h5:n.fdiv 8 % (500 * u) < 500 * u:=Int.emod_lt_of_pos _ (by omega)
  split
  ·refine ⟨⟨by decide,b8⟩,.of (.small (x:=500) (by decide) (by decide)) bu,by omega,(hM _ _).mpr ⟨_,rfl,rfl,by omega,by omega⟩⟩
  ·exact (hM _ _).mpr ⟨_,rfl,rfl,by omega,by omega⟩
 ·intro τ' J' hm
  obtain ⟨s,rfl,rfl,s0,s1⟩:=(hM _ _).mp hm
  clear hm hM M
  simp_arith! [cQ,lR]
  refine ⟨.of sc.num bu,⟨eK c,sc.den.mono (by decide)⟩,by omega,bu.mono (by decide),?_⟩
  obtain ⟨u',rfl⟩:=Int.eq_ofNat_of_zero_le (show 0≤u by omega)
  obtain ⟨s',rfl⟩:=Int.eq_ofNat_of_zero_le (show 0≤s by omega)
  exact q _ (.inr ⟨u',s',by omega,by omega,by omega,by omega,rfl⟩)
theorem tj {α:Type} {V:α→PV} {lt:α→α→Bool} {ys:List α} {b:α} {r:Addr} {sp:cI} {E2:Addr→Hq→Prop} {D:En} {τ:Sr} {J:Hq} {iO iA iR:Nat}
  (hO:τ[iO]?=some (some (.ref r))) (hR:τ[iR]?=some (some (V b))) (hA:τ[iA]?=some (some (.int 0))) (nO:iA≠iO) (nR:iA≠iR) (hJ:J r=some (.lst (ys.map V)))
  (hb:∀y∈ys,∀R:PV→Hq→Prop,R (.bl (lt y b)) J→sp [V y,V b] J R E2)
  (high:∀{i j:Nat} {x y:α},ys[i]?=some x→ys[j]?=some y→i≤j→lt x b=false→lt y b=false)
  (fin:∀j:Nat,j≤ys.length→(∀(k:Nat) y,k < j→ys[k]?=some y→lt y b=true)→(∀(k:Nat) y,j≤k→ys[k]?=some y→lt y b=false)→D.nx (τ.set iA (some (.int j))) J) :
  Ez (Hw (rB (HC (Es λi j=>.bl (decide (i < j))) (w9 iA) (NN K5 (w8 (w9 iO) y_)))) (rB (Ex sp E2 (w8 (HC Qa (w9 iO) (w9 iA)) (w8 (w9 iR) y_))))) (w6 (HC (Es λi j=>.int (i + j)) (w9 iA) (rC (.int 1))) (JX iA)) D τ J:=by
 have hl:iA < τ.length:=(R8.mp hA).1
 have sO:∀x,(τ.set iA x)[iO]?=some (some (.ref r)):=λx=>by rw [SQ nO];exact hO
 have sR:∀x,(τ.set iA x)[iR]?=some (some (V b)):=λx=>by rw [SQ nR];exact hR
 have sA:∀x,(τ.set iA x)[iA]?=some x:=λx=>SE hl
 refine ⟨λm τ' J'=>∃j:Nat,j≤ys.length∧m=ys.length - j∧τ'=τ.set iA (some (.int j))∧J'=J∧∀(k:Nat) y,k < j→ys[k]?=some y→lt y b=true,⟨ys.length,0,SG _,rfl,?_,rfl,λk y hk=>by omega⟩,?_⟩
 ·have h2:=List.set_getElem_self hl
  rw [(R8.mp hA).2] at h2
  exact h2.symm
 rintro m τ' J' ⟨j,hj,rfl,rfl,rfl,hlow⟩
 simp_all! [sO,sA,hJ,R6]
 by_cases c0:j < ys.length
 ·rw [if_pos (by omega)]
  obtain ⟨y,hy⟩:∃y,ys[j]?=some y:=⟨_,R7 c0⟩
  have ha:cV (ys.map V) (j:Int)=some (V y):=aY (by rw [Sb,hy];rfl)
  simp_all! [sO,sA,sR,hJ,ha]
  refine hb y (R9 hy) _ ?_
  refine Kz rfl ?_
  cases hc:lt y b with
  | true =>
   rw [if_pos rfl]
   obtain ⟨N,hN⟩:∃N:Sr→Hq→Prop,∀τ' J'',N τ' J''↔∃i:Nat,i≤ys.length∧ys.length - (j + 1)=ys.length - i∧τ'=τ.set iA (some (.int i))∧J''=J'∧∀(k:Nat) y,k < i→ys[k]?=some y→lt y b=true:=⟨_,λ_ _=>Iff.rfl⟩
   refine ⟨N,λτ'' J'' h=>⟨ys.length - (j + 1),by omega,(hN _ _).mp h⟩,?_⟩
   simp_arith! [cQ,sA]
   refine (hN _ _).mpr ⟨j + 1,by omega,rfl,by rw [List.set_set,Int.natCast_succ],rfl,λk z hk e=>?_⟩
   rcases TN (Nat.lt_succ_iff.mp hk) with h | h
   ·exact hlow k z h e
   ·subst h;rw [hy] at e;cases e;exact hc
  | false =>
   rw [if_neg (by decide)]
   exact fin j hj hlow λk z hk e=>high hy e hk hc
 ·rw [if_neg (by omega)]
  exact fin j hj hlow λk z hk e=>by rw [SN (by omega)] at e;cases e
section
variable {X:Cx}
theorem kG.or {f:Value→Value→Sem Value} {q q':k6} (h:kG X f q) (h':kG X f q'):kG X f (λx y J Q=>q x y J Q∨q' x y J Q):=by
 obtain ⟨r,a,lr⟩:=h
 obtain ⟨r',a',lr'⟩:=h'
 refine ⟨λx y H Q=>r x y H Q∨r' x y H Q,λpins s σ H x y v u Q I rx ry h=>?_,λJ H x y v w Q2 Q rx ry rr h k=>?_⟩
 ·rcases h with h | h
  ·exact a pins s σ H x y v u Q I rx ry h
  ·exact a' pins s σ H x y v u Q I rx ry h
 ·rcases h with h | h
  ·exact .inl (lr J H x y v w Q2 Q rx ry rr h k)
  ·exact .inr (lr' J H x y v w Q2 Q rx ry rr h k)
end
def Ky.V (k:Ky):PV:=.tup [fr k.p,.int k.v,.str k.n]
theorem MH (J:Hq) (k:Ky):vI J k.V (.int 0)=some (fr k.p):=l5 _ _
theorem MI (J:Hq) (k:Ky):vI J k.V (.int 1)=some (.int k.v):=l6 _ _ _
theorem IB (J:Hq) (k:Ky):vI J k.V (.int 2)=some (.str k.n):=sM _ _ _ _
theorem Ou (p:Rat) (v:Int) (n:Str):PV.tup [fr p,.int v,.str n]=(Ky.mk p v n).V:=rfl
theorem sU (p q:Rat):(p.num * (q.den:Int) < q.num * (p.den:Int))=(p < q):=propext (Rat.lt_iff p q).symm
abbrev qE:Stmt:=(top 59)
abbrev fL:List Str:=["_law_one","_law_two"]
theorem nX:L2.av ["_law_one","_law_two","_law_here","_law_there"] ["_law_one","_law_two"] (L2.aj qE):=dT
def qP:cI:=λxs J Q _=>(∃a b:Ky,xs=[a.V,b.V]∧Sz 9000 a.p∧Sz 9000 b.p∧Q (.bl (a.lt b)) J)∨(∃a b:aD,xs=[a.v,b.v]∧Sz 9000 a.m∧Sz 9000 b.m∧Q (.bl (a.lt b)) J)
theorem yI {f:Addr} {fd:FuncData} (F:cm K "_law_before" "_law_before" qE f fd) (Z:bT mg):aJ P w K mg base (cY P w) 1 f fd fL (dI K qP):=by
 simp_arith [nX,(ai (aE (i:=2) nX.nd (aB b_ (aw ay (aw ay (rv 0) ag) ag) (aw ay (aw ay (rv 1) ag) ag)))
   (ai (aE (i:=3) nX.nd (aB b_ (aw ay (aw ay (rv 1) ag) ag) (aw ay (aw ay (rv 0) ag) ag)))
   (ai (a_ (aS (i_ hr.bB) (rv 2) (rv 3)) (aq (az (dv i9 (rv 2) (rv 3)))) aP)
   (ai (a_ (aS (i_ hr.bB) (aw ay (rv 0) ag) (aw ay (rv 1) ag)) (aq (az (dv (kG.or i9 yQ) (aw ay (rv 0) ag) (aw ay (rv 1) ag)))) aP)
   (aq (az (dv yQ (aw ay (rv 0) ag) (aw ay (rv 1) ag))))))))]
 ·rcases h with ⟨a,b,rfl,_⟩ | ⟨a,b,rfl,_⟩ <;> rfl
 refine hX ?_
 rcases h with ⟨a,b,rfl,sa,sb,q⟩ | ⟨a,b,rfl,sa,sb,q⟩
 ·simp_arith! [cQ,MH,MI,IB]
  refine ⟨.of sa.num sb.den,.of sb.num sa.den,?_⟩
  unfold Ky.lt at q
  by_cases e:a.p=b.p
  ·rw [if_pos e] at q
   rw [if_pos ((ka _ _).mpr e)]
   by_cases k:a.v=b.v
   ·rw [if_pos k] at q ⊢;exact q
   ·rw [if_neg k] at q ⊢;exact .inl q
  ·rw [if_neg e] at q
   rw [if_neg (λz=>e ((ka _ _).mp z))]
   simp only [sU]
   exact q
 ·simp_arith! [cQ,DF,DG,DH]
  refine ⟨.of sa.num sb.den,.of sb.num sa.den,?_⟩
  unfold aD.lt at q
  by_cases e:a.m=b.m
  ·rw [if_pos e] at q
   rw [if_pos ((ka _ _).mpr e)]
   by_cases k:a.h=b.h
   ·rw [if_pos k] at q ⊢;exact q
   ·rw [if_neg k] at q ⊢;exact .inr q
  ·rw [if_neg e] at q
   rw [if_neg (λz=>e ((ka _ _).mp z))]
   simp only [sU]
   exact q
abbrev ph:Stmt:=(top 60)
abbrev gJ:List Str:=["_law_legs","_law_moment"]
theorem ie:L2.av ["_law_legs","_law_moment","_law_out","_law_name","_law_row","_law_at_here"] ["_law_legs","_law_moment"] (L2.aj ph):=dT
def qW:cI:=λxs J Q _=>∃(D:Addr) (fs:List (Str × aZ)) (ep:Nat) (t:Rat),xs=[.ref D,fr t]∧J D=some (.dct (bO fs) ep)∧(fs.map (·.1)).Nodup∧fs.length≤100∧Sz 900 t∧(∀x∈fs,pH 900 x.2)∧Q (.fl ((cT t fs).map .str)) J
theorem B5 {f:Addr} {fd:FuncData} (F:cm K "_law_order" "_law_order" ph f fd) (Z:bT mg) (Fw:bt P w K mg base 2 "_law_at" lF tM) (pF:bt P w K mg base 1 "_law_before" fL qP):aJ P w K mg base (cY P w) 3 f fd gJ (dI K qW):=by
 simp_arith [ie,(ai (aE (i:=2) ie.nd (nH ah))
   (ai (fe cy rfl (AD (rv 0)) (bX (i:=3) ie.nd) (ai (aE (i:=4) ie.nd (eO (af (aQ Fw B hr (af (aw fB (rv 0) (rv 3)) (af (rv 1) ah))) (af (aw ay (aw fB (rv 0) (rv 3)) ag) (af (rv 3) ah)))))
   (ai (aE (i:=5) ie.nd ag)
   (ai (jW cy (fS (nK (aS i9 (rv 5) (aM dn rfl Z.len boot_len (af (rv 2) ah))) (kB (bL (aQ pF B hr (af (aw ay (rv 2) (rv 5)) (af (rv 4) ah))))))) (aq (aE (i:=5) ie.nd (aB bW (rv 5) ag))))
   (aq (bJ (qA PySem.F.plainAttrs_list PySem.F.slot_list_insert PySem.F.type_list_insert km (rv 2) (af (rv 5) (af (rv 4) ah)))))))))
   (aq (az (Jo (L2.aj ph) ["_law_legs","_law_moment","_law_out","_law_name","_law_row","_law_at_here"] [] rfl rfl rfl (gn (rv 2)) (λ_ _ _ _ _ _=>(aw ay (rv 0) ag))))))),F]
 ·obtain ⟨D,fs,ep,t,rfl,_⟩:=h;rfl
 obtain ⟨D,fs,ep,t,rfl,hD,hnd,hlen,st,sl,q⟩:=h
 refine hX ?_
 simp_all! []
 intro r hr'
 have nDr:D≠r:=by intro e;subst e;rw [hD] at hr';cases hr'
 simp_all! [ar nDr,hD]
 have hkv:(bO fs).map (λkv=>PV.str kv.1)=fs.map λx=>PV.str x.1:=by unfold bO;rw [Sl];rfl
 rw [hkv]
 obtain ⟨Inv,hInv⟩:∃Inv:Nat→Sr→Hq→Prop,∀i τ J',Inv i τ J'↔∃(u3 u4 u5:Option PV),τ=[some (.ref D),some (fr t),some (.ref r),u3,u4,u5]∧J'=put J r (.lst ((cu ((fs.take i).map (key t))).map Ky.V)):=⟨_,λ_ _ _=>Iff.rfl⟩
 refine jC Inv ((hInv _ _ _).mpr ⟨_,_,_,rfl,rfl⟩) (λi τ J' h=>?_) ?_ ?_
 ·obtain ⟨_,_,_,_,rfl⟩:=(hInv _ _ _).mp h
  rw [ar nDr];exact hD
 ·intro i x τ J' hx hv
  obtain ⟨u3,u4,u5,rfl,rfl⟩:=(hInv _ _ _).mp hv
  clear hv
  have hi:i < fs.length:=by have:=(R8.mp hx).1;simpa using this
  rw [Sb,R7 hi] at hx
  cases hx
  rcases hfi:fs[i] with ⟨n,l⟩
  have hmem:(n,l)∈fs:=by rw [← hfi];exact SW hi
  have et:fs.take (i + 1)=fs.take i ++ [(n,l)]:=by rw [SK,R7 hi,hfi];rfl
  have hndt:((fs.take i).map (·.1)).Nodup:=by rw [Ti];exact hnd.sublist (Tv _ _)
  obtain ⟨ys,hys⟩:∃ys,cu ((fs.take i).map (key t))=ys:=⟨_,rfl⟩
  have srt:m4 Ky.lt ys:=by rw [← hys];exact cM (by rw [cZ];exact hndt)
  have hyl:ys.length=i:=by rw [← hys,g_,R6,Sy];omega
  have hym:∀y∈ys,Sz 9000 y.p:=λy hy=>by
   rw [← hys,bh,R_] at hy
   obtain ⟨x',hx',rfl⟩:=hy
   exact (jv (sl x' (SR hx')) st).mono (by decide)
  have en:cu ((fs.take (i + 1)).map (key t))=oM Ky.lt (key t (n,l)) ys:=by rw [et,Sk,Sd,Th,hE,hys]
  rw [hys]
  have hvn:lT (bO fs) n=some l.V:=lU (f:=aZ.V) hnd hmem
  have sll:=sl _ hmem
  simp_all! [ar nDr,hD,hvn]
  refine ⟨l,t,rfl,sll.m,sll.p,st,sll.v,?_⟩
  simp_all! [ar nDr,hD,hvn,tm,Ou]
  have ek:(Ky.mk (l.at t) l.v n)=key t (n,l):=rfl
  rw [ek]
  have skn:Sz 9000 (key t (n,l)).p:=(jv sll st).mono (by decide)
  generalize key t (n,l)=kn at en skn ⊢
  refine tj (V:=Ky.V) (lt:=Ky.lt) (ys:=ys) (b:=kn) (iO:=2) (iA:=5) (iR:=4) rfl rfl rfl (by decide) (by decide) au (λy hy R hR=>.inl ⟨y,kn,rfl,hym y hy,skn,hR⟩) (λhx hy h k=>Co (lt:=Ky.lt) Ky.tr srt hx hy h k) λj hj hlow hhigh=>?_
  simp_all! [au]
  refine ⟨_,j,rfl,rfl,by rw [R6];exact hj,ba (by rw [R6];omega),by omega,?_⟩
  rw [gj]
  refine (hInv _ _ _).mpr ⟨_,_,_,rfl,?_⟩
  rw [en,← Aa hj hlow hhigh,Sk,Sd,Ti,TR]
 ·intro τ J' hv
  obtain ⟨u3,u4,u5,rfl,rfl⟩:=(hInv _ _ _).mp hv
  rw [R6,SO]
  simp_all! [y9,au]
  refine ⟨λ_=>true,(λx=>match x with | .tup [_,_,n]=>n | _=>.non),⟨ba (by rw [R6,g_,R6];omega),λJ2 hs=>⟨hs _ _ au,λx hx=>⟨⟨rfl,rfl⟩,λ_=>?_⟩⟩⟩,?_⟩
  ·obtain ⟨y,hy,rfl⟩:=R_.mp hx
   simp_arith! [cQ,IB]
   rfl
  ·rw [S2.mpr λ_ _=>rfl,Sl]
   have e:(cT t fs).map PV.str=(cu (fs.map (key t))).map ((λx=>match x with | .tup [_,_,n]=>n | _=>.non) ∘ Ky.V):=by unfold cT;rw [Sl];rfl
   rw [e] at q
   exact Fg.less (g7 hr') q
abbrev vg:Stmt:=(top 51)
abbrev kX:List Str:=["_law_found","_law_due"]
theorem xl:L2.av ["_law_found","_law_due","_law_one"] ["_law_found","_law_due"] (L2.aj vg):=dT
def AY:cI:=λxs J Q _=>∃ss:List Str,xs=[.fl (ss.map .str),.fl (ss.map .str)]∧ss.length≤900∧Q (.bl true) J
theorem Em (ss:List Str):ia (ss.map PV.str)=true:=by
 induction ss with
 | nil=>rfl
 | cons x ss ih=>rw [Sd,nF,uT,ih];rfl
theorem Df (ss:List Str):dG (fh (ss.map PV.str))≤1:=by
 induction ss with
 | nil=>simp [fh,dG]
 | cons x ss ih=>simp only [Sd,fh,fP,dG,dep];omega
theorem zH (ss:List Str):F7 (.fl (ss.map .str)):=⟨by unfold lG;exact Em ss,by
 have:=Df ss
 simp only [fP,dep];omega⟩
theorem B8 {f:Addr} {fd:FuncData} (F:cm K "_law_words" "_law_words" vg f fd) (Z:bT mg):aJ P w K mg base (cY P w) 1 f fd kX (dI K AY):=by
 simp_arith [xl,(ai (a_ (fS (mE (cO (bL (aM iy rfl Z.isinstance boot_isinstance (af (rv 0) (af (mD rfl Z.list boot_list) ah))))) (iS (aS (i_ hr.bB) (aM dn rfl Z.len boot_len (af (rv 0) ah)) (aM dn rfl Z.len boot_len (af (rv 1) ah)))))) (aq (az d7)) aP)
   (ai (fe cy rfl (gn (rv 0)) (bX (i:=2) xl.nd) (aq (a_ (cO (bL (aM iy rfl Z.isinstance boot_isinstance (af (rv 2) (af (mD rfl Z.str boot_str) ah))))) (aq (az d7)) aP)))
   (aq (az (dv (gi hr.bB) (rv 0) (rv 1))))))]
 ·obtain ⟨ss,rfl,_⟩:=h;rfl
 obtain ⟨ss,rfl,hl,q⟩:=h
 refine hX ?_
 simp_all! [R6]
 obtain ⟨Inv,hInv⟩:∃Inv:Nat→Sr→Hq→Prop,∀i τ J',Inv i τ J'↔∃u:Option PV,τ=[some (.fl (ss.map .str)),some (.fl (ss.map .str)),u]∧J'=J:=⟨_,λ_ _ _=>Iff.rfl⟩
 refine jC Inv ((hInv _ _ _).mpr ⟨_,rfl,rfl⟩) (λ_ _ _ _=>trivial) ?_ ?_
 ·intro i x τ J' hx hv
  obtain ⟨u,rfl,rfl⟩:=(hInv _ _ _).mp hv
  obtain ⟨y,_,rfl⟩:=R_.mp (R9 hx)
  simp_all! []
  exact (hInv _ _ _).mpr ⟨_,rfl,rfl⟩
 ·intro τ J' hv
  obtain ⟨u,rfl,rfl⟩:=(hInv _ _ _).mp hv
  simp_all! []
  refine ⟨zH ss,(zH ss).1,?_⟩
  rw [eq_self];exact q
abbrev nN:Stmt:=(top 52)
abbrev je:List Str:=["_law_found","_law_due"]
theorem zk:L2.av ["_law_found","_law_due"] ["_law_found","_law_due"] (L2.aj nN):=dT
def n8:cI:=λxs J Q _=>∃a:aD,xs=[a.v,a.v]∧Q (.bl true) J
theorem wD {f:Addr} {fd:FuncData} (F:cm K "_law_passrow" "_law_passrow" nN f fd) (Z:bT mg) (xM:bt P w K mg base 2 "_law_part" iL pw):aJ P w K mg base (cY P w) 3 f fd je (dI K n8):=by
 simp_arith [zk,(ai (a_ (fS (mE (cO (bL (aM iy rfl Z.isinstance boot_isinstance (af (rv 0) (af (mD rfl Z.tuple boot_tuple) ah))))) (iS (aS (i_ hr.bB) (aM dn rfl Z.len boot_len (af (rv 0) ah)) ag)))) (aq (az d7)) aP)
   (ai (a_ (fS (mE (cO (bL (aM iy rfl Z.isinstance boot_isinstance (af (aw ay (rv 0) ag) (af (mD rfl Z.str boot_str) ah))))) (iS (cO (bL (aM iy rfl Z.isinstance boot_isinstance (af (aw ay (rv 0) ag) (af (mD rfl Z.str boot_str) ah)))))))) (aq (az d7)) aP)
   (aq (az (za (aQ xM B hr (af (aw ay (rv 0) ag) (af (aw ay (rv 1) ag) ah))) (qC (dv (gi hr.bB) (rv 0) (rv 1))))))))]
 ·obtain ⟨a,rfl,_⟩:=h;rfl
 obtain ⟨a,rfl,q⟩:=h
 refine hX ?_
 simp_arith! [cQ,pw,DF,DG,DH,Qt,MO,Pd,IX,Pg]
 exact q
abbrev lM:Stmt:=(top 53)
abbrev hZ:List Str:=["_law_found","_law_due"]
theorem oE:L2.av ["_law_found","_law_due","_law_k"] ["_law_found","_law_due"] (L2.aj lM):=dT
def qX:cI:=λxs J Q _=>∃(rows:List aD) (x:PV),xs=[x,.fl (rows.map aD.v)]∧lA J x=some (rows.map aD.v)∧rows.length≤900∧Q (.bl true) J
theorem uJ {f:Addr} {fd:FuncData} (F:cm K "_law_passrows" "_law_passrows" lM f fd) (Z:bT mg) (Bg:bt P w K mg base 3 "_law_passrow" je n8):aJ P w K mg base (cY P w) 4 f fd hZ (dI K qX):=by
 simp_arith [oE,(ai (a_ (fS (mE (cO (bL (aM iy rfl Z.isinstance boot_isinstance (af (rv 0) (af (mD rfl Z.list boot_list) ah))))) (iS (aS (i_ hr.bB) (aM dn rfl Z.len boot_len (af (rv 0) ah)) (aM dn rfl Z.len boot_len (af (rv 1) ah)))))) (aq (az d7)) aP)
   (ai (fe cy rfl (ku rfl Z.range (af (aM dn rfl Z.len boot_len (af (rv 1) ah)) ah)) (bX (i:=2) oE.nd) (aq (a_ (cO (bL (aQ Bg B hr (af (aw ay (rv 0) (rv 2)) (af (aw ay (rv 1) (rv 2)) ah))))) (aq (az d7)) aP)))
   (aq (az d7))))]
 ·obtain ⟨rows,x,rfl,_⟩:=h;rfl
 obtain ⟨rows,x,rfl,hx,hl,q⟩:=h
 refine hX ?_
 simp_arith! [cQ,R6,M7 hx,DU hx]
 refine ⟨by omega,by omega,oX (λi τ J'=>∃u:Option PV,τ=[some x,some (.fl (rows.map aD.v)),u]∧J'=J) ⟨none,rfl,rfl⟩ ?_ ?_⟩
 ·rintro i τ J' hi ⟨u,rfl,rfl⟩
  have hi:i < rows.length:=by omega
  have ha:cV (rows.map aD.v) (0 + (i:Int))=some (rows[i].v):=by rw [Int.zero_add];exact C6 (R7 hi)
  simp_arith! [cQ,II hx,ha,n8]
  exact ⟨_,rfl,rfl⟩
 ·rintro τ J' ⟨u,rfl,rfl⟩
  exact q
theorem Bb {t p q:Rat} {v:Int} (hv:0 < v):Rat.divInt (t.num * ((p.den:Int) * (q.den:Int) * v) + (q.num * (p.den:Int) - p.num * (q.den:Int)) * (t.den:Int)) ((t.den:Int) * ((p.den:Int) * (q.den:Int) * v))=t + (q - p) / (v:Rat):=by
 have a:=cast_eq t
 have b:=cast_eq p
 have c:=cast_eq q
 have d:=dJ t
 have e:=dJ p
 have f:=dJ q
 have k:(v:Rat)≠0:=oq (by omega)
 rw [Rat.divInt_eq_div]
 simp only [Rat.intCast_mul,Rat.intCast_add,Rat.intCast_sub,a,b,c]
 generalize (((t.den:Int)):Rat)=x at d ⊢
 generalize (((p.den:Int)):Rat)=y at e ⊢
 generalize (((q.den:Int)):Rat)=z at f ⊢
 generalize (v:Rat)=w at k ⊢
 have h1:y * z≠0:=λh=>by rcases Rat.mul_eq_zero.mp h with h | h <;> contradiction
 have h2:y * z * w≠0:=λh=>by rcases Rat.mul_eq_zero.mp h with h | h <;> contradiction
 have h3:x * (y * z * w)≠0:=λh=>by rcases Rat.mul_eq_zero.mp h with h | h <;> contradiction
 grind
theorem pH.zE {l:aZ} (h:pH 240 l) {t:Rat} (st:Sz 240 t):Sz 790 (l.at t):=by
 have s1:Sz 481 (t - l.m):=st.sub h.m
 have s2:Sz 545 ((t - l.m) * (l.v:Rat)):=s1.mul h.v
 exact h.p.add s2
theorem Bc {t p q:Rat} {v:Int} (st:Sz 240 t) (sp:Sz 790 p) (sq:Sz 790 q) (bv:Bd 70 v) (hv:0 < v):Bd 1650 ((p.den:Int) * (q.den:Int) * v)∧Bd 1590 (q.num * (p.den:Int) - p.num * (q.den:Int))∧Bd 1900 ((t.den:Int) * ((p.den:Int) * (q.den:Int) * v))∧Sz 9000 (t + (q - p) / (v:Rat)):=by
 have h1:Bd 1650 ((p.den:Int) * (q.den:Int) * v):=.mul (.mul (k:=1580) sp.den sq.den) bv
 have h2:Bd 1590 (q.num * (p.den:Int) - p.num * (q.den:Int)):=.sub (Bd.mul (k:=1580) sq.num sp.den) (Bd.mul (k:=1580) sp.num sq.den)
 have h3:Bd 1900 ((t.den:Int) * ((p.den:Int) * (q.den:Int) * v)):=.mul st.den h1
 refine ⟨h1,h2,h3,?_⟩
 rw [← Bb hv]
 have hd:0 < (t.den:Int) * ((p.den:Int) * (q.den:Int) * v):=Int.mul_pos (eJ _) (Int.mul_pos (Int.mul_pos (eJ _) (eJ _)) hv)
 exact (Sz.div (n:=1901) (.add (Bd.mul (k:=1900) st.num h1) (Bd.mul (k:=1900) h2 st.den)) (h3.mono (by decide)) (by omega)).mono (by decide)
theorem df.Mz {L:Ln} (ok:df L):L.fs.length≤12:=by
 have:=ok.rl
 rw [ok.row,wO] at this;exact this
theorem yf (t:Rat) (ks:List Ky) (h:(ks.map Ky.n).Nodup):(eI t ks).length≤ks.length:=by
 rw [← rg h]
 have h1:=m9 t cH ((cu ks).zip (cu ks).tail)
 rw [TL,g_] at h1
 omega
def Iq (t:Rat) (fs gs:List (Str × aZ)):Prop:=∀x,x∈fs.map (key t)↔x∈gs.map (key t)
abbrev nQ:Stmt:=(top 62)
abbrev jf:List Str:=["_law_legs","_law_clock"]
theorem bQ:L2.av ["_law_legs","_law_clock","_law_row","_law_out","_law_k","_law_here","_law_there","_law_pace","_law_top","_law_under","_law_when","_law_bell","_law_at_here"] ["_law_legs","_law_clock"] (L2.aj nQ):=dT
def EZ:cI:=λxs J Q _=>∃(D:Addr) (fs:List (Str × aZ)) (ep:Nat) (t:Rat),xs=[.ref D,fr t]∧J D=some (.dct (bO fs) ep)∧(fs.map (·.1)).Nodup∧fs.length≤20∧Sz 240 t∧(∀x∈fs,pH 240 x.2)∧Q (.fl ((eI t (fs.map (key t))).map aD.v)) J
theorem wF {f:Addr} {fd:FuncData} (F:cm K "_law_ringdue" "_law_ringdue" nQ f fd) (Z:bT mg) (tW:bt P w K mg base 3 "_law_order" gJ qW) (Fw:bt P w K mg base 2 "_law_at" lF tM) (pG:bt P w K mg base 1 "_law_low" dW lR) (pF:bt P w K mg base 1 "_law_before" fL qP):aJ P w K mg base (cY P w) 4 f fd jf (dI K EZ):=by
 simp_arith [bQ,(ai (aE (i:=2) bQ.nd (aQ tW B hr (af (rv 0) (af (rv 1) ah))))
   (ai (aE (i:=3) bQ.nd (nH ah))
   (ai (fe cy rfl (ku rfl Z.range (af (aB dq (aM dn rfl Z.len boot_len (af (rv 2) ah)) ag) ah)) (bX (i:=4) bQ.nd) (ai (aE (i:=5) bQ.nd (aQ Fw B hr (af (aw fB (rv 0) (aw ay (rv 2) (rv 4))) (af (rv 1) ah))))
   (ai (aE (i:=6) bQ.nd (aQ Fw B hr (af (aw fB (rv 0) (aw ay (rv 2) (aB bW (rv 4) ag))) (af (rv 1) ah))))
   (ai (aE (i:=7) bQ.nd (aB dq (aw ay (aw fB (rv 0) (aw ay (rv 2) (rv 4))) ag) (aw ay (aw fB (rv 0) (aw ay (rv 2) (aB bW (rv 4) ag))) ag)))
   (aq (a_ (aS oz (rv 7) ag) (ai (aE (i:=8) bQ.nd (aB dq (aB b_ (aw ay (rv 6) ag) (aw ay (rv 5) ag)) (aB b_ (aw ay (rv 5) ag) (aw ay (rv 6) ag))))
   (ai (aE (i:=9) bQ.nd (aB b_ (aB b_ (aw ay (rv 5) ag) (aw ay (rv 6) ag)) (rv 7)))
   (ai (aE (i:=10) bQ.nd (aQ pG B hr (af (aB bW (aB b_ (aw ay (rv 1) ag) (rv 9)) (aB b_ (rv 8) (aw ay (rv 1) ag))) (af (aB b_ (aw ay (rv 1) ag) (rv 9)) ah))))
   (ai (aE (i:=11) bQ.nd (eO (af (rv 10) (af (aw ay (rv 2) (rv 4)) (af (aw ay (rv 2) (aB bW (rv 4) ag)) ah)))))
   (ai (aE (i:=12) bQ.nd ag)
   (ai (jW cy (fS (nK (aS i9 (rv 12) (aM dn rfl Z.len boot_len (af (rv 3) ah))) (kB (bL (aQ pF B hr (af (aw ay (rv 3) (rv 12)) (af (rv 11) ah))))))) (aq (aE (i:=12) bQ.nd (aB bW (rv 12) ag))))
   (aq (bJ (qA PySem.F.plainAttrs_list PySem.F.slot_list_insert PySem.F.type_list_insert km (rv 3) (af (rv 12) (af (rv 11) ah))))))))))) aP))))))
   (aq (az (rv 3)))))),F]
 ·obtain ⟨D,fs,ep,t,rfl,_⟩:=h;rfl
 obtain ⟨D,fs,ep,t,rfl,hD,hnd,hlen,st,sl,q⟩:=h
 refine hX ?_
 simp_all! []
 refine ⟨D,fs,ep,t,rfl,hD,hnd,by omega,st.mono (by decide),λx hx=>(sl x hx).mono (by decide),?_⟩
 simp_all! []
 intro r hr'
 have nDr:D≠r:=by intro e;subst e;rw [hD] at hr';cases hr'
 obtain ⟨ks,hks⟩:∃ks,cu (fs.map (key t))=ks:=⟨_,rfl⟩
 have hrow:(cT t fs).map PV.str=ks.map λk=>PV.str k.n:=by unfold cT;rw [hks,Sl];rfl
 have hkn0:((fs.map (key t)).map Ky.n).Nodup:=by rw [cZ];exact hnd
 have hks':m4 Ky.lt ks:=by rw [← hks];exact cM hkn0
 have hkn:(ks.map Ky.n).Nodup:=by rw [← hks];exact kD (cM hkn0) (λx hx y hy e=>g9 hkn0 x ((bh _ _).mp hx) y ((bh _ _).mp hy) e)
 have hkd:ks.Nodup:=List.Pairwise.of_map Ky.n (λa b h e=>h (by rw [e])) hkn
 have hkl:ks.length=fs.length:=by rw [← hks,g_,R6]
 have hkf:∀a∈ks,∃l,(a.n,l)∈fs∧a=key t (a.n,l):=λa ha=>by
  rw [← hks,bh] at ha
  obtain ⟨x,hx,rfl⟩:=R_.mp ha
  exact ⟨x.2,hx,rfl⟩
 have hmz:∀a∈ks,∀b∈ks,b.v < a.v→Sz 9000 (dZ t a b):=λa ha b hb h=>by
  obtain ⟨l,hl,ea⟩:=hkf a ha
  obtain ⟨l',hl',eb⟩:=hkf b hb
  have hv:l'.v < l.v:=by rw [ea,eb] at h;exact h
  rw [ea,eb]
  exact (Bc (v:=l.v - l'.v) st ((sl _ hl).zE st) ((sl _ hl').zE st) (((sl _ hl).v.sub (k:=66) (sl _ hl').v).mono (by decide)) (by omega)).2.2.2
 rw [hrow]
 simp_all! [ar nDr,hD,R6]
 generalize hps:ks.zip ks.tail=ps
 have hpl:ps.length=ks.length - 1:=by rw [← hps,TL,List.length_tail];omega
 have hpm:∀x∈ps,x.1∈ks∧x.2∈ks:=λx hx=>by
  rw [← hps] at hx
  obtain ⟨i,h3,h4⟩:=cU.mp (show (x.1,x.2)∈_ from hx)
  exact ⟨R9 h3,R9 h4⟩
 have hup:∀i,∀x∈bM t cH (ps.take i),Sz 9000 x.m:=λi x hx=>by
  obtain ⟨p,hp',hc,rfl⟩:=gY _ hx
  have:=hpm p (SR hp')
  exact hmz _ this.1 _ this.2 (of_decide_eq_true hc)
 refine ⟨by omega,by omega,?_⟩
 have hrn:((ks.length:Int) - 1).toNat=ps.length:=by omega
 rw [hrn]
 obtain ⟨Inv,hInv⟩:∃Inv:Nat→Sr→Hq→Prop,∀i τ J',Inv i τ J'↔∃(u4 u5 u6 u7 u8 u9 u10 u11 u12:Option PV),τ=[some (.ref D),some (fr t),some (.fl (ks.map λk=>PV.str k.n)),some (.ref r),u4,u5,u6,u7,u8,u9,u10,u11,u12]∧J'=put J r (.lst ((bM t cH (ps.take i)).map aD.v)):=⟨_,λ_ _ _=>Iff.rfl⟩
 refine oX Inv ((hInv _ _ _).mpr ⟨_,_,_,_,_,_,_,_,_,rfl,rfl⟩) ?_ ?_
 ·intro i τ J' hi hv
  obtain ⟨u4,u5,u6,u7,u8,u9,u10,u11,u12,rfl,rfl⟩:=(hInv _ _ _).mp hv
  clear hv
  have hpi:ps[i]?=some ps[i]:=R7 hi
  have et:ps.take (i + 1)=ps.take i ++ [ps[i]]:=by rw [SK,hpi];rfl
  rcases hab:ps[i] with ⟨a,y⟩
  rw [hab] at hpi et
  have hpi0:=hpi
  rw [← hps] at hpi
  obtain ⟨ha,hb⟩:=SU.mp hpi
  rw [TQ] at hb
  simp only at ha hb
  have hak:=R9 ha
  have hbk:=R9 hb
  have srt:=gX t cH (ps.take i)
  have szs:=hup i
  have hle:=m9 t cH (ps.take i)
  rw [Sy] at hle
  have ef2:bM t cH (ps.take (i + 1))=gK t cH (bM t cH (ps.take i)) (a,y):=by rw [et];exact dQ _ _ _ _
  have hdr:cX a.n y.n (bM t cH (ps.take i))=bM t cH (ps.take i):=by
   refine BD (p:=(a,y)) (vO.of hkn λp hp=>?_) λhm=>?_
   ·rcases Se.mp hp with hp | hp
    ·exact hpm p (SR hp)
    ·rw [Si] at hp;subst hp;exact ⟨hak,hbk⟩
   ·obtain ⟨j,hj⟩:=Sx.mp hm
    rw [List.getElem?_take] at hj
    split at hj
    ·rename_i hji
     rw [← hps] at hj
     obtain ⟨h1,_⟩:=SU.mp hj
     simp only at h1
     obtain ⟨k1,e1⟩:=R8.mp h1
     obtain ⟨k2,e2⟩:=R8.mp ha
     have:=(S9 hkd).mp (e1.trans e2.symm)
     omega
    ·cases hj
  generalize bM t cH (ps.take i)=rows at hle ef2 srt szs hdr ⊢
  obtain ⟨l,hmem,ea⟩:=hkf a hak
  obtain ⟨l',hmem',eb⟩:=hkf y hbk
  have hvn:lT (bO fs) a.n=some l.V:=lU (f:=aZ.V) hnd hmem
  have hvn':lT (bO fs) y.n=some l'.V:=lU (f:=aZ.V) hnd hmem'
  have sll:=sl _ hmem
  have sla:=sll.zE st
  have sll':=sl _ hmem'
  have sla':=sll'.zE st
  have h1:cV (ks.map λk=>PV.str k.n) (0 + (i:Int))=some (.str a.n):=by rw [Int.zero_add];exact aY (by rw [Sb,ha];rfl)
  have h2:cV (ks.map λk=>PV.str k.n) (0 + (i:Int) + 1)=some (.str y.n):=by rw [Int.zero_add,show (i:Int) + 1=((i + 1:Nat):Int) by omega];exact aY (by rw [Sb,hb];rfl)
  have eav:a.v=l.v:=by rw [ea];rfl
  have ebv:y.v=l'.v:=by rw [eb];rfl
  simp_all! [h1,ar nDr,hD,hvn]
  refine ⟨l,t,rfl,sll.m.mono (by decide),sll.p.mono (by decide),st.mono (by decide),sll.v,?_⟩
  simp_all! [h2,ar nDr,hD,hvn']
  refine ⟨l',t,rfl,sll'.m.mono (by decide),sll'.p.mono (by decide),st.mono (by decide),sll'.v,?_⟩
  simp_all! [h1,h2,ar nDr,hD,hvn,hvn',tm]
  by_cases c1n:¬ 0 < l.v - l'.v
  ·rw [if_neg c1n]
   have hc:cH (a,y)=false:=decide_eq_false (λz=>by have:y.v < a.v:=z;omega)
   have e:gK t cH rows (a,y)=rows:=by unfold gK;rw [if_neg (by rw [hc];decide)]
   exact (hInv _ _ _).mpr ⟨_,_,_,_,_,_,_,_,_,rfl,by rw [ef2,e]⟩
  have c1:=Decidable.not_not.mp c1n
  rw [if_pos c1]
  have bv:Bd 70 (l.v - l'.v):=(sll.v.sub (k:=66) sll'.v).mono (by decide)
  obtain ⟨z1,z2,z3,z4⟩:=Bc st sla sla' bv c1
  have ew:t + (l'.at t - l.at t) / ((l.v - l'.v:Int):Rat)=dZ t a y:=by rw [ea,eb];rfl
  have hd:0 < (t.den:Int) * (((l.at t).den:Int) * ((l'.at t).den:Int) * (l.v - l'.v)):=Int.mul_pos (eJ _) (Int.mul_pos (Int.mul_pos (eJ _) (eJ _)) c1)
  simp_all! []
  refine ⟨.of sla'.num sla.den,.of sla.num sla'.den,?_⟩
  simp_all! []
  refine ⟨.of sla.den sla'.den,.of (Bd.mul (k:=1580) sla.den sla'.den) bv,?_⟩
  simp_all! [lR]
  refine ⟨.of st.num z1,.of z2 st.den,.of st.den z1,hd,z3.mono (by decide),?_⟩
  rw [Bb c1,ew]
  rw [ew] at z4
  have hcp:cH (a,y)=true:=decide_eq_true (by show y.v < a.v;omega)
  have eput:gK t cH rows (a,y)=jk ⟨dZ t a y,a.n,y.n⟩ rows:=by
   unfold gK
   rw [if_pos hcp]
   show jk _ (cX a.n y.n rows)=_;rw [hdr];rfl
  generalize dZ t a y=wh at z4 eput ⊢
  simp_all! [h1,h2,Jv]
  obtain ⟨row,hrow'⟩:∃row:aD,aD.mk wh a.n y.n=row:=⟨_,rfl⟩
  have erm:row.m=wh:=by rw [← hrow']
  rw [hrow'] at eput ⊢
  refine tj (V:=aD.v) (lt:=aD.lt) (ys:=rows) (b:=row) (iO:=3) (iA:=12) (iR:=11) rfl rfl rfl (by decide) (by decide) au (λx hx R hR=>.inr ⟨x,row,rfl,szs x hx,by rw [erm];exact z4,hR⟩) (λhx hy h k=>xB srt hx hy h k) λj hj hlow hhigh=>?_
  simp_all! [au]
  refine ⟨_,j,rfl,rfl,by rw [R6];exact hj,ba (by rw [R6];omega),by omega,?_⟩
  rw [gj]
  refine (hInv _ _ _).mpr ⟨_,_,_,_,_,_,_,_,_,rfl,?_⟩
  rw [ef2,eput,← z_ hj hlow hhigh,Sk,Sd,Ti,TR]
 ·intro τ J' hv
  obtain ⟨u4,u5,u6,u7,u8,u9,u10,u11,u12,rfl,rfl⟩:=(hInv _ _ _).mp hv
  rw [SO,← hps,← hks,rg hkn0]
  simp_all! []
  exact Fg.oY (g7 hr') au hr' q
abbrev qJ:Stmt:=(top 63)
abbrev fM:List Str:=["_law_lane","_law_legs","_law_clock"]
theorem Ck:L2.av ["_law_lane","_law_legs","_law_clock"] ["_law_lane","_law_legs","_law_clock"] (L2.aj qJ):=dT
def j3 (cN cL:Addr):cI:=λxs J Q _=>∃p L D ep gs,xs=[.ref p,.ref D,fr L.t]∧bc cN cL J p L∧df L∧J D=some (.dct (bO gs) ep)∧(gs.map (·.1)).Nodup∧gs.length≤20∧(∀x∈gs,pH 240 x.2)∧Iq L.t L.fs gs∧Q (.bl true) J
theorem yK {cN cL f:Addr} {fd:FuncData} (F:cm K "_law_stands" "_law_stands" qJ f fd) (Z:bT mg) (xM:bt P w K mg base 2 "_law_part" iL pw) (Fz:bt P w K mg base 1 "_law_words" kX AY) (tW:bt P w K mg base 3 "_law_order" gJ qW) (xN:bt P w K mg base 4 "_law_passrows" hZ qX) (Bh:bt P w K mg base 4 "_law_ringdue" jf EZ)
  (iD:dk P w K mg base cN 1 "clock" kO (xt cN cL)) (iF:dk P w K mg base cN 1 "order" kQ (xw cN cL)) (iC:dk P w K mg base cN 7 "bells" kM (xr cN cL)):aJ P w K mg base (cY P w) 8 f fd fM (dI K (j3 cN cL)):=by
 simp_arith [Ck,(ai (a_ (cO (bL (aQ xM B hr (af (e8 (pl:=_) iD B hr (rv 0)) (af (rv 2) ah))))) (aq (az d7)) aP)
   (ai (a_ (cO (bL (aQ Fz B hr (af (e8 (pl:=_) iF B hr (rv 0)) (af (aQ tW B hr (af (rv 1) (af (rv 2) ah))) ah))))) (aq (az d7)) aP)
   (aq (az (aQ xN B hr (af (e8 (pl:=_) iC B hr (rv 0)) (af (aQ Bh B hr (af (rv 1) (af (rv 2) ah))) ah)))))))]
 ·obtain ⟨p,L,D,ep,gs,rfl,_⟩:=h;rfl
 obtain ⟨p,L,D,ep,gs,rfl,b,ok,hD,hnd,hgl,sg,same,q⟩:=h
 have bo:=b.ob
 have st:Sz 240 L.t:=(wu ok.ts).mono (by decide)
 have e1:cT L.t gs=L.row:=by rw [ok.row];exact wM hnd ok.zT λx=>(same x).symm
 have e2:eI L.t (gs.map (key L.t))=eI L.t (L.fs.map (key L.t)):=ye (by rw [cZ];exact hnd) ok.knd λx=>(same x).symm
 have hrl:=ok.rl
 have hbl:=yf L.t (L.fs.map (key L.t)) ok.knd
 rw [R6] at hbl
 have hfl:=ok.Mz
 refine hX ?_
 simp_all! [bo]
 refine ⟨f9 _ _ _ _,p,L,rfl,b,L.t,rfl,?_⟩
 simp_all! [bo]
 refine ⟨f9 _ _ _ _,p,L,rfl,b,.inl ?_⟩
 refine ⟨D,gs,ep,L.t,rfl,hD,hnd,by omega,st.mono (by decide),λx hx=>(sg x hx).mono (by decide),?_⟩
 rw [e1]
 refine ⟨L.row,rfl,by omega,?_⟩
 simp_all! [bo]
 refine ⟨f9 _ _ _ _,p,L,rfl,b,ok,.inl ?_⟩
 refine ⟨D,gs,ep,L.t,rfl,hD,hnd,hgl,st,sg,?_⟩
 rw [e2]
 exact ⟨_,_,rfl,rfl,by omega,q⟩
def vJ:List aZ→Prop
 | a :: b :: r=>b.p=a.at b.m∧vJ (b :: r)
 | _=>True
theorem j_:∀(ls:List aZ) (l:aZ),vJ (ls ++ [l])↔vJ ls∧∀k,ls.getLast?=some k→l.p=k.at l.m
 | [],l=>⟨λ_=>⟨trivial,λk h=>nomatch h⟩,λ_=>trivial⟩
 | [a],l=>⟨λh=>⟨trivial,λk e=>by cases e;exact h.1⟩,λh=>⟨h.2 a rfl,trivial⟩⟩
 | a :: b :: r,l=>by
  have ih:=j_ (b :: r) l
  show (b.p=a.at b.m∧vJ ((b :: r) ++ [l]))↔_
  rw [ih,List.getLast?_cons_cons]
  constructor
  ·rintro ⟨h1,h2,h3⟩;exact ⟨⟨h1,h2⟩,h3⟩
  ·rintro ⟨⟨h1,h2⟩,h3⟩;exact ⟨h1,h2,h3⟩
def gW (l l':aZ):Prop:=l.v=l'.v∧∀t,l.at t=l'.at t
theorem gW.key {l l':aZ} (h:gW l l') (n:Str) (t:Rat):key t (n,l)=key t (n,l'):=by unfold Ov.key;simp only;rw [h.1,h.2 t]
theorem F0 (l:aZ):l.at l.m=l.p:=by unfold aZ.at;grind
theorem AE {l l':aZ} {t:Rat} (hv:l.v=l'.v) (h:l.at t=l'.at t):gW l l':=⟨hv,λs=>by
 unfold aZ.at at h ⊢
 rw [hv] at h ⊢
 generalize (l'.v:Rat)=x at h ⊢
 grind⟩
theorem oG {rows:List aZ} {t:Rat} {v:Int} (h:vJ rows) (ne:rows≠[]):vJ (turned rows t v)∧∀l,rows.getLast?=some l→∀l',(turned rows t v).getLast?=some l'→gW ⟨t,l.at t,v⟩ l':=by
 obtain ⟨ls,l,rfl⟩:∃ls l,rows=ls ++ [l]:=⟨rows.dropLast,rows.getLast ne,(S5 ne).symm⟩
 obtain ⟨h1,h2⟩:=(j_ ls l).mp h
 have new:∀{q:List aZ},(q ++ [aZ.mk t (l.at t) v]).getLast?=some (aZ.mk t (l.at t) v):=λ{q}=>SX ..
 rw [gx]
 simp only [SX,Option.some.injEq]
 split
 ·rename_i e
  have el:l.at t=l.p:=by rw [← e];exact F0 l
  split
  ·rename_i ev
   refine ⟨h1,λl0 h0 l' h'=>?_⟩
   subst h0
   rw [h'] at ev
   have hv:l'.v=v:=Option.some.inj ev
   have hp:=h2 l' h'
   rw [e] at hp
   refine AE (t:=t) hv.symm ?_
   show l.at t + (t - t) * (v:Rat)=_
   rw [← hp,el];grind
  ·refine ⟨(j_ _ _).mpr ⟨h1,λk hk=>?_⟩,λl0 h0 l' h'=>?_⟩
   ·show l.at t=k.at t
    rw [el,h2 k hk,e]
   ·subst h0
    rw [new] at h';cases h';exact ⟨rfl,λ_=>rfl⟩
 ·split
  ·rename_i ev
   refine ⟨h,λl0 h0 l' h'=>?_⟩
   subst h0
   rw [SX] at h';cases h'
   refine AE (t:=t) ev.symm ?_
   show l.at t + (t - t) * (v:Rat)=_
   grind
  ·refine ⟨(j_ _ _).mpr ⟨h,λk hk=>?_⟩,λl0 h0 l' h'=>?_⟩
   ·rw [SX] at hk;cases hk;rfl
   ·subst h0
    rw [new] at h';cases h';exact ⟨rfl,λ_=>rfl⟩
structure Rl (L:Ln) (gs:List (Str × aZ)):Prop where
 nm:gs.map (·.1)=L.fs.map (·.1)
 ln:∀n l l',(n,l)∈gs→(n,l')∈L.fs→gW l l'
 ck:∀x∈gs,tS x.2
 le:∀x∈gs,x.2.m≤L.t
 ct:∀c∈L.cs,vJ c.w
theorem Rl.same {L:Ln} {gs:List (Str × aZ)} (h:Rl L gs) (t:Rat):Iq t L.fs gs:=λx=>by
 have other:∀{as bs:List (Str × aZ)},as.map (·.1)=bs.map (·.1)→∀{n l},(n,l)∈as→∃l',(n,l')∈bs:=λ{as bs} e {n l} hm=>by
  have:n∈bs.map (·.1):=by rw [← e];exact R_.mpr ⟨_,hm,rfl⟩
  obtain ⟨y,hy,e'⟩:=R_.mp this
  exact ⟨y.2,by rw [← e'];exact hy⟩
 rw [R_,R_]
 constructor
 ·rintro ⟨⟨n,l⟩,hm,rfl⟩
  obtain ⟨l',hl'⟩:=other h.nm.symm hm
  exact ⟨(n,l'),hl',(h.ln n l' l hl' hm).key n t⟩
 ·rintro ⟨⟨n,l⟩,hm,rfl⟩
  obtain ⟨l',hl'⟩:=other h.nm hm
  exact ⟨(n,l'),hl',((h.ln n l l' hm hl').key n t).symm⟩
theorem Rl.sz {L:Ln} {gs:List (Str × aZ)} (h:Rl L gs):∀x∈gs,pH 240 x.2:=λx hx=>by
 have hk:=h.ck x hx
 exact ⟨hk.Rg.mono (by decide),hk.Rk.mono (by decide),.small (by have:=hk.v;omega) (by have:=hk.v;omega)⟩
theorem Rl.nd {L:Ln} {gs:List (Str × aZ)} (h:Rl L gs) (ok:bA L):(gs.map (·.1)).Nodup:=by rw [h.nm];exact ok.zT
theorem Rl.len {L:Ln} {gs:List (Str × aZ)} (h:Rl L gs):gs.length=L.fs.length:=by have:=congrArg Tc h.nm;rw [R6,R6] at this;exact this
def Fd (n:Str) (t:Rat) (v:Int) (gs:List (Str × aZ)):List (Str × aZ):=gs.map λx=>if x.1=n then (x.1,⟨t,x.2.at t,v⟩) else x
theorem JW {L:Ln} {f:Cf→Cf} (hn:∀c,(f c).n=c.n∧(f c).a=c.a∧(f c).r=c.r∧(f c).g=c.g) {L':Ln} (e:L'.cs=L.cs.map f):L'.fs=L.CB.map λc=>(c.n,(f c).cur):=by
 unfold Ln.fs Ln.CB
 rw [e,S3,Sl]
 have e1:(λc:Cf=>c.g.isNone) ∘ f=λc=>c.g.isNone:=by funext c;show (f c).g.isNone=_;rw [(hn c).2.2.2]
 rw [e1]
 exact Tj λc _=>by show ((f c).n,(f c).cur)=_;rw [(hn c).1]
theorem C_ {c:Cf} {t:Rat} {v:Int} (h:vJ c.w) (ne:c.w≠[]):gW ⟨t,c.cur.at t,v⟩ (c.turn t v).cur:=by
 have h1:=(Cf.l8 ne).1
 have h2:=(Cf.l8 (c:=c.turn t v) (Cu ne)).1
 exact (oG h ne).2 _ h1 _ h2
theorem gW.turn {l l':aZ} (h:gW l l') (t:Rat) (v:Int):gW ⟨t,l.at t,v⟩ ⟨t,l'.at t,v⟩:=by rw [h.2 t];exact ⟨rfl,λ_=>rfl⟩
theorem gW.trans {l l' l'':aZ} (h:gW l l') (k:gW l' l''):gW l l'':=⟨h.1.trans k.1,λt=>(h.2 t).trans (k.2 t)⟩
theorem Rl.turn {L L':Ln} {gs:List (Str × aZ)} (h:Rl L gs) (ok:bA L) {n:Str} {v:Int} (hv:v.natAbs≤1000) (e:L'.cs=L.cs.map (gw n L.t v)) (et:L'.t=L.t):Rl L' (Fd n L.t v gs):=by
 have hn:=A9 n L.t v
 have hfs:=JW hn e
 have nm:(Fd n L.t v gs).map (·.1)=gs.map (·.1):=by
  unfold Fd;rw [Sl];exact Tj λx _=>by show (if x.1=n then (x.1,_) else x).1=x.1;split <;> rfl
 refine ⟨?_,?_,?_,?_,?_⟩
 ·rw [nm,h.nm,hfs];unfold Ln.fs;rw [Sl,Sl];rfl
 ·intro m l l' hl hl'
  obtain ⟨x,hx,ex⟩:=R_.mp hl
  rw [hfs] at hl'
  obtain ⟨c,hc,ec⟩:=R_.mp hl'
  have hcs:=(Ln.eR.mp hc).1
  have hold:(c.n,c.cur)∈L.fs:=R_.mpr ⟨c,hc,rfl⟩
  cases ec
  by_cases z:x.1=n
  ·rw [if_pos z] at ex
   have ex1:x.1=c.n:=(Prod.mk.inj ex).1
   have ex2:aZ.mk L.t (x.2.at L.t) v=l:=(Prod.mk.inj ex).2
   subst ex2
   have hs:=h.ln x.1 x.2 c.cur hx (by rw [ex1];exact hold)
   have zc:c.n=n:=by rw [← z];exact ex1.symm
   unfold gw
   rw [if_pos zc]
   exact (hs.turn L.t v).trans (C_ (h.ct c hcs) (ok.ne c hcs))
  ·rw [if_neg z] at ex
   subst ex
   have zc:¬ c.n=n:=z
   unfold gw
   rw [if_neg zc]
   exact h.ln c.n l c.cur hx hold
 ·intro x hx
  obtain ⟨y,hy,rfl⟩:=R_.mp hx
  split
  ·exact (h.ck y hy).at (h.le y hy) ok.ts hv
  ·exact h.ck y hy
 ·intro x hx
  rw [et]
  obtain ⟨y,hy,rfl⟩:=R_.mp hx
  split
  ·exact Rat.le_refl
  ·exact h.le y hy
 ·intro c hc
  rw [e] at hc
  obtain ⟨c0,h0,rfl⟩:=R_.mp hc
  unfold gw
  split
  ·exact (oG (h.ct c0 h0) (ok.ne c0 h0)).1
  ·exact h.ct c0 h0
theorem Rl.join {L L':Ln} {gs:List (Str × aZ)} (h:Rl L gs) (ok':bA L') {n:Str} {x v:Int} (hv:v.natAbs≤1000) (hx:x.natAbs≤1000000) (j:L.joined n x v L') (t0:0≤L.t) (ts:Sc gy MM L.t) (hnew:n ∉ L.fs.map (·.1)):Rl L' (gs ++ [(n,⟨L.t,(x:Rat),v⟩)]):=by
 obtain ⟨a,r,ecs,et⟩:=j
 have efs:L'.fs=L.fs ++ [(n,⟨L.t,(x:Rat),v⟩)]:=zU L ecs rfl
 refine ⟨?_,?_,?_,?_,?_⟩
 ·rw [efs,Sk,Sk,h.nm]
 ·intro m l l' hl hl'
  rw [efs] at hl'
  have h1:∀{k},(n,k)∈gs→False:=λhk=>hnew (by rw [← h.nm];exact R_.mpr ⟨_,hk,rfl⟩)
  have h2:∀{k},(n,k)∈L.fs→False:=λhk=>hnew (R_.mpr ⟨_,hk,rfl⟩)
  rcases Se.mp hl with hl | hl <;> rcases Se.mp hl' with hl' | hl'
  ·exact h.ln m l l' hl hl'
  ·rw [Si] at hl';cases hl';exact (h1 hl).elim
  ·rw [Si] at hl;cases hl;exact (h2 hl').elim
  ·rw [Si] at hl hl';cases hl;cases hl';exact ⟨rfl,λ_=>rfl⟩
 ·intro y hy
  rcases Se.mp hy with hy | hy
  ·exact h.ck y hy
  ·rw [Si] at hy;subst hy;exact tS.new t0 ts hx hv
 ·intro y hy
  rw [et]
  rcases Se.mp hy with hy | hy
  ·exact h.le y hy
  ·rw [Si] at hy;subst hy;exact Rat.le_refl
 ·intro c hc
  rw [ecs] at hc
  rcases Se.mp hc with hc | hc
  ·exact h.ct c hc
  ·rw [Si] at hc;subst hc;exact trivial
def fE (n:Str) (gs:List (Str × aZ)):List (Str × aZ):=gs.filter λx=>decide (x.1≠n)
theorem Rl.leave {L L':Ln} {gs:List (Str × aZ)} (h:Rl L gs) {n:Str} (e:L'.cs=L.cs.map (bN n L.t)) (et:L'.t=L.t):Rl L' (fE n gs):=by
 have hfs:L'.fs=L.fs.filter λx=>decide (x.1≠n):=wd e
 have hf:∀l:List (Str × aZ),(l.filter λx=>decide (x.1≠n)).map (·.1)=(l.map (·.1)).filter λy=>decide (y≠n):=λl=>by rw [S3];rfl
 refine ⟨?_,?_,?_,?_,?_⟩
 ·unfold fE;rw [hf,hfs,hf,h.nm]
 ·intro m l l' hl hl'
  rw [hfs] at hl'
  exact h.ln m l l' (Sg.mp hl).1 (Sg.mp hl').1
 ·intro x hx;exact h.ck x (Sg.mp hx).1
 ·intro x hx;rw [et];exact h.le x (Sg.mp hx).1
 ·intro c hc
  rw [e] at hc
  obtain ⟨c0,h0,rfl⟩:=R_.mp hc
  rw [(eY n L.t c0).2.2.2];exact h.ct c0 h0
theorem JP {c:k9} {a u:ip} {D:En} {τ:Sr} {J:Hq} (hc:∀R:Bool→Hq→Prop,R false J→c τ J R) (hu:u D τ J):K7 (Hy c a Ax) u D τ J :=
 ⟨λτ' J'=>τ'=τ∧J'=J,hc _ (by rw [if_neg (by decide)];exact ⟨rfl,rfl⟩),λτ' J' h=>by obtain ⟨rfl,rfl⟩:=h;exact hu⟩
theorem F9 {c:k9} {a u:ip} {D:En} {τ:Sr} {J:Hq} (M:Sr→Hq→Prop) (hc:∀R:Bool→Hq→Prop,R true J→c τ J R) (ha:a { D with nx:=M } τ J) (hu:∀τ' J',M τ' J'→u D τ' J'):K7 (Hy c a Ax) u D τ J :=
 ⟨M,hc _ (by rw [if_pos rfl];exact ha),hu⟩
theorem Dt {m:Rat} (h0:0≤m) (hd:m.den≤60) (h1:m.num≤1000000 * (m.den:Int)):i8 m.num m.den=true:=by
 refine decide_eq_true ⟨by omega,by have:=m.den_pos;omega,?_,Rat.num_nonneg.mpr h0,h1⟩
 have:=m.reduced
 unfold Int.gcd
 exact this
theorem BK {c q:Rat} (h:Later c q) (hc:c.den≤60):q.den≤60:=by
 rcases h with rfl | ⟨u,s,u0,u1,s0,s1,rfl⟩
 ·exact hc
 ·have:=uh (t:=(c.num * (u:Int)).fdiv (c.den:Int) + (s:Int)) (b:=(u:Int)) (by omega)
  omega
theorem ot {q:Rat} (h:Later 0 q):q.num≤1000000 * (q.den:Int)∧q≤500:=by
 have h2:q≤500:=by
  rcases h with rfl | ⟨u,s,u0,u1,s0,s1,rfl⟩
  ·decide
  ·have e0:((0:Rat).num * (u:Int)).fdiv ((0:Rat).den:Int)=0:=by show ((0:Int) * u).fdiv 1=0;rw [Int.zero_mul];rfl
   rw [e0,Int.zero_add,Rat.divInt_eq_div]
   have hu:(0:Rat) < ((u:Int):Rat):=by exact_mod_cast (show (0:Int) < u by omega)
   have h1:((s:Int):Rat)≤500 * ((u:Int):Rat):=by exact_mod_cast (show (s:Int)≤500 * u by omega)
   generalize ((s:Int):Rat)=x at h1 ⊢
   generalize ((u:Int):Rat)=y at h1 hu ⊢
   have e:x / y * y=x:=by grind
   generalize x / y=z at e ⊢
   by_cases c:500 < z
   ·have:0 < (z - 500) * y:=Rat.mul_pos (by grind) hu
    grind
   ·grind
 refine ⟨?_,h2⟩
 have:=(Rat.le_iff q 500).mp h2
 have h3:(500:Rat).num=500:=rfl
 have h4:((500:Rat).den:Int)=1:=rfl
 rw [h3,h4] at this
 omega
theorem Ki {q:Rat}:q.num≤1000000 * (q.den:Int)↔q≤1000000:=by
 rw [Rat.le_iff]
 have h3:(1000000:Rat).num=1000000:=rfl
 have h4:((1000000:Rat).den:Int)=1:=rfl
 rw [h3,h4]
 omega
structure Wk (cN cL:Addr) (J0:Hq) (S0:Addr→Prop) (J:Hq) (p:Addr) (L:Ln) (D U:Addr) (gs:List (Str × aZ)) (ep:Nat) (used:List Str) (k:Nat):Prop where
 b:bc cN cL J p L
 ok:df L
 rl:Rl L gs
 hD:J D=some (.dct (bO gs) ep)
 hU:J U=some (.lst (used.map .str))
 nD:¬ L.own p D
 nU:¬ L.own p U
 mv:Mv J0 J S0 (λa=>L.own p a∨a=D∨a=U)
 td:L.t.den≤60
 tl:L.t≤((500 * k:Nat):Rat)
 wl:∀c∈L.cs,c.w.length≤1 + k
theorem Rl.go {L:Ln} {gs:List (Str × aZ)} (h:Rl L gs) {m:Rat} (hm:L.t≤m) {o:Addr} {row:List Str}:Rl { L with t:=m,o:=o,row:=row } gs:=⟨h.nm,h.ln,h.ck,λx hx=>Rat.le_trans (h.le x hx) hm,h.ct⟩
section
variable {cN cL:Addr} {J0 J:Hq} {S0:Addr→Prop} {p:Addr} {L:Ln} {D U:Addr} {gs:List (Str × aZ)} {ep:Nat} {used:List Str} {k:Nat}
theorem Wk.ne (h:Wk cN cL J0 S0 J p L D U gs ep used k):U≠D:=λe=>by have:=h.hU;rw [e,h.hD] at this;cases this
theorem Wk.kept (h:Wk cN cL J0 S0 J p L D U gs ep used k) {T:Addr} {o:HQ} (hT:J0 T=some o) (nT:¬ S0 T):J T=some o:=h.mv.keep _ _ hT nT
theorem Wk.next (h:Wk cN cL J0 S0 J p L D U gs ep used k) {J1:Hq} {L1:Ln} {gs1:List (Str × aZ)} {k1:Nat} (b1:bc cN cL J1 p L1) (ok1:df L1) (mv:Mv J J1 (L.own p) (L1.own p)) (rl1:Rl L1 gs1) (td:L1.t.den≤60) (tl:L1.t≤((500 * k1:Nat):Rat)) (wl:∀c∈L1.cs,c.w.length≤1 + k1) (ep':Nat):Wk cN cL J0 S0 (put J1 D (.dct (bO gs1) ep')) p L1 D U gs1 ep' used k1:=by
 have new:∀{x o},J x=some o→¬ L.own p x→¬ L1.own p x:=λhx nx z=>by
  rcases mv.own _ z with q | q
  ·exact nx q
  ·rw [hx] at q;cases q
 have nD1:=new h.hD h.nD
 have hD1:=mv.keep _ _ h.hD h.nD
 have hU1:=mv.keep _ _ h.hU h.nU
 have mv1:Mv J J1 (λa=>L.own p a∨a=D∨a=U) (λa=>L1.own p a∨a=D∨a=U) :=
  ⟨λa o e n=>mv.keep a o e λz=>n (.inl z),λa z=>z.elim (λz=>(mv.own a z).imp .inl id) (λz=>.inl (.inr z)),mv.mono⟩
 refine ⟨b1.keep λa u ow e=>?_,ok1,rl1,au,?_,nD1,new h.hU h.nU,(h.mv.trans mv1).trans (iH (.inr (.inl rfl)) λa z=>.inl z),td,tl,wl⟩
 ·rw [ar (λz=>by subst z;exact nD1 ow)];exact e
 ·rw [ar h.ne];exact hU1
theorem Wk.push (h:Wk cN cL J0 S0 J p L D U gs ep used k) (n:Str):Wk cN cL J0 S0 (put J U (.lst ((used ++ [n]).map .str))) p L D U gs ep (used ++ [n]) k:=by
 refine ⟨h.b.keep λa u ow e=>?_,h.ok,h.rl,?_,au,h.nD,h.nU,h.mv.trans (iH (.inr (.inr rfl)) λa z=>.inl z),h.td,h.tl,h.wl⟩
 ·rw [ar (λz=>by subst z;exact h.nU ow)];exact e
 ·rw [ar (λe=>h.ne e.symm)];exact h.hD
theorem Wk.up (h:Wk cN cL J0 S0 J p L D U gs ep used k):Sz 900 L.t∧(gs.map (·.1)).Nodup∧gs.length≤12∧∀x∈gs,pH 900 x.2 :=
 ⟨h.ok.Ot,h.rl.nd h.ok.tobA,by rw [h.rl.len];exact h.ok.Mz,λx hx=>(h.rl.sz x hx).mono (by decide)⟩
end
def Ir (ns:List Int) (k:Int):Int:=if k < (ns.length:Int) then ns.getD k.toNat 0 else 5 + 17 * k
def AI:cI:=λxs J Q _=>∃(ns:List Int) (k:Int),xs=[.fl (ns.map .int),.int k]∧0≤k∧k < 1000∧Q (.int (Ir ns k)) J
theorem D4 {f:Addr} {fd:FuncData} (F:cm K "_law_cell" "_law_cell" zf f fd) (Z:bT mg):aJ P w K mg base (cY P w) 1 f fd my (dI K AI):=by
 simp_arith [HI,(ai (a_ (aS i9 (rv 1) (aM dn rfl Z.len boot_len (af (rv 0) ah))) (aq (az (aw ay (rv 0) (rv 1)))) aP)
   (aq (az (aB bW ag (aB b_ ag (rv 1))))))]
 ·obtain ⟨ns,k,rfl,_⟩:=h;rfl
 obtain ⟨ns,k,rfl,h0,h1,q⟩:=h
 unfold Ir at q
 refine hX ?_
 simp_arith! [cQ,R6]
 split
 ·rename_i c
  rw [if_pos c] at q
  obtain ⟨j,rfl⟩:=Int.eq_ofNat_of_zero_le h0
  have hj:j < ns.length:=by omega
  refine nu (x:=.int ns[j]) (aY (by rw [Sb,R7 hj];rfl)) ?_
  simpa [Vb,hj] using q
 ·rename_i c
  rw [if_neg c] at q
  exact ⟨.of (.small (x:=17) (by decide) (by decide)) (.small (x:=k) (by omega) (by omega)),q⟩
def yq:List Str:=["BadName","Taken","Full","NoCraft","TooFar","BadMoment","Past","NotThere","NoWatch","NoTale"]
theorem Di:∀i,i < 10→gf i≠"":=by decide +kernel
theorem Gj (i:Nat) (hi:i < 10):yq.map (λx=>decide (x=gf i))=(SS 10).map λj=>decide (i=j):=by
 have:∀i,i < 10→yq.map (λx=>decide (x=gf i))=(SS 10).map λj=>decide (i=j):=by decide +kernel
 exact this i hi
def ig (i:Nat):Str:=if i < 10 then gf i else ""
def jA (i:Nat):List PV:=if i < 10 then jB i else []
theorem vV (j:Nat):F7 (.fl (jA j)):=by
 unfold jA
 split
 ·exact ⟨by simp [jB,El,nF,y6,wX (λk=>PV.bl (decide (j=k))) (λk=>y6 _)],by simp [jB,fP,fh,dep,dG,SS,List.range.loop]⟩
 ·exact ⟨by simp [El,wY],by simp [fP,fh,dep,dG]⟩
abbrev pf:Stmt:=(top 61)
abbrev gI:List Str:=["_law_due"]
theorem xk:L2.av ["_law_due","_law_some"] ["_law_due"] (L2.aj pf):=dT
def O_:PV→Str
 | .str x=>x
 | _=>""
def qR:cI:=λxs J Q _=>∃i,xs=[.str (ig i)]∧Q (.fl (jA i)) J
theorem B3 {f:Addr} {fd:FuncData} (F:cm K "_law_flags" "_law_flags" pf f fd) (Z:bT mg):aJ P w K mg base (cY P w) 1 f fd gI (dI K qR):=by
 simp_arith [xk,(ai (aE (i:=1) xk.nd (jh (uX [.str "BadName",.str "Taken",.str "Full",.str "NoCraft",.str "TooFar",.str "BadMoment",.str "Past",.str "NotThere",.str "NoWatch",.str "NoTale"] rfl [.str "BadName",.str "Taken",.str "Full",.str "NoCraft",.str "TooFar",.str "BadMoment",.str "Past",.str "NotThere",.str "NoWatch",.str "NoTale"] rfl)))
   (ai (a_ (aS (gi hr.bB) (rv 0) bP) (aq (az (jh ah))) aP)
   (aq (az (aB uN (jh (af d7 ah)) (Jo (L2.aj pf) ["_law_due","_law_some"] [("_law_due",0)] rfl rfl rfl (gn (rv 1)) (λ_ _ _ _ _ _=>(dv (gi hr.bB) (rv 0) (rv 1)))))))))]
 ·obtain ⟨i,rfl,_⟩:=h;rfl
 obtain ⟨i,rfl,q⟩:=h
 refine hX ?_
 simp_all! []
 by_cases hi:i < 10
 ·unfold ig jA at *
  rw [if_pos hi] at q ⊢
  rw [if_neg (Di i hi)]
  simp_all! [y9]
  refine ⟨λ_=>true,λx=>.bl (decide (O_ x=gf i)),⟨by decide +kernel,λJ' _=>⟨trivial,λx hx=>⟨⟨rfl,rfl⟩,λ_=>?_⟩⟩⟩,?_⟩
  ·obtain ⟨y,hy,rfl⟩:∃y∈yq,x=.str y:=by
    simp only [Sf,SF,or_false] at hx
    rcases hx with h | h | h | h | h | h | h | h | h | h <;> subst h <;> exact ⟨_,by decide +kernel,rfl⟩
   simp_arith! [cQ,O_]
   exact rfl
  ·have e:(([.str "BadName",.str "Taken",.str "Full",.str "NoCraft",.str "TooFar",.str "BadMoment",.str "Past",.str "NotThere",.str "NoWatch",.str "NoTale"]:List PV).filter λ_=>true).map (λx=>PV.bl (decide (O_ x=gf i)))=(SS 10).map λj=>PV.bl (decide (i=j)):=by
    have:=congrArg (U1 PV.bl) (Gj i hi)
    rw [Sl,Sl] at this
    exact this
   simp_arith! [cQ,e]
   refine ⟨by rw [R6,TX];exact dj (by decide),q⟩
 ·unfold ig jA at *
  rw [if_neg hi] at q ⊢
  rw [if_pos rfl]
  simp_all! []
  exact q
abbrev gP:Stmt:=(L2.inClass (top 44) 21)
abbrev jN:List Str:=["self","name"]
theorem qL:L2.av ["self","name"] ["self","name"] (L2.aj gP):=dT
def xu (cN cL eC:Addr):cI:=λxs J Q E=>∃p L n,xs=[.ref p,.str n]∧bc cN cL J p L∧bA L∧(∀c∈L.cs,c.n=n→Q (.ref c.a) J)∧(n ∉ L.cs.map Cf.n→E eC J)
theorem qh {cN cL eC f:Addr} {fd:FuncData} (F:cm K "log_of" "Lane.log_of" gP f fd) (Z:bT mg) (ax:eu K mg "Lane" cN) (aV:aI K cN "logs") (fq:Own K mg "NoCraft" eC):aJ P w K mg base (cY P w) 1 f fd jN (dI K (xu cN cL eC)):=by
 simp_arith [qL,(ai (a_ (aS G6 (rv 1) (bj ax.cl aV (rv 0))) (aq (d9 fq rfl cR B.kn rfl (af bP ah))) aP)
   (aq (az (aw fB (bj ax.cl aV (rv 0)) (rv 1)))))]
 ·obtain ⟨p,L,n,rfl,_⟩:=h;rfl
 obtain ⟨p,L,n,rfl,b,ok,q,qe⟩:=h
 have bo:=b.ob
 have bd:=b.dc
 refine hX ?_
 simp_all! [bo,BQ,bd,ok.Rx]
 by_cases c:n∈L.cs.map Cf.n
 ·rw [if_pos (by simpa using c)]
  obtain ⟨c0,hc,rfl⟩:=R_.mp c
  simp_all! [bo,BQ,bd,ok.va hc]
  exact q c0 hc rfl
 ·rw [if_neg (by simpa using c)]
  simp_all! [fQ]
  exact qe c
abbrev fT:Stmt:=(L2.inClass (top 44) 16)
abbrev jb:List Str:=["self","name"]
theorem oS:L2.av ["self","name"] ["self","name"] (L2.aj fT):=dT
def AS (cN cL eC:Addr):cI:=λxs J Q E=>∃p L n,xs=[.ref p,.str n]∧bc cN cL J p L∧bA L∧(∀c∈L.cs,c.n=n→Q (.fl (c.w.map aZ.V)) J∨∀l,J l=none→Q (.ref l) (put J l (.lst (c.w.map aZ.V))))∧(n ∉ L.cs.map Cf.n→E eC J)
theorem oO {cN cL eC f:Addr} {fd:FuncData} (F:cm K "history" "Lane.history" fT f fd) (Z:bT mg) (ax:eu K mg "Lane" cN) (gA:dk P w K mg base cN 1 "log_of" jN (xu cN cL eC)) (lB:dk P w K mg base cL 1 "legs" oA (AN cL)):aJ P w K mg base (cY P w) 2 f fd jb (dI K (AS cN cL eC)):=by
 simp_arith [oS,(aq (az (e8 (pl:=_) lB B hr (bI (pl:=_) gA B hr (rv 0) (af (rv 1) ah)))))]
 ·obtain ⟨p,L,n,rfl,_⟩:=h;rfl
 obtain ⟨p,L,n,rfl,b,ok,q,qe⟩:=h
 have bo:=b.ob
 refine hX ?_
 simp_all! [bo]
 refine ⟨f9 _ _ _ _,p,L,n,rfl,b,ok,λc hc e=>?_,qe⟩
 have lo:=(b.lg c hc).o
 simp_all! [lo]
 exact ⟨PJ _ _,c.a,c.r,c.w,c.g,rfl,b.lg c hc,q c hc e⟩
def iz (L:Ln) (n:Str) (x v:Int):Nat :=
 if good n=false then 0 else if ¬ (x.natAbs≤1000000∧v.natAbs≤1000) then 4 else if n∈L.cs.map Cf.n then 1 else if 12≤L.row.length then 2 else 10
theorem Gf {L:Ln} {n:Str} {x v:Int} (h:iz L n x v≠10):iz L n x v < 10:=by
 unfold iz at h ⊢
 (repeat' split) <;> simp_all
theorem Gg {L:Ln} {n:Str} {x v:Int} (h1:good n=true) (h2:Fn x v) (h3:n ∉ L.cs.map Cf.n) (h4:L.row.length < 12):iz L n x v=10:=by
 unfold iz
 rw [if_neg (by rw [h1];decide),if_neg (λz=>z h2),if_neg h3,if_neg (by omega)]
abbrev zj:Stmt:=(top 64)
abbrev mz:List Str:=["_law_lane","_law_name","_law_place","_law_pace"]
theorem pj:L2.av ["_law_lane","_law_name","_law_place","_law_pace","_law_said_here","e"] ["_law_lane","_law_name","_law_place","_law_pace"] (L2.aj zj):=dT
def AW (cN cL T:Addr):cI:=λxs J Q _=>∃(p:Addr) (L:Ln) (n:Str) (x v:Int),xs=[.ref p,.str n,.int x,.int v]∧bc cN cL J p L∧df L∧J T=some .tab∧n.length≤sizeLine∧L.cs.length < 100∧(iz L n x v≠10→Q (.fl (jA (iz L n x v))) J) ∧
 (good n=true→Fn x v→n ∉ L.cs.map Cf.n→L.row.length < 12→∀J' L',bc cN cL J' p L'→df L'→L.joined n x v L'→Mv J J' (L.own p) (L'.own p)→Q (.fl []) J')
theorem D6 {cN cL T f W:Addr} {c:Nat→Addr} {fd:FuncData} (F:cm K "_law_said" "_law_said" zj f fd) (Z:bT mg) (Er:xW K mg W c) (b7:dk P w K mg base cN 8 "join" fi (pq cN cL T (c 0) (c 4) (c 1) (c 2))):aJ P w K mg base (cY P w) 9 f fd mz (dI K (AW cN cL T)):=by
 simp_arith [pj]
 ·obtain ⟨p,L,n,x,v,rfl,_⟩:=h;rfl
 obtain ⟨p,L,n,x,v,rfl,b,ok,hT,hn,hl,qe,q⟩:=h
 refine ⟨_,(ai (aE (i:=4) pj.nd (jh ah))
   (ai (EH (i:=5) (n:=4) Er rfl Er.mW pj.nd rfl (by decide) rfl (λ_ _ _ _ _ hx=>(aq (bJ (bI (pl:=_) b7 hx hr (rv 0) (af (rv 1) (af (rv 2) (af (rv 3) ah)))))))
   (λ_ _=>(bC (cF (i:=4) pj.nd rfl (Or.inl rfl) (gE (ak (aR (aW (K:=K) rfl) rfl Z.isinstance boot_isinstance (ak (pv 5) (ak (mq (v:=.ty "ValueError") rfl Er.nV PyProof.Rows.Boot.«ValueError» rfl) aO))) (ak (aR (aW (K:=K) rfl) rfl Z.isinstance boot_isinstance (ak (pv 5) (ak (bG (v:=.ref (c 0)) rfl (Er.own 0 (by decide)).mg rfl) aO))) (ak (aR (aW (K:=K) rfl) rfl Z.isinstance boot_isinstance (ak (pv 5) (ak (bG (v:=.ref (c 1)) rfl (Er.own 1 (by decide)).mg rfl) aO))) (ak (aR (aW (K:=K) rfl) rfl Z.isinstance boot_isinstance (ak (pv 5) (ak (bG (v:=.ref (c 2)) rfl (Er.own 2 (by decide)).mg rfl) aO))) (ak (aR (aW (K:=K) rfl) rfl Z.isinstance boot_isinstance (ak (pv 5) (ak (bG (v:=.ref (c 3)) rfl (Er.own 3 (by decide)).mg rfl) aO))) (ak (aR (aW (K:=K) rfl) rfl Z.isinstance boot_isinstance (ak (pv 5) (ak (bG (v:=.ref (c 4)) rfl (Er.own 4 (by decide)).mg rfl) aO))) (ak (aR (aW (K:=K) rfl) rfl Z.isinstance boot_isinstance (ak (pv 5) (ak (bG (v:=.ref (c 5)) rfl (Er.own 5 (by decide)).mg rfl) aO))) (ak (aR (aW (K:=K) rfl) rfl Z.isinstance boot_isinstance (ak (pv 5) (ak (bG (v:=.ref (c 6)) rfl (Er.own 6 (by decide)).mg rfl) aO))) (ak (aR (aW (K:=K) rfl) rfl Z.isinstance boot_isinstance (ak (pv 5) (ak (bG (v:=.ref (c 7)) rfl (Er.own 7 (by decide)).mg rfl) aO))) (ak (aR (aW (K:=K) rfl) rfl Z.isinstance boot_isinstance (ak (pv 5) (ak (bG (v:=.ref (c 8)) rfl (Er.own 8 (by decide)).mg rfl) aO))) (ak (aR (aW (K:=K) rfl) rfl Z.isinstance boot_isinstance (ak (pv 5) (ak (bG (v:=.ref (c 9)) rfl (Er.own 9 (by decide)).mg rfl) aO))) aO))))))))))))))) (λj hj σ H ea D h1 h2 q=>xD Er hj h1 h2 q))
   (aq (az (rv 4))))),?_⟩
 have bo:=b.ob
 simp_all! [bo]
 have d0:good n=false→iz L n x v=0:=λh=>by unfold iz;rw [if_pos h]
 have d4:good n=true→¬ Fn x v→iz L n x v=4:=λh h4=>by unfold iz;rw [if_neg (by rw [h];decide),if_pos (show ¬ (x.natAbs≤1000000∧v.natAbs≤1000) from h4)]
 have d1:good n=true→Fn x v→n∈L.cs.map Cf.n→iz L n x v=1:=λh h4 h1=>by unfold iz;rw [if_neg (by rw [h];decide),if_neg (λz=>z h4),if_pos h1]
 have d2:good n=true→Fn x v→n ∉ L.cs.map Cf.n→12≤L.row.length→iz L n x v=2:=λh h4 h1 h2=>by unfold iz;rw [if_neg (by rw [h];decide),if_neg (λz=>z h4),if_neg h1,if_pos h2]
 refine ⟨f9 _ _ _ _,p,L,n,x,v,rfl,b,ok,hT,hn,hl,λh0=>⟨0,by decide,rfl,hNq _ _ ?_⟩,λh0 h1=>⟨4,by decide,rfl,hNq _ _ ?_⟩,λh0 h1 h2=>⟨1,by decide,rfl,hNq _ _ ?_⟩,λh0 h1 h2 h3=>⟨2,by decide,rfl,hNq _ _ ?_⟩,λh0 h1 h2 h3 J' L' b' ok' j mv=>hNq _ _ ?_⟩
 ·have:=qe (by rw [d0 h0];decide);rw [d0 h0] at this;exact this
 ·have:=qe (by rw [d4 h0 h1];decide);rw [d4 h0 h1] at this;exact this
 ·have:=qe (by rw [d1 h0 h1 h2];decide);rw [d1 h0 h1 h2] at this;exact this
 ·have:=qe (by rw [d2 h0 h1 h2 h3];decide);rw [d2 h0 h1 h2 h3] at this;exact this
 ·exact q h0 h1 h2 h3 J' L' b' ok' j mv
abbrev nS:Stmt:=(top 65)
abbrev jg:List Str:=["_law_lane","_law_name"]
theorem i3:L2.av ["_law_lane","_law_name","_law_said_here","e"] ["_law_lane","_law_name"] (L2.aj nS):=dT
def tO (cN cL:Addr):cI:=λxs J Q _=>∃(p:Addr) (L:Ln) (n:Str),xs=[.ref p,.str n]∧bc cN cL J p L∧bA L∧n ∉ L.cs.map Cf.n∧Q (.bl true) J
theorem wG {cN cL f W:Addr} {c:Nat→Addr} {fd:FuncData} (F:cm K "_law_unknown" "_law_unknown" nS f fd) (Z:bT mg) (Er:xW K mg W c) (fF:dk P w K mg base cN 2 "history" jb (AS cN cL (c 3))) (tU:bt P w K mg base 1 "_law_flags" gI qR):aJ P w K mg base (cY P w) 3 f fd jg (dI K (tO cN cL)):=by
 simp_arith [i3]
 ·obtain ⟨p,L,n,rfl,_⟩:=h;rfl
 obtain ⟨p,L,n,rfl,b,ok,hn,q⟩:=h
 refine ⟨_,(ai (aE (i:=2) i3.nd (jh ah))
   (ai (EH (i:=3) (n:=2) Er rfl Er.mW i3.nd rfl (by decide) rfl (λ_ _ _ _ _ hx=>(aq (bJ (bI (pl:=_) fF hx hr (rv 0) (af (rv 1) ah)))))
   (λ_ _=>(bC (cF (i:=2) i3.nd rfl (Or.inl rfl) (gE (ak (aR (aW (K:=K) rfl) rfl Z.isinstance boot_isinstance (ak (pv 3) (ak (mq (v:=.ty "ValueError") rfl Er.nV PyProof.Rows.Boot.«ValueError» rfl) aO))) (ak (aR (aW (K:=K) rfl) rfl Z.isinstance boot_isinstance (ak (pv 3) (ak (bG (v:=.ref (c 0)) rfl (Er.own 0 (by decide)).mg rfl) aO))) (ak (aR (aW (K:=K) rfl) rfl Z.isinstance boot_isinstance (ak (pv 3) (ak (bG (v:=.ref (c 1)) rfl (Er.own 1 (by decide)).mg rfl) aO))) (ak (aR (aW (K:=K) rfl) rfl Z.isinstance boot_isinstance (ak (pv 3) (ak (bG (v:=.ref (c 2)) rfl (Er.own 2 (by decide)).mg rfl) aO))) (ak (aR (aW (K:=K) rfl) rfl Z.isinstance boot_isinstance (ak (pv 3) (ak (bG (v:=.ref (c 3)) rfl (Er.own 3 (by decide)).mg rfl) aO))) (ak (aR (aW (K:=K) rfl) rfl Z.isinstance boot_isinstance (ak (pv 3) (ak (bG (v:=.ref (c 4)) rfl (Er.own 4 (by decide)).mg rfl) aO))) (ak (aR (aW (K:=K) rfl) rfl Z.isinstance boot_isinstance (ak (pv 3) (ak (bG (v:=.ref (c 5)) rfl (Er.own 5 (by decide)).mg rfl) aO))) (ak (aR (aW (K:=K) rfl) rfl Z.isinstance boot_isinstance (ak (pv 3) (ak (bG (v:=.ref (c 6)) rfl (Er.own 6 (by decide)).mg rfl) aO))) (ak (aR (aW (K:=K) rfl) rfl Z.isinstance boot_isinstance (ak (pv 3) (ak (bG (v:=.ref (c 7)) rfl (Er.own 7 (by decide)).mg rfl) aO))) (ak (aR (aW (K:=K) rfl) rfl Z.isinstance boot_isinstance (ak (pv 3) (ak (bG (v:=.ref (c 8)) rfl (Er.own 8 (by decide)).mg rfl) aO))) (ak (aR (aW (K:=K) rfl) rfl Z.isinstance boot_isinstance (ak (pv 3) (ak (bG (v:=.ref (c 9)) rfl (Er.own 9 (by decide)).mg rfl) aO))) aO))))))))))))))) (λj hj σ H ea D h1 h2 q=>xD Er hj h1 h2 q))
   (aq (az (dv (gi hr.bB) (rv 2) (aQ tU B hr (af bP ah))))))),?_⟩
 have bo:=b.ob
 simp_all! [bo]
 refine ⟨f9 _ _ _ _,p,L,n,rfl,b,ok,λc hc e=>absurd (R_.mpr ⟨c,hc,e⟩) hn,λ_=>⟨3,by decide,rfl,hNq _ _ ?_⟩⟩
 have w3:ig 3=("NoCraft":Str):=by decide +kernel
 have cf:=vV 3
 simp_all! []
 refine Kx rfl ⟨3,by rw [w3],?_⟩
 have f3:jB 3=jA 3:=rfl
 rw [f3]
 refine ⟨cf,cf.1,?_⟩
 rw [eq_self]
 exact q
theorem C9:Jw 10 12=True:=eq_true ⟨by decide,by decide,by decide⟩
abbrev EI:Stmt:=(top 67)
abbrev oB:List Str:=["_law_number","_law_most"]
theorem EK:L2.av ["_law_number","_law_most","_law_some"] ["_law_number","_law_most"] (L2.aj EI):=dT
def Jq:cI:=λxs J Q _=>∃n m:Int,xs=[.int n,.int m]∧0≤n∧n < 2 ^ 40∧0 < m∧m≤1000000∧∀v:Int,v.natAbs≤2 ^ 42→Q (.int v) J
theorem GU {f:Addr} {fd:FuncData} (F:cm K "_law_far" "_law_far" EI f fd) (Z:bT mg):aJ P w K mg base (cY P w) 1 f fd oB (dI K Jq):=by
 simp_arith [EK,(ai (aE (i:=2) EK.nd (jh (af ag (af (rv 1) (af (EE zx (rv 1)) (af (aB bW (rv 1) ag) (af (aB dq (EE zx (rv 1)) ag) (af (aB bW (aB D' ag ag) (rv 0)) (af (aB dq (EE zx (aB D' ag ag)) (rv 0)) ah)))))))))
   (ai (a_ (aS i9 (aB dR (rv 0) ag) ag) (aq (az (aw ay (rv 2) (aB dR (rv 0) ag)))) aP)
   (aq (az (aB dq (aB dR (aB mn (rv 0) ag) (aB bW (aB b_ ag (rv 1)) ag)) (rv 1))))))]
 ·obtain ⟨n,m,rfl,_⟩:=h;rfl
 obtain ⟨n,m,rfl,n0,n1,m0,m1,q⟩:=h
 refine hX ?_
 simp_all! []
 refine ⟨C9 ▸ trivial,C9 ▸ trivial,hNq _ _ ?_⟩
 clear hNq Nq
 have e12:(10:Int) ^ Int.toNat 12=1000000000000:=by decide +kernel
 simp_all! [e12]
 refine ⟨by decide,?_⟩
 by_cases c:n % 10 < 7
 ·rw [if_pos c]
  refine ⟨by decide,?_⟩
  have c0:=Int.emod_nonneg n (show (10:Int)≠0 by decide)
  obtain ⟨v,hv,hb⟩:∃v:Int,cV [PV.int 0,PV.int m,PV.int (-m),PV.int (m + 1),PV.int (-m - 1),PV.int (1000000000000 + n),PV.int (-1000000000000 - n)] (n % 10)=some (.int v)∧v.natAbs≤2 ^ 42:=by
   have h:n % 10=0∨n % 10=1∨n % 10=2∨n % 10=3∨n % 10=4∨n % 10=5∨n % 10=6:=by omega
   rcases h with h | h | h | h | h | h | h <;> exact ⟨_,by rw [h];rfl,by omega⟩
  rw [hv]
  exact q v hb
 ·rw [if_neg c]
  refine hNq _ _ ?_
  clear hNq Nq
  simp_all! []
  have b64:∀n:Int,-(2 ^ 60)≤n→n≤2 ^ 60→Bd 64 n:=λn h1 h2=>.small (by omega) (by omega)
  refine ⟨⟨by decide,(b64 10 (by decide) (by decide)).mono (by decide)⟩,.of (b64 2 (by decide) (by decide)) (b64 m (by omega) (by omega)),by omega,?_⟩
  have h1:=Int.emod_nonneg (n.fdiv 10) (show 2 * m + 1≠0 by omega)
  have h2:=Int.emod_lt_of_pos (n.fdiv 10) (show 0 < 2 * m + 1 by omega)
  exact q _ (by omega)
abbrev lJ:Stmt:=(top 68)
abbrev hW:List Str:=["_law_name","_law_place","_law_pace","_law_fresh","_law_legs"]
theorem gr:L2.av ["_law_name","_law_place","_law_pace","_law_fresh","_law_legs","_law_bad","_law_sign"] ["_law_name","_law_place","_law_pace","_law_fresh","_law_legs"] (L2.aj lJ):=dT
def m7 (n:Str) (x v:Int) (fresh:List Str) (k:Nat):Nat :=
 if good n=false then 0 else if ¬ (x.natAbs≤1000000∧v.natAbs≤1000) then 4 else if n ∉ fresh then 1 else if 12≤k then 2 else 10
def EU:cI:=λxs J Q _=>∃(n:Str) (x v:Int) (fresh:List Str) (D:Addr) (gs:List (Str × aZ)) (ep:Nat),xs=[.str n,.int x,.int v,.fl (fresh.map .str),.ref D]∧J D=some (.dct (bO gs) ep)∧n.cps.size≤100∧x.natAbs≤2 ^ 60∧v.natAbs≤2 ^ 60∧Q (.str (ig (m7 n x v fresh gs.length))) J
theorem uH {f:Addr} {fd:FuncData} (F:cm K "_law_due_word" "_law_due_word" lJ f fd) (Z:bT mg):aJ P w K mg base (cY P w) 1 f fd hW (dI K EU):=by
 simp_arith [gr,(ai (aE (i:=5) gr.nd (Jp (dv i9 (aM zI rfl Z.len boot_len (af (rv 0) ah)) ag) (qC (dv oz (aM zI rfl Z.len boot_len (af (rv 0) ah)) ag))))
   (ai (fe cy rfl (Lb (rv 0)) (bX (i:=6) gr.nd) (aq (a_ (aS G7 (rv 6) bP) (aq (aE (i:=5) gr.nd d7)) aP)))
   (ai (a_ (Lf (rv 5)) (aq (az bP)) aP)
   (ai (a_ (fS (mE (aS oz (aM uf rfl Z.abs boot_abs (af (rv 1) ah)) ag) (iS (aS oz (aM uf rfl Z.abs boot_abs (af (rv 2) ah)) ag)))) (aq (az bP)) aP)
   (ai (a_ (aS Ak (rv 0) (rv 3)) (aq (az bP)) aP)
   (ai (a_ (aS wH (aM oW rfl Z.len boot_len (af (rv 4) ah)) ag) (aq (az bP)) aP)
   (aq (az bP))))))))]
 ·obtain ⟨n,x,v,fresh,D,gs,ep,rfl,_⟩:=h;rfl
 obtain ⟨n,x,v,fresh,D,gs,ep,rfl,hD,hn,hx,hv,q⟩:=h
 refine hX ?_
 simp_all! []
 have hl:n.length≤sizeLine:=Su hn (by decide)
 obtain ⟨b0,hb0⟩:∃b0,b0=(decide ((n.length:Int) < 1) || decide (8 < (n.length:Int))):=⟨_,rfl⟩
 suffices key:Nq [some (.str n),some (.int x),some (.int v),some (.fl (fresh.map .str)),some (.ref D),some (.bl b0),none] J by
  refine ⟨hl,?_⟩
  show (if decide ((n.length:Int) < 1)=true then _ else _)
  by_cases c:(n.length:Int) < 1
  ·rw [if_pos (decide_eq_true c)]
   rw [decide_eq_true c,Bool.true_or] at hb0
   rw [hb0] at key;exact key
  ·rw [if_neg (by rw [decide_eq_false c];decide)]
   rw [decide_eq_false c,Bool.false_or] at hb0
   rw [hb0] at key;exact ⟨hl,key⟩
 refine hNq _ _ ?_
 clear hNq Nq
 simp_all! [Rb]
 obtain ⟨Inv,hInv⟩:∃Inv:Nat→Sr→Hq→Prop,∀i τ J',Inv i τ J'↔∃u6:Option PV,τ=[some (.str n),some (.int x),some (.int v),some (.fl (fresh.map .str)),some (.ref D),some (.bl (b0 || (n.cps.toList.take i).any λch=>!(bY aX ch))),u6]∧J'=J:=⟨_,λ_ _ _=>Iff.rfl⟩
 refine jC Inv ((hInv _ _ _).mpr ⟨_,by rw [Uu,List.any_nil,Ux],rfl⟩) (λ_ _ _ _=>trivial) ?_ ?_
 ·intro i y τ J' hy hv
  obtain ⟨u6,rfl,rfl⟩:=(hInv _ _ _).mp hv
  clear hv
  have hi:i < n.cps.toList.length:=by have:=(R8.mp hy).1;rw [R6] at this;exact this
  rw [Sb,R7 hi] at hy
  cases hy
  have et:n.cps.toList.take (i + 1)=n.cps.toList.take i ++ [n.cps.toList[i]]:=by rw [SK,R7 hi];rfl
  generalize n.cps.toList[i]=ch at et
  have ea:(b0 || (n.cps.toList.take (i + 1)).any λch=>!(bY aX ch))=((b0 || (n.cps.toList.take i).any λch=>!(bY aX ch)) || !(bY aX ch)):=by rw [et,List.any_append,TH,List.any_nil,Ux,Bool.or_assoc]
  simp_all! []
  refine ⟨_,_,rfl,rfl,?_⟩
  show (if (!(bY aX ch))=true then _ else _)
  cases h:bY aX ch
  ·rw [if_pos (by rfl)]
   refine (hInv _ _ _).mpr ⟨some (.str (sgn ch)),?_,rfl⟩
   rw [ea,h];simp
  ·rw [if_neg (by decide)]
   refine (hInv _ _ _).mpr ⟨some (.str (sgn ch)),?_,rfl⟩
   rw [ea,h];simp
 intro τ J' hv
 obtain ⟨u6,rfl,rfl⟩:=(hInv _ _ _).mp hv
 clear hv hInv Inv
 rw [R6,SO]
 have eb:(b0 || n.cps.toList.any λch=>!(bY aX ch))=!(good n):=by
  have ek:∀k:Nat,(decide ((k:Int) < 1) || decide (8 < (k:Int)))=!(decide (1≤k) && decide (k≤8)):=λk=>by
   by_cases c1:1≤k
   ·by_cases c2:k≤8
    ·rw [decide_eq_true c1,decide_eq_true c2,decide_eq_false (show ¬ (k:Int) < 1 by omega),decide_eq_false (show ¬ 8 < (k:Int) by omega)];rfl
    ·rw [decide_eq_true c1,decide_eq_false c2,decide_eq_true (show 8 < (k:Int) by omega),Bool.or_true];rfl
   ·rw [decide_eq_false c1,decide_eq_true (show (k:Int) < 1 by omega)];rfl
  have e1:b0=!(decide (1≤n.cps.size) && decide (n.cps.size≤8)):=by rw [hb0];exact ek _
  have e2:(n.cps.toList.any λch=>!(bY aX ch))=!(n.cps.toList.all (bY aX)):=by rw [List.not_all_eq_any_not]
  unfold good
  rw [e1,e2]
  simp only [Bool.not_and]
 rw [eb]
 refine hNq _ _ ?_
 clear hNq Nq
 have w0:ig 0=("BadName":Str):=by decide +kernel
 have w4:ig 4=("TooFar":Str):=by decide +kernel
 have w1:ig 1=("Taken":Str):=by decide +kernel
 have w2:ig 2=("Full":Str):=by decide +kernel
 have w10:ig 10=("":Str):=by decide +kernel
 have hll:(bO gs).length=gs.length:=by unfold bO;rw [R6]
 simp_all! []
 by_cases cg:good n=false
 ·rw [if_pos cg]
  have:m7 n x v fresh gs.length=0:=by unfold m7;rw [if_pos cg]
  rw [this,w0] at q;exact q
 rw [if_neg cg]
 refine hNq _ _ ?_
 clear hNq Nq
 simp_all! []
 have ex:∀x:Int,((if x < 0 then -x else x):Int)=(x.natAbs:Int):=λx=>by split <;> omega
 rw [ex,ex]
 have far:¬ (x.natAbs≤1000000∧v.natAbs≤1000)→Q (.str "TooFar") J':=λz=>by
  have:m7 n x v fresh gs.length=4:=by unfold m7;rw [if_neg cg,if_pos z]
  rw [this,w4] at q;exact q
 by_cases cx:(1000000:Int) < (x.natAbs:Int)
 ·rw [if_pos cx];exact far (λz=>by omega)
 rw [if_neg cx]
 by_cases cv:(1000:Int) < (v.natAbs:Int)
 ·rw [if_pos cv];exact far (λz=>by omega)
 rw [if_neg cv]
 have cb:¬ ¬ (x.natAbs≤1000000∧v.natAbs≤1000):=λz=>z (by omega)
 refine hNq _ _ ?_
 clear hNq Nq far
 simp_all! []
 refine ⟨n,fresh,rfl,rfl,?_⟩
 show (if (!decide (n∈fresh))=true then _ else _)
 by_cases cf:n∈fresh
 ·rw [if_neg (by rw [decide_eq_true cf];decide)]
  refine hNq _ _ ?_
  clear hNq Nq
  simp_all! [hD,hll]
  by_cases c12:12≤gs.length
  ·rw [if_pos (by omega)]
   have:m7 n x v fresh gs.length=2:=by unfold m7;rw [if_neg cg,if_neg cb,if_neg (λz=>z cf),if_pos c12]
   rw [this,w2] at q;exact q
  ·rw [if_neg (by omega)]
   have:m7 n x v fresh gs.length=10:=by unfold m7;rw [if_neg cg,if_neg cb,if_neg (λz=>z cf),if_neg c12]
   rw [this,w10] at q
   refine hNq _ _ ?_
   clear hNq Nq
   simp_all! []
   exact q
 ·rw [if_pos (by rw [decide_eq_false cf];rfl)]
  have:m7 n x v fresh gs.length=1:=by unfold m7;rw [if_neg cg,if_neg cb,if_pos cf]
  rw [this,w1] at q;exact q
theorem p6 {n:Str} (hg:good n=true):n.length≤sizeLine:=by
 have h8:n.cps.size≤8:=by
  unfold good at hg
  rw [SA,SA] at hg
  exact of_decide_eq_true hg.1.2
 exact Su h8 (by decide)
structure Jn (cN cL T:Addr) (J:Hq) (p:Addr) (L:Ln) (D:Addr) (gs:List (Str × aZ)):Prop where
 b:bc cN cL J p L
 ok:df L
 rl:Rl L gs
 hD:∃ep,J D=some (.dct (bO gs) ep)
 nD:¬ L.own p D
 hT:J T=some .tab
theorem Jn.len {cN cL T:Addr} {J:Hq} {p:Addr} {L:Ln} {D:Addr} {gs:List (Str × aZ)} (h:Jn cN cL T J p L D gs):gs.length=L.row.length∧gs.length≤12:=by
 have h1:=h.rl.len
 have h2:L.row.length=L.fs.length:=by rw [h.ok.row,wO]
 have h3:=h.ok.rl
 omega
theorem Jn.mv {cN cL T:Addr} {J J':Hq} {p:Addr} {L L':Ln} {D:Addr} {gs gs':List (Str × aZ)} (h:Jn cN cL T J p L D gs) (b:bc cN cL J' p L') (ok:df L') (mv:Mv J J' (L.own p) (L'.own p)) (rl:Rl L' gs') (ep':Nat):Jn cN cL T (put J' D (.dct (bO gs') ep')) p L' D gs':=by
 obtain ⟨ep,hD⟩:=h.hD
 have hD':J' D=some (.dct (bO gs) ep):=mv.keep _ _ hD h.nD
 have nD':¬ L'.own p D:=λz=>by
  rcases mv.own _ z with z | z
  ·exact h.nD z
  ·rw [hD] at z;cases z
 have hT':=mv.keep _ _ h.hT (h.b.GO h.hT)
 exact ⟨b.keep λa o ow e=>by rw [ar (λz=>nD' (by rw [← z];exact ow))];exact e,ok,rl,⟨ep',au⟩,nD',by rw [ar (λz=>by rw [z,hD'] at hT';cases hT')];exact hT'⟩
theorem Jn.joined {cN cL T:Addr} {J J':Hq} {p:Addr} {L L':Ln} {D:Addr} {gs:List (Str × aZ)} {n:Str} {x v:Int} (h:Jn cN cL T J p L D gs) (hi:x.natAbs≤1000000∧v.natAbs≤1000) (hn:n ∉ L.cs.map Cf.n) (b:bc cN cL J' p L') (ok:df L') (j:L.joined n x v L') (mv:Mv J J' (L.own p) (L'.own p)) (ep':Nat) :
  qz (bO gs) n (aZ.mk L.t (x:Rat) v).V=bO (gs ++ [(n,⟨L.t,(x:Rat),v⟩)])∧Jn cN cL T (put J' D (.dct (bO (gs ++ [(n,⟨L.t,(x:Rat),v⟩)])) ep')) p L' D (gs ++ [(n,⟨L.t,(x:Rat),v⟩)])∧L'.t=L.t∧L'.cs.map Cf.n=L.cs.map Cf.n ++ [n]:=by
 have hnf:n ∉ L.fs.map (·.1):=λz=>hn (by
  rw [eX,R_] at z
  obtain ⟨c',hc',e'⟩:=z
  exact R_.mpr ⟨c',(Ln.eR.mp hc').1,e'⟩)
 have rl':=h.rl.join ok.tobA hi.2 hi.1 j h.ok.t0 h.ok.ts hnf
 have j2:=j
 obtain ⟨a,r,ecs,et⟩:=j2
 refine ⟨y4 (f:=aZ.V) (l:=⟨L.t,(x:Rat),v⟩) (by rw [h.rl.nm];exact hnf),h.mv b ok mv rl' ep',et,by rw [ecs,Sk];rfl⟩
abbrev s_again:Stmt:=(top 66)
abbrev kS:List Str:=["_law_lane","_law_legs","_law_fresh","_law_clock","_law_gone"]
theorem xi:L2.av ["_law_lane","_law_legs","_law_fresh","_law_clock","_law_gone","_law_name"] ["_law_lane","_law_legs","_law_fresh","_law_clock","_law_gone"] (L2.aj s_again):=dT
def AG (cN cL T:Addr):cI:=λxs J Q _=>∃(p:Addr) (L:Ln) (D:Addr) (gs:List (Str × aZ)) (ep:Nat) (fresh:List Str) (n:Str),xs=[.ref p,.ref D,.fl (fresh.map .str),fr L.t,.str n]∧bc cN cL J p L∧df L∧J D=some (.dct (bO gs) ep)∧Rl L gs∧J T=some .tab∧¬ L.own p D∧n∈gs.map (·.1)∧fresh.Nodup∧(∀m∈fresh,good m=true∧m ∉ L.cs.map Cf.n)∧L.cs.length + fresh.length < 100∧L.t≤1000000∧L.t.den≤60∧∀J',J' T=some .tab→Q (.bl true) J'
theorem B2 {cN cL T eB eF eT eU eC f:Addr} {fd:FuncData} (F:cm K "_law_again" "_law_again" s_again f fd) (Z:bT mg) (Bi:bt P w K mg base 3 "_law_unknown" jg (tO cN cL)) (lY:bt P w K mg base 8 "_law_stands" fM (j3 cN cL)) (dz:dk P w K mg base cN 2 "leave" gG (qS cN cL eC)) (b7:dk P w K mg base cN 8 "join" fi (pq cN cL T eB eF eT eU)):aJ P w K mg base (cY P w) 9 f fd kS (dI K (AG cN cL T)):=by
 simp_arith [xi,(ai (bJ (bI (pl:=_) dz B hr (rv 0) (af (rv 4) ah)))
   (ai (bJ (qA PySem.F.plainAttrs_dict PySem.F.slot_dict_pop PySem.F.type_dict_pop GG (rv 1) (af (rv 4) ah)))
   (ai (fe cy rfl (gn (rv 2)) (bX (i:=5) xi.nd) (ai (a_ (cO (bL (aQ Bi B hr (af (rv 0) (af (rv 5) ah))))) (aq (az d7)) aP)
   (ai (bJ (bI (pl:=_) b7 B hr (rv 0) (af (rv 5) (af ag (af ag ah)))))
   (ai (u_ pz (rv 1) (rv 5) (eO (af (rv 3) (af (eO (af ag (af ag ah))) (af ag ah)))))
   (aq (a_ (aS wH (aM oW rfl Z.len boot_len (af (rv 1) ah)) ag) (aq EG) aP))))))
   (aq (az (aQ lY B hr (af (rv 0) (af (rv 1) (af (rv 3) ah)))))))))]
 ·obtain ⟨p,L,D,gs,ep,fresh,n,rfl,_⟩:=h;rfl
 obtain ⟨p,L,D,gs,ep,fresh,n,rfl,b,ok,hD,rl,hT,nD,hn,zT,hfr,hcl,tl,td,q⟩:=h
 refine hX ?_
 have bo:=b.ob
 have h0:Jn cN cL T J p L D gs:=⟨b,ok,rl,⟨ep,hD⟩,nD,hT⟩
 have gnd:=rl.nd ok.tobA
 simp_all! [bo]
 have hrow:n∈L.row:=(ok.rm n).mpr (by rw [← rl.nm];exact hn)
 refine ⟨f9 _ _ _ _,p,L,n,rfl,b,ok,λz=>absurd hrow z,λ_ J1 L1 b1 ok1 e t1 mv=>?_⟩
 have hD1:=mv.keep _ _ hD nD
 refine hNq _ _ ?_
 clear hNq Nq
 have edr:zQ (bO gs) n=bO (fE n gs):=by unfold zQ bO fE;rw [S3];rfl
 obtain ⟨l0,hl0,hva⟩:=Ba (f:=aZ.V) gnd hn
 have hva:lT (bO gs) n=some l0.V:=hva
 simp_all! [hD1,hva,edr]
 intro ep1
 have g1:=h0.mv b1 ok1 mv (rl.leave e t1) ep1
 have glt:(fE n gs).length < 12:=by
  have h1:(fE n gs).length < gs.length:=by
   unfold fE
   exact Tu.mpr ⟨_,hl0,by simp⟩
  have:=h0.len
  omega
 have cn1:L1.cs.map Cf.n=L.cs.map Cf.n:=by rw [e,eZ (λc=>(eY n L.t c).1)]
 generalize put J1 D (.dct (bO (fE n gs)) ep1)=J2 at g1 ⊢
 generalize fE n gs=gs1 at g1 glt
 refine hNq _ _ ?_
 clear hNq Nq
 simp_all! []
 have fin:∀{J':Hq} {L':Ln} {gs':List (Str × aZ)},Jn cN cL T J' p L' D gs'→L'.t=L.t→j3 cN cL [.ref p,.ref D,fr L.t] J' Q E2:=λ{J' L' gs'} h et=>by
  obtain ⟨ep',hD'⟩:=h.hD
  exact ⟨p,L',D,ep',gs',by rw [et],h.b,h.ok,hD',h.rl.nd h.ok.tobA,by have:=h.len;omega,h.rl.sz,h.rl.same _,q J' h.hT⟩
 obtain ⟨Inv,hInv⟩:∃Inv:Nat→Sr→Hq→Prop,∀i τ J',Inv i τ J'↔∃(L':Ln) (gs':List (Str × aZ)) (u5:Option PV),τ=[some (.ref p),some (.ref D),some (.fl (fresh.map .str)),some (fr L.t),some (.str n),u5]∧Jn cN cL T J' p L' D gs'∧L'.t=L.t∧gs'.length < 12∧L'.cs.length≤L.cs.length + i∧(∀m∈fresh.drop i,m ∉ L'.cs.map Cf.n):=⟨_,λ_ _ _=>Iff.rfl⟩
 refine jC Inv ((hInv _ _ _).mpr ⟨L1,gs1,_,rfl,g1,t1,glt,by rw [e,R6];exact R' _,λm hm=>by rw [cn1];exact (hfr m hm).2⟩) (λ_ _ _ _=>trivial) ?_ ?_
 ·intro i y τ J' hy hv
  obtain ⟨L',gs',u5,rfl,g,et,glt',cl',fr'⟩:=(hInv _ _ _).mp hv
  clear hv
  have hi:i < fresh.length:=by have:=(R8.mp hy).1;rw [R6] at this;exact this
  rw [Sb,R7 hi] at hy
  cases hy
  have ed:fresh.drop i=fresh[i] :: fresh.drop (i + 1):=Ua hi
  have hm:=SW hi
  have hnd:(fresh.drop i).Nodup:=zT.sublist (UE _ _)
  generalize fresh[i]=m at ed hm
  have hmn:m ∉ L'.cs.map Cf.n:=fr' m (by rw [ed];exact SD ..)
  have hmg:=(hfr m hm).1
  simp_all! []
  refine ⟨p,L',m,rfl,g.b,g.ok.tobA,hmn,?_⟩
  refine hNq _ _ ?_
  clear hNq Nq
  simp_all! [g.b.ob]
  have glen:=g.len
  refine ⟨f9 _ _ _ _,p,L',m,5,0,rfl,g.b,g.ok,g.hT,p6 hmg,by omega,(λz=>by rw [hmg] at z;cases z),(λ_ z=>absurd ⟨by decide,by decide⟩ z),(λ_ _ z=>absurd z hmn),(λ_ _ _ z=>by omega),λ_ _ _ _ J3 L3 b3 ok3 jn mv3=>?_⟩
  obtain ⟨ep',hD'⟩:=g.hD
  have hD3:=mv3.keep _ _ hD' g.nD
  have nx:=λep''=>g.joined (x:=5) (v:=0) ⟨by decide,by decide⟩ hmn b3 ok3 jn mv3 ep''
  refine hNq _ _ ?_
  clear hNq Nq
  have epu:qz (bO gs') m (PV.tup [fr L.t,PV.tup [.int 5,.int 1],.int 0])=bO (gs' ++ [(m,⟨L'.t,((5:Int):Rat),0⟩)]):=by rw [← et];exact (nx 0).1
  have hgl:(bO gs').length < sizeLine:=ba (by unfold bO;rw [R6];omega)
  simp_all! [hD3,epu]
  refine ⟨hgl,λep''=>?_⟩
  obtain ⟨_,g3,t3,n3⟩:=nx ep''
  refine hNq _ _ ?_
  clear hNq Nq
  have hl3:(bO (gs' ++ [(m,(⟨L'.t,((5:Int):Rat),0⟩:aZ))])).length=gs'.length + 1:=by unfold bO;rw [R6,So];rfl
  simp_all! [au,hl3]
  have hcl3:L3.cs.length=L'.cs.length + 1:=by
   have:=congrArg Tc n3
   rw [R6,So,R6] at this
   exact this
  by_cases c12:12≤gs'.length + 1
  ·rw [if_pos (by omega)]
   refine hNq _ _ ?_
   simp_all! []
   exact fin g3 (t3.trans et)
  ·rw [if_neg (by omega)]
   refine (hInv _ _ _).mpr ⟨_,_,_,rfl,g3,t3.trans et,by rw [So];show gs'.length + 1 < 12;omega,by omega,λm' hm'=>?_⟩
   rw [n3]
   rw [ed] at hnd fr'
   intro z
   rcases Se.mp z with z | z
   ·exact fr' m' (Sm _ hm') z
   ·rw [Si] at z;subst z
    exact (S6.mp hnd).1 hm'
 ·intro τ J' hv
  obtain ⟨L',gs',u5,rfl,g,et,glt',cl',fr'⟩:=(hInv _ _ _).mp hv
  refine hNq _ _ ?_
  simp_all! []
  exact fin g et
theorem An {xs:List Str} {r:Int} (h0:0≤r) (hl:0 < xs.length):∃n∈xs,cV (xs.map PV.str) (r % (xs.length:Int))=some (.str n):=by
 obtain ⟨j,hj⟩:∃j:Nat,r % (xs.length:Int)=j:=⟨(r % (xs.length:Int)).toNat,by have:=Int.emod_nonneg r (b:=(xs.length:Int)) (by omega);omega⟩
 have hjl:j < xs.length:=by have:=Int.emod_lt_of_pos r (b:=(xs.length:Int)) (by omega);omega
 exact ⟨xs[j],SW hjl,by rw [hj];exact aY (by rw [Sb,R7 hjl];rfl)⟩
def jw:List Str:=["","a b","A","abcdefgh9","a-b","a_b"," a",⟨(Sq 40 97).toArray⟩,"b\n"]
theorem F3:∀b∈jw,good b=false∧b.cps.size≤100:=by decide +kernel
theorem F2 {i:Int} (h0:0≤i) (h1:i < 9):∃b∈jw,cV (jw.map PV.str) i=some (.str b):=by
 obtain ⟨j,rfl⟩:∃j:Nat,i=j:=⟨i.toNat,by omega⟩
 have hj:j < jw.length:=by show j < 9;omega
 exact ⟨jw[j],SW hj,aY (by rw [Sb,R7 hj];rfl)⟩
theorem zJ (a:PV) (l:List PV):jx (a :: l) none (some 1)=[a]:=by
 unfold jx
 rw [HT.xf,TY,Nat.sub_zero]
 have e:HT.dS (a :: l).length (a :: l).length (some 1)=min 1 (a :: l).length:=HT.pe _ _ 1
 rw [e,Ur (by rw [Sv];omega)]
 rfl
theorem v7 {n:Str} (hg:good n=true):n.cps.size≤8:=by
 unfold good at hg
 rw [SA,SA] at hg
 exact of_decide_eq_true hg.1.2
abbrev xg:Stmt:=(top 69)
abbrev K1:List Str:=["_law_script"]
theorem cG:L2.av ["_law_script","_law_head","_law_names_here","_law_lane","_law_clock","_law_legs","_law_many","_law_k","_law_row","_law_place","_law_pace","_law_fresh","_law_some","_law_choice","_law_name","_law_due"] ["_law_script"] (L2.aj xg):=dT
theorem GV {cN cL T eB eF eT eU eC eM eP f:Addr} {fd:FuncData} (F:cm K "law" "law" xg f fd) (Z:bT mg) (tT:bt P w K mg base 1 "_law_cell" my AI) (eW:bt P w K mg base 1 "_law_digits" dt ET) (tV:bt P w K mg base 2 "_law_names" eS xx) (x6:x8 P w K mg base cN 1 "Lane" hG (AU cN cL)) (Fx:bt P w K mg base 2 "_law_later" kT AO) (CC:bt P w K mg base 1 "_law_placed" jO tN) (Fy:bt P w K mg base 1 "_law_paced" kU xy) (Im:bt P w K mg base 1 "_law_far" oB Jq) (xJ:bt P w K mg base 1 "_law_due_word" hW EU) (Jx:bt P w K mg base 9 "_law_said" mz (AW cN cL T)) (tU:bt P w K mg base 1 "_law_flags" gI qR) (lY:bt P w K mg base 8 "_law_stands" fM (j3 cN cL)) (Fv:bt P w K mg base 9 "_law_again" kS (AG cN cL T)) (dz:dk P w K mg base cN 2 "leave" gG (qS cN cL eC)) (b7:dk P w K mg base cN 8 "join" fi (pq cN cL T eB eF eT eU)) (iE:dk P w K mg base cN 8 "go_to" kP (Js cN cL eM eP)) :
  aJ P w K mg base (cY P w) 11 f fd K1 (dI K (zp [T])):=by
 simp_arith [cG,(ai (aE (i:=1) cG.nd (aQ eW B hr (af (aQ tT B hr (af (rv 0) (af ag ah))) (af (jh (uX [.int 2,.int 5,.int 4,.int 400000,.int 60] rfl [.int 2,.int 5,.int 4,.int 400000,.int 60] rfl)) ah))))
   (ai (aE (i:=2) cG.nd (aQ tV B hr (af (aQ tT B hr (af (rv 0) (af ag ah))) (af ag ah))))
   (ai (aE (i:=3) cG.nd (qB x6 B hr))
   (ai (bJ (bI (pl:=_) b7 B hr (rv 3) (af (aw ay (rv 2) ag) (af ag (af ag ah)))))
   (ai (aE (i:=4) cG.nd (aQ Fx B hr (af (eO (af ag (af ag ah))) (af (aw ay (rv 1) ag) (af (aw ay (rv 1) ag) (af (aw ay (rv 1) ag) ah))))))
   (ai (bJ (bI (pl:=_) iE B hr (rv 3) (af (rv 4) ah)))
   (ai (bJ (bI (pl:=_) dz B hr (rv 3) (af (aw ay (rv 2) ag) ah)))
   (ai (aE (i:=5) cG.nd AB)
   (ai (aE (i:=6) cG.nd (Jm (aS (gi hr.bB) (aw ay (rv 1) ag) ag) ag (aB bW ag (aw ay (rv 1) ag))))
   (ai (fe cy rfl (ku rfl Z.range (af (rv 6) ah)) (bX (i:=7) cG.nd) (ai (aE (i:=8) cG.nd (aQ eW B hr (af (aQ tT B hr (af (rv 0) (af (aB bW ag (rv 7)) ah))) (af (jh (af ag (af ag ah))) ah))))
   (ai (aE (i:=9) cG.nd (aQ CC B hr (af (aw ay (rv 8) ag) (af (aw ay (rv 1) ag) ah))))
   (ai (aE (i:=10) cG.nd (aQ Fy B hr (af (aw ay (rv 8) ag) (af (aw ay (rv 1) ag) ah))))
   (ai (bJ (bI (pl:=_) b7 B hr (rv 3) (af (aw ay (rv 2) (aB bW ag (rv 7))) (af (rv 9) (af (rv 10) ah)))))
   (aq (u_ pz (rv 5) (aw ay (rv 2) (aB bW ag (rv 7))) (eO (af (rv 4) (af (eO (af (rv 9) (af ag ah))) (af (rv 10) ah)))))))))))
   (ai (aE (i:=11) cG.nd (fR AZ (rv 2) (iQ (aB bW ag (rv 6))) iP))
   (ai (a_ (cO (bL (aQ lY B hr (af (rv 3) (af (rv 5) (af (rv 4) ah)))))) (aq (az d7)) aP)
   (ai (aE (i:=12) cG.nd (jh (af bP (af bP (af bP (af bP (af bP (af bP (af bP (af (aB G9 bP ag) (af bP ah)))))))))))
   (ai (fe cy rfl (ku rfl Z.range (af ag ah)) (bX (i:=7) cG.nd) (ai (aE (i:=8) cG.nd (aQ eW B hr (af (aQ tT B hr (af (rv 0) (af (aB bW ag (rv 7)) ah))) (af (jh (uX [.int 5,.int 9,.int 30000001,.int 30011] rfl [.int 5,.int 9,.int 30000001,.int 30011] rfl)) ah))))
   (ai (aE (i:=13) cG.nd (jh (af (aw ay (rv 12) (aw ay (rv 8) ag)) (af (aw ay (rv 2) ag) (af (aw ay (ib (vW rfl) rfl Z.list boot_list (af (rv 5) ah)) (aB dR (aw ay (rv 8) ag) (aM oW rfl Z.len boot_len (af (rv 5) ah)))) ah)))))
   (ai (aE (i:=14) cG.nd (aw ay (aB uN (rv 13) (aB G8 (fR AZ (aB uN (rv 11) (rv 13)) iP (iQ ag)) ag)) (aw ay (rv 8) ag)))
   (ai (aE (i:=9) cG.nd (aQ Im B hr (af (aw ay (rv 8) ag) (af ag ah))))
   (ai (aE (i:=10) cG.nd (aQ Im B hr (af (aw ay (rv 8) ag) (af ag ah))))
   (ai (aE (i:=15) cG.nd (aQ xJ B hr (af (rv 14) (af (rv 9) (af (rv 10) (af (rv 11) (af (rv 5) ah)))))))
   (ai (a_ (aS (i_ hr.bB) (aQ Jx B hr (af (rv 3) (af (rv 14) (af (rv 9) (af (rv 10) ah))))) (aQ tU B hr (af (rv 15) ah))) (aq (az d7)) aP)
   (AA (a_ (aS (gi hr.bB) (rv 15) bP) (ai (u_ pz (rv 5) (rv 14) (eO (af (rv 4) (af (eO (af (rv 9) (af ag ah))) (af (rv 10) ah)))))
   (aq (Ld (i:=11) (L2.aj xg) ["_law_script","_law_head","_law_names_here","_law_lane","_law_clock","_law_legs","_law_many","_law_k","_law_row","_law_place","_law_pace","_law_fresh","_law_some","_law_choice","_law_name","_law_due"] [("_law_name",14)] rfl rfl rfl cG.nd rfl (Or.inl rfl) (gn (rv 11)) (λ_ _ _ _ _ _=>(rv 0)) (λ_ _ _ _ _ _=>(aS (i_ hr.bB) (rv 0) (rv 1)))))) aP)
   (aq (a_ (cO (bL (aQ lY B hr (af (rv 3) (af (rv 5) (af (rv 4) ah)))))) (aq (az d7)) aP)))))))))))
   (aq (az (aQ Fv B hr (af (rv 3) (af (rv 5) (af (rv 11) (af (rv 4) (af (aw ay (ib (vW rfl) rfl Z.list boot_list (af (rv 5) ah)) (aB dR (aw ay (rv 1) ag) (aM oW rfl Z.len boot_len (af (rv 5) ah)))) ah))))))))))))))))))))))]
 ·obtain ⟨ns,rfl,_⟩:=h;rfl
 obtain ⟨ns,rfl,hl,hT,hJ,q⟩:=h
 have hT:J T=some .tab:=hT T (by simp)
 refine hX ?_
 simp_all! []
 refine ⟨ns,0,rfl,by decide,by decide,_,[2,5,4,400000,60],rfl,mJ (by decide),by decide,λds hD=>?_⟩
 obtain ⟨d0,ds,rfl,d00,d01,hD⟩:=hD.cons
 obtain ⟨d1,ds,rfl,d10,d11,hD⟩:=hD.cons
 obtain ⟨d2,ds,rfl,d20,d21,hD⟩:=hD.cons
 obtain ⟨d3,ds,rfl,d30,d31,hD⟩:=hD.cons
 obtain ⟨d4,ds,rfl,d40,d41,hD⟩:=hD.cons
 cases hD.nil
 simp_all! []
 refine ⟨ns,1,rfl,by decide,by decide,_,14,rfl,by omega,by omega,λnames nl nd ng=>?_⟩
 simp_all! []
 intro p hp
 refine ⟨p,rfl,au,λJ1 d e o b mv=>?_⟩
 have mvJ:Mv J J1 (λ_=>False) (Ln.own ⟨0,d,e,o,[],[]⟩ p):=by
  refine (Mv.GL (S:=λ_=>False) hp).trans ⟨λa u h n=>mv.keep a u h λz=>n (.inr z),λa z=>(mv.own a z).imp .inr id,mv.mono⟩
 have ok0:df ⟨0,d,e,o,[],[]⟩:=⟨⟨List.nodup_nil,(by simp),(by simp),(by simp),(by simp),(by simp),Rat.le_refl,R3 _,(by show 0≤100;decide),(by intro n;simp [Ln.fs,Ln.CB]),List.nodup_nil,(by show 0≤12;decide)⟩,rfl⟩
 have hT1:J1 T=some .tab:=mvJ.keep _ _ hT λz=>z
 refine ⟨rfl,hNq _ _ ?_⟩
 clear hNq Nq
 obtain ⟨n0,rest,rfl⟩:∃n0 rest,names=n0 :: rest:=by
  cases names with
  | nil=>cases nl
  | cons a l=>exact ⟨a,l,rfl⟩
 have rl13:rest.length=13:=by
  have:((rest.length + 1:Nat):Int)=14:=nl
  omega
 obtain ⟨nd0,nd1⟩:=S6.mp nd
 have h0:cV ((n0 :: rest).map PV.str) 0=some (.str n0):=l5 _ _
 have g0:=ng n0 (SD ..)
 simp_all! [b.ob,h0]
 refine ⟨f9 _ _ _ _,p,_,n0,0,1,rfl,b,ok0,hT1,p6 g0,(show 0 < 100 by decide),(λz=>by rw [g0] at z;cases z),(λ_ z=>absurd ⟨by decide,by decide⟩ z),(λ_ _ z=>absurd z (by simp)),(λ_ _ _ z=>absurd z (show ¬ 12≤0 by decide)),λ_ _ _ _ J2 L2 b2 ok2 jn2 mv2=>?_⟩
 refine hNq _ _ ?_
 clear hNq Nq
 simp_all! []
 have s09:Sz 900 (0:Rat):=⟨⟨by decide⟩,⟨by decide⟩⟩
 refine ⟨0,d3,d4,d2,rfl,d30,d40,d20,d21,by omega,s09,λm1 hm1=>?_⟩
 refine hNq _ _ ?_
 clear hNq Nq
 have t2:L2.t=0:=jn2.choose_spec.choose_spec.2
 have td1:=BK hm1 (by decide)
 have m10:0≤m1:=hm1.le
 have g1:i8 m1.num m1.den=true:=Dt m10 td1 (ot hm1).1
 have s1:Sz 240 m1:=(wu (p5 g1).1).mono (by decide)
 simp_all! [b2.ob]
 refine ⟨f9 _ _ _ _,p,L2,m1.num,m1.den,rfl,b2,ok2,(λz=>by rw [g1] at z;cases z),λm' h1 h2 _=>?_⟩
 obtain rfl:m'=m1:=Rat.ext h1 (by omega)
 refine ⟨λz=>absurd z (Rat.not_lt.mpr (by rw [t2];exact m10)),λ_ J3 o3 b3 ok3 mv3=>?_⟩
 refine hNq _ _ ?_
 clear hNq Nq
 simp_all! [b3.ob,h0]
 have rl0:Rl ⟨0,d,e,o,[],[]⟩ []:=⟨rfl,(by simp),(by simp),(by simp),(by simp)⟩
 have rl2:=rl0.join ok2.tobA (v:=1) (x:=0) (by decide) (by decide) jn2 Rat.le_refl ok0.ts (by simp [Ln.fs,Ln.CB])
 have rl3:Rl { L2 with t:=m',o:=o3,row:=cT m' L2.fs } _:=rl2.go (by rw [t2];exact m10)
 have cn2:L2.cs.map Cf.n=[n0]:=by
  obtain ⟨a,r,ecs,_⟩:=jn2
  rw [ecs];rfl
 have hrow:n0∈cT m' L2.fs:=(ok3.rm n0).mpr (by
  show n0∈L2.fs.map (·.1)
  rw [← rl2.nm];simp)
 have hT3:J3 T=some .tab:=by
  have h2:=mv2.keep _ _ hT1 (b.GO hT1)
  exact mv3.keep _ _ h2 (b2.GO h2)
 refine ⟨f9 _ _ _ _,p,_,n0,rfl,b3,ok3,λz=>absurd hrow z,λ_ J4 L4 b4 ok4 e4 t4 mv4=>?_⟩
 refine hNq _ _ ?_
 clear hNq Nq
 have rl4:=rl3.leave e4 t4
 have t4:L4.t=m':=t4
 have hT4:=mv4.keep _ _ hT3 (b3.GO hT3)
 have cn4:L4.cs.map Cf.n=[n0]:=by rw [e4,eZ (λc=>(eY n0 _ c).1)];exact cn2
 have eg:fE n0 ([] ++ [(n0,(⟨(⟨0,d,e,o,[],[]⟩:Ln).t,((0:Int):Rat),1⟩:aZ))])=[]:=by simp [fE]
 rw [eg] at rl4
 simp_all! []
 intro D hD eD
 have j4:Jn cN cL T (put J4 D (.dct [] eD)) p L4 D []:=⟨b4.fresh hD,ok4,rl4,⟨eD,au⟩,λz=>b4.some z hD,by rw [ar (λz=>by rw [z,hD] at hT4;cases hT4)];exact hT4⟩
 generalize put J4 D (.dct [] eD)=J5 at j4 ⊢
 clear rl4 rl3 rl2 rl0 mv4 mv3 mv2 mv b b2 b3 b4 jn2 ok2 ok3 ok4 hT3 hT4 e4 hrow mvJ eg hT1 hD
 refine hNq _ _ ?_
 clear hNq Nq
 simp_all! []
 suffices key:∀M:Nat,1≤M→M≤12→Nq [some (.fl (ns.map .int)),some (.fl [.int d0,.int d1,.int d2,.int d3,.int d4]),some (.fl (.str n0 :: rest.map .str)),some (.ref p),some (fr m'),some (.ref D),some (.int M),none,none,none,none,none,none,none,none,none] J5 by
  split
  ·exact key 12 (by decide) (by decide)
  ·have e:((1 + d1.toNat:Nat):Int)=1 + d1:=by omega
   have k:=key (1 + d1.toNat) (by omega) (by omega)
   rw [e] at k
   exact k
 intro M M1 M12
 refine hNq _ _ ?_
 clear hNq Nq
 simp_all! []
 refine ⟨by omega,by omega,?_⟩
 obtain ⟨Inv,hInv⟩:∃Inv:Nat→Sr→Hq→Prop,∀i τ J',Inv i τ J'↔∃(L:Ln) (gs:List (Str × aZ)) (u7 u8 u9 u10 u11 u12 u13 u14 u15:Option PV),τ=[some (.fl (ns.map .int)),some (.fl [.int d0,.int d1,.int d2,.int d3,.int d4]),some (.fl (.str n0 :: rest.map .str)),some (.ref p),some (fr m'),some (.ref D),some (.int M),u7,u8,u9,u10,u11,u12,u13,u14,u15]∧Jn cN cL T J' p L D gs∧L.t=m'∧L.cs.map Cf.n=n0 :: rest.take i∧gs.length=i:=⟨_,λ_ _ _=>Iff.rfl⟩
 refine oX Inv ((hInv _ _ _).mpr ⟨L4,[],_,_,_,_,_,_,_,_,_,rfl,j4,t4,by rw [cn4];rfl,rfl⟩) ?_ ?_
 ·intro i τ J' hi hv
  obtain ⟨L,gs,u7,u8,u9,u10,u11,u12,u13,u14,u15,rfl,g,et,ec,hgl⟩:=(hInv _ _ _).mp hv
  clear hv
  simp_all! []
  have hiM:i < M:=by omega
  have hir:i < rest.length:=by omega
  refine ⟨ns,2 + (0 + (i:Int)),rfl,by omega,by omega,_,[2000001,2001],rfl,mJ (by decide),by decide,λds hQ=>?_⟩
  obtain ⟨r0,ds,rfl,r00,r01,hQ⟩:=hQ.cons
  obtain ⟨r1,ds,rfl,r10,r11,hQ⟩:=hQ.cons
  cases hQ.nil
  refine hNq _ _ ?_
  clear hNq Nq
  simp_all! []
  refine ⟨r0,d2,rfl,r00,λx hx=>?_⟩
  refine hNq _ _ ?_
  clear hNq Nq
  simp_all! []
  refine ⟨r1,d2,rfl,r10,r11,λv hv=>?_⟩
  refine hNq _ _ ?_
  clear hNq Nq
  have et1:rest.take (i + 1)=rest.take i ++ [rest[i]]:=by rw [SK,R7 hir];rfl
  have hmr:=SW hir
  have ha:cV (.str n0 :: rest.map PV.str) (1 + (0 + (i:Int)))=some (.str rest[i]):=by
   have e:(1 + (0 + (i:Int)))=((i + 1:Nat):Int):=by omega
   rw [e]
   exact aY (by rw [SH,Sb,R7 hir];rfl)
  generalize rest[i]=m at et1 hmr ha
  have hmg:=ng m (Sm _ hmr)
  have hmn:m ∉ L.cs.map Cf.n:=by
   rw [ec]
   intro z
   rcases Sf.mp z with z | z
   ·subst z;exact nd0 hmr
   ·have hnd:(rest.take (i + 1)).Nodup:=nd1.sublist (Tv _ _)
    rw [et1] at hnd
    exact (iI hnd).2 z
  have hcl:L.cs.length=1 + i:=by
   have:=congrArg Tc ec
   rw [R6,Sv,Sy] at this
   omega
  have glen:=g.len
  simp_all! [g.b.ob,ha]
  refine ⟨f9 _ _ _ _,p,L,m,x,v,rfl,g.b,g.ok,g.hT,p6 hmg,by omega,(λz=>by rw [hmg] at z;cases z),(λ_ z=>absurd ⟨hx,hv⟩ z),(λ_ _ z=>absurd z hmn),(λ_ _ _ z=>by omega),λ_ _ _ _ J3 L3 b3 ok3 jn mv3=>?_⟩
  obtain ⟨ep',hD'⟩:=g.hD
  have hD3:=mv3.keep _ _ hD' g.nD
  have nx:=λep''=>g.joined ⟨hx,hv⟩ hmn b3 ok3 jn mv3 ep''
  have epu:qz (bO gs) m (PV.tup [fr m',PV.tup [.int x,.int 1],.int v])=bO (gs ++ [(m,⟨L.t,(x:Rat),v⟩)]):=by rw [← et];exact (nx 0).1
  have hgl2:(bO gs).length < sizeLine:=ba (by unfold bO;rw [R6];omega)
  refine hNq _ _ ?_
  clear hNq Nq
  simp_all! [ha,hD3,epu]
  refine ⟨hgl2,λep''=>?_⟩
  obtain ⟨_,g3,t3,n3⟩:=nx ep''
  exact (hInv _ _ _).mpr ⟨L3,_,_,_,_,_,_,_,_,_,_,rfl,g3,t3.trans et,by rw [n3,ec,et1];rfl,by rw [So,hgl];rfl⟩
 intro τ J' hv
 obtain ⟨L,gs,u7,u8,u9,u10,u11,u12,u13,u14,u15,rfl,g,et,ec,hgl⟩:=(hInv _ _ _).mp hv
 clear hv hInv Inv
 refine hNq _ _ ?_
 clear hNq Nq
 have ecut:jx (PV.str n0 :: rest.map PV.str) (some (1 + (M:Int))) none=(rest.drop M).map .str:=by
  have e:(1 + (M:Int))=((M + 1:Nat):Int):=by omega
  rw [e,pT _ _ (by rw [Sv,R6];omega),Uv,TR]
 simp_all! [ecut]
 have st:∀{J':Hq} {L':Ln} {gs':List (Str × aZ)},Jn cN cL T J' p L' D gs'→L'.t=m'→∀R:PV→Hq→Prop,R (.bl true) J'→j3 cN cL [.ref p,.ref D,fr m'] J' R E2:=λ{J' L' gs'} h et R hR=>by
  obtain ⟨ep',hD'⟩:=h.hD
  exact ⟨p,L',D,ep',gs',by rw [et],h.b,h.ok,hD',h.rl.nd h.ok.tobA,by have:=h.len;omega,h.rl.sz,h.rl.same _,hR⟩
 refine st g et _ ?_
 refine hNq _ _ ?_
 clear hNq Nq
 simp_all! []
 have ea97:("a":Str)=sgn 97:=by decide +kernel
 refine ⟨97,40,by rw [ea97],rfl,by decide,by decide,?_⟩
 have ebad:[PV.str (Str.ofString ""),PV.str (Str.ofString "a b"),PV.str (Str.ofString "A"),PV.str (Str.ofString "abcdefgh9"),PV.str (Str.ofString "a-b"),PV.str (Str.ofString "a_b"),PV.str (Str.ofString " a"),PV.str ⟨(Sq (40:Int).toNat 97).toArray⟩,PV.str (Str.ofString "b\n")]=jw.map .str:=rfl
 refine hNq _ _ ?_
 clear hNq Nq
 rw [ebad]
 simp_all! []
 obtain ⟨Inv,hInv⟩:∃Inv:Nat→Sr→Hq→Prop,∀i τ J',Inv i τ J'↔∃(L:Ln) (gs:List (Str × aZ)) (fresh:List Str) (u7 u8 u9 u10 u13 u14 u15:Option PV),τ=[some (.fl (ns.map .int)),some (.fl [.int d0,.int d1,.int d2,.int d3,.int d4]),some (.fl (.str n0 :: rest.map .str)),some (.ref p),some (fr m'),some (.ref D),some (.int M),u7,u8,u9,u10,some (.fl (fresh.map .str)),some (.fl (jw.map .str)),u13,u14,u15]∧Jn cN cL T J' p L D gs∧L.t=m'∧0 < gs.length∧n0∈L.cs.map Cf.n∧fresh.Nodup∧(∀m∈fresh,m∈rest∧m ∉ L.cs.map Cf.n)∧L.cs.length + fresh.length≤14∧(∀m∈L.cs.map Cf.n,m∈n0 :: rest):=⟨_,λ_ _ _=>Iff.rfl⟩
 refine ⟨by decide,by decide,?_⟩
 refine oX Inv ((hInv _ _ _).mpr ⟨L,gs,rest.drop M,_,_,_,_,_,_,_,rfl,g,et,by omega,by rw [ec];exact SD ..,nd1.sublist (UE _ _),λm hm=>⟨T2 hm,?_⟩,?_,λm hm=>?_⟩) ?_ ?_
 ·rw [ec]
  intro z
  rcases Sf.mp z with z | z
  ·subst z;exact nd0 (T2 hm)
  ·have h:=nd1
   rw [← Us M rest,Tg] at h
   exact h.2.2 m z m hm rfl
 ·have:=congrArg Tc ec
  rw [R6,Sv,Sy] at this
  rw [S_]
  omega
 ·rw [ec] at hm
  rcases Sf.mp hm with z | z
  ·rw [z];exact SD ..
  ·exact Sm _ (SR z)
 ·intro i τ J' hi hv
  obtain ⟨L,gs,fresh,u7,u8,u9,u10,u13,u14,u15,rfl,g,et,hg0,hn0,zT,hfr,hcl,hcn⟩:=(hInv _ _ _).mp hv
  clear hv
  simp_all! []
  refine ⟨ns,14 + (0 + (i:Int)),rfl,by omega,by omega,_,[5,9,30000001,30011],rfl,mJ (by decide),by decide,λds hQ=>?_⟩
  obtain ⟨r0,ds,rfl,r00,r01,hQ⟩:=hQ.cons
  obtain ⟨r1,ds,rfl,r10,r11,hQ⟩:=hQ.cons
  obtain ⟨r2,ds,rfl,r20,r21,hQ⟩:=hQ.cons
  obtain ⟨r3,ds,rfl,r30,r31,hQ⟩:=hQ.cons
  cases hQ.nil
  refine hNq _ _ ?_
  clear hNq Nq
  obtain ⟨ep',hD'⟩:=g.hD
  have hkv:(bO gs).map (λkv=>PV.str kv.1)=(gs.map (·.1)).map PV.str:=by unfold bO;rw [Sl,Sl];rfl
  have hll:(bO gs).length=gs.length:=by unfold bO;rw [R6]
  have a1:cV [PV.int r0,PV.int r1,PV.int r2,PV.int r3] 1=some (.int r1):=l6 _ _ _
  have h0:cV (.str n0 :: rest.map PV.str) 0=some (.str n0):=l5 _ _
  obtain ⟨nb,hnb,hab⟩:=F2 r10 r11
  obtain ⟨n1,hn1,ha1⟩:=An (xs:=gs.map (·.1)) r10 (by rw [R6];exact hg0)
  rw [R6] at ha1
  simp_all! [hD',hkv,hll,a1,h0,hab,ha1]
  refine ⟨by omega,?_⟩
  refine hNq _ _ ?_
  clear hNq Nq
  simp_all! []
  obtain ⟨z,hz,hzm⟩:∃z:Str,jx (fresh.map PV.str ++ [PV.str nb,PV.str n0,PV.str n1]) none (some 1)=[.str z]∧(z=nb∨z∈fresh):=by
   cases fresh with
   | nil=>exact ⟨nb,zJ _ _,.inl rfl⟩
   | cons a l=>exact ⟨a,zJ _ _,.inr (SD ..)⟩
  have hfl:fresh.length≤14:=by omega
  rw [hz]
  refine ⟨by rw [R6];exact dj (by omega),[.str z],2,rfl,rfl,by decide,(show 1 * 2≤1000 by decide),[.str z,.str z],rfl,(show 3 + 2≤sizeLine by decide),?_⟩
  have hn1c:n1∈L.cs.map Cf.n:=by
   rw [g.rl.nm,eX,R_] at hn1
   obtain ⟨c',hc',e'⟩:=hn1
   exact R_.mpr ⟨c',(Ln.eR.mp hc').1,e'⟩
  obtain ⟨nm,hnm,hP⟩:∃nm:Str,cV [PV.str nb,PV.str n0,PV.str n1,PV.str z,PV.str z] r0=some (.str nm)∧((good nm=false∧nm.cps.size≤100)∨nm∈L.cs.map Cf.n∨nm∈fresh):=by
   have hb:=F3 nb hnb
   have hzz:(good z=false∧z.cps.size≤100)∨z∈L.cs.map Cf.n∨z∈fresh:=hzm.elim (λe=>by rw [e];exact .inl hb) λe=>.inr (.inr e)
   have h:r0=0∨r0=1∨r0=2∨r0=3∨r0=4:=by omega
   rcases h with h | h | h | h | h
   ·exact ⟨nb,by rw [h];rfl,.inl hb⟩
   ·exact ⟨n0,by rw [h];rfl,.inr (.inl hn0)⟩
   ·exact ⟨n1,by rw [h];rfl,.inr (.inl hn1c)⟩
   ·exact ⟨z,by rw [h];rfl,hzz⟩
   ·exact ⟨z,by rw [h];rfl,hzz⟩
  have hns:nm.cps.size≤100:=by
   rcases hP with h | h | h
   ·exact h.2
   ·exact Su (v7 (ng nm (hcn nm h))) (by decide)
   ·exact Su (v7 (ng nm (Sm _ (hfr nm h).1))) (by decide)
  simp_all! [hnm]
  try (refine hNq _ _ ?_;clear hNq Nq;simp_all! [])
  refine ⟨r2,1000000,rfl,r20,by omega,by decide,by decide,λx hx=>?_⟩
  refine hNq _ _ ?_
  clear hNq Nq
  simp_all! []
  refine ⟨r3,1000,rfl,r30,by omega,by decide,by decide,λv hv=>?_⟩
  refine hNq _ _ ?_
  clear hNq Nq
  simp_all! []
  refine ⟨nm,x,v,fresh,D,gs,ep',rfl,hD',hns,by omega,by omega,?_⟩
  have ed:m7 nm x v fresh gs.length=iz L nm x v:=by
   unfold m7 iz
   by_cases cg:good nm=false
   ·rw [if_pos cg,if_pos cg]
   ·rw [if_neg cg,if_neg cg]
    have e1:(nm ∉ fresh)=(nm∈L.cs.map Cf.n):=propext ⟨λh=>hP.elim (λz=>absurd z.1 cg) λz=>z.elim id λz=>absurd z h,λh z=>(hfr nm z).2 h⟩
    have e2:=g.len.1
    simp only [e1,e2]
  rw [ed]
  refine hNq _ _ ?_
  clear hNq Nq
  simp_all! []
  have cf:=vV (iz L nm x v)
  have glen:=g.len
  refine ⟨p,L,nm,x,v,rfl,g.b,g.ok,g.hT,Su hns (by decide),by omega,λhne=>?_,λh1 h2 h3 h4 J3 L3 b3 ok3 jn mv3=>?_⟩
  ·refine ⟨_,rfl,?_⟩
   simp_all! [cf,cf.1,eq_self]
   have hw:¬ ig (iz L nm x v)=("":Str):=by
    have:=Gf hne
    unfold ig
    rw [if_pos this]
    exact Di _ this
   refine JP (λR hR=>by simp_all! [];rw [decide_eq_false hw];exact hR) ?_
   simp_all! []
   exact st g et _ ((hInv _ _ _).mpr ⟨L,gs,fresh,_,_,_,_,_,_,_,rfl,g,et,hg0,hn0,zT,hfr,hcl,hcn⟩)
  ·have h10:=Gg h1 h2 h3 h4
   rw [h10] at cf ⊢
   refine ⟨10,rfl,?_⟩
   have f10:jA 10=[]:=rfl
   rw [f10] at cf ⊢
   simp_all! [cf,cf.1,eq_self]
   have w10:ig 10=("":Str):=by decide +kernel
   have hD3:=mv3.keep _ _ hD' g.nD
   have nx:=λep''=>g.joined h2 h3 b3 ok3 jn mv3 ep''
   have epu:qz (bO gs) nm (PV.tup [fr m',PV.tup [.int x,.int 1],.int v])=bO (gs ++ [(nm,⟨L.t,(x:Rat),v⟩)]):=by rw [← et];exact (nx 0).1
   have hgl2:(bO gs).length < sizeLine:=ba (by rw [hll];omega)
   rw [w10]
   refine F9 (λτ' Ja=>τ'=[some (.fl (ns.map .int)),some (.fl [.int d0,.int d1,.int d2,.int d3,.int d4]),some (.fl (.str n0 :: rest.map .str)),some (.ref p),some (fr m'),some (.ref D),some (.int M),some (.int (0 + (i:Int))),some (.fl [.int r0,.int r1,.int r2,.int r3]),some (.int x),some (.int v),some (.fl ((fresh.filter λm=>decide (m≠nm)).map .str)),some (.fl (jw.map .str)),some (.fl [.str nb,.str n0,.str n1]),some (.str nm),some (.str "")]∧∃ep'',Ja=put J3 D (.dct (bO (gs ++ [(nm,⟨L.t,(x:Rat),v⟩)])) ep'')) (λR hR=>by simp_all! [];exact hR) ?_ ?_
   ·simp_all! [hD3,epu]
    refine ⟨hgl2,λep''=>?_⟩
    simp_all! [y9]
    refine ⟨λx=>match x with | .str s=>decide (s≠nm) | _=>false,id,⟨by rw [R6];exact ba (by omega),λJ' sub=>⟨trivial,λx hx=>?_⟩⟩,by rw [List.map_id,S3];rfl,ep'',rfl⟩
    obtain ⟨s,hs,rfl⟩:=R_.mp hx
    simp_all! [oU]
    exact ⟨by by_cases c:s=nm <;> simp [c],λ_=>trivial⟩
   ·rintro τ' Ja ⟨rfl,ep'',rfl⟩
    obtain ⟨_,g3,t3,n3⟩:=nx ep''
    simp_all! []
    refine st g3 (t3.trans et) _ ((hInv _ _ _).mpr ⟨L3,_,fresh.filter λm=>decide (m≠nm),_,_,_,_,_,_,_,rfl,g3,t3.trans et,by rw [So];show 0 < gs.length + 1;omega,by rw [n3];exact Te _ hn0,zT.sublist TC,λm hm=>?_,?_,λm hm=>?_⟩)
    ·obtain ⟨h5,h6⟩:=Sg.mp hm
     refine ⟨(hfr m h5).1,?_⟩
     rw [n3]
     intro z
     rcases Se.mp z with z | z
     ·exact (hfr m h5).2 z
     ·exact of_decide_eq_true h6 (Si.mp z)
    ·have hin:nm∈fresh:=hP.elim (λz=>by rw [h1] at z;exact absurd z.1 (by decide)) λz=>z.elim (λz=>absurd z h3) id
     have hlt:(fresh.filter λm=>decide (m≠nm)).length < fresh.length:=Tu.mpr ⟨nm,hin,by simp⟩
     have hc3:L3.cs.length=L.cs.length + 1:=by
      have:=congrArg Tc n3
      rw [R6,So,R6] at this
      exact this
     omega
    ·rw [n3] at hm
     rcases Se.mp hm with z | z
     ·exact hcn m z
     ·have hin:nm∈fresh:=hP.elim (λz=>by rw [h1] at z;exact absurd z.1 (by decide)) λz=>z.elim (λz=>absurd z h3) id
      rw [Si.mp z];exact Sm _ (hfr nm hin).1
 intro τ J' hv
 obtain ⟨L,gs,fresh,u7,u8,u9,u10,u13,u14,u15,rfl,g,et,hg0,hn0,zT,hfr,hcl,hcn⟩:=(hInv _ _ _).mp hv
 clear hv hInv Inv
 refine hNq _ _ ?_
 clear hNq Nq
 obtain ⟨ep',hD'⟩:=g.hD
 have hkv:(bO gs).map (λkv=>PV.str kv.1)=(gs.map (·.1)).map PV.str:=by unfold bO;rw [Sl,Sl];rfl
 have hll:(bO gs).length=gs.length:=by unfold bO;rw [R6]
 have a1:cV [PV.int d0,PV.int d1,PV.int d2,PV.int d3,PV.int d4] 1=some (.int d1):=l6 _ _ _
 obtain ⟨n,hn,ha⟩:=An (xs:=gs.map (·.1)) d10 (by rw [R6];exact hg0)
 rw [R6] at ha
 simp_all! [hD',hkv,hll,a1,ha]
 exact ⟨by omega,p,L,D,gs,ep',fresh,n,by rw [et],g.b,g.ok,hD',g.rl,g.hT,g.nD,hn,zT,λm hm=>⟨ng m (Sm _ (hfr m hm).1),(hfr m hm).2⟩,by omega,by rw [et];exact Ki.mp (ot hm1).1,by rw [et];exact td1,λJ' hT'=>q J' (by simpa using hT')⟩
end
theorem JH {P:Program} {w:World} {K:PySem.W.Frag} {mg:Str→Option Value} (Z:bT mg) {W:Addr} {c:Nat→Addr} (Er:xW K mg W c) (N:pM K mg) {i5:Tok} (fA:mg "FARTHEST"=some (.int 1000000 i5)) {kE:Tok} (gZ:mg "FASTEST"=some (.int 1000 kE)) {mM:Tok} (jF:mg "FINEST"=some (.int 60 mM)) {mO:Tok} (jG:mg "LATEST"=some (.int 1000000 mO)) {kF:Tok} (g6:mg "LONGEST"=some (.int 8 kF)) {vF:Tok} (pY:mg "MOST"=some (.int 12 vF)) {pB:Tok} (ma:mg "SIGNS"=some (.str "abcdefghijklmnopqrstuvwxyz0123456789" pB)) (X_Log:∃C,eu K mg "Log" C∧aI K C "rows"∧aI K C "gone"∧eA K C "__init__" "Log.__init__" fU∧eA K C "leave" "Log.leave" jZ∧eA K C "legs" "Log.legs" lI∧eA K C "there" "Log.there" j0∧eA K C "leg_at" "Log.leg_at" i0) (X_Lane:∃C,eu K mg "Lane" C∧aI K C "now"∧aI K C "logs"∧aI K C "row"∧eA K C "__init__" "Lane.__init__" ff∧eA K C "must_be_there" "Lane.must_be_there" dw∧eA K C "leg_of" "Lane.leg_of" gM∧eA K C "settle" "Lane.settle" eV∧eA K C "join" "Lane.join" jY∧eA K C "clock" "Lane.clock" iV∧eA K C "order" "Lane.order" iZ∧eA K C "log_of" "Lane.log_of" gP∧eA K C "history" "Lane.history" fT∧eA K C "meets" "Lane.meets" iY∧eA K C "foretold" "Lane.foretold" fg∧eA K C "go_to" "Lane.go_to" iW∧eA K C "bells" "Lane.bells" iU∧eA K C "leave" "Lane.leave" iX) (X_Bells:∃C,eu K mg "Bells" C∧aI K C "rows"∧eA K C "__init__" "Bells.__init__" eQ∧eA K C "drop" "Bells.drop" fo∧eA K C "put" "Bells.put" jX∧eA K C "told" "Bells.told" iT) (Jy:Def K mg "_law_cell" zf) (CG:Def K mg "_law_digits" qF) (CI:Def K mg "shared" qH) (xQ:Def K mg "fraction" lK) (Ma:Def K mg "_law_low" EJ) (Jz:Def K mg "less" zg) (JB:Def K mg "plus" zi) (FF:Def K mg "minus" vc) (FJ:Def K mg "times" ve) {f':Addr} (f_:xU K mg "good_name" gq f') (FG:Def K mg "_law_names" mF) (xT:Def K mg "place_on" lN) (Bj:Def K mg "last_by" nL) (rF:Def K mg "lies_behind" gR) (xR:Def K mg "in_order" lL) (rG:Def K mg "rings_ahead" gS) (Bk:Def K mg "meeting" nM) (lZ:Def K mg "in_lowest_terms" d_) (rE:Def K mg "good_moment" gQ) (FK:Def K mg "_law_whole" vf) (JA:Def K mg "_law_part" zh) (FL:Def K mg "_law_words" vg) (Bl:Def K mg "_law_passrow" nN) (xS:Def K mg "_law_passrows" lM) (CH:Def K mg "_law_placed" qG) (FI:Def K mg "_law_paced" vd) (O0:Def K mg "_law_at" Lh) (CF:Def K mg "_law_before" qE) (FH:Def K mg "_law_order" ph) (FE:Def K mg "_law_later" vb) (Bn:Def K mg "_law_ringdue" nQ) (CJ:Def K mg "_law_stands" qJ) (FD:Def K mg "_law_flags" pf) (L9:Def K mg "_law_far" EI) (xP:Def K mg "_law_due_word" lJ) (JC:Def K mg "_law_said" zj) (Bo:Def K mg "_law_unknown" nS) (FC:Def K mg "_law_again" s_again) {f:Addr} {fd:FuncData} (F:cm K "law" "law" xg f fd) (base:Heap) (Bm:BMain mg base) :
  aJ P w K mg base (cY P w) 11 f fd ["_law_script"] (dI K (zp [f'])):=by
 obtain ⟨vS,bV,bE,bZ,oI,t6,vN,t8,rW⟩:=X_Log
 obtain ⟨Pb,ax,aH,aV,aG,mV,ji,pJ,pL,tZ,rQ,rV,pK,oH,rT,mY,rR,rO,rS⟩:=X_Lane
 obtain ⟨OK,bD,aT,l4,rL,tY,rM⟩:=X_Bells
 have ju:=Er.own 5 (by decide)
 have mZ:=Er.own 0 (by decide)
 have x9:=Er.own 2 (by decide)
 have fq:=Er.own 3 (by decide)
 have k4:=Er.own 7 (by decide)
 have x_:=Er.own 6 (by decide)
 have t9:=Er.own 1 (by decide)
 have pN:=Er.own 4 (by decide)
 have JD:=Jy.eE (P:=P) (w:=w) (base:=base) (λ_ _ F=>D4 F Z) λ_ _ _ _ _ _=>i7 λ_ _=>rfl
 have eW:=CG.C8 (P:=P) (w:=w) (base:=base) (λ_ _ F=>B0 F Z.toCz) λ_ _ _ _ _ _=>i7 λ_ _=>rfl
 have CO:=wj eW
 have gU:=CI.C8 (P:=P) (w:=w) (base:=base) (λ_ _ F=>B1 F Z.toCz) λ_ _ _ _ _ _=>i7 λ_ _=>rfl
 have CU:=wk gU
 have bU:=xQ.C8 (λ_ _ F=>wA F Z.toCz gU) λ_ _ _ _ _ _=>i7 λ_ _=>rfl
 have xZ:=r_ bU
 have pG:=Ma.C8 (P:=P) (w:=w) (base:=base) (λ_ _ F=>Kv F Z.toCz) λ_ _ _ _ _ _=>i7 λ_ _=>rfl
 have CP:=DS pG
 have dP:=Jz.C8 (P:=P) (w:=w) (base:=base) (λ_ _ F=>GR F Z.toCz) λ_ _ _ _ _ _=>i7 λ_ _=>rfl
 have mT:=BO dP
 have xO:=JB.C8 (λ_ _ F=>GS F Z.toCz bU) λ_ _ _ _ _ _=>i7 λ_ _=>rfl
 have lX:=FF.C8 (λ_ _ F=>D0 F Z.toCz bU) λ_ _ _ _ _ _=>i7 λ_ _=>rfl
 have tX:=FJ.C8 (λ_ _ F=>D3 F Z.toCz bU) λ_ _ _ _ _ _=>i7 λ_ _=>rfl
 have JE:=BP xO
 have zB:=yx lX
 have FV:=yA tX
 have jq:=f_.C8 (P:=P) (w:=w) (base:=base) (λ_ _ _ F=>uG F Z.toCz Bm g6 ma) λ_ _ _ _ _ _=>zD λ_=>rfl
 have vL:=p_ jq
 have tV:=FG.C8 (λ_ _ F=>D1 F Z.toCz eW) λ_ _ _ _ _ _=>i7 λ_ _=>rfl
 have FT:=yz tV
 have pI:=xT.eE (λ_ _ F=>uK F Z JE zB FV) λ_ _ _ _ _ _=>i7 λ_ _=>rfl
 have Bq:=Bj.eE (λ_ _ F=>wB F Z mT) λ_ _ _ _ _ _=>i7 λ_ _=>rfl
 have rJ:=rF.eE (λ_ _ F=>oQ F Z pI mT) λ_ _ _ _ _ _=>O9 λ_ _ _ _ _=>rfl
 have x4:=xR.eE (λ_ _ F=>uI F Z rJ) λ_ _ _ _ _ _=>i7 λ_ _=>rfl
 have CV:=oI.PR (P:=P) (w:=w) (base:=base) bV (λ_ _ F=>wy F bV bE bZ) λ_ _ _ _ _ _=>LV λ_ _ _ _=>rfl
 have jJ:=t6.tE (P:=P) (w:=w) (base:=base) (mg:=mg) bV.cl (λ_ _ F=>uE F Z bV bZ) λ_ _ _ _ _ _=>i7 λ_ _=>rfl
 have lB:=vN.tE (P:=P) (w:=w) (base:=base) (mg:=mg) bV.cl (λ_ _ F=>wz F Z bV bE) λ_ _ _ _ _ _=>zD λ_=>rfl
 have jK:=t8.tE (mg:=mg) bV.cl (λ_ _ F=>uF F Z bV bE bZ mT) λ_ _ _ _ _ _=>i7 λ_ _=>rfl
 have iG:=rW.tE (mg:=mg) bV.cl (λ_ _ F=>sv F Z bV bE k4 jK Bq) λ_ _ _ _ _ _=>i7 λ_ _=>rfl
 have x6:=mV.PR (P:=P) (w:=w) (base:=base) ax (λ_ _ F=>uC F (cL:=vS) N ax aH aV aG) λ_ _ _ _ _ _=>zD λ_=>rfl
 have bF:=ji.tE (P:=P) (w:=w) (base:=base) (mg:=mg) ax.cl (λ_ _ F=>jl F Z (cL:=vS) ax aG fq) λ_ _ _ _ _ _=>i7 λ_ _=>rfl
 have cD:=pJ.tE (mg:=mg) ax.cl (λ_ _ F=>qg F Z ax aV aH bF iG) λ_ _ _ _ _ _=>i7 λ_ _=>rfl
 have c_:=pL.tE (mg:=mg) ax.cl (λ_ _ F=>qi F Z ax aG aH cD x4) λ_ _ _ _ _ _=>zD λ_=>rfl
 have b7:=tZ.tE (mg:=mg) ax.cl (λ_ _ F=>uD F Z ax aG aH aV fA gZ pY mZ pN t9 x9 vL CV c_) λ_ _ _ _ _ _=>LV λ_ _ _ _=>rfl
 have iD:=rQ.tE (P:=P) (w:=w) (base:=base) (mg:=mg) ax.cl (λ_ _ F=>si F Z (cL:=vS) ax aH) λ_ _ _ _ _ _=>zD λ_=>rfl
 have iF:=rV.tE (P:=P) (w:=w) (base:=base) (mg:=mg) ax.cl (λ_ _ F=>su F Z (cL:=vS) ax aG) λ_ _ _ _ _ _=>zD λ_=>rfl
 have gA:=pK.tE (P:=P) (w:=w) (base:=base) (mg:=mg) ax.cl (λ_ _ F=>qh F Z (cL:=vS) ax aV fq) λ_ _ _ _ _ _=>i7 λ_ _=>rfl
 have fF:=oH.tE (mg:=mg) ax.cl (λ_ _ F=>oO F Z ax gA lB) λ_ _ _ _ _ _=>i7 λ_ _=>rfl
 have rK:=rG.eE (λ_ _ F=>oR F Z mT) λ_ _ _ _ _ _=>i7 λ_ _=>rfl
 have j8:=l4.PR (P:=P) (w:=w) (base:=base) bD (λ_ _ F=>se F bD aT) λ_ _ _ _ _ _=>zD λ_=>rfl
 have iB:=rL.tE (P:=P) (w:=w) (base:=base) (mg:=mg) bD.cl (λ_ _ F=>sd F Z bD aT) λ_ _ _ _ _ _=>OI λ_ _ _=>rfl
 have dU:=tY.tE (mg:=mg) bD.cl (λ_ _ F=>uB F Z bD aT iB rK) λ_ _ _ _ _ _=>LV λ_ _ _ _=>rfl
 have dy:=rM.tE (P:=P) (w:=w) (base:=base) (mg:=mg) bD.cl (λ_ _ F=>sf F Z bD aT) λ_ _ _ _ _ _=>zD λ_=>rfl
 have Br:=Bk.eE (λ_ _ F=>wC F Z N pI zB xZ) λ_ _ _ _ _ _=>i7 λ_ _=>rfl
 have dA:=rT.tE (mg:=mg) ax.cl (λ_ _ F=>so F Z ax aH cD Br mT) λ_ _ _ _ _ _=>OI λ_ _ _=>rfl
 have l3:=lZ.eE (λ_ _ F=>kH F Z CU) λ_ _ _ _ _ _=>zD λ_=>rfl
 have rH:=rE.eE (λ_ _ F=>oP F Z jF jG l3) λ_ _ _ _ _ _=>zD λ_=>rfl
 have fc:=mY.tE (mg:=mg) ax.cl (λ_ _ F=>nq F Z ax aH aG ju x_ rH mT j8 dA dU dy) λ_ _ _ _ _ _=>i7 λ_ _=>rfl
 have iE:=rR.tE (mg:=mg) ax.cl (λ_ _ F=>sj F Z ax aH fc c_) λ_ _ _ _ _ _=>i7 λ_ _=>rfl
 have iC:=rO.tE (mg:=mg) ax.cl (λ_ _ F=>sh F Z ax aG j8 dA dU dy) λ_ _ _ _ _ _=>zD λ_=>rfl
 have dz:=rS.tE (mg:=mg) ax.cl (λ_ _ F=>sk F Z ax aV aH aG bF jJ) λ_ _ _ _ _ _=>i7 λ_ _=>rfl
 have FW:=FK.eE (P:=P) (w:=w) (base:=base) (λ_ _ F=>B7 F Z) λ_ _ _ _ _ _=>zD λ_=>rfl
 have CS:=JA.eE (λ_ _ F=>D5 F Z FW) λ_ _ _ _ _ _=>i7 λ_ _=>rfl
 have FX:=FL.eE (P:=P) (w:=w) (base:=base) (λ_ _ F=>B8 F Z) λ_ _ _ _ _ _=>i7 λ_ _=>rfl
 have Bs:=Bl.eE (λ_ _ F=>wD F Z CS) λ_ _ _ _ _ _=>i7 λ_ _=>rfl
 have x5:=xS.eE (λ_ _ F=>uJ F Z Bs) λ_ _ _ _ _ _=>i7 λ_ _=>rfl
 have CT:=CH.eE (P:=P) (w:=w) (base:=base) (λ_ _ F=>yJ F Z) λ_ _ _ _ _ _=>i7 λ_ _=>rfl
 have FU:=FI.eE (P:=P) (w:=w) (base:=base) (λ_ _ F=>B6 F Z) λ_ _ _ _ _ _=>i7 λ_ _=>rfl
 have Mb:=O0.eE (λ_ _ F=>Kw F Z CP) λ_ _ _ _ _ _=>i7 λ_ _=>rfl
 have vK:=CF.eE (P:=P) (w:=w) (base:=base) (λ_ _ F=>yI F Z) λ_ _ _ _ _ _=>i7 λ_ _=>rfl
 have zC:=FH.eE (λ_ _ F=>B5 F Z Mb vK) λ_ _ _ _ _ _=>i7 λ_ _=>rfl
 have FR:=FE.eE (λ_ _ F=>B4 F Z CP) λ_ _ _ _ _ _=>LV λ_ _ _ _=>rfl
 have Bt:=Bn.eE (λ_ _ F=>wF F Z zC Mb CP vK) λ_ _ _ _ _ _=>i7 λ_ _=>rfl
 have vM:=CJ.eE (λ_ _ F=>yK F Z CS FX zC x5 Bt iD iF iC) λ_ _ _ _ _ _=>OI λ_ _ _=>rfl
 have zA:=FD.eE (P:=P) (w:=w) (base:=base) (λ_ _ F=>B3 F Z) λ_ _ _ _ _ _=>zD λ_=>rfl
 have Mc:=L9.eE (P:=P) (w:=w) (base:=base) (λ_ _ F=>GU F Z) λ_ _ _ _ _ _=>i7 λ_ _=>rfl
 have xY:=xP.eE (P:=P) (w:=w) (base:=base) (λ_ _ F=>uH F Z) λ_ _ _ _ _ _=>O9 λ_ _ _ _ _=>rfl
 have JF:=JC.eE (λ_ _ F=>D6 F Z Er b7) λ_ _ _ _ _ _=>LV λ_ _ _ _=>rfl
 have Bu:=Bo.eE (λ_ _ F=>wG F Z Er fF zA) λ_ _ _ _ _ _=>i7 λ_ _=>rfl
 have FQ:=FC.eE (λ_ _ F=>B2 F Z Bu vM dz b7) λ_ _ _ _ _ _=>O9 λ_ _ _ _ _=>rfl
 exact GV F Z JD CO FT x6 FR CT FU Mc xY JF zA vM FQ dz b7 iE
end Ov
namespace PySem.W.Fast
def tw15961986403795037225:=0
def tw4564501340936225395:=0
def tw3350698100609112234:=0
def tw15379970108299918715:=0
def tw17247738651865371786:=0
def tw12671768550544486896:=0
def tw14225912888932616334:=0
def tw8986493808285550620:=0
def tw10884095093583695569:=0
def tw5917476311214196176:=0
def tw4897726995946900828:=0
def tw10394864717814571439:=0
def tw7742150618880987444:=0
def tw4061511260781760960:=0
def tw18110698698387593087:=0
def tw6375299227837441851:=0
def tw2663326294359535832:=0
def tw15145659626831911471:=0
def tw13493090530178435863:=0
def tw17010805279608973051:=0
def tw6424847065896253460:=0
def tw9328916640607858716:=0
def tw6144901593844091197:=0
def tw2346166833340894499:=0
def tw5906761028728701914:=0
def tw1656891191338902942:=0
def tw12478392761852561396:=0
def tw5944683783723989761:=0
def tw12124438118070178648:=0
def tw12044913368026917763:=0
def tw17010551697916701785:=0
def tw14750572058079713269:=0
def tw14485929364847554122:=0
def tw10771270645554239173:=0
def tw8954747054642885917:=0
def tw9505436132151432446:=0
def tw3860019469625820000:=0
def tw8492973830774130764:=0
def tw13625502305123639260:=0
def tw10018277025129573146:=0
def tw2374605361267132068:=0
def tw4065091504179389122:=0
def tw9664238550562392206:=0
def tw812059351206519191:=0
def tw14807727692480041047:=0
def tw15172478752643040925:=0
def tw16944604226980867183:=0
def tw17234741747095558492:=0
def tw6485903233959288241:=0
def tw6303192819809401179:=0
def tw16192840352804234671:=0
def tw12284798518292638800:=0
def tw15854413233991970180:=0
def tw5600309770265970145:=0
def tw11011072397843370849:=0
def tw15954809414383017392:=0
def tw12596828107609930411:=0
def tw9754807228388634333:=0
def tw7994676571882651993:=0
def tw3986375147051863801:=0
def tw9069132997669504159:=0
def tw11751492540794429841:=0
def tw16251307633045331270:=0
def tw18108007645869602873:=0
def tw7511513579884416491:=0
def tw14839733202690866138:=0
def tw8703608625126880782:=0
def tw17199075335257511045:=0
def tw4364019368286881562:=0
def tw11780259805010120065:=0
def tw10609075306662729381:=0
def tw3702475606674025141:=0
def tw5781749559526800211:=0
def tw1082119742441763738:=0
def tw18063569139562260350:=0
def tw9537410751011445976:=0
def tw13816754648750335402:=0
def tw1379581950451807116:=0
def tw3018490124131217415:=0
def tw4089689582128269044:=0
def tw2910435524818148938:=0
def tw13377013197015332237:=0
def tw1072695095778447592:=0
def tw6197223078231713915:=0
def tw6815112910884564127:=0
def tw17175863109540006596:=0
def tw9457723896036146526:=0
def tw17691096980725393581:=0
def tw5661785429864275495:=0
def tw17905751035962644112:=0
def tw17028357828184044339:=0
def tw12136980687547537276:=0
def tw16734139359361883252:=0
def tw1361563234190533823:=0
def tw3134066449638343936:=0
def tw2536404995118170558:=0
def tw16571069929220237900:=0
def tw17112111944498960226:=0
def tw3842119970914134275:=0
def tw9563103917612949084:=0
def tw8001194995328224266:=0
def tw16293470838451804139:=0
def tw4447881685439441501:=0
def tw3822732497591395982:=0
def tw7792098934262978029:=0
def tw15772509144939370078:=0
def tw6496064089866675952:=0
def tw9635976580880225492:=0
def tw428083637449097823:=0
def tw9415958364267542477:=0
def tw8395418860839438013:=0
def tw1625001765271674233:=0
def tw1696432047010244481:=0
def tw15374391782192017126:=0
def tw15298998900298053647:=0
def tw269130951894081295:=0
def tw8935972685287351326:=0
def tw7363488001241422904:=0
def tw16517388971516396953:=0
def tw12280002630300129246:=0
def tw4897643623906533035:=0
def tw7041916944125776402:=0
def tw3649263519944028899:=0
def tw11912999177255324551:=0
def tw5460474081906773512:=0
def tw10822544740775775663:=0
def tw2620026935749482914:=0
def tw12343158442960254959:=0
def tw11321386841553084433:=0
def tw7136921344216906223:=0
def tw6239348774331113566:=0
def tw12218629525935671029:=0
def tw14326504423703050452:=0
def tw10038473293316263028:=0
def tw6973770800492208636:=0
def tw11568079326306473942:=0
def tw4004211291625640086:=0
def tw15893583506797147662:=0
def tw9054705221818982954:=0
def tw13880763511701723169:=0
def tw4778200084218217838:=0
def tw15921128871339684461:=0
def tw14993432197256282763:=0
def tw964611857426894975:=0
def tw3582643781574777129:=0
def tw17237192921859993657:=0
def tw7687622487719745504:=0
def tw14786086673986029093:=0
def tw3566901215154104288:=0
def tw14454421945284818327:=0
def tw17183498537190165572:=0
def tw5157779798850255228:=0
def tw16355832994408121364:=0
def tw15846556692942384101:=0
def tw1226638982816269792:=0
def tw7316070689377868496:=0
def tw3524838699856888492:=0
def tw12904973218926905067:=0
def tw17823342321232177414:=0
def tw4792180039317454071:=0
def tw5137963733304893406:=0
def tw8083608619101583303:=0
def tw9616097204738855872:=0
def tw9350457537928002339:=0
def tw17741467287617129425:=0
def tw373569551731120692:=0
def tw8468339934243028211:=0
def tw521236216254233023:=0
def tw3526796678235267305:=0
def tw14078140879549636137:=0
def tw2093294138943231223:=0
def tw16407719256511174108:=0
def tw13971890853130826336:=0
def tw6398821416086111781:=0
def tw14500158766301851617:=0
def tw10204149515390041520:=0
def tw6336598827665180926:=0
def tw17504647807793229886:=0
def tw4647971736565778920:=0
def tw12900160216987364895:=0
def tw539032517622852967:=0
def tw7336243340346801491:=0
def tw7426688027936600827:=0
def tw323926278349305752:=0
def tw2891136691029187545:=0
def tw9532728477271671129:=0
def tw7711372568538463148:=0
def tw17412876067530243392:=0
def tw6057058012112039791:=0
def tw7695713267121914195:=0
def tw3478942762195999989:=0
def tw15687164697071518700:=0
def tw8486426468513142472:=0
def tw17960947256343619328:=0
def tw9541069385911096653:=0
def tw7372525148730163949:=0
def tw12521252810576426567:=0
def tw7406549098144405562:=0
def tw1692135987445880778:=0
def tw9531144023866485969:=0
def tw10319365584948284794:=0
def tw1711112458171007298:=0
def tw2368364526710794239:=0
def tw3743401770440144871:=0
def tw1090449670020122955:=0
def tw10188475315254773557:=0
def tw4730017109156059201:=0
def tw5898572393068208541:=0
def tw9401985627250892705:=0
def tw658164583345765719:=0
def tw2714850764391497733:=0
def tw18396163366662935332:=0
def tw13924582223137840306:=0
def tw17663901339057495002:=0
def tw16347100829572106634:=0
def tw7412393124704831014:=0
def tw6999563257856432158:=0
def tw5511204005724537390:=0
def tw5362801353165497120:=0
def tw16321325402494977166:=0
def tw261306174772626269:=0
def tw7395326126996992704:=0
def tw5699972562873918682:=0
def tw1401451647634214974:=0
def tw7947265120857357822:=0
def tw10483832415957185491:=0
def tw1356495985300144208:=0
def tw12578658922245055399:=0
def tw11460307861785590535:=0
def tw1977657908382144252:=0
def tw11666396231144108099:=0
def tw12580493087148857294:=0
def tw4398925584145785981:=0
def tw5761706578633594708:=0
def tw2677167893471588844:=0
def tw17746982753005735481:=0
def tw14657086796301068591:=0
def tw13556407474395665756:=0
def tw1746636673835587379:=0
def tw3383581970116954861:=0
def tw8226434920165667479:=0
def tw4212189540825860863:=0
def tw17886774324426676916:=0
def tw15972734143362702750:=0
def tw12709173725797378061:=0
def tw2068316389688515413:=0
def tw14701497369199386280:=0
def tw10476080057457665224:=0
def tw8912214907004724251:=0
def tw6875461430520318280:=0
def tw4394902884112497226:=0
def tw3661588648073939392:=0
def tw1989051306101292586:=0
def tw13816446241356105542:=0
def tw13029372912129848214:=0
def tw1275188427342798170:=0
def tw10863541928792038920:=0
def tw9802186332976140850:=0
def tw12161328922464488605:=0
def tw14670751836636470955:=0
def tw14405991846828866053:=0
def tw11791486173699276344:=0
def tw16030933962804167617:=0
def tw11361069903562635457:=0
def tw13663803623215112069:=0
def tw16002843382953315351:=0
def tw699159650380965533:=0
def tw3653902948132148918:=0
def tw7974972534671716059:=0
def tw17800160549320195928:=0
def tw1672727083441384645:=0
def tw8937993133297408158:=0
def tw5395454586305379868:=0
def tw4675811204828851239:=0
def tw1256029886791121329:=0
def tw552695646585525460:=0
def tw10141331022074987281:=0
def tw9533597961826550351:=0
def tw7662738091398866149:=0
def tw12566514795998565567:=0
def tw9675139361990809294:=0
def tw10489080132924486820:=0
def tw11170350236612721983:=0
def tw16883331954194290765:=0
def tw16856998005178259903:=0
def tw9513358278092454092:=0
def tw993211313779895472:=0
def tw6143797256177414488:=0
def tw14163406789012779551:=0
def tw581868529816064150:=0
def tw15803265296790436832:=0
def tw8282400292942122643:=0
def tw3792130623840905620:=0
def tw15630094927726828092:=0
end PySem.W.Fast
open PySem PySem.W PyProof.Rows
set_option hygiene false
local macro_rules | `(tactic| simp_arith)=>`(tactic| (dsimp only [L2.CN];refine' Ov.JS KX G ?a ?l ?c ?k;(case a=>k_is);(case l=>k_is);(case c=>k_is);(case k=>k_is)))
set_option maxRecDepth 100000 in
set_option maxHeartbeats 0 in
theorem PySem.Challenge.cw_overhaul_k17_joining_refused_holds : PySem.Challenge.rw_overhaul_k17_joining_refused.Holds := by
 w_on;o_law;k_head;(case hw=>w_witness2)
 k_fill
 refine Ov.Fh (l:=PySem.Challenge.rw_overhaul_k17_joining_refused) (n:=63) (k:=11) (x:="_law_script") (sp:=Ov.EW) ["good_name"] rfl (by decide) rfl ⟨rfl,by decide,by decide⟩ (λw h Y=>PySem.W.kIn_of Y) ?Nm ?F (λtabs K H a ns hl hT hS hA hK=>⟨a,ns,rfl,hS,hl,hT,hA,hK,λ_ e=>⟨rfl,e⟩⟩)
 case Nm=>decide +kernel
 case F =>
  intro w mg fa h KX G hmg
  obtain ⟨f',f_⟩:∃T,Ov.xU (L2.CN KX) mg "good_name" Ov.gq T:=by
   dsimp only [L2.CN]
   refine' ⟨_,Ov.F' KX G ?ga ?gl ?gc ?gk ?gt ?gp ?gb ?ge ?go⟩
   (case ga=>k_is);(case gl=>k_is);(case gc=>k_is);(case gk=>k_is);(case gt=>k_is);(case gp=>rfl);(case gb=>kernel_rfl);(case ge=>decide);(case go=>kernel_rfl)
  have L_:Ov.Def (L2.CN KX) mg "law" Ov.xg:=by simp_arith
  have Z:Ov.bT mg:=by
   refine' ⟨Ov.Cz.mk (PySem.W.mg_none_of KX G ?z0) (PySem.W.mg_none_of KX G ?z1) (PySem.W.mg_none_of KX G ?z2) (PySem.W.mg_none_of KX G ?z3) (PySem.W.mg_none_of KX G ?z4) (PySem.W.mg_none_of KX G ?z5) (PySem.W.mg_none_of KX G ?z6) (PySem.W.mg_none_of KX G ?z7) (PySem.W.mg_none_of KX G ?z8) (PySem.W.mg_none_of KX G ?z9),PySem.W.mg_none_of KX G ?w0,PySem.W.mg_none_of KX G ?w1,PySem.W.mg_none_of KX G ?w2,PySem.W.mg_none_of KX G ?w3,PySem.W.mg_none_of KX G ?w4⟩
   (case z0=>k_is);(case z1=>k_is);(case z2=>k_is);(case z3=>k_is);(case z4=>k_is);(case z5=>k_is);(case z6=>k_is);(case z7=>k_is);(case z8=>k_is);(case z9=>k_is);(case w0=>k_is);(case w1=>k_is);(case w2=>k_is);(case w3=>k_is);(case w4=>k_is)
  obtain ⟨W,c,Er⟩:∃W c,Ov.xW (L2.CN KX) mg W c:=by
   dsimp only [L2.CN]
   refine' Ov.Gk KX G ?v ?w ?a0 ?a1 ?a2 ?a3 ?a4 ?a5 ?a6 ?a7 ?a8 ?a9 ?b
   (case v=>k_is);(case w=>k_is);(case a0=>k_is);(case a1=>k_is);(case a2=>k_is);(case a3=>k_is);(case a4=>k_is);(case a5=>k_is);(case a6=>k_is);(case a7=>k_is);(case a8=>k_is);(case a9=>k_is)
   (case b=>kernel_rfl)
  have N:Ov.pM (L2.CN KX) mg:=by
   dsimp only [L2.CN]
   refine' Ov.BY KX G ?a ?l
   (case a=>k_is);(case l=>k_is)
  obtain ⟨i5,fA⟩:∃t,mg "FARTHEST"=some (.int 1000000 t):=by
   refine' Ov.const_int KX G ?cz ?cw
   (case cz=>k_is);(case cw=>kernel_rfl)
  obtain ⟨kE,gZ⟩:∃t,mg "FASTEST"=some (.int 1000 t):=by
   refine' Ov.const_int KX G ?cz ?cw
   (case cz=>k_is);(case cw=>kernel_rfl)
  obtain ⟨mM,jF⟩:∃t,mg "FINEST"=some (.int 60 t):=by
   refine' Ov.const_int KX G ?cz ?cw
   (case cz=>k_is);(case cw=>kernel_rfl)
  obtain ⟨mO,jG⟩:∃t,mg "LATEST"=some (.int 1000000 t):=by
   refine' Ov.const_int KX G ?cz ?cw
   (case cz=>k_is);(case cw=>kernel_rfl)
  obtain ⟨kF,g6⟩:∃t,mg "LONGEST"=some (.int 8 t):=by
   refine' Ov.const_int KX G ?cz ?cw
   (case cz=>k_is);(case cw=>kernel_rfl)
  obtain ⟨vF,pY⟩:∃t,mg "MOST"=some (.int 12 t):=by
   refine' Ov.const_int KX G ?cz ?cw
   (case cz=>k_is);(case cw=>kernel_rfl)
  obtain ⟨pB,ma⟩:∃t,mg "SIGNS"=some (.str "abcdefghijklmnopqrstuvwxyz0123456789" t):=by
   refine' Ov.Bz KX G ?cz ?cw
   (case cz=>k_is);(case cw=>kernel_rfl)
  obtain ⟨fd,F,hb⟩:=Ov.Kh L_ hmg (λ_ _ _ _ _ _ _=>rfl)
  exact ⟨fd,[f'],hb,(λT hT=>by simp only [Sf,SF,or_false] at hT;rcases hT with rfl <;> first | exact ⟨_,by simp,_,f_⟩),λbase _ _ Bm=>Ov.BM (Ov.JH Z Er N fA gZ jF jG g6 pY ma (by dsimp only [L2.CN];refine' ⟨_,Ov.ur KX G ?a ?pg ?hd ?po ?sa ?mk ?kc,?n0,?n1,Ov.bH ?m0a ?m0i ?m0l ?m0c ?m0k,Ov.bH ?m1a ?m1i ?m1l ?m1c ?m1k,Ov.bH ?m2a ?m2i ?m2l ?m2c ?m2k,Ov.bH ?m3a ?m3i ?m3l ?m3c ?m3k,Ov.bH ?m4a ?m4i ?m4l ?m4c ?m4k⟩;(case a=>k_is);(case pg=>k_is);(case hd=>k_is);(case po=>k_is);(case sa=>k_is);(case mk=>k_is);(case kc=>k_is);(case n0=>(show PySem.W.findIn _ _ _=_;k_is));(case n1=>(show PySem.W.findIn _ _ _=_;k_is));(case m0a=>k_is);(case m0i=>k_is);(case m0l=>k_is);(case m0c=>k_is);(case m0k=>k_is);(case m1a=>k_is);(case m1i=>k_is);(case m1l=>k_is);(case m1c=>k_is);(case m1k=>k_is);(case m2a=>k_is);(case m2i=>k_is);(case m2l=>k_is);(case m2c=>k_is);(case m2k=>k_is);(case m3a=>k_is);(case m3i=>k_is);(case m3l=>k_is);(case m3c=>k_is);(case m3k=>k_is);(case m4a=>k_is);(case m4i=>k_is);(case m4l=>k_is);(case m4c=>k_is);(case m4k=>k_is)) (by dsimp only [L2.CN];refine' ⟨_,Ov.ur KX G ?a ?pg ?hd ?po ?sa ?mk ?kc,?n0,?n1,?n2,Ov.bH ?m0a ?m0i ?m0l ?m0c ?m0k,Ov.bH ?m1a ?m1i ?m1l ?m1c ?m1k,Ov.bH ?m2a ?m2i ?m2l ?m2c ?m2k,Ov.bH ?m3a ?m3i ?m3l ?m3c ?m3k,Ov.bH ?m4a ?m4i ?m4l ?m4c ?m4k,Ov.bH ?m5a ?m5i ?m5l ?m5c ?m5k,Ov.bH ?m6a ?m6i ?m6l ?m6c ?m6k,Ov.bH ?m7a ?m7i ?m7l ?m7c ?m7k,Ov.bH ?m8a ?m8i ?m8l ?m8c ?m8k,Ov.bH ?m9a ?m9i ?m9l ?m9c ?m9k,Ov.bH ?m10a ?m10i ?m10l ?m10c ?m10k,Ov.bH ?m11a ?m11i ?m11l ?m11c ?m11k,Ov.bH ?m12a ?m12i ?m12l ?m12c ?m12k,Ov.bH ?m13a ?m13i ?m13l ?m13c ?m13k⟩;(case a=>k_is);(case pg=>k_is);(case hd=>k_is);(case po=>k_is);(case sa=>k_is);(case mk=>k_is);(case kc=>k_is);(case n0=>(show PySem.W.findIn _ _ _=_;k_is));(case n1=>(show PySem.W.findIn _ _ _=_;k_is));(case n2=>(show PySem.W.findIn _ _ _=_;k_is));(case m0a=>k_is);(case m0i=>k_is);(case m0l=>k_is);(case m0c=>k_is);(case m0k=>k_is);(case m1a=>k_is);(case m1i=>k_is);(case m1l=>k_is);(case m1c=>k_is);(case m1k=>k_is);(case m2a=>k_is);(case m2i=>k_is);(case m2l=>k_is);(case m2c=>k_is);(case m2k=>k_is);(case m3a=>k_is);(case m3i=>k_is);(case m3l=>k_is);(case m3c=>k_is);(case m3k=>k_is);(case m4a=>k_is);(case m4i=>k_is);(case m4l=>k_is);(case m4c=>k_is);(case m4k=>k_is);(case m5a=>k_is);(case m5i=>k_is);(case m5l=>k_is);(case m5c=>k_is);(case m5k=>k_is);(case m6a=>k_is);(case m6i=>k_is);(case m6l=>k_is);(case m6c=>k_is);(case m6k=>k_is);(case m7a=>k_is);(case m7i=>k_is);(case m7l=>k_is);(case m7c=>k_is);(case m7k=>k_is);(case m8a=>k_is);(case m8i=>k_is);(case m8l=>k_is);(case m8c=>k_is);(case m8k=>k_is);(case m9a=>k_is);(case m9i=>k_is);(case m9l=>k_is);(case m9c=>k_is);(case m9k=>k_is);(case m10a=>k_is);(case m10i=>k_is);(case m10l=>k_is);(case m10c=>k_is);(case m10k=>k_is);(case m11a=>k_is);(case m11i=>k_is);(case m11l=>k_is);(case m11c=>k_is);(case m11k=>k_is);(case m12a=>k_is);(case m12i=>k_is);(case m12l=>k_is);(case m12c=>k_is);(case m12k=>k_is);(case m13a=>k_is);(case m13i=>k_is);(case m13l=>k_is);(case m13c=>k_is);(case m13k=>k_is)) (by dsimp only [L2.CN];refine' ⟨_,Ov.ur KX G ?a ?pg ?hd ?po ?sa ?mk ?kc,?n0,Ov.bH ?m0a ?m0i ?m0l ?m0c ?m0k,Ov.bH ?m1a ?m1i ?m1l ?m1c ?m1k,Ov.bH ?m2a ?m2i ?m2l ?m2c ?m2k,Ov.bH ?m3a ?m3i ?m3l ?m3c ?m3k⟩;(case a=>k_is);(case pg=>k_is);(case hd=>k_is);(case po=>k_is);(case sa=>k_is);(case mk=>k_is);(case kc=>k_is);(case n0=>(show PySem.W.findIn _ _ _=_;k_is));(case m0a=>k_is);(case m0i=>k_is);(case m0l=>k_is);(case m0c=>k_is);(case m0k=>k_is);(case m1a=>k_is);(case m1i=>k_is);(case m1l=>k_is);(case m1c=>k_is);(case m1k=>k_is);(case m2a=>k_is);(case m2i=>k_is);(case m2l=>k_is);(case m2c=>k_is);(case m2k=>k_is);(case m3a=>k_is);(case m3i=>k_is);(case m3l=>k_is);(case m3c=>k_is);(case m3k=>k_is)) (by simp_arith) (by simp_arith) (by simp_arith) (by simp_arith) (by simp_arith) (by simp_arith) (by simp_arith) (by simp_arith) (by simp_arith) f_ (by simp_arith) (by simp_arith) (by simp_arith) (by simp_arith) (by simp_arith) (by simp_arith) (by simp_arith) (by simp_arith) (by simp_arith) (by simp_arith) (by simp_arith) (by simp_arith) (by simp_arith) (by simp_arith) (by simp_arith) (by simp_arith) (by simp_arith) (by simp_arith) (by simp_arith) (by simp_arith) (by simp_arith) (by simp_arith) (by simp_arith) (by simp_arith) (by simp_arith) (by simp_arith) (by simp_arith) (by simp_arith) F base Bm)⟩
