import PyProof.Rows.All
import Wide.All
import OpenK.AllK
import Wide.FinOn
import Lean
import PyProof.EqAt
import PyProof.EqKinds
import PyProof.TupleCall
import PyProof.NeKinds
import PyProof.CompFree
import PyProof.CompMap
import PyProof.ListRange
import PyProof.Rows.SortWalk
import PyProof.ExcArgsOwn
import PyProof.ExcAttrAll.ValueError
import KE.KTryMore
import PyProof.GenCompD
import PyProof.StrWalks
import PyProof.ConsumeS
import PyProof.StrOps2
import KE.KRevIter
import PyProof.Rows.FStr
import PyProof.ZipIter
import PyProof.DictWalks
import PyProof.DictCompW
import PyProof.DictRoads
import PyProof.MeetsDictList
import KE.KDictList
import PyProof.EnumFor
import PyProof.EnumMake
import PyProof.WalksEnum
import KE.KIntText
import PyProof.Rows.StrNews
import KE.KDictOf
import KE.KxMul
import KE.KRevSl
import PyProof.DictValues
import PyProof.RulesDelMore
import KE.KDictObj
import PyProof.WalksMore
import PyProof.Cells
import KE.KNestM
import PySem.Challenge.RW_overhaul_k46_watches_full_and_anew
noncomputable section
set_option compiler.extract_closed false
set_option Elab.async false
set_option linter.all false
set_option maxRecDepth 100000
open PySem.SeqAt.EqAt renaming same→Yc,int_str→Yk,str_int→Yl,str_str→Yq,none_bool→Zg,bool_none→Zh,bool_bool→Zi,none_int→Zr,none_str→Zs,bool_int→Zt,bool_str→Zu,int_none→Zv,int_bool→Zw,str_none→Zx,str_bool→Zy,int_int→ZD,of_refs→ZG
open PySem.W renaming Frag→VL,mg_of→Wy,nsIn→WA,fnOf→WD,findIn→WK,keepIn→WL,emptyDict→WT,instObj→W9,codeIn→Xp,plainGet→XH,hasDictIn→XZ,plainGet_of→X',makesIn→Ya,callWith_K0→Yb,isFn→Yo,callWith_K→Yp,mg_none_of→Yr,lookIn→Yu,kitOne→Yx,methodObj→YB,plainOver→YC,cellsFrom_some→YQ,hideAll→YU,takerIn→YW,methodCall_KW→YX,hideAll_get→Zq,of_hideAll→ZC,excIn→ZH,handedIn→ZX
open PySem.F renaming plainAttrs_list→V3,slot_list_append→Wb,type_list_append→Wc,slot_list_insert→W6,type_list_insert→Xg,slot_list_extend→XN,slot_dict_delitem→Yy,slot_dict_values→YF,type_list_extend→YH,plainAttrs_dict→YL,slot_dict_pop→Y',slot_list_pop→Zd,type_list_pop→Ze
open List renaming length_map→VM,getElem?_eq_getElem→VN,getElem?_eq_some_iff→VO,map_append→VP,mem_map→VQ,map_cons→VR,getElem?_map→VS,size_toArray→VU,mem_singleton→VV,map_map→VX,mem_append→VY,length_append→VZ,mem_of_getElem?→V0,mem_append_right→V1,mem_cons→V2,mem_cons_of_mem→V5,mem_filter→V8,mem_cons_self→V9,length_cons→V_,take_add_one→V',length_take→Wa,take_length→Wg,filterMap_cons→Wh,getElem_mem→Wi,map_nil→Wj,getLast?_concat→Wl,lookup_cons→Wo,getElem?_set_self→Wq,filter_cons→Wu,mem_iff_getElem?→Wv,filter_eq_self→Wx,not_mem_nil→WB,nodup_append→WC,getElem?_eq_none→WG,length_filter_le→WH,eq_nil_or_concat→WI,concat_eq_append→WJ,range→WM,foldl_append→WN,getElem?_set_ne→WO,map_congr_left→WR,take_sublist→WU,replicate→WW,append_nil→WX,dropLast_concat→W0,mem_of_mem_take→W2,pairwise_iff_getElem→W3,map_take→W4,nodup_cons→W5,dropLast_concat_getLast→W7,mem_range→W8,length_nil→W_,length_drop→Xa,all_eq_true→Xb,getElem?_append_left→Xd,mem_append_left→Xe,length→Xj,getElem?_cons_succ→Xk,getElem_of_mem→Xl,getElem_inj→Xn,take_of_length_le→Xr,mem_filterMap→Xt,cons_lt_cons_iff→Xv,any_cons→Xx,getElem?_append_right→XA,exists_cons_of_ne_nil→XB,getD_eq_getElem?_getD→XC,pairwise_append→XD,getElem?_eq_none_iff→XF,drop_eq_getElem_cons→XG,mem_flatMap→XI,lookup→XJ,length_set→XQ,getElem?_cons_zero→XS,foldl_cons→XT,pairwise_cons→XU,map_drop→XX,filter_map→XY,length_range→X1,append_assoc→X2,take_zero→X4,getElem_map→X6,any_eq_true→X7,length_reverse→Yf,mem_map_of_mem→Yg,filter_sublist→Yh,filter_append→Ys,getElem?_drop→Yt,drop_zero→Yw,nodup_nil→Yz,mem_take_iff_getElem→YA,getElem?_replicate→YI,lookup_eq_some_iff→YJ,drop_length→YN,filter_eq_nil_iff→YS,of_mem_zip→YY,length_replicate→YZ,dropLast_eq_take→Y3,filter_nil→Y4,getElem?_reverse→Y9,head?_cons→Za,length_dropLast→Zj,mem_of_mem_drop→Zk,forall_mem_cons→Zm,getElem?_range→Zz,replicate_succ→ZA,all_cons→ZE,map→ZI,zip_cons_cons→ZJ,flatten_cons→ZQ,any_map→ZW,nil_lt_cons→Z3,append_inj'→Z6,forIn_cons→Z8,find?_cons→Z_
open Nat renaming le_refl→VT,le_trans→V6,lt_of_lt_of_le→V7,ne_of_lt→Wf,lt_of_le_of_lt→Wn,zero_le→Ww,lt_irrefl→Xc,lt_succ_self→Xo,lt_or_eq_of_le→XW,not_lt_zero→Ye,le_of_lt→Ym,ne_of_gt→Yn,le_succ_of_le→YE,mul_div_cancel_left→YK,succ_le_succ→YO,lt_or_ge→Y8,lt_trans→Y_,lt_trichotomy→ZR,le_of_eq→ZS,min_self→ZT,le_add_right→Z2
open Bool renaming false_eq_true→We,and_eq_true→Wt,false_ne_true→Wz,and_true→Xy,not_true→Xz,and_false→XE,false_and→X3,eq_iff_iff→Y1,beq_eq_decide_eq→Y6,true_and→ZL,not_eq_true'→ZP,decide_and→Z9
open Option renaming some→Ws,map_eq_some_iff→Xs,map_some→Xu,isSome_iff_exists→YD,getD_none→ZY
open Int renaming fdiv_eq_ediv_of_nonneg→Wr,gcd→WE,natCast_nonneg→WY,emod_lt_of_pos→WZ,emod_nonneg→W',toNat_natCast→Xf,mul_le_mul_of_nonneg_right→Xh,mul_pos→Xw,toNat_of_nonneg→XM,zero_add→XO,gcd_dvd_right→X0,ofNat_lt→X5,mul_le_mul_of_nonneg_left→X9,lt_ediv_add_one_mul_self→X_,le_of_mul_le_mul_right→Yj,toNat→YG,gcd_dvd_left→YM,gcd_comm→Y0,mul_ne_zero→Zc,natAbs_mul→Zp,mul_right_comm→ZK,dvd_mul_right→ZN,lt_trichotomy→ZO,natCast_ediv→ZZ,neg_fdiv_neg→Z0
open Rat renaming intCast_mul→Wk,divInt→Wm,intCast_le_intCast→WQ,divInt_eq_div→WV,mul_le_mul_of_nonneg_right→Xi,lt_irrefl→Xm,not_lt→Xq,intCast_add→XR,mul_le_mul_of_nonneg_left→X8,intCast_sub→Yd,den_intCast→Yi,intCast_lt_intCast→YT,le_of_lt→Zb,mul_eq_zero→Zf,den_divInt→Zn,num_divInt_den→ZF,le_trans→ZU,zero_mul→ZV,natCast_mul→Z',le_refl→aaa
open PySem.Heap renaming get?_push_of_some→VW,lt_size→V4,get?_push_size→Wd,size_push→Yv,get?_update_other→YR,SameBut→YV,FlyingW→Y2,MadeExcOf→Zo
namespace L2
open PySem PySem.Spec PyProof.Rows
section
abbrev Key:=Sum Int Str
def Lv:Key→Value→Bool
 | .inl k,v=>Value.isInt k v
 | .inr x,v=>Value.isStrOf x v
def Tb (w:World):Key→Int
 | .inl k=>hashInt k
 | .inr x=>hashStr w x
theorem cW:∀{k:Key} {v:Value},Lv k v=true→(∃i t,k=Sum.inl i∧v=Value.int i t)∨(∃x t,k=Sum.inr x∧v=Value.str x t)
 | .inl i,v,h=>by
  obtain ⟨t,e⟩:=Value.isInt_shape (k:=i) (v:=v) h
  exact .inl ⟨i,t,rfl,e⟩
 | .inr x,v,h=>by
  obtain ⟨t,e⟩:=Value.isStrOf_shape (x:=x) (v:=v) h
  exact .inr ⟨x,t,rfl,e⟩
theorem M5 (a b:Int):decide ((Sum.inl a:Key)=Sum.inl b)=(a == b):=by
 by_cases e:a=b
 ·subst e;simp
 ·have h:¬ (Sum.inl a:Key)=Sum.inl b:=λq=>e (Sum.inl.inj q)
  rw [decide_eq_false h]
  exact (beq_eq_false_iff_ne.mpr e).symm
theorem M8 (a b:Str):decide ((Sum.inr a:Key)=Sum.inr b)=decide (a=b):=by
 by_cases e:a=b
 ·subst e;simp
 ·have h:¬ (Sum.inr a:Key)=Sum.inr b:=λq=>e (Sum.inr.inj q)
  rw [decide_eq_false h,decide_eq_false e]
theorem M6 (a:Int) (b:Str):decide ((Sum.inl a:Key)=Sum.inr b)=false:=decide_eq_false (λq=>nomatch q)
theorem M7 (a:Str) (b:Int):decide ((Sum.inr a:Key)=Sum.inl b)=false:=decide_eq_false (λq=>nomatch q)
def JC (prog:Program) (w:World):PySem.KeyKind prog w Key where
 is:=Lv
 hash:=Tb w
 inj:=λv a b ha hb=>by
  rcases cW ha with ⟨i,t,rfl,rfl⟩ | ⟨x,t,rfl,rfl⟩
  ·rcases cW hb with ⟨j,u,rfl,e⟩ | ⟨y,u,rfl,e⟩
   ·injection e with e1 _;rw [e1]
   ·exact nomatch e
  ·rcases cW hb with ⟨j,u,rfl,e⟩ | ⟨y,u,rfl,e⟩
   ·exact nomatch e
   ·injection e with e1 _;rw [e1]
 byValue:=λk v h=>by
  rcases cW h with ⟨i,t,rfl,rfl⟩ | ⟨x,t,rfl,rfl⟩ <;> rfl
 pyHash:=λhv h=>by
  rcases cW hv with ⟨i,t,rfl,rfl⟩ | ⟨x,t,rfl,rfl⟩
  ·exact wpAny_pyHash_int h
  ·exact wpAny_pyHash_str h
 eqBool:=λhu hv h=>by
  rcases cW hu with ⟨i,t,rfl,rfl⟩ | ⟨x,t,rfl,rfl⟩
  ·rcases cW hv with ⟨j,u,rfl,rfl⟩ | ⟨y,u,rfl,rfl⟩
   ·rw [M5] at h;exact wpAny_eqBool_int h
   ·rw [M6] at h;exact Yk i t y u _ _ _ _ h
  ·rcases cW hv with ⟨j,u,rfl,rfl⟩ | ⟨y,u,rfl,rfl⟩
   ·rw [M7] at h;exact Yl x t j u _ _ _ _ h
   ·rw [M8] at h;exact wpAny_eqBool_str h
 «strs»:=λk x t v h=>by
  rcases cW h with ⟨i,u,rfl,e⟩ | ⟨y,u,rfl,e⟩
  ·exact nomatch e
  ·injection e with e1 _
   subst e1
   cases v <;> rfl
inductive V where
 | non | bl (b:Bool) | int (i:Int) | str (x:Str) | byt (b:Array UInt8) | flt (b:UInt64) | ref (a:Addr) | ty (n:String)
 deriving DecidableEq
def RelV:V→Value→Prop
 | .non,u=>u=Value.none
 | .bl b,u=>u=Value.bool b
 | .int i,u=>∃t,u=Value.int i t
 | .str x,u=>∃t,u=Value.str x t
 | .byt b,u=>∃t,u=Value.bytes b t
 | .flt b,u=>∃t,u=Value.float b t
 | .ref a,u=>u=Value.ref a
 | .ty n,u=>u=Value.type n
abbrev Vals:List V→List Value→Prop:=Paired RelV
variable {xs:List L2.V} {us:List Value}
theorem Vals.length (r:Vals xs us):xs.length=us.length:=Paired.length r
theorem Vals.get:∀{xs:List V} {us:List Value} {i:Nat} {x:V},Vals xs us→xs[i]?=some x→∃u,us[i]?=some u∧RelV x u
 | _,_,_,_,.nil,e=>by simp at e
 | _,_,0,_,.cons r _,e=>by simp at e;subst e;exact ⟨_,rfl,r⟩
 | _,_,i + 1,x,.cons _ t,e=>by
  obtain ⟨u,h1,h2⟩:=Vals.get (i:=i) (x:=x) t (by simpa using e)
  exact ⟨u,by simpa using h1,h2⟩
theorem Vals.set {x:V} {u:Value} (r:RelV x u):∀{xs:List V} {us:List Value} (i:Nat),Vals xs us→Vals (xs.set i x) (us.set i u)
 | _,_,_,.nil=>.nil
 | _,_,0,.cons _ t=>.cons r t
 | _,_,i + 1,.cons q t=>.cons q (Vals.set r i t)
theorem Vals.append:∀{xs ys:List V} {us ws:List Value},Vals xs us→Vals ys ws→Vals (xs ++ ys) (us ++ ws)
 | _,_,_,_,.nil,s=>s
 | _,_,_,_,.cons r t,s=>.cons r (Vals.append t s)
theorem Vals.take:∀{xs:List V} {us:List Value} (n:Nat),Vals xs us→Vals (xs.take n) (us.take n)
 | _,_,0,_=>.nil
 | _,_,_ + 1,.nil=>.nil
 | _,_,n + 1,.cons r t=>.cons r (Vals.take n t)
theorem Vals.drop:∀{xs:List V} {us:List Value} (n:Nat),Vals xs us→Vals (xs.drop n) (us.drop n)
 | _,_,0,r=>r
 | _,_,_ + 1,.nil=>.nil
 | _,_,n + 1,.cons _ t=>Vals.drop n t
def vC:Option V→Option Value→Prop
 | some v,some u=>RelV v u
 | none,none=>True
 | _,_=>False
def KV {κ:Type}:List (κ × V)→List (κ × Value)→Prop:=Paired λ(p:κ × V) (q:κ × Value)=>p.1=q.1∧RelV p.2 q.2
def kV:Key→V
 | .inl i=>.int i
 | .inr x=>.str x
inductive HO where
 | lst (xs:List V)
 | tup (xs:List V)
 | dK (kvs:List (Key × V)) | dE (kvs:List (Str × V)) (ep:Nat)
 | set (S:Int→Bool) (n:Nat)
 | ins (C dx:Addr) (fs:List (Str × V))
 | own (x:Addr)
 | xd (fs:List (Str × V))
 | met (f x:Addr)
 | N2 (lo hi:Int)
 | rH (o:Obj) (u:HO)
 | tbl (ps:Array Value)
 | ext (φ:Heap→Prop)
abbrev Hp:=Addr→Option HO
def upd (H:Hp) (a:Addr) (o:HO):Hp:=λb=>if b=a then some o else H b
variable {H:Hp} {a:Addr} {o:HO}
theorem aL:upd H a o a=some o:=by unfold upd;rw [if_pos rfl]
variable {b:Addr}
theorem aI (h:b≠a):upd H a o b=H b:=by unfold upd;rw [if_neg h]
theorem cO (h:H a=some o) (h':H b=none):a≠b:=by
 intro e;subst e;rw [h] at h';cases h'
section
variable (P:Program) (w:World)
def fq (H:Hp) (h:Heap) (a:Addr):HO→Prop
 | .lst xs=>xs.length≤sizeLine∧∃(its:List Value) (n:Nat),Vals xs its∧h.get? a=some { cls:=.type "list",data:=.seq its.toArray n }
 | .tup xs=>xs.length≤sizeLine∧∃its:List Value,Vals xs its∧IsTup h a its.toArray
 | .dK kvs=>kvs.length≤sizeLine∧(a == sysModules)=false∧∃vs,KV kvs vs∧h.DictOf (JC P w) a vs
 | .dE kvs ep=>kvs.length≤sizeLine∧(a == sysModules)=false∧∃vs,KV kvs vs∧h.DictAt (strKind P w) a vs ep
 | .set S n=>h.SetOf (intKind P w) a S n
 | .ins C dx fs=>H dx=some (.own a)∧fs.length≤1000∧dx≠a∧h.get? a=some (W9 C dx) ∧
   ∃mA,h.Ns1 dx mA∧(∀f,vC (fs.lookup f) (mA f))∧PySem.Within mA (fs.map (·.1))
 | .own _=>∃o,h.get? a=some o
 | .xd fs=>∃mA,h.Ns1 a mA∧∀f,vC (fs.lookup f) (mA f)
 | .N2 lo hi=>∃t u v,h.get? a=some { cls:=.type "range",data:=.fields #[.int lo t,.int hi u,.int 1 v] }
 | .rH o u=>h.get? a=some o∧fq H h a u
 | .tbl ps=>h.get? a=some { cls:=.none,data:=.fields ps }
 | .met f x=>h.get? a=some (YB (.ref f) (.ref x))
 | .ext φ=>φ h∧(∃o,h.get? a=some o)∧∀h1 h2:Heap,φ h1→(∀o,h1.get? a=some o→h2.get? a=some o)→φ h2
def oK (H:Hp) (h:Heap):Prop:=∀a o,H a=some o→fq P w H h a o
end
variable {P:Program} {w:World} {h:Heap}
theorem fq.lt (x:fq P w H h a o):a < h.objs.size:=by
 cases o with
 | lst xs=>obtain ⟨_,_,_,_,e⟩:=x;exact V4 e
 | tup xs=>obtain ⟨_,_,_,p⟩:=x;exact p.lt
 | dK kvs=>obtain ⟨_,_,_,_,o,_,_,e,_⟩:=x;exact V4 e
 | dE kvs ep=>obtain ⟨_,_,_,_,o,_,e,_⟩:=x;exact V4 e
 | set S n=>obtain ⟨o,_,_,_,e,_⟩:=x;exact V4 e
 | ins C dx fs=>obtain ⟨_,_,_,e,_⟩:=x;exact V4 e
 | own y=>obtain ⟨_,e⟩:=x;exact V4 e
 | xd fs=>obtain ⟨_,⟨_,_,_,e,_⟩,_⟩:=x;exact V4 e
 | N2 lo hi=>obtain ⟨_,_,_,e⟩:=x;exact V4 e
 | rH ob u=>obtain ⟨e,_⟩:=x;exact V4 e
 | tbl ps=>exact V4 (show h.get? a=some _ from x)
 | met f y=>exact V4 (show h.get? a=some _ from x)
 | ext φ=>obtain ⟨_,⟨_,e⟩,_⟩:=x;exact V4 e
variable {H':Hp} {h':Heap}
theorem fq.my (x:fq P w H h a o) (k:∀b u,(b=a∨H b=some (.own a))→h.get? b=some u→h'.get? b=some u)
  (ho:∀b,H b=some (.own a)→H' b=some (.own a)) (ht:∀b xs,H b=some (.tup xs)→H' b=some (.tup xs)):fq P w H' h' a o:=by
 induction o with
 | lst xs=>obtain ⟨z,its,n,r,e⟩:=x;exact ⟨z,its,n,r,k _ _ (.inl rfl) e⟩
 | tup xs=>obtain ⟨z,its,r,ob,e,c⟩:=x;exact ⟨z,its,r,ob,k _ _ (.inl rfl) e,c⟩
 | dK kvs=>obtain ⟨z,y,vs,r,ob,es,ep,e,c⟩:=x;exact ⟨z,y,vs,r,ob,es,ep,k _ _ (.inl rfl) e,c⟩
 | dE kvs ep=>obtain ⟨z,y,vs,r,ob,es,e,c⟩:=x;exact ⟨z,y,vs,r,ob,es,k _ _ (.inl rfl) e,c⟩
 | set S n=>obtain ⟨ob,es,ep,t,e,c⟩:=x;exact ⟨ob,es,ep,t,k _ _ (.inl rfl) e,c⟩
 | ins C dx fs =>
  obtain ⟨d,z,ne,e,mA,⟨od,es,ep,e2,c⟩,r⟩:=x
  exact ⟨ho _ d,z,ne,k _ _ (.inl rfl) e,mA,⟨od,es,ep,k _ _ (.inr d) e2,c⟩,r⟩
 | own y=>obtain ⟨ob,e⟩:=x;exact ⟨ob,k _ _ (.inl rfl) e⟩
 | xd fs=>obtain ⟨mA,⟨od,es,ep,e,c⟩,r⟩:=x;exact ⟨mA,⟨od,es,ep,k _ _ (.inl rfl) e,c⟩,r⟩
 | N2 lo hi=>obtain ⟨t,u,v,e⟩:=x;exact ⟨t,u,v,k _ _ (.inl rfl) e⟩
 | rH ob u ih=>obtain ⟨e,q⟩:=x;exact ⟨k _ _ (.inl rfl) e,ih q⟩
 | tbl ps =>
  have e:h.get? a=some { cls:=.none,data:=.fields ps }:=x
  show h'.get? a=some { cls:=.none,data:=.fields ps }
  exact k a _ (.inl rfl) e
 | met f y =>
  have e:h.get? a=some (YB (.ref f) (.ref y)):=x
  show h'.get? a=some (YB (.ref f) (.ref y))
  exact k a _ (.inl rfl) e
 | ext φ=>obtain ⟨p,⟨o,e⟩,st⟩:=x;exact ⟨st _ _ p λo q=>k _ _ (.inl rfl) q,⟨o,k _ _ (.inl rfl) e⟩,st⟩
theorem oK.lt (x:oK P w H h) (e:H a=some o):a < h.objs.size:=(x a o e).lt
theorem oK.fresh (x:oK P w H h) (e:h.objs.size≤a):H a=none:=by
 cases q:H a with
 | none=>rfl
 | some u=>exact absurd (V7 (x.lt q) e) (Xc _)
theorem oK.kept (x:oK P w H h) (k:∀b u,h.get? b=some u→h'.get? b=some u):oK P w H h':=λa o e =>
 (x a o e).my (λb u _ q=>k b u q) (λ_ q=>q) λ_ _ q=>q
theorem oK.laid (x:oK P w H h) (k:∀b u,h.get? b=some u→h'.get? b=some u) (hp:h.objs.size≤a) (new:fq P w (upd H a o) h' a o):oK P w (upd H a o) h':=λb u e=>by
 have hn:=x.fresh hp
 by_cases hb:b=a
 ·subst hb;rw [aL] at e;cases e;exact new
 ·rw [aI hb] at e
  exact (x b u e).my (λc v _ q=>k c v q) (λc q=>by rw [aI (cO q hn)];exact q) λc xs q=>by rw [aI (cO q hn)];exact q
def Rd (H:Hp) (a:Addr) (u:HO):Prop:=H a=some u∨∃o,H a=some (.rH o u)
theorem Rd.ok {u:HO} (r:Rd H a u) (x:oK P w H h):fq P w H h a u:=by
 rcases r with r | ⟨o,r⟩
 ·exact x a u r
 ·obtain ⟨_,q⟩:=x a _ r
  exact q
def Sh:Option HO→Prop
 | some (.lst _)=>True
 | some (.dK _)=>True
 | some (.dE _ _)=>True
 | some (.set _ _)=>True
 | some (.ins _ _ _)=>True
 | some (.ext _)=>True
 | _=>False
variable {x e:Addr} {o':HO}
theorem oK.write (ok:oK P w H h) (mu:Sh (H x)) (he:e=x∨H e=some (.own x)) (k:∀b u,b≠e→h.get? b=some u→h'.get? b=some u) (heo:∃u,h'.get? e=some u)
  (new:fq P w (upd H x o') h' x o'):oK P w (upd H x o') h':=λb u q=>by
 have nown:∀c y,H c=some (.own y)→c≠x:=λc y r z=>by subst z;rw [r] at mu;exact mu
 have ntup:∀c xs,H c=some (.tup xs)→c≠x:=λc xs r z=>by subst z;rw [r] at mu;exact mu
 by_cases hb:b=x
 ·subst hb;rw [aL] at q;cases q;exact new
 ·rw [aI hb] at q
  by_cases hbe:b=e
  ·have q':H b=some (.own x):=by
    rcases he with z | z
    ·exact absurd (hbe.trans z) hb
    ·rw [hbe];exact z
   rw [q] at q';cases q'
   obtain ⟨v,hv⟩:=heo
   exact ⟨v,by rw [hbe];exact hv⟩
  ·refine (ok b u q).my (λc v hc r=>k c v ?_ r) (λc r=>by rw [aI (nown c b r)];exact r) λc xs r=>by rw [aI (ntup c xs r)];exact r
   rcases hc with rfl | hc
   ·exact hbe
   ·rintro rfl
    rcases he with z | z
    ·exact nown c b hc z
    ·rw [hc] at z;cases z;exact hb rfl
structure Un (fs ex:List Addr) (H H':Hp) (h h':Heap):Prop where
 keep:∀b o,h.get? b=some o→H b=none→b ∉ fs→b ∉ ex→h'.get? b=some o
 slot:∀b o,h.get? b=some o→H b=none→b∈fs→b ∉ ex→∃sl,h'.get? b=some { o with slots:=sl }
 free:∀b o,h.get? b=some o→H b=none→b ∉ ex→H' b=none
 there:∀b o,h.get? b=some o→b ∉ ex→∃o',h'.get? b=some o'
 tups:∀b xs,H b=some (.tup xs)→H' b=some (.tup xs)
 frzs:∀b o u,H b=some (.rH o u)→H' b=some (.rH o u)
 tbls:∀b ps,H b=some (.tbl ps)→∃more,H' b=some (.tbl (ps ++ more))
variable {aaT aaU:List Addr} {H1:Hp} {h1:Heap}
theorem Un.any (u:Un aaT aaU H H1 h h1) {ob:Obj} (q:h.get? b=some ob) (n:H b=none) (hx:b ∉ aaU):∃sl,h1.get? b=some { ob with slots:=sl }:=by
 by_cases hb:b∈aaT
 ·exact u.slot b ob q n hb hx
 ·exact ⟨ob.slots,u.keep b ob q n hb hx⟩
theorem Un.kept (k:∀b u,h.get? b=some u→h'.get? b=some u):Un aaT aaU H H h h' :=
 ⟨λb ob q _ _ _=>k b ob q,λb ob q _ _ _=>⟨ob.slots,k b ob q⟩,λ_ _ _ n _=>n,λb ob q _=>⟨ob,k b ob q⟩,λ_ _ q=>q,λ_ _ _ q=>q,λ_ ps q=>⟨#[],by rw [q];simp⟩⟩
theorem Un.refl:Un aaT aaU H H h h:=Un.kept λ_ _ q=>q
theorem Un.laid (k:∀b u,h.get? b=some u→h'.get? b=some u) (hp:h.objs.size≤a) (hn:H a=none):Un aaT aaU H (upd H a o) h h' where
 keep:=λb u q _ _ _=>k b u q
 slot:=λb u q _ _ _=>⟨u.slots,k b u q⟩
 free:=λb u q n _=>by rw [aI (Wf (V7 (V4 q) hp))];exact n
 there:=λb u q _=>⟨u,k b u q⟩
 tups:=λb xs q=>by rw [aI (cO q hn)];exact q
 frzs:=λb u xs q=>by rw [aI (cO q hn)];exact q
 tbls:=λb ps q=>⟨#[],by rw [aI (cO q hn),q];simp⟩
theorem Un.write (mu:Sh (H x)) (he:e=x∨H e=some (.own x)) (k:∀b u,b≠e→h.get? b=some u→h'.get? b=some u) (heo:∃u,h'.get? e=some u):Un aaT aaU H (upd H x o) h h':=by
 have hx:∀b,H b=none→b≠x:=λb n z=>by subst z;rw [n] at mu;exact mu
 have hb:∀b,H b=none→b≠e:=λb n z=>by
  subst z
  rcases he with r | r
  ·exact hx b n r
  ·rw [n] at r;cases r
 have hm:∀b u,H b=some u→¬ Sh (some u)→b≠x:=λb u q nm z=>by subst z;rw [q] at mu;exact nm mu
 refine ⟨λb u q n _ _=>k b u (hb b n) q,λb u q n _ _=>⟨u.slots,k b u (hb b n) q⟩,λb u q n _=>by rw [aI (hx b n)];exact n,λb u q _=>?_,
  λb xs q=>by rw [aI (hm b _ q λz=>z)];exact q,λb u xs q=>by rw [aI (hm b _ q λz=>z)];exact q,λb ps q=>⟨#[],by rw [aI (hm b _ q λz=>z),q];simp⟩⟩
 by_cases hbe:b=e
 ·subst hbe;exact heo
 ·exact ⟨u,k b u hbe q⟩
def SH (h:Heap) (H:Hp):List Addr:=(WM h.objs.size).filter λa=>(H a).isSome
def vG (h:Heap) (H:Hp):Heap:=YU h (SH h H)
theorem Ek (h:Heap) (H:Hp):(vG h H).objs.size=h.objs.size:=PySem.W.hideAll_size _ _
variable {o:Obj}
theorem F1 (e:h.get? b=some o) (n:H b=none):(vG h H).get? b=some o :=
 Zq _ e λhm=>by
  have q:(H b).isSome=true:=(V8.mp hm).2
  rw [n] at q;simp at q
theorem JJ (e:(vG h H).get? b=some o):h.get? b=some o∧H b=none:=by
 have e':h.get? b=some o:=ZC (SH h H) e
 refine ⟨e',?_⟩
 cases q:H b with
 | none=>rfl
 | some x =>
  have hm:b∈SH h H:=V8.mpr ⟨W8.mpr (V4 e'),by simp [q]⟩
  have z:(vG h H).get? b=none:=PySem.W.hideAll_none (SH h H) hm
  rw [z] at e;cases e
def Jg (g h:Heap) (L:Addr):List (Addr × Obj):=(WM h.objs.size).filterMap λa=>if a=L∨(g.get? a).isSome=true then none else (h.get? a).map λo=>(a,o)
def rest (g h:Heap) (L d:Addr):List (Addr × Obj):=(Jg g h L).filter λp=>decide (p.1≠d)
structure Mod (K:VL) (mg:Str→Option Value) (base:Heap):Prop where
 kin:K.In base
 glob:base.Ns mainGlobals mg
 blt:∃mb,base.Ns builtinsNs mb∧∀x:Str,x≠"__name__"→mb x=bootBuiltins x
 nolimit:base.NoLimit
structure Cx where
 prog:Program
 w:World
 K:VL
 mg:Str→Option Value
 base:Heap
 A:Around
 N:List Str
 s₀:Shared
 H₀:Hp
 env:Env
 outer:List Env
 stack:List Env
 ex:List Addr
 fn:Str→Bool
 calm:Bool
 pn:List (Addr × Obj)
 xe:Value→Shared→Prop
def kT (l:List Env):List Addr:=l.filterMap (·.frame)
abbrev Cx.fs (X:Cx):List Addr:=kT X.outer
def og (sc:Scope) (x:Str):Prop:=sc.names.lookup x=some .local∨sc.names.lookup x=some .cell∨sc.names.lookup x=some .free
def Loc (sc:Scope) (x:Str):Prop:=sc.names.lookup x=some .local∨sc.names.lookup x=some .cell
def Look (env:Env) (h:Heap) (m:Str→Option Value) (x:Str) (u:Value):Prop :=
 (env.kindOf x=some .local∧m x=some u)∨((env.kindOf x=some .cell∨env.kindOf x=some .free)∧∃c,env.cells.lookup x=some c∧h.IsCell c (some u))
structure Cx.Ok (X:Cx):Prop where
 mod:Mod X.K X.mg X.base
 kind:X.env.scope.kind=.function
 glob:X.env.globals=mainGlobals
 blt:X.env.builtins=builtinsNs
 above:X.s₀.heap.objs.size≤X.env.locals
 inj:∀x y c,X.env.cells.lookup x=some c→X.env.cells.lookup y=some c→x=y
 has:∀x,(X.env.kindOf x=some .cell∨X.env.kindOf x=some .free)→∃c,X.env.cells.lookup x=some c
 cab:∀x c,X.fn x=true→X.env.cells.lookup x=some c→X.s₀.heap.objs.size≤c
 hd:X.calm=true→X.A.handled=none
 frames:X.A.frames=some X.stack
 stk:X.stack=X.outer∨(X.stack=X.env :: X.outer∧X.env.frame=some X.env.locals)
 exf:∀b∈X.ex,b≠X.env.locals∧∀x c,X.env.cells.lookup x=some c→c≠b
 bs:∀b o,X.base.get? b=some o→X.s₀.heap.get? b=some o∧X.H₀ b=none
 bsz:X.base.objs.size≤X.s₀.heap.objs.size
 noex:∀b o,X.base.get? b=some o→b ∉ X.ex
 exfs:∀b∈X.ex,b ∉ X.fs
 oj:X.s₀.heap.FunFrames X.base X.outer
 frf:∀b∈X.fs,X.H₀ b=none
structure Inv (X:Cx) (pins:List (Addr × Obj)) (σ:List (Option V)) (H:Hp) (s:Shared):Prop where
 ok:X.Ok
 os:s.os=X.s₀.os
 bare:AllBare s.gens
 base:Un X.fs X.ex X.H₀ H X.s₀.heap s.heap
 loc:∃m,s.heap.Ns X.env.locals m∧∀(i:Nat) (x:Str) (v:V),X.N[i]?=some x→σ[i]?=some (some v)→og X.env.scope x→∃u,RelV v u∧Look X.env s.heap m x u
 cell:∀x c,X.env.cells.lookup x=some c→∃v,s.heap.IsCell c v
 free:H X.env.locals=none
 freeC:∀x c,X.env.cells.lookup x=some c→H c=none
 pin:∀p∈X.pn ++ pins,s.heap.get? p.1=some p.2∧H p.1=none∧p.1≠X.env.locals∧p.1 ∉ X.fs∧∀v,p.2.data≠.cell v
 hok:oK X.prog X.w H s.heap
 len:σ.length=X.N.length
variable {X:Cx}
theorem Cx.Ok.Tv (ok:X.Ok) (e:X.base.get? b=some o):b ∉ X.fs:=λhb=>by
 have:=(ok.oj.mem hb).1
 rw [e] at this;cases this
variable {pins:List (Addr × Obj)} {σ:List (Option L2.V)} {s:Shared}
theorem Inv.bs (I:Inv X pins σ H s):∀b o,X.base.get? b=some o→s.heap.get? b=some o∧H b=none:=λb o e =>
 ⟨I.base.keep b o (I.ok.bs b o e).1 (I.ok.bs b o e).2 (I.ok.Tv e) (I.ok.noex b o e),I.base.free b o (I.ok.bs b o e).1 (I.ok.bs b o e).2 (I.ok.noex b o e)⟩
theorem Inv.bk (I:Inv X pins σ H s):∀b o,X.base.get? b=some o→s.heap.get? b=some o:=λb o e=>(I.bs b o e).1
theorem Inv.mod (I:Inv X pins σ H s):Mod X.K X.mg X.base:=I.ok.mod
theorem Inv.wQ (I:Inv X pins σ H s):X.K.In s.heap:=I.ok.mod.kin.keeps I.bk
theorem Inv.nolimit (I:Inv X pins σ H s):s.heap.NoLimit:=I.ok.mod.nolimit.keeps I.bk
theorem Inv.fr (I:Inv X pins σ H s):∃m,Fr X.base X.env.locals s.heap m :=
 let ⟨m,hn,_⟩:=I.loc
 ⟨m,hn,I.bk,V6 I.ok.bsz I.ok.above⟩
theorem Inv.lt (I:Inv X pins σ H s):X.env.locals < s.heap.objs.size:=let ⟨_,hn,_⟩:=I.loc;hn.lt
theorem Inv.sz (I:Inv X pins σ H s):X.s₀.heap.objs.size≤s.heap.objs.size:=V6 I.ok.above (Ym I.lt)
theorem Inv.Tw (I:Inv X pins σ H s) (h:s.heap.objs.size≤a):a ∉ X.fs:=λhb=>by
 obtain ⟨_,o,ho,_⟩:=I.ok.oj.mem hb
 exact absurd (V7 (V4 ho) (V6 I.sz h)) (Xc _)
theorem Inv.tJ (I:Inv X pins σ H s):∀x c,X.env.cells.lookup x=some c→c≠X.env.locals:=λx c e z=>by
 obtain ⟨v,o,ho,hd⟩:=I.cell x c e
 obtain ⟨m,⟨o',es,ep,ho',hd',_⟩,_⟩:=I.loc
 rw [z,ho'] at ho;cases ho;rw [hd'] at hd;cases hd
theorem Inv.oj (I:Inv X pins σ H s):s.heap.FunFrames X.base X.outer:=by
 have all:∀(l:List Env),(∀b∈kT l,b∈X.fs)→X.s₀.heap.FunFrames X.base l→s.heap.FunFrames X.base l:=by
  intro l
  induction l with
  | nil=>intro _ _;trivial
  | cons env r ih =>
   intro hs hl
   obtain ⟨hk,⟨L,o,hf,hn,ho,hd⟩,hr⟩:=hl
   have hL:L∈X.fs:=hs L (by unfold kT;rw [Wh,hf];exact V9)
   obtain ⟨sl,e⟩:=I.base.slot L o ho (I.ok.frf L hL) hL λz=>I.ok.exfs L z hL
   exact ⟨hk,⟨L,_,hf,hn,e,hd⟩,ih (λb hb=>hs b (by unfold kT;rw [Wh,hf];exact V5 _ hb)) hr⟩
 exact all X.outer (λ_ hb=>hb) I.ok.oj
theorem Inv.stack (I:Inv X pins σ H s):s.heap.FunFrames X.base X.stack:=by
 rcases I.ok.stk with e | ⟨e,hf⟩
 ·rw [e];exact I.oj
 ·rw [e]
  obtain ⟨m,hn,_⟩:=I.loc
  refine .cons (by rw [I.ok.kind];decide) hf hn ?_ I.oj
  exact Heap.get?_none_of_le (V6 I.ok.bsz I.ok.above)
theorem Inv.rh (I:Inv X pins σ H s):∀b∈kT X.stack,b∈X.env.locals :: X.fs:=λb hb=>by
 rcases I.ok.stk with e | ⟨e,hf⟩
 ·rw [e] at hb;exact V5 _ hb
 ·rw [e] at hb
  unfold kT at hb
  rw [Wh,hf] at hb
  exact hb
theorem Inv.ze (I:Inv X pins σ H s):∀b∈kT X.stack,H b=none:=λb hb=>by
 rcases V2.mp (I.rh b hb) with e | hb
 ·rw [e];exact I.free
 ·obtain ⟨_,o,ho,_⟩:=I.ok.oj.mem hb
  exact I.base.free b o ho (I.ok.frf b hb) λz=>I.ok.exfs b z hb
variable {g':Array GenState} {t':Nat} {ch:List Addr}
theorem Inv.step {d':Drawn} (I:Inv X pins σ H s)
  (hch:∀b∈ch,(b∈X.ex∨X.s₀.heap.objs.size≤b)∧b≠X.env.locals∧(∀x c,X.env.cells.lookup x=some c→c≠b)∧∀p∈X.pn ++ pins,p.1≠b)
  (keep:∀b o,b≠X.env.locals→b ∉ X.fs→b ∉ ch→s.heap.get? b=some o→H b=none→h'.get? b=some o)
  (slot:∀b o,b≠X.env.locals→b∈X.fs→b ∉ ch→s.heap.get? b=some o→H b=none→∃sl,h'.get? b=some { o with slots:=sl }) (free:∀b o,b ∉ ch→s.heap.get? b=some o→H b=none→H' b=none)
  (there:∀b o,b ∉ ch→s.heap.get? b=some o→∃o',h'.get? b=some o')
  (tups:∀b xs,H b=some (.tup xs)→H' b=some (.tup xs)) (frzs:∀b o u,H b=some (.rH o u)→H' b=some (.rH o u)) (tbls:∀b ps,H b=some (.tbl ps)→∃more,H' b=some (.tbl (ps ++ more)))
  (ns:∀m,s.heap.Ns X.env.locals m→h'.Ns X.env.locals m) (hok:oK X.prog X.w H' h') (hg:AllBare g') :
  Inv X pins σ H' { s with heap:=h',gens:=g',drawn:=d',toks:=t' }:=by
 have neL:∀b o,X.s₀.heap.get? b=some o→b≠X.env.locals:=λb o e=>Wf (V7 (V4 e) I.ok.above)
 have neC:∀b o,X.s₀.heap.get? b=some o→b ∉ X.ex→b ∉ ch:=λb o e hx hb=>by
  rcases (hch b hb).1 with z | z
  ·exact hx z
  ·exact absurd (V7 (V4 e) z) (Xc _)
 have cellK:∀x c,X.env.cells.lookup x=some c→∀v,s.heap.IsCell c v→h'.IsCell c v:=λx c e v ⟨o,ho,hd⟩=>by
  have nch:c ∉ ch:=λz=>(hch c z).2.2.1 x c e rfl
  by_cases hc:c∈X.fs
  ·obtain ⟨sl,q⟩:=slot c o (I.tJ x c e) hc nch ho (I.freeC x c e)
   exact ⟨_,q,hd⟩
  ·exact ⟨o,keep c o (I.tJ x c e) hc nch ho (I.freeC x c e),hd⟩
 refine ⟨I.ok,I.os,hg,⟨λb o e n hb hx=>?_,λb o e n hb hx=>?_,λb o e n hx=>?_,λb o e hx=>?_,λb xs e=>tups b xs (I.base.tups b xs e),λb o xs e=>frzs b o xs (I.base.frzs b o xs e),λb ps e=>?_⟩,?_,λx c e=>?_,?_,λx c e=>?_,λp hp=>?_,hok,I.len⟩
 ·exact keep b o (neL b o e) hb (neC b o e hx) (I.base.keep b o e n hb hx) (I.base.free b o e n hx)
 ·obtain ⟨sl,e1⟩:=I.base.slot b o e n hb hx
  obtain ⟨sl',e2⟩:=slot b _ (neL b o e) hb (neC b o e hx) e1 (I.base.free b o e n hx)
  exact ⟨sl',e2⟩
 ·obtain ⟨o',e1⟩:=I.base.there b o e hx
  exact free b o' (neC b o e hx) e1 (I.base.free b o e n hx)
 ·obtain ⟨o',e1⟩:=I.base.there b o e hx
  exact there b o' (neC b o e hx) e1
 ·obtain ⟨m1,e1⟩:=I.base.tbls b ps e
  obtain ⟨m2,e2⟩:=tbls b _ e1
  exact ⟨m1 ++ m2,by rw [e2,Array.append_assoc]⟩
 ·obtain ⟨m,hn,hl⟩:=I.loc
  refine ⟨m,ns m hn,λi x v e1 e2 e3=>?_⟩
  obtain ⟨u,r,l⟩:=hl i x v e1 e2 e3
  refine ⟨u,r,?_⟩
  rcases l with l | ⟨k,c,e,z⟩
  ·exact .inl l
  ·exact .inr ⟨k,c,e,cellK x c e _ z⟩
 ·obtain ⟨v,z⟩:=I.cell x c e
  exact ⟨v,cellK x c e v z⟩
 ·obtain ⟨m,⟨o,_,_,ho,_⟩,_⟩:=I.loc
  exact free _ o (λz=>(hch _ z).2.1 rfl) ho I.free
 ·obtain ⟨v,o,ho,hd⟩:=I.cell x c e
  exact free c o (λz=>(hch c z).2.2.1 x c e rfl) ho (I.freeC x c e)
 ·obtain ⟨e,n,ne,nf,d⟩:=I.pin p hp
  have nch:p.1 ∉ ch:=λz=>(hch p.1 z).2.2.2 p hp rfl
  exact ⟨keep p.1 p.2 ne nf nch e n,free p.1 p.2 nch e n,ne,nf,d⟩
theorem Inv.un (I:Inv X pins σ H s) (u:Un X.fs [] H H' s.heap h') (hok:oK X.prog X.w H' h'):Inv X pins σ H' { s with heap:=h',toks:=t' }:=by
 obtain ⟨m,⟨o,es,ep,ho,r⟩,_⟩:=id I.loc
 obtain ⟨sl,hL⟩:=u.any ho I.free (by simp)
 exact I.step (g':=s.gens) (d':=s.drawn) (ch:=[]) (λ_ z=>nomatch z) (λb o _ hb _ e n=>u.keep b o e n hb (by simp)) (λb o _ hb _ e n=>u.slot b o e n hb (by simp)) (λb o _ e n=>u.free b o e n (by simp)) (λb o _ e=>u.there b o e (by simp)) u.tups u.frzs u.tbls (λm' hm=>by
  obtain ⟨o',es',ep',ho',r'⟩:=hm
  rw [ho] at ho';cases ho'
  exact ⟨_,es',ep',hL,r'⟩) hok I.bare
theorem Inv.call {d':Drawn} (I:Inv X pins σ H s) (u:Un (kT X.stack) ch H H' s.heap h') (hok:oK X.prog X.w H' h') (hg:AllBare g')
  (hch:∀b∈ch,(b∈X.ex∨X.s₀.heap.objs.size≤b)∧b≠X.env.locals∧(∀x c,X.env.cells.lookup x=some c→c≠b)∧∀p∈X.pn ++ pins,p.1≠b) :
  Inv X pins σ H' { s with heap:=h',gens:=g',drawn:=d',toks:=t' }:=by
 obtain ⟨m,⟨o,es,ep,ho,r⟩,_⟩:=id I.loc
 obtain ⟨sl,hL⟩:=u.any ho I.free λz=>(hch _ z).2.1 rfl
 exact I.step (ch:=ch) hch (λb o hL hb hc e n=>u.keep b o e n (λz=>(V2.mp (I.rh b z)).elim hL hb) hc) (λb o _ _ hc e n=>u.any e n hc) (λb o hc e n=>u.free b o e n hc) (λb o hc e=>u.there b o e hc) u.tups u.frzs u.tbls (λm' hm=>by
  obtain ⟨o',es',ep',ho',r'⟩:=hm
  rw [ho] at ho';cases ho'
  exact ⟨_,es',ep',hL,r'⟩) hok hg
theorem Inv.turned {it:Addr} (I:Inv X pins σ H s) (k:∀b o,b≠it→s.heap.get? b=some o→h'.get? b=some o) (hn:H it=none) (hL:it≠X.env.locals)
  (h1:it∈X.ex∨X.s₀.heap.objs.size≤it) (h2:∀x c,X.env.cells.lookup x=some c→c≠it) (h3:∀p∈X.pn ++ pins,p.1≠it):Inv X pins σ H { s with heap:=h',toks:=t' }:=by
 have nit:∀b u,H b=some u→b≠it:=λb u e z=>by rw [z,hn] at e;cases e
 refine I.step (g':=s.gens) (d':=s.drawn) (ch:=[it]) (λb hb=>?_) (λb o _ _ hc e _=>k b o (λz=>hc (by simp [z])) e) (λb o _ _ hc e _=>⟨o.slots,k b o (λz=>hc (by simp [z])) e⟩) (λ_ _ _ _ n=>n)
  (λb o hc e=>⟨o,k b o (λz=>hc (by simp [z])) e⟩) (λ_ _ e=>e) (λ_ _ _ e=>e) (λb ps e=>⟨#[],by rw [e];simp⟩) (λm hm=>?_) (λb u e=>?_) I.bare
 ·have e:b=it:=by simpa using hb
  subst e
  exact ⟨h1,hL,h2,h3⟩
 ·obtain ⟨o,es,ep,ho,r⟩:=hm
  exact ⟨o,es,ep,k _ o (Ne.symm hL) ho,r⟩
 ·refine (I.hok b u e).my (λc v hc q=>k c v ?_ q) (λ_ q=>q) λ_ _ q=>q
  rcases hc with z | z
  ·rw [z];exact nit b u e
  ·exact nit c _ z
theorem Inv.tok (I:Inv X pins σ H s) (t:Nat):Inv X pins σ H { s with toks:=t }:=I.un (h':=s.heap) (t':=t) Un.refl I.hok
theorem Inv.kept (I:Inv X pins σ H s) (k:∀b u,s.heap.get? b=some u→h'.get? b=some u):Inv X pins σ H { s with heap:=h',toks:=t' }:=I.un (Un.kept k) (I.hok.kept k)
theorem Inv.laid {o:HO} (I:Inv X pins σ H s) (k:∀b u,s.heap.get? b=some u→h'.get? b=some u) (hp:s.heap.objs.size≤a) (new:fq X.prog X.w (upd H a o) h' a o) :
  Inv X pins σ (upd H a o) { s with heap:=h',toks:=t' }:=I.un (Un.laid k hp (I.hok.fresh hp)) (I.hok.laid k hp new)
theorem Inv.write {o:HO} (I:Inv X pins σ H s) (mu:Sh (H x)) (he:e=x∨H e=some (.own x)) (k:∀b u,b≠e→s.heap.get? b=some u→h'.get? b=some u) (heo:∃u,h'.get? e=some u)
  (new:fq X.prog X.w (upd H x o) h' x o):Inv X pins σ (upd H x o) { s with heap:=h',toks:=t' }:=I.un (Un.write mu he k heo) (I.hok.write mu he k heo new)
theorem Inv.weak {σ':List (Option V)} (I:Inv X pins σ H s) (hl:σ'.length=σ.length) (w:∀(i:Nat) v,σ'[i]?=some (some v)→σ[i]?=some (some v)):Inv X pins σ' H s :=
 ⟨I.ok,I.os,I.bare,I.base,let ⟨m,hn,hl'⟩:=I.loc;⟨m,hn,λi x v e1 e2 e3=>hl' i x v e1 (w i v e2) e3⟩,I.cell,I.free,I.freeC,I.pin,I.hok,hl.trans I.len⟩
theorem Inv.Dg {pins':List (Addr × Obj)} (I:Inv X pins σ H s) (h:∀p∈pins',s.heap.get? p.1=some p.2∧H p.1=none∧p.1≠X.env.locals∧p.1 ∉ X.fs∧∀v,p.2.data≠.cell v):Inv X pins' σ H s :=
 ⟨I.ok,I.os,I.bare,I.base,I.loc,I.cell,I.free,I.freeC,λp hp=>(VY.mp hp).elim (λz=>I.pin p (Xe _ z)) (h p),I.hok,I.len⟩
variable {x:Str} {i:Nat}
theorem t4 {N:List Str} (hN:N.Nodup) {j:Nat} (a:N[i]?=some x) (b:N[j]?=some x):i=j:=by
 obtain ⟨h1,e1⟩:=VO.mp a
 obtain ⟨h2,e2⟩:=VO.mp b
 exact (Xn hN).mp (e1.trans e2.symm)
variable {u:Value} {M:Model} {A:Around} {E:Value→Shared→Prop} {Q:Unit→Shared→Prop}
theorem rj {v:V} (I:Inv X pins σ H s) (hN:X.N.Nodup) (hi:X.N[i]?=some x) (hx:Loc X.env.scope x) (r:RelV v u)
  (h:∀s',Inv X pins (σ.set i (some v)) H s'→(∃a,YV a s.heap s'.heap∧(a=X.env.locals∨X.env.cells.lookup x=some a))→Q () s') (hf:X.fn x=true∨X.env.scope.names.lookup x=some .local:=by first | exact .inl rfl | exact .inr rfl | assumption):wpAny M A (storeName X.env x u) Q E s:=by
 obtain ⟨m,hn,hl⟩:=id I.loc
 have hcls:(X.env.scope.kind == .class || (X.env.scope.kind == .module && X.env.locals != X.env.globals))=false:=by rw [I.ok.kind];rfl
 have hiσ:i < σ.length:=by rw [I.len];exact (VO.mp hi).1
 have tJ:=I.tJ
 have tracked:∀{a:Addr} {h':Heap},(∃o,s.heap.get? a=some o∧H a=none)→YV a s.heap h'→oK X.prog X.w H h':=λ{a h'} ha hs b ob e=>by
  obtain ⟨_,_,hfree⟩:=ha
  refine (I.hok b ob e).my (λc w' hc q=>(hs.2 c ?_).trans q) (λ_ q=>q) λ_ _ q=>q
  rintro rfl
  rcases hc with rfl | hc
  ·rw [hfree] at e;cases e
  ·rw [hfree] at hc;cases hc
 rcases hx with hk | hk
 ·refine wpAny_storeName_local hk hn (λh' hn' hs=>?_) hcls
  obtain ⟨oL,_,_,hoL,_⟩:=id hn
  refine h _ ⟨I.ok,I.os,I.bare,⟨λb o e n hb hx=>?_,λb o e n hb hx=>?_,I.base.free,λb o e hx=>?_,I.base.tups,I.base.frzs,I.base.tbls⟩,⟨_,hn',λj y v' e1 e2 e3=>?_⟩,λy c e=>?_,I.free,I.freeC,λp hp=>?_,tracked ⟨oL,hoL,I.free⟩ hs,by simpa using I.len⟩ ⟨_,hs,.inl rfl⟩
  ·exact (hs.2 b (Wf (V7 (V4 e) I.ok.above))).trans (I.base.keep b o e n hb hx)
  ·obtain ⟨sl,e1⟩:=I.base.slot b o e n hb hx
   exact ⟨sl,(hs.2 b (Wf (V7 (V4 e) I.ok.above))).trans e1⟩
  ·obtain ⟨o',e1⟩:=I.base.there b o e hx
   exact ⟨o',(hs.2 b (Wf (V7 (V4 e) I.ok.above))).trans e1⟩
  ·by_cases hj:j=i
   ·subst hj
    rw [hi] at e1;cases e1
    rw [Wq hiσ] at e2
    cases e2
    exact ⟨u,r,.inl ⟨hk,by simp⟩⟩
   ·rw [WO (Ne.symm hj)] at e2
    obtain ⟨u',r',q⟩:=hl j y v' e1 e2 e3
    refine ⟨u',r',?_⟩
    rcases q with ⟨k,e⟩ | ⟨k,c,e,z⟩
    ·refine .inl ⟨k,?_⟩
     have:y≠x:=λe=>hj (t4 hN e1 (e ▸ hi))
     simp [this,e]
    ·exact .inr ⟨k,c,e,z.sameBut hs (tJ y c e)⟩
  ·obtain ⟨w',z⟩:=I.cell y c e
   exact ⟨w',z.sameBut hs (tJ y c e)⟩
  ·obtain ⟨e,n,ne,nf,d⟩:=I.pin p hp
   exact ⟨(hs.2 p.1 ne).trans e,n,ne,nf,d⟩
 ·have hfn:X.fn x=true:=by
   rcases hf with z | z
   ·exact z
   ·rw [z] at hk;cases hk
  obtain ⟨c,hc⟩:=I.ok.has x (.inl hk)
  obtain ⟨w',z⟩:=I.cell x c hc
  refine wpAny_storeName_cell I.ok.kind hk hc z (λh' hc' hs=>?_)
  obtain ⟨oc,hoc,hocd⟩:=id z
  refine h { s with heap:=h' } ⟨I.ok,I.os,I.bare,⟨λb o e n hb hx=>?_,λb o e n hb hx=>?_,I.base.free,λb o e hx=>?_,I.base.tups,I.base.frzs,I.base.tbls⟩,⟨m,hn.sameBut hs (Ne.symm (tJ x c hc)),λj y v' e1 e2 e3=>?_⟩,λy c' e=>?_,I.free,I.freeC,λp hp=>?_,tracked ⟨oc,hoc,I.freeC x c hc⟩ hs,by simpa using I.len⟩ ⟨c,hs,.inr hc⟩
  ·exact (hs.2 b (Wf (V7 (V4 e) (I.ok.cab x c hfn hc)))).trans (I.base.keep b o e n hb hx)
  ·obtain ⟨sl,e1⟩:=I.base.slot b o e n hb hx
   exact ⟨sl,(hs.2 b (Wf (V7 (V4 e) (I.ok.cab x c hfn hc)))).trans e1⟩
  ·obtain ⟨o',e1⟩:=I.base.there b o e hx
   exact ⟨o',(hs.2 b (Wf (V7 (V4 e) (I.ok.cab x c hfn hc)))).trans e1⟩
  ·by_cases hj:j=i
   ·subst hj
    rw [hi] at e1;cases e1
    rw [Wq hiσ] at e2
    cases e2
    exact ⟨u,r,.inr ⟨.inl hk,c,hc,hc'⟩⟩
   ·rw [WO (Ne.symm hj)] at e2
    obtain ⟨u',r',q⟩:=hl j y v' e1 e2 e3
    refine ⟨u',r',?_⟩
    rcases q with q | ⟨k,c',e,z'⟩
    ·exact .inl q
    ·refine .inr ⟨k,c',e,z'.sameBut hs ?_⟩
     rintro rfl
     exact hj (t4 hN e1 (I.ok.inj _ _ _ e hc ▸ hi))
  ·by_cases hcc:c'=c
   ·subst hcc;exact ⟨_,hc'⟩
   ·obtain ⟨w2,z2⟩:=I.cell y c' e
    exact ⟨w2,z2.sameBut hs hcc⟩
  ·obtain ⟨e,n,ne,nf,d⟩:=I.pin p hp
   refine ⟨(hs.2 p.1 ?_).trans e,n,ne,nf,d⟩
   intro q
   rw [q,hoc] at e
   have q':oc=p.2:=Option.some.inj e
   exact d w' (by rw [← q'];exact hocd)
theorem gr {v:V} (I:Inv X pins σ H s) (hN:X.N.Nodup) (hi:X.N[i]?=some x) (hx:Loc X.env.scope x) (r:RelV v u)
  (h:∀s',Inv X pins (σ.set i (some v)) H s'→Q () s') (hf:X.fn x=true∨X.env.scope.names.lookup x=some .local:=by first | exact .inl rfl | exact .inr rfl | assumption):wpAny M A (storeName X.env x u) Q E s :=
 rj I hN hi hx r (λs' I' _=>h s' I') hf
theorem Inv.FD {s':Shared} (I:Inv X pins σ H s) (ho:s'.os=s.os) (u:Un (kT X.stack) ch H H' s.heap s'.heap) (hok:oK X.prog X.w H' s'.heap) (hg:AllBare s'.gens)
  (hch:∀b∈ch,(b∈X.ex∨X.s₀.heap.objs.size≤b)∧b≠X.env.locals∧(∀x c,X.env.cells.lookup x=some c→c≠b)∧∀p∈X.pn ++ pins,p.1≠b):Inv X pins σ H' s':=by
 obtain ⟨h',g',d',t',o'⟩:=s'
 have e:o'=s.os:=ho
 subst e
 exact I.call (g':=g') (t':=t') (d':=d') u hok hg hch
abbrev XK:=Value→Option Addr→Hp→Prop
abbrev St:=List (Option V)
abbrev VK:=V→Hp→Prop
abbrev TE:=St→Hp→VK→Prop
abbrev TT:=St→Hp→(Bool→Hp→Prop)→Prop
abbrev TA:=St→Hp→(List V→Hp→Prop)→Prop
structure Ends where
 nx:St→Hp→Prop
 rt:VK
 bk:St→Hp→Prop:=λ_ _=>False
 ct:St→Hp→Prop:=λ_ _=>False
abbrev TS:=Ends→St→Hp→Prop
def EP (X:Cx) (pins:List (Addr × Obj)) (σ:St) (Q:VK) (u:Value) (s':Shared):Prop:=∃v H',Inv X pins σ H' s'∧RelV v u∧Q v H'
def TP (X:Cx) (pins:List (Addr × Obj)) (σ:St) (Q:Bool→Hp→Prop) (b:Bool) (s':Shared):Prop:=∃H',Inv X pins σ H' s'∧Q b H'
def AP (X:Cx) (pins:List (Addr × Obj)) (σ:St) (Q:List V→Hp→Prop) (us:List Value) (s':Shared):Prop:=∃vs H',Inv X pins σ H' s'∧Vals vs us∧Q vs H'
def SP (X:Cx) (pins:List (Addr × Obj)) (D:Ends) (f:Flow) (s':Shared):Prop :=
 match f with
 | .next=>∃σ' H',Inv X pins σ' H' s'∧D.nx σ' H'
 | .brk=>∃σ' H',Inv X pins σ' H' s'∧D.bk σ' H'
 | .cont=>∃σ' H',Inv X pins σ' H' s'∧D.ct σ' H'
 | .ret u=>∃v σ' H',Inv X pins σ' H' s'∧RelV v u∧D.rt v H'
def PE (X:Cx) (e:Expr) (t:TE):Prop :=
 ∀(pins:List (Addr × Obj)) (s:Shared) (σ:St) (H:Hp) (Q:VK),Inv X pins σ H s→t σ H Q→wpAny (model X.prog X.w) X.A (eval e X.env) (EP X pins σ Q) X.xe s
def PT (X:Cx) (e:Expr) (t:TT):Prop :=
 ∀(pins:List (Addr × Obj)) (s:Shared) (σ:St) (H:Hp) (Q:Bool→Hp→Prop),Inv X pins σ H s→t σ H Q→wpAny (model X.prog X.w) X.A (isTrue e X.env (eval e X.env)) (TP X pins σ Q) X.xe s
def PW (X:Cx) (e:Expr) (t:TT):Prop :=
 ∀(whole:Sem Value) (pins:List (Addr × Obj)) (s:Shared) (σ:St) (H:Hp) (Q:Bool→Hp→Prop),Inv X pins σ H s→t σ H Q→wpAny (model X.prog X.w) X.A (isTrue e X.env whole) (TP X pins σ Q) X.xe s
variable {e:Expr}
theorem PW.pt {t:TT} (h:PW X e t):PT X e t:=h _
def PA (X:Cx) (es:List Expr) (t:TA):Prop :=
 ∀(pos:Pos) (pins:List (Addr × Obj)) (s:Shared) (σ:St) (H:Hp) (Q:List V→Hp→Prop),Inv X pins σ H s→t σ H Q→wpAny (model X.prog X.w) X.A (spliced (backTo pos (starEach es X.env))) (AP X pins σ Q) X.xe s
def PS (X:Cx) (st:Stmt) (t:TS):Prop :=
 ∀(pins:List (Addr × Obj)) (s:Shared) (σ:St) (H:Hp) (D:Ends),Inv X pins σ H s→t D σ H→wpAny (model X.prog X.w) X.A (exec st X.env) (SP X pins D) X.xe s
def xI (X:Cx) (st:List Stmt) (t:TS):Prop :=
 ∀(pins:List (Addr × Obj)) (s:Shared) (σ:St) (H:Hp) (D:Ends),Inv X pins σ H s→t D σ H→wpAny (model X.prog X.w) X.A (execs st X.env) (SP X pins D) X.xe s
theorem cn {α:Type} {t:Sem α} {Q Q':α→Shared→Prop} (h:wpAny M A t Q E s) (hQ:∀a s,Q a s→Q' a s):wpAny M A t Q' E s:=wpAny_mono h hQ λ_ _ x=>x
variable {a b:Expr} {σ:St} {ta tb:TE} {R:L2.V→L2.V→Hp→Prop}
theorem bin (ha:PE X a ta) (hb:PE X b tb) (I:Inv X pins σ H s) (h:ta σ H λx H1=>tb σ H1 λy H2=>R x y H2)
  {α:Type} {Q:α→Shared→Prop} {f:Value→Value→Sem α}
  (hf:∀v u s2 x y H2,Inv X pins σ H2 s2→RelV x v→RelV y u→R x y H2→wpAny (model X.prog X.w) X.A (f v u) Q X.xe s2) :
  wpAny (model X.prog X.w) X.A (eval a X.env) (λv s₁=>wpAny (model X.prog X.w) X.A (eval b X.env) (λu s₂=>wpAny (model X.prog X.w) X.A (f v u) Q X.xe s₂) X.xe s₁) X.xe s:=by
 refine cn (ha pins s σ H _ I h) λv s1 ⟨x,H1,I1,r1,q1⟩=>?_
 refine cn (hb pins s1 σ H1 _ I1 q1) λu s2 ⟨y,H2,I2,r2,q2⟩=>?_
 exact hf v u s2 x y H2 I2 r1 r2 q2
def Fc (i:Nat):TE:=λσ H Q=>∃v,σ[i]?=some (some v)∧Q v H
def tC (v:V):TE:=λ_ H Q=>Q v H
variable {pos:Pos}
theorem BQ (hN:X.N[i]?=some x) (hv:og X.env.scope x) (hd:(x == ("__debug__":Str))=false:=by decide) (hcd:(x == ("__classdict__":Str))=false:=by decide):PE X (.Name x pos) (Fc i):=by
 intro pins s σ H Q I h
 obtain ⟨v,e,h⟩:=h
 obtain ⟨m,hn,hl⟩:=I.loc
 obtain ⟨u,r,l⟩:=hl i x v hN e hv
 have fin:EP X pins σ Q u s:=⟨v,H,I,r,h⟩
 rcases l with ⟨hk,hm⟩ | ⟨hk,c,hc,hcell⟩
 ·exact wpAny_Name (wpAny_loadName_local I.ok.kind hk hn hm fin) hd
 ·rcases hk with hk | hk
  ·exact wpAny_Name (wpAny_loadName_cell I.ok.kind hk hc hcell fin) hd
  ·exact wpAny_Name (wpAny_loadName_free I.ok.kind hk hc hcell fin hcd) hd
theorem yw {i j pos}:PE X (.Constant (.int i) j pos) (tC (.int i)):=λ_ _ _ H _ I h=>wpAny_Constant_int ⟨.int i,H,I.tok _,⟨_,rfl⟩,h⟩
theorem Df {b j pos}:PE X (.Constant (.bool b) j pos) (tC (.bl b)):=λ_ _ _ H _ I h=>Constant_bool ⟨.bl b,H,I,rfl,h⟩
theorem BN {j pos}:PE X (.Constant .none j pos) (tC .non):=λ_ _ _ H _ I h=>Constant_none ⟨.non,H,I,rfl,h⟩
theorem uk {x j pos}:PE X (.Constant (.str x) j pos) (tC (.str x)):=λ_ _ _ H _ I h=>Calls.Constant_str ⟨.str x,H,I.tok _,⟨_,rfl⟩,h⟩
def Gl (X:Cx) (x:Str):Prop:=X.env.kindOf x=some .globalImplicit
variable {Q:Value→Shared→Prop}
theorem jX (I:Inv X pins σ H s) (hg:Gl X x) (hm:X.mg x=some u) (h:Q u s)
  (hd:(x == ("__debug__":Str))=false:=by decide):wpAny (model X.prog X.w) X.A (eval (.Name x pos) X.env) Q E s :=
 Calls.Name_function_global I.ok.kind hg (Calls.loadGlobal_global (by rw [I.ok.glob];exact I.mod.glob.keeps I.bk) hm h) hd
theorem jW (I:Inv X pins σ H s) (hg:Gl X x) (hm:X.mg x=none) (hv:bootBuiltins x=some u) (h:Q u s)
  (hn:x≠"__name__":=by decide) (hd:(x == ("__debug__":Str))=false:=by decide):wpAny (model X.prog X.w) X.A (eval (.Name x pos) X.env) Q E s:=by
 obtain ⟨mb,h1,h2⟩:=I.mod.blt
 exact Calls.Name_function_global I.ok.kind hg (Calls.loadGlobal_builtin (by rw [I.ok.glob];exact I.mod.glob.keeps I.bk) hm (by rw [I.ok.blt];exact h1.keeps I.bk) ((h2 x hn).trans hv) h) hd
theorem eD {v:V} (hg:Gl X x) (hm:X.mg x=some u) (r:RelV v u) (hd:(x == ("__debug__":Str))=false:=by decide):PE X (.Name x pos) (tC v) :=
 λ_ _ _ H _ I h=>jX I hg hm ⟨v,H,I,r,h⟩ hd
theorem yu {v:V} (hg:Gl X x) (hm:X.mg x=none) (hv:bootBuiltins x=some u) (r:RelV v u) (hn:x≠"__name__":=by decide) (hd:(x == ("__debug__":Str))=false:=by decide):PE X (.Name x pos) (tC v) :=
 λ_ _ _ H _ I h=>jW I hg hm hv ⟨v,H,I,r,h⟩ hn hd
def tB (t:TE):TT:=λσ H Q=>t σ H λx H1=>∃c,x=.bl c∧Q c H1
theorem B2 {t:TE} (h:PE X e t) (he:∀whole,isTrue e X.env whole=(do let v ← whole;standAt e.pos;holding [v] (truthy v)):=by intro _;rfl):PT X e (tB t):=by
 intro pins s σ H Q I hw
 refine isTrue_plain (cn (h pins s σ H _ I hw) λv s1 ⟨x,H1,I1,r1,q1⟩=>?_) (he _)
 obtain ⟨d,rfl,q⟩:=q1
 cases r1
 exact wpAny_truthy_bool ⟨H1,I1,q⟩
def K1 (t u:TT):TT:=λσ H Q=>t σ H λc H1=>if c=true then u σ H1 Q else Q false H1
def SG (t u:TT):TT:=λσ H Q=>t σ H λc H1=>if c=true then Q true H1 else u σ H1 Q
def Ol (t:TT):TT:=λσ H Q=>t σ H λc H1=>Q (!c) H1
variable {tA:TT}
theorem yL (ha:PT X a tA):PW X (.BoolOp .And [a] pos) tA:=by
 intro wh pins s σ H Q I h
 refine isTrue_and (cn (ha pins s σ H Q I h) λc s1 e=>?_)
 cases c with
 | true=>exact isTrue_and_nil e
 | false=>exact e
theorem B6 (ha:PT X a tA):PW X (.BoolOp .Or [a] pos) tA:=by
 intro wh pins s σ H Q I h
 refine isTrue_or (cn (ha pins s σ H Q I h) λc s1 e=>?_)
 cases c with
 | false=>exact isTrue_or_nil e
 | true=>exact e
variable {tB':TT} {aaV:List Expr}
theorem B5 (ha:PT X a tA) (hb:PW X (.BoolOp .And (b :: aaV) pos) tB'):PW X (.BoolOp .And (a :: b :: aaV) pos) (K1 tA tB'):=by
 intro wh pins s σ H Q I h
 refine isTrue_and (cn (ha pins s σ H _ I h) λc s1 ⟨H1,I1,q1⟩=>?_)
 cases c with
 | true=>exact hb wh pins s1 σ H1 Q I1 q1
 | false=>exact ⟨H1,I1,q1⟩
theorem Hi (ha:PT X a tA) (hb:PW X (.BoolOp .Or (b :: aaV) pos) tB'):PW X (.BoolOp .Or (a :: b :: aaV) pos) (SG tA tB'):=by
 intro wh pins s σ H Q I h
 refine isTrue_or (cn (ha pins s σ H _ I h) λc s1 ⟨H1,I1,q1⟩=>?_)
 cases c with
 | true=>exact ⟨H1,I1,q1⟩
 | false=>exact hb wh pins s1 σ H1 Q I1 q1
theorem B1 (ha:PT X a tA):PT X (.UnaryOp .Not a pos) (Ol tA):=by
 intro pins s σ H Q I h
 exact isTrue_not (ha pins s σ H (λc H1=>Q (!c) H1) I h)
def Ie (ta tb:TE):TE:=λσ H Q=>ta σ H λx H1=>∃c,x=.bl c∧if c=true then tb σ H1 Q else Q (.bl false) H1
def Om (ta tb:TE):TE:=λσ H Q=>ta σ H λx H1=>∃c,x=.bl c∧if c=true then Q (.bl true) H1 else tb σ H1 Q
def RY (ta:TE):TE:=λσ H Q=>ta σ H λx H1=>∃c,x=.bl c∧Q (.bl (!c)) H1
theorem BO {op} {t:TE} (h:PE X a t):PE X (.BoolOp op [a] pos) t:=λpins s σ H Q I hw=>BoolOp_one (h pins s σ H Q I hw)
theorem BM (ha:PE X a ta) (hb:PE X (.BoolOp .And (b :: aaV) pos) tb):PE X (.BoolOp .And (a :: b :: aaV) pos) (Ie ta tb):=by
 intro pins s σ H Q I h
 refine BoolOp_and (cn (ha pins s σ H _ I h) λv s1 ⟨x,H1,I1,r1,q1⟩=>?_)
 obtain ⟨c,rfl,q1⟩:=q1
 cases r1
 refine wpAny_truthy_bool ?_
 cases c with
 | true=>exact hb pins s1 σ H1 Q I1 q1
 | false=>exact ⟨.bl false,H1,I1,rfl,q1⟩
theorem G_ (ha:PE X a ta) (hb:PE X (.BoolOp .Or (b :: aaV) pos) tb):PE X (.BoolOp .Or (a :: b :: aaV) pos) (Om ta tb):=by
 intro pins s σ H Q I h
 refine BoolOp_or (cn (ha pins s σ H _ I h) λv s1 ⟨x,H1,I1,r1,q1⟩=>?_)
 obtain ⟨c,rfl,q1⟩:=q1
 cases r1
 refine wpAny_truthy_bool ?_
 cases c with
 | false=>exact hb pins s1 σ H1 Q I1 q1
 | true=>exact ⟨.bl true,H1,I1,rfl,q1⟩
def Ui (t:TT) (ta tb:TE):TE:=λσ H Q=>t σ H λc H1=>if c=true then ta σ H1 Q else tb σ H1 Q
variable {c:Expr}
theorem uh (hc:PT X c tA) (ha:PE X a ta) (hb:PE X b tb):PE X (.IfExp c a b pos) (Ui tA ta tb):=by
 intro pins s σ H Q I h
 refine wpAny_IfExp (cn (hc pins s σ H _ I h) λd s1 ⟨H1,I1,q1⟩=>?_)
 cases d with
 | true=>exact ha pins s1 σ H1 Q I1 q1
 | false=>exact hb pins s1 σ H1 Q I1 q1
def dG (K:VL) (H:Hp) (a:Addr) (xs:List V):Prop :=
 Rd H a (.lst xs) ∨
  ∃(o:Obj) (its:Array Value) (n:Nat),K.lookup a=some o∧o.cls=.type "list"∧o.dict=none∧o.data=.seq its n∧its.size≤sizeLine∧Vals xs its.toList
def fo (K:VL) (H:Hp) (a:Addr) (xs:List V):Prop :=
 Rd H a (.tup xs) ∨
  ∃(o:Obj) (its:Array Value) (n:Nat),K.lookup a=some o∧o.cls=.type "tuple"∧o.data=.seq its n∧its.size≤sizeLine∧Vals xs its.toList
def SR:Value→Option V
 | .none=>some .non
 | .bool b=>some (.bl b)
 | .int i _=>some (.int i)
 | .str x _=>some (.str x)
 | .bytes b _=>some (.byt b)
 | .float b _=>some (.flt b)
 | .ref a=>some (.ref a)
 | .type n=>some (.ty n)
 | _=>none
theorem RelV.abs {x:V} (r:RelV x u):SR u=some x:=by
 cases x with
 | non=>cases r;rfl
 | bl _=>cases r;rfl
 | int _=>obtain ⟨t,rfl⟩:=r;rfl
 | str _=>obtain ⟨t,rfl⟩:=r;rfl
 | byt _=>obtain ⟨t,rfl⟩:=r;rfl
 | flt _=>obtain ⟨t,rfl⟩:=r;rfl
 | ref _=>cases r;rfl
 | ty _=>cases r;rfl
theorem RelV.inj {x y:V} (r:RelV x u) (q:RelV y u):x=y:=Option.some.inj (r.abs.symm.trans q.abs)
theorem Vals.inj:∀{xs ys:List V} {us:List Value},Vals xs us→Vals ys us→xs=ys
 | _,_,_,.nil,.nil=>rfl
 | _,_,_,.cons r t,.cons r' t'=>by rw [r.inj r',Vals.inj t t']
variable {a:Addr} {K:VL}
theorem dG.of (h:H a=some (.lst xs)):dG K H a xs:=.inl (.inl h)
theorem fo.of (h:H a=some (.tup xs)):fo K H a xs:=.inl (.inl h)
theorem Inv.list (I:Inv X pins σ H s) (h:dG X.K H a xs):∃its:List Value,Vals xs its∧PlainL s.heap a its.toArray∧xs.length≤sizeLine:=by
 rcases h with h | ⟨o,its,n,hk,hc,hd,hs,hz,r⟩
 ·obtain ⟨z,its,n,r,e⟩:=h.ok I.hok
  exact ⟨its,r,⟨_,n,e,rfl,rfl,rfl⟩,z⟩
 ·refine ⟨its.toList,r,⟨o,n,I.wQ a o hk,hc,hd,by simpa using hs⟩,?_⟩
  have e:=r.length
  simp only [Array.length_toList] at e
  omega
theorem Inv.tuple (I:Inv X pins σ H s) (h:fo X.K H a xs):∃its:List Value,Vals xs its∧IsTup s.heap a its.toArray∧xs.length≤sizeLine:=by
 rcases h with h | ⟨o,its,n,hk,hc,hs,hz,r⟩
 ·obtain ⟨z,its,r,p⟩:=h.ok I.hok
  exact ⟨its,r,p,z⟩
 ·refine ⟨its.toList,r,⟨o,I.wQ a o hk,hc,n,by simpa using hs⟩,?_⟩
  have e:=r.length
  simp only [Array.length_toList] at e
  omega
variable {ys:List L2.V}
theorem Inv.o9 (I:Inv X pins σ H s) (h:dG X.K H a xs) (h':dG X.K H a ys):xs=ys:=by
 obtain ⟨its,r,⟨o,n,e,_,_,d⟩,_⟩:=I.list h
 obtain ⟨its',r',⟨o',n',e',_,_,d'⟩,_⟩:=I.list h'
 rw [e] at e';cases e'
 rw [d] at d'
 injection d' with d1 _
 have:its=its':=by simpa using congrArg Array.toList d1
 subst this
 exact r.inj r'
theorem Inv.xm (I:Inv X pins σ H s) (h:fo X.K H a xs) (h':fo X.K H a ys):xs=ys:=by
 obtain ⟨its,r,⟨o,e,_,n,d⟩,_⟩:=I.tuple h
 obtain ⟨its',r',⟨o',e',_,n',d'⟩,_⟩:=I.tuple h'
 rw [e] at e';cases e'
 rw [d] at d'
 injection d' with d1 _
 have:its=its':=by simpa using congrArg Array.toList d1
 subst this
 exact r.inj r'
abbrev Cx.wt (X:Cx) (E:Value→Shared→Prop):Cx:={ X with xe:=E }
abbrev Cx.Sw (X:Cx):Cx:=X.wt λ_ _=>False
theorem Cx.Ok.wt (ok:X.Ok) (E:Value→Shared→Prop):(X.wt E).Ok :=
 ⟨ok.mod,ok.kind,ok.glob,ok.blt,ok.above,ok.inj,ok.has,ok.cab,ok.hd,ok.frames,ok.stk,ok.exf,ok.bs,ok.bsz,ok.noex,ok.exfs,ok.oj,ok.frf⟩
theorem Cx.Ok.mE (ok:(X.wt E).Ok):X.Ok :=
 ⟨ok.mod,ok.kind,ok.glob,ok.blt,ok.above,ok.inj,ok.has,ok.cab,ok.hd,ok.frames,ok.stk,ok.exf,ok.bs,ok.bsz,ok.noex,ok.exfs,ok.oj,ok.frf⟩
theorem Inv.wt (I:Inv X pins σ H s) (E:Value→Shared→Prop):Inv (X.wt E) pins σ H s:=⟨I.ok.wt E,I.os,I.bare,I.base,I.loc,I.cell,I.free,I.freeC,I.pin,I.hok,I.len⟩
theorem Inv.mE (I:Inv (X.wt E) pins σ H s):Inv X pins σ H s:=⟨I.ok.mE,I.os,I.bare,I.base,I.loc,I.cell,I.free,I.freeC,I.pin,I.hok,I.len⟩
theorem SP.mE {D:Ends} {f:Flow} {s':Shared} (h:SP (X.wt E) pins D f s'):SP X pins D f s':=by
 cases f with
 | next=>obtain ⟨σ',H',I,q⟩:=h;exact ⟨σ',H',I.mE,q⟩
 | brk=>obtain ⟨σ',H',I,q⟩:=h;exact ⟨σ',H',I.mE,q⟩
 | cont=>obtain ⟨σ',H',I,q⟩:=h;exact ⟨σ',H',I.mE,q⟩
 | ret u=>obtain ⟨v,σ',H',I,r,q⟩:=h;exact ⟨v,σ',H',I.mE,r,q⟩
variable {t:TS}
theorem xI.Sw {st:List Stmt} (h:xI X.Sw st t):xI X st t:=λpins s σ H D I hw =>
 wpAny_mono (h pins s σ H D (I.wt _) hw) (λ_ _ q=>q.mE) λ_ _ z=>False.elim z
def Il:TS:=λD σ H=>D.nx σ H
def Ou (t u:TS):TS:=λD σ H=>t { D with nx:=u D } σ H
theorem yH:xI X [] Il:=λ_ _ σ H _ I h=>wpAny_execs_nil ⟨σ,H,I,h⟩
variable {u:TS} {st:Stmt} {aaW:List Stmt}
theorem pN (h1:PS X st t) (h2:xI X aaW u):xI X (st :: aaW) (Ou t u):=by
 intro pins s σ H D I h
 refine wpAny_execs_cons (cn (h1 pins s σ H { D with nx:=u D } I h) λf s1 q=>?_)
 cases f with
 | next =>
  obtain ⟨σ',H',I',q⟩:=q
  exact h2 pins s1 σ' H' D I' q
 | ret v=>exact q
 | brk=>exact q
 | cont=>exact q
theorem sM (h1:PS X st t):xI X [st] t:=by
 intro pins s σ H D I h
 refine wpAny_execs_cons (cn (h1 pins s σ H D I h) λf s1 q=>?_)
 cases f with
 | next=>exact wpAny_execs_nil q
 | ret v=>exact q
 | brk=>exact q
 | cont=>exact q
def Of:TS:=λD σ H=>D.bk σ H
def RU:TS:=λD σ H=>D.ct σ H
theorem Inv.quiet (I:Inv X pins σ H s):interactive X.env=false:=by simp [interactive,I.ok.kind]
def Ih (te:TE):TS:=λD σ H=>te σ H λ_ H1=>D.nx σ H1
variable {te:TE}
theorem yE (he:PE X e te) (hs:swapsWith e none pos.line X.env=pure false:=by rfl):PS X (.Expr e pos) (Ih te):=by
 intro pins s σ H D I h
 exact wpAny_Expr_any (cn (he pins s σ H _ I h) λv s1 ⟨x,H1,I1,r1,q1⟩=>⟨σ,H1,I1,q1⟩) I.quiet hs
def Ot (te:TE):TS:=λD σ H=>te σ H D.rt
theorem B0 (he:PE X e te):PS X (.Return (some e) pos) (Ot te):=by
 intro pins s σ H D I h
 exact wpAny_Return_some (cn (he pins s σ H _ I h) λv s1 ⟨x,H1,I1,r1,q1⟩=>⟨x,σ,H1,I1,r1,q1⟩)
def Io:TS:=λD _ H=>D.rt .non H
theorem yF:PS X (.Return none pos) Io:=λ_ _ σ H _ I h=>wpAny_Return_none ⟨.non,σ,H,I,rfl,h⟩
def Oh (c:TT) (t u:TS):TS:=λD σ H=>c σ H λb H1=>if b=true then t D σ H1 else u D σ H1
theorem He {a b:List Stmt} {tc:TT} (hc:PT X c tc) (ha:xI X a t) (hb:xI X b u):PS X (.If c a b pos) (Oh tc t u):=by
 intro pins s σ H D I h
 refine wpAny_If (cn (hc pins s σ H _ I h) λd s1 ⟨H1,I1,q1⟩=>?_)
 cases d with
 | true=>exact ha pins s1 σ H1 D I1 q1
 | false=>exact hb pins s1 σ H1 D I1 q1
def Oj:TS:=λ_ _ _=>False
abbrev TG:=V→St→Hp→(St→Hp→Prop)→Prop
abbrev lj:=List V→St→Hp→(St→Hp→Prop)→Prop
def PG (X:Cx) (target:Expr) (t:TG):Prop :=
 ∀(pins:List (Addr × Obj)) (s:Shared) (σ:St) (H:Hp) (v:V) (u:Value) (Q:St→Hp→Prop),Inv X pins σ H s→RelV v u→t v σ H Q →
  wpAny (model X.prog X.w) X.A (assign target X.env u) (λ_ s'=>∃σ' H',Inv X pins σ' H' s'∧Q σ' H') X.xe s
def Lf (X:Cx) (ts:List Expr) (t:lj):Prop :=
 ∀(pins:List (Addr × Obj)) (s:Shared) (σ:St) (H:Hp) (vs:List V) (us:List Value) (Q:St→Hp→Prop),Inv X pins σ H s→Vals vs us→t vs σ H Q →
  wpAny (model X.prog X.w) X.A (assignInOrder ((assignEach ts X.env).map (·.2)) us) (λ_ s'=>∃σ' H',Inv X pins σ' H' s'∧Q σ' H') X.xe s
abbrev fI:=V→V→V→Hp→(Hp→Prop)→Prop
def fH (X:Cx) (t:fI):Prop :=
 ∀(pins:List (Addr × Obj)) (s:Shared) (σ:St) (H:Hp) (o i v:V) (ov iv u:Value) (Q:Hp→Prop),Inv X pins σ H s→RelV o ov→RelV i iv→RelV v u→t o i v H Q →
  wpAny (model X.prog X.w) X.A (setItem ov iv u) (λ_ s'=>∃H',Inv X pins σ H' s'∧Q H') X.xe s
abbrev Sn:=V→V→Hp→VK→Prop
def SO (X:Cx) (op:Operator) (t:Sn):Prop :=
 ∀(pins:List (Addr × Obj)) (s:Shared) (σ:St) (H:Hp) (x y:V) (v u:Value) (Q:VK),Inv X pins σ H s→RelV x v→RelV y u→t x y H Q →
  wpAny (model X.prog X.w) X.A (inplaceOp op v u) (EP X pins σ Q) X.xe s
def tO (i:Nat):TG:=λv σ H Q=>Q (σ.set i (some v)) H
theorem yx (hN:X.N.Nodup) (hi:X.N[i]?=some x) (hx:Loc X.env.scope x) (hf:X.fn x=true∨X.env.scope.names.lookup x=some .local:=by first | exact .inl rfl | exact .inr rfl | assumption):PG X (.Name x pos) (tO i):=by
 intro pins s σ H v u Q I r h
 exact wpAny_assign_Name (gr I hN hi hx r (λs' I'=>⟨_,H,I',h⟩) hf)
def MS:lj:=λvs σ H Q=>vs=[]∧Q σ H
def FW (t:TG) (u:lj):lj:=λvs σ H Q=>∃v r,vs=v :: r∧t v σ H λσ' H'=>u r σ' H' Q
theorem yy:Lf X [] MS:=by
 intro pins s σ H vs us Q I r h
 obtain ⟨e,h⟩:=h
 subst e
 cases r
 exact assignInOrder_nil ⟨σ,H,I,h⟩
theorem um {es:List Expr} {t:TG} {u:lj} (h1:PG X e t) (h2:Lf X es u)
  (hs:(assignEach (e :: es) X.env).map (·.2)=assign e X.env :: (assignEach es X.env).map (·.2):=by rfl):Lf X (e :: es) (FW t u):=by
 intro pins s σ H vs us Q I r h
 obtain ⟨v,vr,e1,h⟩:=h
 subst e1
 cases r with
 | cons r rr =>
  rw [hs]
  refine assignInOrder_cons (cn (h1 pins s σ H _ _ _ I r h) λ_ s1 ⟨σ1,H1,I1,q1⟩=>?_)
  exact h2 pins s1 σ1 H1 _ _ Q I1 rr q1
def MU (K:VL) (n:Nat) (t:lj):TG:=λv σ H Q=>∃a xs,v=.ref a∧fo K H a xs∧xs.length=n∧t xs σ H Q
theorem BS {es:List Expr} {k:Nat} {t:lj} {n:Nat} (hc:X.calm=true) (h:Lf X es t)
  (hn:(assignEach es X.env).length=n:=by rfl) (hst:(assignEach es X.env).findIdx? (·.1)=none:=by rfl):PG X (.Tuple es k pos) (MU X.K n t):=by
 intro pins s σ H v u Q I r hw
 obtain ⟨a,xs,e1,hq,hl,hw⟩:=hw
 subst e1
 cases r
 obtain ⟨its,rv,ht,hz⟩:=I.tuple hq
 refine assign_Tuple_tuple (I.ok.hd hc) ht (by simp [hn,← hl,rv.length]) hst λh' hx=>?_
 have I1:Inv X pins σ H { s with heap:=h' }:=I.kept (t':=s.toks) λb o e=>hx b o (Wf (V4 e)) e
 exact h pins _ σ H xs _ Q I1 (by simpa using rv) hw
def MT (to ti:TE) (t:fI):TG:=λv σ H Q=>to σ H λo H1=>ti σ H1 λi H2=>t o i v H2 λH3=>Q σ H3
theorem BR {o i:Expr} {to ti:TE} {t:fI} (ho:PE X o to) (hi:PE X i ti) (hs:fH X t)
  (ha:∀v,assign (.Subscript o i pos) X.env v=(do
   let ov ← holding [v] (eval o X.env)
   let iv ← holding [v,ov] (eval i X.env)
   standAt pos
   holding [v,ov,iv] (setItem ov iv v)
   release [v,ov,iv] []):=by intro _;rfl):PG X (.Subscript o i pos) (MT to ti t):=by
 intro pins s σ H v u Q I r h
 rw [ha]
 refine wpAny_bind (wpAny_holding (cn (ho pins s σ H _ I h) λov s1 ⟨x,H1,I1,r1,q1⟩=>?_))
 refine wpAny_bind (wpAny_holding (cn (hi pins s1 σ H1 _ I1 q1) λiv s2 ⟨y,H2,I2,r2,q2⟩=>?_))
 refine wpAny_bind (wpAny_standAt (wpAny_bind (wpAny_holding (cn (hs pins s2 σ H2 x y v ov iv u _ I2 r1 r2 r q2) λ_ s3 ⟨H3,I3,q3⟩=>?_))))
 exact wpAny_release ⟨σ,H3,I3,q3⟩
def Cm (te:TE) (g:TG):TS:=λD σ H=>te σ H λx H1=>g x σ H1 D.nx
variable {tg:Expr}
theorem BX {g:TG} (he:PE X e te) (hg:PG X tg g) (hs:swapsWithSole [tg] e pos.line X.env=pure false:=by rfl) (hw:swappedStores [tg] e X.env=pure none:=by rfl)
  (h1:(assignEach [tg] X.env).map (·.2)=[assign tg X.env]:=by rfl):PS X (.Assign [tg] e pos) (Cm te g):=by
 intro pins s σ H D I h
 refine wpAny_Assign_stores (cn (he pins s σ H _ I h) λv s1 ⟨x,H1,I1,r1,q1⟩=>?_) hs hw
 rw [h1]
 exact cn (hg pins s1 σ H1 x v _ I1 r1 q1) λ_ s2 q=>q
theorem yG {pos':Pos} (hN:X.N.Nodup) (hi:X.N[i]?=some x) (hx:Loc X.env.scope x) (he:PE X e te) (hs:swapsWith e (some (.Name x pos')) pos.line X.env=pure false:=by rfl) (hf:X.fn x=true∨X.env.scope.names.lookup x=some .local:=by first | exact .inl rfl | exact .inr rfl | assumption) :
  PS X (.Assign [.Name x pos'] e pos) (Cm te (tO i)):=by
 intro pins s σ H D I h
 refine wpAny_Assign_Name (cn (he pins s σ H _ I h) λv s1 ⟨y,H1,I1,r1,q1⟩=>?_) hs
 exact gr I1 hN hi hx r1 (λs2 I2=>⟨_,H1,I2,q1⟩) hf
def Oo (i j:Nat) (ta:TA):TS:=λD σ H=>ta σ H λvs H1=>∃v w,vs=[v,w]∧D.nx ((σ.set i (some v)).set j (some w)) H1
variable {a:Expr}
theorem BZ {j:Nat} {y:Str} {ta:TA} {px py pt:Pos} {kt k2 pt2} (hc:X.calm=true) (hN:X.N.Nodup) (hi:X.N[i]?=some x) (hj:X.N[j]?=some y) (hij:i≠j)
  (hx:X.env.scope.names.lookup x=some .local) (hy:X.env.scope.names.lookup y=some .local) (ha:PA X [a,b] ta)
  (hw:swappedStores [.Tuple [.Name x px,.Name y py] kt pt] (.Tuple [a,b] k2 pt2) X.env=pure (some [x,y]))
  (hs:swapsWithSole [.Tuple [.Name x px,.Name y py] kt pt] (.Tuple [a,b] k2 pt2) pos.line X.env=pure false:=by rfl) :
  PS X (.Assign [.Tuple [.Name x px,.Name y py] kt pt] (.Tuple [a,b] k2 pt2) pos) (Oo i j ta):=by
 intro pins s σ H D I h
 rw [exec_Assign_arm]
 refine wpAny_bind (wpAny_standAt ?_)
 rw [hs]
 refine wpAny_bind (wpAny_pure ?_)
 rw [if_neg (by decide)]
 refine wpAny_bind (Tuple_ (cn (ha _ pins s σ H _ I h) λus s1 ⟨vs,H1,I1,r1,q1⟩=>?_))
 obtain ⟨v,w,e1,q1⟩:=q1
 subst e1
 obtain ⟨u1,u2,rfl,rv,rw'⟩:∃u1 u2,us=[u1,u2]∧RelV v u1∧RelV w u2:=by
  cases r1 with
  | cons p q =>
   cases q with
   | cons p' q' =>
    cases q'
    exact ⟨_,_,rfl,p,p'⟩
 refine wpAny_newObj_type ?_ (by show 2≤sizeLine;decide)
 have I2:Inv X pins σ H1 { s1 with heap:=s1.heap.push { cls:=.type "tuple",data:=.seq [u1,u2].toArray } }:=I1.kept (t':=s1.toks) λb o e=>VW _ e
 rw [hw]
 refine wpAny_bind (wpAny_pure ?_)
 show wpAny (model X.prog X.w) X.A (do rule "assign.swapped-stores";let items ← unpackItems (.ref s1.heap.objs.size) 2 none;assignInOrder [λv=>bindName X.env y v,λv=>bindName X.env x v] items.reverse;pure Flow.next) _ _ _
 refine wpAny_bind (wpAny_rule (wpAny_bind (unpackItems_tuple (items:=#[u1,u2]) (I.ok.hd hc) (IsTup.new s1.heap _) λh' hx'=>?_)))
 have I3:=I2.kept (h':=h') (t':=s1.toks) λb o e=>hx' b o (Wf (V4 e)) e
 show wpAny _ _ (assignInOrder [λv=>bindName X.env y v,λv=>bindName X.env x v] [u2,u1] >>= λ_=>pure Flow.next) _ _ _
 refine wpAny_bind (assignInOrder_cons (wpAny_bindName (gr I3 hN hj (.inl hy) rw' (λs2 I4=>?_) (.inr hy))))
 refine assignInOrder_cons (wpAny_bindName (gr I4 hN hi (.inl hx) rv (λs3 I5=>assignInOrder_nil (wpAny_pure ?_)) (.inr hx)))
 rw [List.set_comm _ _ (Ne.symm hij)] at I5
 exact ⟨_,H1,I5,q1⟩
def Ub (i:Nat) (te:TE) (ti:Sn):TS:=λD σ H=>∃x,σ[i]?=some (some x)∧te σ H λy H1=>ti x y H1 λz H2=>D.nx (σ.set i (some z)) H2
theorem NL {op:Operator} {ti:Sn} {pos':Pos} (hN:X.N.Nodup) (hi:X.N[i]?=some x) (hx:Loc X.env.scope x) (he:PE X e te) (ho:SO X op ti) (hf:X.fn x=true∨X.env.scope.names.lookup x=some .local:=by first | exact .inl rfl | exact .inr rfl | assumption) :
  PS X (.AugAssign (.Name x pos') op e pos) (Ub i te ti):=by
 intro pins s σ H D I h
 obtain ⟨v,e1,h⟩:=h
 obtain ⟨m,hn,hl⟩:=I.loc
 have vis:og X.env.scope x:=by rcases hx with k | k;exact .inl k;exact .inr (.inl k)
 obtain ⟨u,r,l⟩:=hl i x v hi e1 vis
 refine wpAny_AugAssign_Name ?_
 have go:wpAny (model X.prog X.w) X.A (eval e X.env) (λw s₂=>wpAny (model X.prog X.w) X.A (inplaceOp op u w) (λr s₃=>wpAny (model X.prog X.w) X.A (storeName X.env x r) (λ_=>SP X pins D .next) X.xe s₃) X.xe s₂) X.xe s:=by
  refine cn (he pins s σ H _ I h) λw s1 ⟨y,H1,I1,r1,q1⟩=>?_
  refine cn (ho pins s1 σ H1 v y u w _ I1 r r1 q1) λz s2 ⟨zv,H2,I2,r2,q2⟩=>?_
  exact gr I2 hN hi hx r2 (λs3 I3=>⟨_,H2,I3,q2⟩) hf
 rcases l with ⟨hk,hm⟩ | ⟨hk,c,hc,hcell⟩
 ·exact wpAny_loadName_local I.ok.kind hk hn hm go
 ·rcases hk with hk | hk
  ·exact wpAny_loadName_cell I.ok.kind hk hc hcell go
  ·rcases hx with k | k
   ·have:X.env.scope.names.lookup x=some .free:=hk
    rw [k] at this;cases this
   ·have:X.env.scope.names.lookup x=some .free:=hk
    rw [k] at this;cases this
def Vu (f:Int→Int→Int):Sn:=λx y H Q=>∃i j,x=.int i∧y=.int j∧Q (.int (f i j)) H
theorem MX:SO X .Sub (Vu λi j=>i - j):=by
 intro pins s σ H x y v u Q I r1 r2 h
 obtain ⟨i,j,e1,e2,q⟩:=h
 subst e1;subst e2
 obtain ⟨t,rfl⟩:=r1
 obtain ⟨t',rfl⟩:=r2
 exact isub_int ⟨.int _,H,I.tok _,⟨_,rfl⟩,q⟩
def Cn (c:TT) (tb:TS):TS:=λD σ H=>∃W:Nat→St→Hp→Prop,(∃m,W m σ H)∧∀m σ H,W m σ H →
 c σ H λb H1=>if b=true then ∃N:St→Hp→Prop,(∀σ' H',N σ' H'→∃m',m' < m∧W m' σ' H')∧tb { D with nx:=N,ct:=N,bk:=D.nx } σ H1 else D.nx σ H1
variable {body:List Stmt}
theorem uu {tc:TT} {tb:TS} (hp:PassesOwn (model X.prog X.w) X.A X.env X.xe) (hc:PT X c tc) (hb:xI X body tb):PS X (.While c body [] pos) (Cn tc tb):=by
 intro pins s σ H D I h
 obtain ⟨W,⟨m0,w0⟩,turn⟩:=h
 refine wpAny_While (codeAny_whileLoop (λn s'=>∃σ' H',Inv X pins σ' H' s'∧W n σ' H') ?_ m0 ⟨σ,H,I,w0⟩)
 rintro n s1 ⟨σ1,H1,I1,w1⟩
 refine wpAny_passesOwn hp (cn (hc pins s1 σ1 H1 _ I1 (turn n σ1 H1 w1)) λb s2 ⟨H2,I2,q2⟩=>?_)
 cases b with
 | true =>
  obtain ⟨N,hN,q2⟩:=q2
  rw [if_pos rfl]
  refine wpAny_passesOwn hp (cn (hb pins s2 σ1 H2 _ I2 q2) λf s3 q3=>?_)
  cases f with
  | next =>
   obtain ⟨σ3,H3,I3,n3⟩:=q3
   obtain ⟨m',hm,w3⟩:=hN σ3 H3 n3
   exact ⟨m',hm,σ3,H3,I3,w3⟩
  | cont =>
   obtain ⟨σ3,H3,I3,n3⟩:=q3
   obtain ⟨m',hm,w3⟩:=hN σ3 H3 n3
   exact ⟨m',hm,σ3,H3,I3,w3⟩
  | brk=>exact q3
  | ret v=>exact q3
 | false =>
  rw [if_neg Wz]
  exact wpAny_execs_nil ⟨σ1,H2,I2,q2⟩
structure It where
 go:Nat→Hp→Prop
 yld:Nat→Hp→V→Hp→Prop
 stop:Nat→Hp→Prop
def n0 (X:Cx) (pins:List (Addr × Obj)) (H:Hp) (b:Addr):Prop :=
 H b=none∧b≠X.env.locals∧b ∉ X.fs∧(b∈X.ex∨X.s₀.heap.objs.size≤b)∧(∀x c,X.env.cells.lookup x=some c→c≠b)∧∀p∈X.pn ++ pins,p.1≠b
theorem Inv.Bl {b:Addr} (I:Inv X pins σ H s) (hb:s.heap.objs.size≤b) (hn:H' b=none):n0 X pins H' b:=by
 refine ⟨hn,Yn (V7 I.lt hb),I.Tw hb,.inr (V6 I.sz hb),λx c e z=>?_,λp hp z=>?_⟩
 ·obtain ⟨v,q⟩:=I.cell x c e
  exact absurd (V7 q.lt (by rw [z];exact hb)) (Xc _)
 ·exact absurd (V7 (V4 (I.pin p hp).1) (by rw [z];exact hb)) (Xc _)
structure Turn (P:Program) (w:World) (K:VL) (tg:Expr) (J:It) (fp:List Addr) (it:Addr) (tn:Nat→Heap→Prop):Prop where
 mem:it∈fp
 obj:∀i h,tn i h→∀b∈fp,∃o,h.get? b=some o∧∀v,o.data≠.cell v
 keep:∀i h h',tn i h→(∀b∈fp,∀o,h.get? b=some o→h'.get? b=some o)→tn i h'
 item:∀(X:Cx),X.prog=P→X.w=w→X.K=K→X.calm=true→∀(i:Nat) (pins:List (Addr × Obj)) (s:Shared) (σ:St) (H:Hp) (E:Value→Shared→Prop),Inv X pins σ H s→(∀b∈fp,n0 X pins H b)→tn i s.heap→J.go i H →
  wpAny (model P w) X.A (pyNext (.ref it)) (λr s1=>∃u,r=some u ∧
   wpAny (model P w) X.A (letOwnedTupleGo tg (.ref it) u) (λ_ s2=>∃x H',Inv X pins σ H' s2∧RelV x u∧J.yld i H x H'∧tn (i + 1) s2.heap∧∀b∈fp,H' b=none) E s1) E s
 done:∀(X:Cx),X.prog=P→X.w=w→X.K=K→X.calm=true→∀(i:Nat) (pins:List (Addr × Obj)) (s:Shared) (σ:St) (H:Hp) (E:Value→Shared→Prop),Inv X pins σ H s→(∀b∈fp,n0 X pins H b)→tn i s.heap→J.stop i H →
  wpAny (model P w) X.A (pyNext (.ref it)) (λr s1=>r=none∧Inv X pins σ H s1) E s
 self:∀(A:Around) (i:Nat) (s:Shared) (Q:Value→Shared→Prop) (E:Value→Shared→Prop),tn i s.heap→Q (.ref it) s→wpAny (model P w) A (pyIter (.ref it)) Q E s
abbrev TI:=St→Hp→(It→Hp→Prop)→Prop
def UT (X:Cx) (pins:List (Addr × Obj)) (σ:St) (tg:Expr) (R:It→Hp→Prop) (itv:Value) (s2:Shared):Prop :=
 ∃(it:Addr) (fp:List Addr) (tn:Nat→Heap→Prop) (J:It) (H':Hp),itv=.ref it∧Inv X pins σ H' s2∧Turn X.prog X.w X.K tg J fp it tn∧tn 0 s2.heap∧(∀b∈fp,n0 X pins H' b)∧R J H'
def PI (X:Cx) (tg iter:Expr) (wi:TI):Prop :=
 ∀(pins:List (Addr × Obj)) (s:Shared) (σ:St) (H:Hp) (R:It→Hp→Prop),Inv X pins σ H s→wi σ H R →
  wpAny (model X.prog X.w) X.A (eval iter X.env) (λv s1=>wpAny (model X.prog X.w) X.A (pyIter v) (UT X pins σ tg R) X.xe s1) X.xe s
theorem wK {it:Addr} {u:Value} {n:String} {vs:Array Value} {Q:Unit→Shared→Prop} (ho:s.heap.get? it=some o) (hc:o.cls=.type n) (hd:o.data=.fields vs)
  (hn:["enumerate","zip","dict_itemiterator","dict_reverseitemiterator","odict_iterator","itertools.zip_longest","itertools.pairwise"].contains n=false) (hQ:Q () s):wpAny M A (letOwnedTupleGo tg (.ref it) u) Q E s:=by
 unfold letOwnedTupleGo
 cases tg <;> first
  | exact wpAny_pure hQ
  | (cases u <;> first
    | exact wpAny_pure hQ
    | (refine wpAny_bind (wpAny_load ho ?_)
       rw [hc,hd]
       show wpAny M A (if (["enumerate","zip","dict_itemiterator","dict_reverseitemiterator","odict_iterator","itertools.zip_longest","itertools.pairwise"].contains n && vs[0]? == some (rawInt _))=true then _ else _) Q E s
       rw [if_neg (by intro h;rw [hn,X3] at h;cases h)]
       exact wpAny_pure hQ))
def SM (K:VL) (a:Addr):It :=
 ⟨λi H=>∃xs x,dG K H a xs∧xs[i]?=some x,λi H x H'=>H'=H∧∀xs,dG K H a xs→xs[i]?=some x,λi H=>∃xs,dG K H a xs∧xs.length≤i⟩
def UO (K:VL) (a:Addr):It :=
 ⟨λi H=>∃xs x,fo K H a xs∧xs[i]?=some x,λi H x H'=>H'=H∧∀xs,fo K H a xs→xs[i]?=some x,λi H=>∃xs,fo K H a xs∧xs.length≤i⟩
def O2 (lo:Int) (n:Nat):It:=⟨λi _=>i < n,λi H x H'=>H'=H∧x=.int (lo + i),λi _=>n≤i⟩
theorem Fh (a it:Addr):Turn P w K tg (SM K a) [it] it (λi h=>h.IsListIter it a i) where
 mem:=by simp
 obj:=λi h st b hb=>by
  have e:b=it:=by simpa using hb
  subst e
  obtain ⟨o,e,c,d⟩:=st
  exact ⟨o,e,λv z=>by rw [d] at z;cases z⟩
 keep:=λi h h' st k=>st.at λo e=>k it (by simp) o e
 item:=by
  intro X hP hw hK hc i pins s σ H E I hf st hg
  subst hP hw hK
  obtain ⟨xs,x,hq,hx⟩:=hg
  obtain ⟨its,rv,p,hz⟩:=I.list hq
  obtain ⟨u,hu,ru⟩:=rv.get hx
  obtain ⟨f0,f1,f2,f3,f4,f5⟩:=hf it (by simp)
  refine wpAny_pyNext_list_item st p.isList (x:=u) (by simpa using hu) λh' st' sb=>?_
  have I1:Inv X pins σ H { s with heap:=h' }:=I.turned (t':=s.toks) (λb o hb e=>(sb.2 b hb).trans e) f0 f1 f3 f4 f5
  obtain ⟨o,e,c,d⟩:=id st'
  exact ⟨u,rfl,wK (s:={ s with heap:=h' }) e c d (by decide) ⟨x,H,I1,ru,⟨rfl,λys hy=>by rw [I.o9 hy hq];exact hx⟩,st',λb hb=>(hf b hb).1⟩⟩
 done:=by
  intro X hP hw hK hc i pins s σ H E I hf st hg
  subst hP hw hK
  obtain ⟨xs,hq,hx⟩:=hg
  obtain ⟨its,rv,p,hz⟩:=I.list hq
  obtain ⟨f0,f1,f2,f3,f4,f5⟩:=hf it (by simp)
  have hl:=rv.length
  exact wpAny_pyNext_list_end (I.ok.hd hc) st p.isList (by simp;omega) λh' eb=>⟨rfl,I.turned (t':=s.toks) (λb o hb e=>eb b o hb e) f0 f1 f3 f4 f5⟩
 self:=λ_ _ _ _ _ st h=>wpAny_pyIter_listiter st h
theorem Cp (a it:Addr):Turn P w K tg (UO K a) [it] it (λi h=>h.IsTupleIter it a i) where
 mem:=by simp
 obj:=λi h st b hb=>by
  have e:b=it:=by simpa using hb
  subst e
  obtain ⟨o,e,c,d⟩:=st
  exact ⟨o,e,λv z=>by rw [d] at z;cases z⟩
 keep:=λi h h' st k=>st.at λo e=>k it (by simp) o e
 item:=by
  intro X hP hw hK hc i pins s σ H E I hf st hg
  subst hP hw hK
  obtain ⟨xs,x,hq,hx⟩:=hg
  obtain ⟨its,rv,p,hz⟩:=I.tuple hq
  obtain ⟨u,hu,ru⟩:=rv.get hx
  obtain ⟨f0,f1,f2,f3,f4,f5⟩:=hf it (by simp)
  refine wpAny_pyNext_tuple_item st (show s.heap.IsTuple a its.toArray from p) (x:=u) (by simpa using hu) λh' st' sb=>?_
  have I1:Inv X pins σ H { s with heap:=h' }:=I.turned (t':=s.toks) (λb o hb e=>(sb.2 b hb).trans e) f0 f1 f3 f4 f5
  obtain ⟨o,e,c,d⟩:=id st'
  exact ⟨u,rfl,wK (s:={ s with heap:=h' }) e c d (by decide) ⟨x,H,I1,ru,⟨rfl,λys hy=>by rw [I.xm hy hq];exact hx⟩,st',λb hb=>(hf b hb).1⟩⟩
 done:=by
  intro X hP hw hK hc i pins s σ H E I hf st hg
  subst hP hw hK
  obtain ⟨xs,hq,hx⟩:=hg
  obtain ⟨its,rv,p,hz⟩:=I.tuple hq
  obtain ⟨f0,f1,f2,f3,f4,f5⟩:=hf it (by simp)
  have hl:=rv.length
  exact wpAny_pyNext_tuple_end (I.ok.hd hc) st (show s.heap.IsTuple a its.toArray from p) (by simp;omega) λh' eb=>⟨rfl,I.turned (t':=s.toks) (λb o hb e=>eb b o hb e) f0 f1 f3 f4 f5⟩
 self:=λ_ _ _ _ _ st h=>wpAny_pyIter_tupleiter st h
theorem Co (it:Addr) (lo:Int) (n:Nat):Turn P w K tg (O2 lo n) [it] it (λi h=>IsRangeIter h it (lo + (i:Nat) * 1) ((n:Int) - (i:Nat)) 1) where
 mem:=by simp
 obj:=λi h st b hb=>by
  have e:b=it:=by simpa using hb
  subst e
  exact ⟨_,st,λv z=>by
   have z':Data.fields _=Data.cell v:=z
   cases z'⟩
 keep:=λi h h' st k=>k it (by simp) _ st
 item:=by
  intro X hP hw hK hc i pins s σ H E I hf st hg
  subst hP hw hK
  obtain ⟨f0,f1,f2,f3,f4,f5⟩:=hf it (by simp)
  have W:=Walks.range (prog:=X.prog) (w:=X.w) (I.ok.hd hc) it lo 1 n
  refine W.item i s _ _ hg st λv h' tk hv st' kk=>?_
  obtain ⟨t,rfl⟩:=hv
  have I1:Inv X pins σ H { s with heap:=h',toks:=tk }:=I.turned (λb o hb e=>kk b o (by simpa using hb) e) f0 f1 f3 f4 f5
  refine ⟨_,rfl,wK (s:={ s with heap:=h',toks:=tk }) (n:="range_iterator") st' rfl rfl (by decide) ⟨.int (lo + i),H,I1,⟨t,?_⟩,⟨rfl,rfl⟩,st',λb hb=>(hf b hb).1⟩⟩
  rw [Int.mul_one]
 done:=by
  intro X hP hw hK hc i pins s σ H E I hf st hg
  subst hP hw hK
  obtain ⟨f0,f1,f2,f3,f4,f5⟩:=hf it (by simp)
  exact wpAny_pyNext_range_end (I.ok.hd hc) st (by have:n≤i:=hg;omega) λh' eb=>⟨rfl,I.turned (t':=s.toks) (λb o hb e=>eb b o hb e) f0 f1 f3 f4 f5⟩
 self:=λ_ _ _ _ _ st h=>wpAny_pyIter_rangeiter st h
def F2 (K:VL) (tl:TE):TI:=λσ H R=>tl σ H λx H1=>∃a,x=.ref a∧(∃xs,dG K H1 a xs)∧R (SM K a) H1
def MW (K:VL) (tl:TE):TI:=λσ H R=>tl σ H λx H1=>∃a,x=.ref a∧(∃xs,fo K H1 a xs)∧R (UO K a) H1
theorem yz {l:Expr} {tl:TE} (hl:PE X l tl):PI X tg l (F2 X.K tl):=by
 intro pins s σ H R I h
 refine cn (hl pins s σ H _ I h) λv s1 ⟨x,H1,I1,r1,q1⟩=>?_
 obtain ⟨a,e,⟨xs,hq⟩,q⟩:=q1
 subst e
 cases r1
 obtain ⟨its,rv,p,hz⟩:=I1.list hq
 refine wpAny_pyIter_list p.isList ?_
 refine ⟨s1.heap.objs.size,[s1.heap.objs.size],_,_,H1,rfl,I1.kept (t':=s1.toks) λb o e=>VW _ e,Fh a _,⟨_,Wd _ rfl,rfl,rfl⟩,λb hb=>?_,q⟩
 have e:b=s1.heap.objs.size:=by simpa using hb
 subst e
 exact I1.Bl (VT _) (I1.hok.fresh (VT _))
theorem BU {l:Expr} {tl:TE} (hl:PE X l tl):PI X tg l (MW X.K tl):=by
 intro pins s σ H R I h
 refine cn (hl pins s σ H _ I h) λv s1 ⟨x,H1,I1,r1,q1⟩=>?_
 obtain ⟨a,e,⟨xs,hq⟩,q⟩:=q1
 subst e
 cases r1
 obtain ⟨its,rv,p,hz⟩:=I1.tuple hq
 refine wpAny_pyIter_tuple (show s1.heap.IsTuple a its.toArray from p) ?_
 refine ⟨s1.heap.objs.size,[s1.heap.objs.size],_,_,H1,rfl,I1.kept (t':=s1.toks) λb o e=>VW _ e,Cp a _,⟨_,Wd _ rfl,rfl,rfl⟩,λb hb=>?_,q⟩
 have e:b=s1.heap.objs.size:=by simpa using hb
 subst e
 exact I1.Bl (VT _) (I1.hok.fresh (VT _))
theorem Aj {R:It→Hp→Prop} {lo hi:Int} {t u v:Tok} {tk:Nat} (I:Inv X pins σ H s) (h1:-(2 ^ 62)≤lo) (h2:lo < 2 ^ 62) (h3:-(2 ^ 62)≤hi) (h4:hi < 2 ^ 62)
  (q:R (O2 lo (hi - lo).toNat) H):wpAny (model X.prog X.w) X.A (pyIter (.ref s.heap.objs.size)) (UT X pins σ tg R) E { s with heap:=s.heap.push { cls:=.type "range",data:=.fields #[.int lo t,.int hi u,.int 1 v] },toks:=tk }:=by
 refine wpAny_pyIter_range (IsRange.new ..) (small_one h1 h2 h3 h4) ?_
 have I1:Inv X pins σ H { s with heap:=s.heap.push { cls:=.type "range",data:=.fields #[.int lo t,.int hi u,.int 1 v] },toks:=tk }:=I.kept λb o e=>VW _ e
 refine ⟨(s.heap.push { cls:=.type "range",data:=.fields #[.int lo t,.int hi u,.int 1 v] }).objs.size,[(s.heap.push { cls:=.type "range",data:=.fields #[.int lo t,.int hi u,.int 1 v] }).objs.size],_,_,H,rfl,
  I1.kept (t':=tk) λb o e=>VW _ e,Co _ lo (hi - lo).toNat,?_,λb hb=>?_,q⟩
 ·have e1:lo + ((0:Nat):Int) * 1=lo:=by simp
  have e2:(((hi - lo).toNat:Nat):Int) - ((0:Nat):Int)=Builtin.Range.rangeSize lo hi 1:=by rw [rangeSize_one];split <;> omega
  show IsRangeIter _ _ (lo + ((0:Nat):Int) * 1) ((((hi - lo).toNat:Nat):Int) - ((0:Nat):Int)) 1
  rw [e1,e2]
  exact Wd _ rfl
 ·have e:b=(s.heap.push { cls:=.type "range",data:=.fields #[.int lo t,.int hi u,.int 1 v] }).objs.size:=by simpa using hb
  subst e
  exact I1.Bl (VT _) (I1.hok.fresh (VT _))
def F3 (ta:TA):TI:=λσ H R=>ta σ H λvs H1=>∃j:Int,vs=[.int j]∧-(2 ^ 62)≤j∧j < 2 ^ 62∧R (O2 0 j.toNat) H1
def F4 (ta:TA):TI:=λσ H R=>ta σ H λvs H1=>∃i j:Int,vs=[.int i,.int j]∧(-(2 ^ 62)≤i∧i < 2 ^ 62∧-(2 ^ 62)≤j∧j < 2 ^ 62)∧R (O2 i (j - i).toNat) H1
theorem qH {ta:TA} {p:Pos} (hg:Gl X "range") (hm:X.mg "range"=none) (ha:PA X [a] ta) (hs:starEach [a] X.env=[(false,eval a X.env)]:=by rfl):PI X tg (.Call (.Name "range" p) [a] [] pos) (F3 ta):=by
 intro pins s σ H R I h
 refine Call_ (jW I hg hm boot_range (PyProof.Rows.callWith_type1 (cn (ha pos pins s σ H _ I h) λus s1 ⟨vs,H1,I1,r1,q1⟩=>?_) hs rfl))
 obtain ⟨j,e,q1,q2,q⟩:=q1
 subst e
 cases r1 with
 | cons r rr =>
  cases rr
  obtain ⟨t,rfl⟩:=r
  exact call_range_1 (Aj I1 (by omega) (by omega) q1 q2 (by simpa using q))
theorem qJ {ta:TA} {p:Pos} (hg:Gl X "range") (hm:X.mg "range"=none) (ha:PA X [a,b] ta) (hs:starEach [a,b] X.env=[(false,eval a X.env),(false,eval b X.env)]:=by rfl) (hs2:starEach [b] X.env=[(false,eval b X.env)]:=by rfl) :
  PI X tg (.Call (.Name "range" p) [a,b] [] pos) (F4 ta):=by
 intro pins s σ H R I h
 refine Call_ (jW I hg hm boot_range (PyProof.Rows.callWith_type1 (cn (ha pos pins s σ H _ I h) λus s1 ⟨vs,H1,I1,r1,q1⟩=>?_) (by rw [hs,hs2]) (by rw [hs2];rfl)))
 obtain ⟨i,j,e,⟨q1,q2,q3,q4⟩,q⟩:=q1
 subst e
 cases r1 with
 | cons r rr =>
  cases rr with
  | cons r' rr =>
   cases rr
   obtain ⟨t,rfl⟩:=r
   obtain ⟨t',rfl⟩:=r'
   exact call_range_2 (Aj I1 q1 q2 q3 q4 q)
def Og (wi:TI) (g:TG) (tb:TS):TS:=λD σ H=>wi σ H λJ H1=>∃W:Nat→Nat→St→Hp→Prop,(∃m,W 0 m σ H1)∧∀i m σ H,W i m σ H →
 (J.stop i H∧D.nx σ H)∨(J.go i H∧∃N:St→Hp→Prop,(∀σ' H',N σ' H'→∃m',m' < m∧W (i + 1) m' σ' H')∧∀x H',J.yld i H x H'→g x σ H' λσ2 H2=>tb { D with nx:=N,ct:=N,bk:=D.nx } σ2 H2)
def yA (fp:List Addr) (h:Heap):List (Addr × Obj):=fp.filterMap λb=>(h.get? b).map λo=>(b,o)
variable {fp:List Addr}
theorem dg {b:Addr} (hb:b∈fp) (e:h.get? b=some o):(b,o)∈yA fp h:=Xt.mpr ⟨b,hb,by rw [e];rfl⟩
theorem EI {p:Addr × Obj} (hp:p∈yA fp h):p.1∈fp∧h.get? p.1=some p.2:=by
 obtain ⟨b,hb,e⟩:=Xt.mp hp
 cases q:h.get? b with
 | none=>rw [q] at e;cases e
 | some o =>
  rw [q] at e
  have e':(b,o)=p:=Option.some.inj e
  subst e'
  exact ⟨hb,q⟩
theorem Inv.pinned (I:Inv X pins σ H s) (hf:∀b∈fp,n0 X pins H b) (ho:∀b∈fp,∃o,s.heap.get? b=some o∧∀v,o.data≠.cell v):Inv X (pins ++ yA fp s.heap) σ H s :=
 I.Dg λp hp=>(VY.mp hp).elim (λz=>I.pin p (V1 _ z)) λz=>by
  obtain ⟨hb,e⟩:=EI z
  obtain ⟨f0,f1,f2,_⟩:=hf p.1 hb
  obtain ⟨o,e',d⟩:=ho p.1 hb
  rw [e] at e';cases e'
  exact ⟨e,f0,f1,f2,d⟩
theorem Inv.iC {pl:List (Addr × Obj)} (I:Inv X (pins ++ pl) σ H s):Inv X pins σ H s:=I.Dg λp hp=>I.pin p (V1 _ (Xe _ hp))
theorem BY {iter:Expr} {wi:TI} {g:TG} {tb:TS} (hp:PassesOwn (model X.prog X.w) X.A X.env X.xe) (hc:X.calm=true) (hi:PI X tg iter wi) (hg:PG X tg g) (hb:xI X body tb)
  (hs:∀x,foldedSetIterable iter X.env x=pure x:=by intro _;rfl):PS X (.For tg iter body [] pos) (Og wi g tb):=by
 intro pins s σ H D I h
 refine wpAny_For (cn (hi pins s σ H _ I h) λv s1 h1=>cn h1 λitv s2 h2=>?_) hs
 obtain ⟨it,fp,tn,J,H2,e,I2,T,st2,f2,W,⟨m0,w0⟩,turn⟩:=h2
 subst e
 have stat:∀{H':Hp},(∀b∈fp,H' b=none)→∀b∈fp,n0 X pins H' b:=λhn b hb=>⟨hn b hb,(f2 b hb).2⟩
 refine codeAny_forLoop_any (λn s'=>∃i σ' H',Inv X pins σ' H' s'∧tn i s'.heap∧(∀b∈fp,H' b=none)∧W i n σ' H') ?_ m0 ⟨0,σ,H2,I2,st2,λb hb=>(f2 b hb).1,w0⟩
 rintro n s3 ⟨i,σ3,H3,I3,st3,fr3,w3⟩
 rcases turn i n σ3 H3 w3 with ⟨stop,qn⟩ | ⟨go,N,hN,step⟩
 ·refine wpAny_passesOwn hp (cn (T.done X rfl rfl rfl hc i pins s3 σ3 H3 X.xe I3 (stat fr3) st3 stop) λr s4 ⟨hr,I4⟩=>?_)
  subst hr
  exact wpAny_execs_nil ⟨σ3,H3,I4,qn⟩
 ·refine wpAny_passesOwn hp (cn (T.item X rfl rfl rfl hc i pins s3 σ3 H3 X.xe I3 (stat fr3) st3 go) λr s4 ⟨u,hr,h4⟩=>?_)
  subst hr
  refine wpAny_passesOwn hp (cn h4 λ_ s5 ⟨x,H5,I5,r5,y5,st5,fr5⟩=>?_)
  have I5':=I5.pinned (stat fr5) (T.obj _ _ st5)
  refine wpAny_passesOwn hp (cn (hg _ s5 σ3 H5 x u _ I5' r5 (step x H5 y5)) λ_ s6 ⟨σ6,H6,I6,q6⟩=>?_)
  refine wpAny_passesOwn hp (cn (hb _ s6 σ6 H6 _ I6 q6) λf s7 q7=>?_)
  have again:∀{σ7:St} {H7:Hp},Inv X (pins ++ yA fp s5.heap) σ7 H7 s7→N σ7 H7→∃m,m < n∧∃i σ' H',Inv X pins σ' H' s7∧tn i s7.heap∧(∀b∈fp,H' b=none)∧W i m σ' H':=λ{σ7 H7} I7 n7=>by
   obtain ⟨m',hm,w7⟩:=hN σ7 H7 n7
   refine ⟨m',hm,i + 1,σ7,H7,I7.iC,T.keep _ _ _ st5 λb hb o e=>(I7.pin (b,o) (V1 _ (V1 _ (dg hb e)))).1,λb hb=>?_,w7⟩
   obtain ⟨o,e,d⟩:=T.obj _ _ st5 b hb
   exact (I7.pin (b,o) (V1 _ (V1 _ (dg hb e)))).2.1
  cases f with
  | next=>obtain ⟨σ7,H7,I7,n7⟩:=q7;exact again I7 n7
  | cont=>obtain ⟨σ7,H7,I7,n7⟩:=q7;exact again I7 n7
  | brk=>obtain ⟨σ7,H7,I7,q7⟩:=q7;exact ⟨σ7,H7,I7.iC,q7⟩
  | ret v=>obtain ⟨x7,σ7,H7,I7,r7,q7⟩:=q7;exact ⟨x7,σ7,H7,I7.iC,r7,q7⟩
abbrev R2:=V→V→Hp→VK→Prop
def eX (X:Cx) (f:Value→Value→Sem Value) (r:R2):Prop :=
 ∀(pins:List (Addr × Obj)) (s:Shared) (σ:St) (H:Hp) (x y:V) (v u:Value) (Q:VK),Inv X pins σ H s→RelV x v→RelV y u→r x y H Q →
  wpAny (model X.prog X.w) X.A (f v u) (EP X pins σ Q) X.xe s
def p9 (X:Cx) (f:Value→Sem Value) (r:V→Hp→VK→Prop):Prop :=
 ∀(pins:List (Addr × Obj)) (s:Shared) (σ:St) (H:Hp) (x:V) (v:Value) (Q:VK),Inv X pins σ H s→RelV x v→r x H Q →
  wpAny (model X.prog X.w) X.A (f v) (EP X pins σ Q) X.xe s
def bJ (X:Cx) (f:Value) (r:List V→Hp→VK→Prop):Prop :=
 ∀(pins:List (Addr × Obj)) (s:Shared) (σ:St) (H:Hp) (xs:List V) (us:List Value) (Q:VK),Inv X pins σ H s→Vals xs us→r xs H Q →
  wpAny (model X.prog X.w) X.A (call f us) (EP X pins σ Q) X.xe s
def SQ (X:Cx) (r:V→Hp→(Bool→Hp→Prop)→Prop):Prop :=
 ∀(pins:List (Addr × Obj)) (s:Shared) (σ:St) (H:Hp) (x:V) (v:Value) (Q:Bool→Hp→Prop),Inv X pins σ H s→RelV x v→r x H Q →
  wpAny (model X.prog X.w) X.A (truthy v) (TP X pins σ Q) X.xe s
def IJ (r:R2) (ta tb:TE):TE:=λσ H Q=>ta σ H λx H1=>tb σ H1 λy H2=>r x y H2 Q
def Um (r:V→Hp→VK→Prop) (ta:TE):TE:=λσ H Q=>ta σ H λx H1=>r x H1 Q
def rI (C:Int→Int→Prop) (g:Int→Int→V):R2:=λx y H Q=>∃i j,x=.int i∧y=.int j∧C i j∧Q (g i j) H
def Kz (g:Int→Int→V):R2:=λx y H Q=>∃i j,x=.int i∧y=.int j∧Q (g i j) H
def rU (g:Int→V):V→Hp→VK→Prop:=λx H Q=>∃i,x=.int i∧Q (g i) H
variable {f:Value→Value→Sem Value}
theorem MG (ha:PE X a ta) (hb:PE X b tb) (I:Inv X pins σ H s)
  (h:ta σ H λx H1=>tb σ H1 λy H2=>R x y H2)
  (hf:∀v u s2 x y H2,Inv X pins σ H2 s2→RelV x v→RelV y u→R x y H2→wpAny (model X.prog X.w) X.A (f v u) Q X.xe s2) :
  wpAny (model X.prog X.w) X.A (eval a X.env) (λv s₁=>wpAny (model X.prog X.w) X.A (eval b X.env) (λu s₂=>wpAny (model X.prog X.w) X.A (f v u) Q X.xe s₂) X.xe s₁) X.xe s:=by
 refine cn (ha pins s σ H _ I h) λv s1 ⟨x,H1,I1,r1,q1⟩=>?_
 refine cn (hb pins s1 σ H1 _ I1 q1) λu s2 ⟨y,H2,I2,r2,q2⟩=>?_
 exact hf v u s2 x y H2 I2 r1 r2 q2
variable {r:R2}
theorem G9 {op:Operator} (ho:eX X (binaryOp op) r) (ha:PE X a ta) (hb:PE X b tb):PE X (.BinOp a op b pos) (IJ r ta tb):=by
 intro pins s σ H Q I h
 exact wpAny_BinOp (MG ha hb I h λv u s2 x y H2 I2 rx ry q=>ho pins s2 σ H2 x y v u Q I2 rx ry q)
theorem Ha {op:UnaryOp} {r:V→Hp→VK→Prop} (ho:p9 X (unaryOp op) r) (ha:PE X a ta):PE X (.UnaryOp op a pos) (Um r ta):=by
 intro pins s σ H Q I h
 exact UnaryOp_ (cn (ha pins s σ H _ I h) λv s1 ⟨x,H1,I1,r1,q1⟩=>ho pins s1 σ H1 x v Q I1 r1 q1)
variable {g:Int→Int→Int}
theorem SA {C:Int→Int→Prop}
  (rule:∀(i j:Int) (t u:Tok) (s:Shared) (Q:Value→Shared→Prop) (E:Value→Shared→Prop),C i j→Q (.int (g i j) s.toks) { s with toks:=s.toks + 1 }→wpAny (model X.prog X.w) X.A (f (.int i t) (.int j u)) Q E s) :
  eX X f (rI C λi j=>.int (g i j)):=by
 intro pins s σ H x y v u Q I rx ry h
 obtain ⟨i,j,rfl,rfl,hc,q⟩:=h
 obtain ⟨t,rfl⟩:=rx
 obtain ⟨t',rfl⟩:=ry
 exact rule i j t t' s _ _ hc ⟨.int (g i j),H,I.tok _,⟨_,rfl⟩,q⟩
theorem Qx
  (rule:∀(i j:Int) (t u:Tok) (s:Shared) (Q:Value→Shared→Prop) (E:Value→Shared→Prop),Q (.int (g i j) s.toks) { s with toks:=s.toks + 1 }→wpAny (model X.prog X.w) X.A (f (.int i t) (.int j u)) Q E s) :
  eX X f (Kz λi j=>.int (g i j)):=by
 intro pins s σ H x y v u Q I rx ry h
 obtain ⟨i,j,rfl,rfl,q⟩:=h
 obtain ⟨t,rfl⟩:=rx
 obtain ⟨t',rfl⟩:=ry
 exact rule i j t t' s _ _ ⟨.int (g i j),H,I.tok _,⟨_,rfl⟩,q⟩
theorem JQ {g:Int→Int→Bool}
  (rule:∀(i j:Int) (t u:Tok) (s:Shared) (Q:Value→Shared→Prop) (E:Value→Shared→Prop),Q (.bool (g i j)) s→wpAny (model X.prog X.w) X.A (f (.int i t) (.int j u)) Q E s) :
  eX X f (Kz λi j=>.bl (g i j)):=by
 intro pins s σ H x y v u Q I rx ry h
 obtain ⟨i,j,rfl,rfl,q⟩:=h
 obtain ⟨t,rfl⟩:=rx
 obtain ⟨t',rfl⟩:=ry
 exact rule i j t t' s _ _ ⟨.bl (g i j),H,I,rfl,q⟩
def Mm (i j:Int):Prop:=0≤j∧j≤1000000∧i.natAbs < 2 ^ 64
theorem Ny:eX X (binaryOp .Add) (Kz λi j=>.int (i + j)):=Qx λ_ _ _ _ _ _ _ q=>add_int q
theorem NF:eX X (binaryOp .Sub) (Kz λi j=>.int (i - j)):=Qx λ_ _ _ _ _ _ _ q=>sub_int q
theorem NC:eX X (binaryOp .Mod) (rI (λ_ j=>0 < j) λi j=>.int (i % j)):=SA λi j _ _ _ _ _ hc q=>by
 have h1:(0:Int) < j:=hc
 exact mod_int' (by omega) (by rw [Int.fmod_eq_emod_of_nonneg i (by omega)];exact q)
theorem ND:eX X (binaryOp .Pow) (rI Mm λi j=>.int (i ^ j.toNat)):=SA λ_ _ _ _ _ _ _ hc q=>pow_int_small hc.1 hc.2.1 hc.2.2 q
theorem VG {f:Value→Sem Value} {g:Int→Int}
  (rule:∀(i:Int) (t:Tok) (s:Shared) (Q:Value→Shared→Prop) (E:Value→Shared→Prop),Q (.int (g i) s.toks) { s with toks:=s.toks + 1 }→wpAny (model X.prog X.w) X.A (f (.int i t)) Q E s) :
  p9 X f (rU λi=>.int (g i)):=by
 intro pins s σ H x v Q I rx h
 obtain ⟨i,rfl,q⟩:=h
 obtain ⟨t,rfl⟩:=rx
 exact rule i t s _ _ ⟨.int (g i),H,I.tok _,⟨_,rfl⟩,q⟩
theorem OE:p9 X (unaryOp .USub) (rU λi=>.int (-i)):=VG λ_ _ _ _ _ q=>neg_int q
theorem Bk {Q:VK} {k k':Bool} (I:Inv X pins σ H s) (q:Q (.bl k) H) (e:k=k'):EP X pins σ Q (.bool k') s:=by
 subst e
 exact ⟨.bl k,H,I,rfl,q⟩
theorem QD:eX X (compareOp .Lt) (Kz λi j=>.bl (decide (i < j))):=JQ λ_ _ _ _ _ _ _ q=>lt_int q
theorem QC:eX X (compareOp .LtE) (Kz λi j=>.bl (decide (i≤j))):=JQ λ_ _ _ _ _ _ _ q=>le_int q
theorem Qz:eX X (compareOp .Gt) (Kz λi j=>.bl (decide (j < i))):=JQ λ_ _ _ _ _ _ _ q=>gt_int q
theorem Qy:eX X (compareOp .GtE) (Kz λi j=>.bl (decide (j≤i))):=JQ λ_ _ _ _ _ _ _ q=>ge_int q
theorem EV:eX X (compareOp .Lt) (λx y H Q=>∃i j,x=.str i∧y=.str j∧Q (.bl (decide (i.cps.toList < j.cps.toList))) H):=by
 intro pins s σ H x y v u Q I rx ry h
 obtain ⟨i,j,rfl,rfl,q⟩:=h
 obtain ⟨t,rfl⟩:=rx
 obtain ⟨t',rfl⟩:=ry
 exact lt_str (Bk I q rfl)
theorem NB:eX X (compareOp .Is) (λx y H Q=>y=.non∧Q (.bl (decide (x=.non))) H):=by
 intro pins s σ H x y v u Q I rx ry h
 obtain ⟨rfl,q⟩:=h
 cases ry
 refine is_none_gen (Bk I q ?_)
 cases x <;> first
  | (cases rx;rfl)
  | (obtain ⟨t,rfl⟩:=rx;rfl)
theorem JV:eX X (compareOp .IsNot) (λx y H Q=>y=.non∧Q (.bl (!decide (x=.non))) H):=by
 intro pins s σ H x y v u Q I rx ry h
 obtain ⟨rfl,q⟩:=h
 cases ry
 refine isnot_none_gen (Bk I q ?_)
 cases x <;> first
  | (cases rx;rfl)
  | (obtain ⟨t,rfl⟩:=rx;rfl)
theorem eX.or {r':R2} (h:eX X f r) (h':eX X f r'):eX X f (λx y H Q=>r x y H Q∨r' x y H Q):=by
 intro pins s σ H x y v u Q I rx ry q
 rcases q with q | q
 ·exact h pins s σ H x y v u Q I rx ry q
 ·exact h' pins s σ H x y v u Q I rx ry q
variable {op:CmpOp}
theorem GA (b:Expr) (h:op≠.In:=by decide) (h2:op≠.NotIn:=by decide):behindInMarks op b=false:=by
 have e1:(op == CmpOp.In)=false:=by cases op <;> first | rfl | exact absurd rfl h
 have e2:(op == CmpOp.NotIn)=false:=by cases op <;> first | rfl | exact absurd rfl h2
 cases b <;> simp [behindInMarks,e1,e2]
theorem yv (ho:eX X (compareOp op) r) (ha:PE X a ta) (hb:PE X b tb) (hm:behindInMarks op b=false):PE X (.Compare a [op] [b] pos) (IJ r ta tb):=by
 intro pins s σ H Q I h
 exact wpAny_Compare1 (MG ha hb I h λv u s2 x y H2 I2 rx ry q=>ho pins s2 σ H2 x y v u Q I2 rx ry q) hm
def Ip (t:TE):TT:=λσ H Q=>t σ H λx H'=>∃k,x=.bl k∧Q k H'
theorem yI (ho:eX X (compareOp op) r) (ha:PE X a ta) (hb:PE X b tb) (hm:behindInMarks op b=false):PT X (.Compare a [op] [b] pos) (Ip (IJ r ta tb)):=by
 intro pins s σ H Q I h
 refine wpAny_isTrue_Compare1 (cn (ha pins s σ H _ I h) λv s1 ⟨x,H1,I1,r1,q1⟩=>cn (hb pins s1 σ H1 _ I1 q1) λu s2 ⟨y,H2,I2,r2,q2⟩ =>
  cn (ho pins s2 σ H2 x y v u _ I2 r1 r2 q2) λc s3 ⟨z,H3,I3,r3,k,e,q3⟩=>?_) hm
 subst e
 cases r3
 exact wpAny_truthy_bool ⟨H3,I3,q3⟩
def Ig (r r':R2) (ta tb tc:TE):TE:=λσ H Q=>ta σ H λx H1=>tb σ H1 λy H2=>r x y H2 λz H3=>∃k,z=.bl k ∧
 (if k=true then tc σ H3 λw' H4=>r' y w' H4 Q else Q (.bl false) H3)
variable {tc:TE}
theorem G4 {op':CmpOp} {r':R2} (ho:eX X (compareOp op) r) (ho':eX X (compareOp op') r') (ha:PE X a ta) (hb:PE X b tb) (hc:PE X c tc)
  (hm:lastMarks [op,op'] [b,c]=false:=by with_unfolding_all rfl):PE X (.Compare a [op,op'] [b,c] pos) (Ig r r' ta tb tc):=by
 intro pins s σ H Q I h
 refine Compare_chain (cn (ha pins s σ H _ I h) λv s1 ⟨x,H1,I1,r1,q1⟩=>chain_link (cn (hb pins s1 σ H1 _ I1 q1) λu s2 ⟨y,H2,I2,r2,q2⟩ =>
  cn (ho pins s2 σ H2 x y v u _ I2 r1 r2 q2) λd s3 ⟨z,H3,I3,r3,k,e,q3⟩=>?_)) hm
 subst e
 cases r3
 refine wpAny_truthy_bool ?_
 cases k with
 | false=>exact ite_ff ⟨.bl false,H3,I3,rfl,q3⟩
 | true=>exact ite_tt (chain_last (cn (hc pins s3 σ H3 _ I3 q3) λw' s4 ⟨z',H4,I4,r4,q4⟩=>ho' pins s4 σ H4 y z' u w' Q I4 r2 r4 q4))
def MA (K:VL) (x:V) (H:Hp) (k:Bool):Prop :=
 match x with
 | .non=>k=false
 | .bl b=>k=b
 | .int i=>k=(i != 0)
 | .str y=>y.length≤sizeLine∧k=((y.length:Int) != 0)
 | .byt y=>y.size≤sizeLine∧k=((y.size:Int) != 0)
 | .ref p=>(∃xs,dG K H p xs∧k=!xs.isEmpty)∨(∃xs,fo K H p xs∧k=!xs.isEmpty)∨∃kvs ep,H p=some (.dE kvs ep)∧k=!kvs.isEmpty
 | _=>False
theorem Br {κ:Type} {kvs:List (κ × V)} {vs:List (κ × Value)} (r:KV kvs vs):(!vs.isEmpty)=!kvs.isEmpty:=by
 cases r <;> rfl
theorem tW {its:List Value} (r:Vals xs its):(!its.toArray.isEmpty)=!xs.isEmpty:=by
 cases r <;> simp
theorem oo:(sizeLine:Nat) < 2 ^ 63:=by rw [sizeLine_eq];decide
theorem Oy:SQ X (λx H Q=>∃k,MA X.K x H k∧Q k H):=by
 intro pins s σ H x v Q I rx h
 obtain ⟨k,e,q⟩:=h
 have hl:=oo
 have hs:sizeLine=16777216:=sizeLine_eq
 cases x with
 | non =>
  cases rx
  have e':k=false:=e
  subst e'
  exact truthy_none ⟨H,I,q⟩
 | bl b =>
  cases rx
  have e':k=b:=e
  subst e'
  exact wpAny_truthy_bool ⟨H,I,q⟩
 | int i =>
  obtain ⟨t,rfl⟩:=rx
  have e':k=(i != 0):=e
  subst e'
  exact PySem.P.truthy_int ⟨H,I,q⟩
 | str y =>
  obtain ⟨t,rfl⟩:=rx
  obtain ⟨hy,e'⟩:y.length≤sizeLine∧k=((y.length:Int) != 0):=e
  subst e'
  exact PySem.P.truthy_str (by omega) ⟨H,I.tok _,q⟩
 | byt y =>
  obtain ⟨t,rfl⟩:=rx
  obtain ⟨hy,e'⟩:y.size≤sizeLine∧k=((y.size:Int) != 0):=e
  subst e'
  exact PySem.W.truthy_bytes (by omega) ⟨H,I.tok _,q⟩
 | ref p =>
  cases rx
  have e':(∃xs,dG X.K H p xs∧k=!xs.isEmpty)∨(∃xs,fo X.K H p xs∧k=!xs.isEmpty)∨∃kvs ep,H p=some (.dE kvs ep)∧k=!kvs.isEmpty:=e
  rcases e' with ⟨xs,hx,e'⟩ | ⟨xs,hx,e'⟩ | ⟨kvs,ep,hx,e'⟩
  ·subst e'
   obtain ⟨its,r,pl,hz⟩:=I.list hx
   have hlen:=r.length
   exact wpAny_truthy_list pl.isList (by simp only [VU];omega) ⟨H,I.tok _,by rw [tW r];exact q⟩
  ·subst e'
   obtain ⟨its,r,pl,hz⟩:=I.tuple hx
   have hlen:=r.length
   exact truthy_tuple pl (by simp only [VU];omega) ⟨H,I.tok _,by rw [tW r];exact q⟩
  ·subst e'
   obtain ⟨hz,hS,vs,r,m⟩:kvs.length≤sizeLine∧(p == sysModules)=false∧∃vs,KV kvs vs∧s.heap.DictAt (strKind X.prog X.w) p vs ep:=I.hok p _ hx
   have hlen:kvs.length=vs.length:=Paired.length r
   exact wpAny_truthy_dict hS m.dictOf (by omega) ⟨H,I.tok _,by rw [Br r];exact q⟩
 | _=>exact (show False from e).elim
theorem Hg (ha:PE X a ta) (he:∀whole,isTrue a X.env whole=(do let v ← whole;standAt a.pos;holding [v] (truthy v))) :
  PT X a (λσ H Q=>ta σ H λx H'=>∃k,MA X.K x H' k∧Q k H'):=by
 intro pins s σ H Q I h
 exact isTrue_plain (cn (ha pins s σ H _ I h) λv s1 ⟨x,H1,I1,r1,q1⟩=>Oy pins s1 σ H1 x v Q I1 r1 q1) (he _)
theorem vals1 {x:V} (r:Vals [x] us):∃u,us=[u]∧RelV x u:=by
 cases r with
 | cons r1 r2=>cases r2;exact ⟨_,rfl,r1⟩
theorem vals2 {x y:V} (r:Vals [x,y] us):∃u w',us=[u,w']∧RelV x u∧RelV y w':=by
 cases r with
 | cons r1 r2 =>
  cases r2 with
  | cons r3 r4=>cases r4;exact ⟨_,_,rfl,r1,r3⟩
theorem FE:bJ X (.builtin "abs") (λxs H Q=>∃i,xs=[.int i]∧Q (.int (if i < 0 then -i else i)) H):=by
 intro pins s σ H xs us Q I r h
 obtain ⟨i,rfl,q⟩:=h
 obtain ⟨u,rfl,t,rfl⟩:=vals1 r
 exact call_abs_int λu tk=>⟨.int (if i < 0 then -i else i),H,I.tok _,⟨_,rfl⟩,q⟩
structure A7 (h:Heap) (x dx C:Addr) (mA:Str→Option Value):Prop where
 obj:h.get? x=some (W9 C dx)
 ns:h.Ns1 dx mA
 ne:dx≠x
variable {dx:Addr} {mA:Str→Option Value}
theorem EB (n:h.Ns1 dx mA):∃od,h.get? dx=some od∧∀name,Yu name od=some (mA name):=by
 obtain ⟨o,es,ep,ho,hd,hk,_,hm⟩:=n
 refine ⟨o,ho,λname=>?_⟩
 have e:=hm name
 unfold nsFind findBy at e
 rw [← Array.find?_toList] at e
 unfold Yu
 rw [hd]
 dsimp only
 split
 ·rename_i y q
  rw [q] at e
  exact congrArg some e
 ·rename_i q
  rw [q] at e
  have a:es.toList.any (·.refKey)=false:=by
   rw [List.any_eq_false]
   intro y hy
   obtain ⟨z,t,hkey⟩:=hk y (Array.mem_toList_iff.mp hy)
   simp [DictEntry.refKey,hkey]
  have a':¬ es.toList.any (·.refKey)=true:=by rw [a];exact Wz
  rw [if_neg a']
  exact congrArg some e
variable {x C:Addr}
theorem A7.look (I:A7 h x dx C mA):∃od,PySem.W.InstAt h x (W9 C dx) C (some od)∧∀name,Yu name od=some (mA name) :=
 let ⟨od,ho,hl⟩:=EB I.ns
 ⟨od,⟨I.obj,rfl,rfl,ho⟩,hl⟩
variable {prog:Program} {name:Str} {aaX:Value}
theorem get_map {expr:Bool} (X:K.In s.heap) (I:A7 s.heap x dx C mA) (hg:XH K C name=true) (hh:XZ K C=true)
  (ha:WK K (.ref C) name=some none) (hv:mA name=some aaX) (hv':ZX aaX=true) (h:Q aaX { s with toks:=s.toks + 1 }) :
  wpAny (model prog w) A (getAttr (.ref x) name expr) Q E s:=by
 obtain ⟨od,J,hl⟩:=I.look
 exact PySem.W.get_value X J (X' hg).1 (PySem.W.findObj_own hh ha rfl (by rw [hl,hv])) hv' h
variable {f:Addr}
theorem FZ {pl:Sem Bool} {Q:Value × List Value→Shared→Prop} (X:K.In s.heap) (I:A7 s.heap x dx C mA) (hg:XH K C name=true)
  (hf:WK K (.ref C) name=some (some (.ref f))) (ht:Yo K (.ref f)=true) (hv:mA name=none) (h:Q (.ref f,[.ref x]) s) :
  wpAny (model prog w) A (getMethod (.ref x) name pl) Q E s:=by
 obtain ⟨od,J,hl⟩:=I.look
 exact PySem.W.method_fn X J (X' hg).1 (X' hg).2 hf (beq_iff_eq.mp ht) (by show (Yu name od).map (·.isSome)=some false;rw [hl,hv];rfl) h
theorem KU {ns:List Str} {Q:Unit→Shared→Prop} (X:K.In s.heap) (I:A7 s.heap x dx C mA)
  (hs:WK K (.ref C) "__setattr__"=some (some (.builtin "object.__setattr__"))) (hp:YC K C=true) (ht:YW K C name=some none) (hh:XZ K C=true)
  (hw:PySem.Within mA ns) (hsz:ns.length≤sizeLine)
  (h:∀h',A7 h' x dx C (λy=>if y=name then some aaX else mA y)→YV dx s.heap h'→Q () { s with heap:=h',toks:=s.toks + 2 }) :
  wpAny (model prog w) A (setAttr (.ref x) name aaX) Q E s:=by
 obtain ⟨od,J,hl⟩:=I.look
 refine PySem.W.set_plain X J hs (PySem.W.osa_open (s:={ s with toks:=s.toks + 1 }) (r:=none) X J hp ht λb=>?_)
 obtain ⟨cd,hc,hd'⟩:=PySem.W.any_some hh
 have hx:s.heap.get? x=some ⟨.ref C,some dx,.plain,#[]⟩:=I.obj
 refine wpAny_bind (wpAny_pure (wpAny_bind (wpAny_bind (wpAny_loadPart hx (wpAny_bind (PySem.W.Looks.here (s:={ s with toks:=s.toks + 1 }) (PySem.W.looks_clsIn X hc) ?_))))))
 rw [hd']
 refine wpAny_pure (a:=some dx) (wpAny_bind (wpAny_pure (wpAny_bind ?_)))
 refine wpAny_nsSet1 (s:={ s with toks:=s.toks + 1 }) I.ns λh' hn2 hs2=>?_
 obtain ⟨oD,esD,epD,hoD,hdD,hcD⟩:=hn2.count (PySem.Within.cons name aaX hw)
 refine wpAny_bind (wpAny_lookBehind hoD (by rw [hdD];exact pastItsLine_dict (V6 hcD (by rw [V_];omega))) ?_)
 exact wpAny_pure (h _ ⟨(hs2.2 _ (Ne.symm I.ne)).trans I.obj,hn2,I.ne⟩ hs2)
theorem Gu {R:Result→Shared→Prop} {vs:List Value} {kw:List (Str × Value)} (X:K.In s.heap) (hm:Ya K C=true)
  (hi:WK K (.ref C) "__init__"=some (some (.ref f))) (hf:PySem.W.typeIn K (.ref f)=some (.type "function"))
  (h:codeAny (model prog w) (A.under (.builtin "type.__call__" ⟨.ref C :: vs,kw⟩)) (.call (.ref f) ⟨.ref (s.heap.objs.size + 1) :: vs,kw⟩) (PySem.W.InitBack (s.heap.objs.size + 1) R)
   { s with heap:=(s.heap.push WT).push (W9 C s.heap.objs.size) }) :
  codeAny (model prog w) A (.call (.ref C) ⟨vs,kw⟩) R s:=by
 obtain ⟨hh,g,d,t,os⟩:=s
 exact PySem.W.make_core (PySem.W.makes_of X hm) (PySem.W.looks_findIn X hi) (λself=>PySem.W.bind_fn X self hf) (.inl rfl) h
def dF (f:Str) (v:V):List (Str × V)→List (Str × V)
 | []=>[(f,v)]
 | (g,x) :: r=>if g=f then (g,v) :: r else (g,x) :: dF f v r
theorem rK (f g:Str) (v:V):∀fs:List (Str × V),(dF f v fs).lookup g=if g=f then some v else fs.lookup g
 | []=>by
  show XJ g [(f,v)]=_
  by_cases h:g=f
  ·have hb:(g == f)=true:=beq_iff_eq.mpr h
   simp only [XJ,hb,if_pos h]
  ·have hb:(g == f)=false:=beq_eq_false_iff_ne.mpr h
   simp only [XJ,hb,if_neg h]
 | (k,x) :: r=>by
  have ih:=rK f g v r
  rw [show dF f v ((k,x) :: r)=(if k=f then (k,v) :: r else (k,x) :: dF f v r) from rfl]
  by_cases hk:k=f
  ·rw [if_pos hk]
   by_cases h:g=k
   ·have hb:(g == k)=true:=beq_iff_eq.mpr h
    simp only [XJ,hb,if_pos (h.trans hk)]
   ·have hb:(g == k)=false:=beq_eq_false_iff_ne.mpr h
    simp only [XJ,hb,if_neg (λe:g=f=>h (e.trans hk.symm))]
  ·rw [if_neg hk]
   by_cases h:g=k
   ·have hb:(g == k)=true:=beq_iff_eq.mpr h
    simp only [XJ,hb,if_neg (λe:g=f=>hk (h.symm.trans e))]
   ·have hb:(g == k)=false:=beq_eq_false_iff_ne.mpr h
    simp only [XJ,hb]
    exact ih
theorem qx (f:Str) (v:V):∀fs:List (Str × V),f∈(dF f v fs).map (·.1)∧∀g,g∈fs.map (·.1)→g∈(dF f v fs).map (·.1)
 | []=>⟨by simp [dF],λg h=>by simp at h⟩
 | (k,x) :: r=>by
  obtain ⟨i1,i2⟩:=qx f v r
  rw [show dF f v ((k,x) :: r)=(if k=f then (k,v) :: r else (k,x) :: dF f v r) from rfl]
  by_cases hk:k=f
  ·rw [if_pos hk]
   subst hk
   exact ⟨by simp,λg h=>by simpa using h⟩
  ·rw [if_neg hk]
   refine ⟨?_,λg h=>?_⟩
   ·rw [VR]
    exact V5 _ i1
   ·rw [VR] at h ⊢
    rcases V2.mp h with e | e
    ·exact V2.mpr (.inl e)
    ·exact V5 _ (i2 g e)
theorem rJ (f:Str) (v:V):∀fs:List (Str × V),(dF f v fs).length≤fs.length + 1
 | []=>by simp [dF]
 | (k,x) :: r=>by
  have ih:=rJ f v r
  rw [show dF f v ((k,x) :: r)=(if k=f then (k,v) :: r else (k,x) :: dF f v r) from rfl]
  by_cases hk:k=f
  ·rw [if_pos hk,V_,V_];omega
  ·rw [if_neg hk,V_,V_];omega
variable {o:Option Value}
theorem vC.some_of {v:V} (r:vC (some v) o):∃u,o=some u∧RelV v u:=by
 cases o with
 | none=>exact (show False from r).elim
 | some u=>exact ⟨u,rfl,r⟩
theorem vC.none_of (r:vC none o):o=none:=by
 cases o with
 | none=>rfl
 | some u=>exact (show False from r).elim
theorem Ej {v:V} {u:Value} (r:RelV v u):ZX u=true:=by
 cases v with
 | non=>cases (show u=Value.none from r);rfl
 | bl b=>cases (show u=Value.bool b from r);rfl
 | int i=>obtain ⟨t,e⟩:=(show ∃t,u=Value.int i t from r);cases e;rfl
 | str x=>obtain ⟨t,e⟩:=(show ∃t,u=Value.str x t from r);cases e;rfl
 | byt b=>obtain ⟨t,e⟩:=(show ∃t,u=Value.bytes b t from r);cases e;rfl
 | flt b=>obtain ⟨t,e⟩:=(show ∃t,u=Value.float b t from r);cases e;rfl
 | ref a=>cases (show u=Value.ref a from r);rfl
 | ty n=>cases (show u=Value.type n from r);rfl
variable {a:Addr} {aaY:List (Str × L2.V)}
theorem xX (hok:oK P w H h) (e:H a=some (.ins C dx aaY)):∃mA,A7 h a dx C mA∧(∀f,vC (aaY.lookup f) (mA f))∧PySem.Within mA (aaY.map (·.1))∧aaY.length≤1000∧H dx=some (.own a):=by
 obtain ⟨d,z,ne,ob,mA,n,r,q⟩:=(show fq P w H h a (.ins C dx aaY) from hok a _ e)
 exact ⟨mA,⟨ob,n,ne⟩,r,q,z,d⟩
end
section
structure kR (K:VL) (C:Addr):Prop where
 pg:XH K C Str.empty=true
 hd:XZ K C=true
 po:YC K C=true
 sa:WK K (.ref C) "__setattr__"=some (some (.builtin "object.__setattr__"))
variable {K:VL} {C:Addr}
theorem kR.get (c:kR K C) (f:Str):XH K C f=true:=c.pg
def ay (K:VL) (C:Addr) (f:Str):Prop:=WK K (.ref C) f=some none
variable {f:Str}
theorem ay.R0 (n:ay K C f):YW K C f=some none:=by
 unfold YW
 rw [show WK K (.ref C) f=some none from n]
 rfl
structure Meth (K:VL) (C:Addr) (m:Str) (f:Addr):Prop where
 at_:WK K (.ref C) m=some (some (.ref f))
 fn:Yo K (.ref f)=true
 kp:WL K (.ref f)=true
variable {H:Hp} {a dx:Addr} {X:Cx} {pins:List (Addr × Obj)} {σ:St} {s:Shared} {A:Around} {E Q:Value→Shared→Prop} {aaZ:List (Str × L2.V)} {aa0:L2.V}
theorem Bn {b:Bool} (I:Inv X pins σ H s) (e:H a=some (.ins C dx aaZ)) (c:kR X.K C) (n:ay X.K C f) (l:aaZ.lookup f=some aa0)
  (h:∀u s',Inv X pins σ H s'→RelV aa0 u→Q u s'):wpAny (model X.prog X.w) A (getAttr (.ref a) f b) Q E s:=by
 obtain ⟨mA,O,r,_,_,_⟩:=xX I.hok e
 obtain ⟨u,hu,ru⟩:=vC.some_of (v:=aa0) (o:=mA f) (by rw [← l];exact r f)
 exact get_map I.wQ O (c.get f) c.hd n hu (Ej ru) (h u _ (I.tok _) ru)
variable {pl:Sem Bool} {m:Str}
theorem tQ {g:Addr} {Q:Value × List Value→Shared→Prop} (I:Inv X pins σ H s) (e:H a=some (.ins C dx aaZ)) (c:kR X.K C) (k:Meth X.K C m g) (l:aaZ.lookup m=none)
  (h:Q (.ref g,[.ref a]) s):wpAny (model X.prog X.w) A (getMethod (.ref a) m pl) Q E s:=by
 obtain ⟨mA,O,r,_,_,_⟩:=xX I.hok e
 have hn:mA m=none:=vC.none_of (by rw [← l];exact r m)
 exact FZ I.wQ O (c.get m) k.at_ k.fn hn h
variable {u:Value}
theorem Cd {y:V} {Q:Unit→Shared→Prop} (I:Inv X pins σ H s) (e:H a=some (.ins C dx aaZ)) (c:kR X.K C) (n:ay X.K C f) (hl:aaZ.length < 1000) (ry:RelV y u)
  (h:∀s',Inv X pins σ (upd H a (.ins C dx (dF f y aaZ))) s'→Q () s'):wpAny (model X.prog X.w) A (setAttr (.ref a) f u) Q E s:=by
 obtain ⟨mA,O,r,wi,_,ho⟩:=xX I.hok e
 have hz:(aaZ.map (·.1)).length≤sizeLine:=by rw [VM,sizeLine_eq];omega
 refine KU I.wQ O c.sa c.po n.R0 c.hd wi hz λh' O' sb=>h _ ?_
 have hd:∃o,h'.get? dx=some o:=let ⟨o,_,_,e',_⟩:=O'.ns;⟨o,e'⟩
 refine I.write (x:=a) (e:=dx) (by rw [e];exact True.intro) (.inr ho) (λb q hb z=>(sb.2 b hb).trans z) hd ?_
 refine ⟨by rw [aI O.ne];exact ho,?_,O.ne,O'.obj,_,O'.ns,λg=>?_,λg hg=>?_⟩
 ·have:=rJ f y aaZ;omega
 ·show vC ((dF f y aaZ).lookup g) (if g=f then some u else mA g)
  rw [rK]
  by_cases q:g=f
  ·rw [if_pos q,if_pos q];exact ry
  ·rw [if_neg q,if_neg q];exact r g
 ·by_cases q:g=f
  ·rw [q];exact (qx f y aaZ).1
  ·refine (qx f y aaZ).2 g (wi g λz=>hg ?_)
   show (if g=f then some u else mA g)=none
   rw [if_neg q];exact z
theorem Inv.made (I:Inv X pins σ H s):Inv X pins σ (upd (upd H s.heap.objs.size (.own (s.heap.objs.size + 1))) (s.heap.objs.size + 1) (.ins C s.heap.objs.size []))
  { s with heap:=(s.heap.push WT).push (W9 C s.heap.objs.size) }:=by
 have e1:(s.heap.push WT).get? s.heap.objs.size=some WT:=Wd s.heap rfl
 have e2:((s.heap.push WT).push (W9 C s.heap.objs.size)).get? (s.heap.objs.size + 1)=some (W9 C s.heap.objs.size):=by
  have:=Wd (s.heap.push WT) (o:=W9 C s.heap.objs.size) rfl
  rwa [Yv] at this
 have e3:(s.heap.push WT).Ns s.heap.objs.size (λ_=>none):=⟨WT,#[],_,e1,rfl,(λe he=>absurd he (by simp)),λ_=>rfl⟩
 have I1:=I.laid (a:=s.heap.objs.size) (o:=.own (s.heap.objs.size + 1)) (h':=s.heap.push WT) (t':=s.toks) (λb u q=>VW _ q) (VT _) ⟨_,e1⟩
 refine I1.laid (a:=s.heap.objs.size + 1) (o:=.ins C s.heap.objs.size []) (t':=s.toks) (λb u q=>VW _ q) (ZS (Yv _ _)) ?_
 have ne:s.heap.objs.size≠s.heap.objs.size + 1:=Wf (Xo _)
 refine ⟨by rw [aI ne,aL],Ww _,ne,e2,λ_=>none,(Heap.Ns1.of_empty e3).at λo q=>VW _ q,λ_=>True.intro,λy hy=>absurd rfl hy⟩
variable {w:World} {e:Expr} {pos:Pos} {prog:Program} {env:Env}
theorem Ji (hb:attributeBase e f env (eval e env)=eval e env)
  (h:wpAny (model prog w) A (eval e env) (λo s₁=>wpAny (model prog w) A (getAttr o f true) Q E s₁) E s):wpAny (model prog w) A (eval (.Attribute e f pos) env) Q E s :=
 Attribute_any_ h (by rw [arm_eval_Attribute,hb])
def Uh (K:VL) (ta:TE) (f:Str):TE:=λσ H Q=>ta σ H λx H1=>∃a C dx fs v,x=.ref a∧H1 a=some (.ins C dx fs)∧kR K C∧ay K C f∧fs.lookup f=some v∧Q v H1
def Ua (K:VL) (ta tv:TE) (f:Str):TS:=λD σ H=>tv σ H λy H1=>ta σ H1 λx H2=>∃a C dx fs,x=.ref a∧H2 a=some (.ins C dx fs)∧kR K C∧ay K C f∧fs.length < 1000 ∧
 D.nx σ (upd H2 a (.ins C dx (dF f y fs)))
variable {ta:TE}
theorem NI (he:PE X e ta) (hb:attributeBase e f X.env (eval e X.env)=eval e X.env):PE X (.Attribute e f pos) (Uh X.K ta f):=by
 intro pins s σ H Q I h
 refine Ji hb (cn (he pins s σ H _ I h) λu s1 ⟨x,H1,I1,rx,a,C,dx,fs,v,ex,ea,c,n,l,q⟩=>?_)
 subst ex
 obtain rfl:u=Value.ref a:=rx
 exact Bn I1 ea c n l λu' s2 I2 ru=>⟨v,H1,I2,ru,q⟩
variable {o value:Expr} {pos':Pos} {tv:TE}
theorem NN (ha:PE X o ta) (hv:PE X value tv) (hs:swapsWith value (some (.Attribute o f pos')) pos.line X.env=pure false):PS X (.Assign [.Attribute o f pos'] value pos) (Ua X.K ta tv f):=by
 intro pins s σ H D I h
 refine plainObj_wpAny_Assign_Attribute (cn (hv pins s σ H _ I h) λu s1 ⟨y,H1,I1,ry,q⟩=>cn (ha pins s1 σ H1 _ I1 q) λov s2 ⟨x,H2,I2,rx,a,C,dx,fs,ex,ea,c,n,l,q2⟩=>?_) hs
 subst ex
 obtain rfl:ov=Value.ref a:=rx
 exact Cd I2 ea c n l ry λs3 I3=>⟨σ,_,I3,q2⟩
inductive eO (K:VL) (H:Hp):V→Value→Prop where
 | non:eO K H .non (.type "NoneType")
 | bl (x:Bool):eO K H (.bl x) (.type "bool")
 | int (i:Int):eO K H (.int i) (.type "int")
 | str (x:Str):eO K H (.str x) (.type "str")
 | flt (x:UInt64):eO K H (.flt x) (.type "float")
 | lst {a:Addr} {xs:List V} (e:H a=some (.lst xs)):eO K H (.ref a) (.type "list")
 | rH {a:Addr} {o:Obj} {xs:List V} (e:H a=some (.rH o (.lst xs))):eO K H (.ref a) (.type "list")
 | tup {a:Addr} {xs:List V} (e:H a=some (.tup xs)):eO K H (.ref a) (.type "tuple")
 | dK {a:Addr} {kvs:List (Key × V)} (e:H a=some (.dK kvs)):eO K H (.ref a) (.type "dict")
 | dE {a:Addr} {kvs:List (Str × V)} {ep:Nat} (e:H a=some (.dE kvs ep)):eO K H (.ref a) (.type "dict")
 | ins {a C dx:Addr} {fs:List (Str × V)} (e:H a=some (.ins C dx fs)) (cl:kR K C) (ha:WK K (.ref C) "__class__"=some (some (.builtin "object.__class__")))
   (hn:PySem.W.specialIn K (.builtin "object.__class__") "__get__"=some (some (.builtin "getset_descriptor.__get__"))) (htk:PySem.W.takesIn K (.builtin "object.__class__")=some true)
   (hm:PySem.W.mroIn K C (.type "object")=some true):eO K H (.ref a) (.ref C)
structure bF (k:Nat) (A:Around):Prop where
 hd:A.handled=none
 dp:A.depth + 3 * k + 5 < recursionLimit
 un:A.units + 16 * k + 200 < cLine
variable {k:Nat}
theorem bF.mono {j:Nat} (r:bF k A) (h:j≤k):bF j A:=⟨r.hd,by have:=r.dp;omega,by have:=r.un;omega⟩
theorem bF.deeper (r:bF (k + 1) A) (env:Env):bF k (A.deeper env) :=
 ⟨r.hd,by have:=r.dp;show A.depth + 1 + 3 * k + 5 < _;omega,by have:=r.un;show A.units + 3 + 16 * k + 200 < _;omega⟩
variable {us:List Value} {kw:List (Str × Value)}
theorem Bw:(A.under (.builtin "type.__call__" ⟨.ref C :: us,kw⟩)).depth=A.depth + 1:=by
 first | rfl | simp [Around.under,Code.weight,Code.isCreation,Code.isGuard,Code.isCaller,Code.frames,Code.isFrame,guardIds]
theorem Bx:(A.under (.builtin "type.__call__" ⟨.ref C :: us,kw⟩)).units=A.units + 1:=by
 first | rfl | simp [Around.under,Code.cUnits,Code.frames,Code.isFrame]
theorem bF.make (r:bF (k + 1) A) (C:Addr) (us:List Value) (kw:List (Str × Value)):bF k (A.under (.builtin "type.__call__" ⟨.ref C :: us,kw⟩)) :=
 ⟨r.hd,by have:=r.dp;rw [Bw];omega,by have:=r.un;rw [Bx];omega⟩
theorem bF.depth (r:bF k A):A.depth < recursionLimit:=by have:=r.dp;omega
theorem bF.OF (r:bF k A):A.units < cLine:=by have:=r.un;omega
def zf:TA:=λ_ H Q=>Q [] H
def gu (ta:TE) (tr:TA):TA:=λσ H Q=>ta σ H λx H1=>tr σ H1 λxs H2=>Q (x :: xs) H2
theorem e_:PA X [] zf:=λ_ _ _ _ H Q I h=>Calls.spliced_nil ⟨[],H,I,.nil,h⟩
variable {t:TA} {te:TE} {es:List Expr}
theorem aZ (ha:PE X e te) (hr:PA X es t) (hs:starEach (e :: es) X.env=(false,eval e X.env) :: starEach es X.env:=by rfl):PA X (e :: es) (gu te t):=by
 intro pos pins s σ H Q I h
 rw [hs]
 show wpAny _ _ (spliced ((false,eval e X.env) :: backTo pos (starEach es X.env))) _ _ s
 refine Calls.spliced_cons (cn (ha pins s σ H _ I h) λu s1 ⟨x,H1,I1,r1,q1⟩=>?_)
 exact cn (hr pos pins s1 σ H1 _ I1 q1) λus s2 ⟨xs,H2,I2,r2,q2⟩=>⟨x :: xs,H2,I2,.cons r1 r2,q2⟩
def Ow (t:TA):TE:=λσ H Q=>t σ H λxs H1=>xs.length≤sizeLine∧∀p,H1 p=none→Q (.ref p) (upd H1 p (.tup xs))
def Ii (t:TA):TE:=λσ H Q=>t σ H λxs H1=>xs.length≤sizeLine∧∀p,H1 p=none→Q (.ref p) (upd H1 p (.lst xs))
theorem BP {x1} (h:PA X es t):PE X (.Tuple es x1 pos) (Ow t):=by
 intro pins s σ H Q I hq
 refine wpAny_Tuple_spliced (cn (h pos pins s σ H _ I hq) λus s1 ⟨xs,H1,I1,r,z,q⟩=>⟨by rw [← r.length];exact z,?_⟩)
 have hf:H1 s1.heap.objs.size=none:=I1.hok.fresh (VT _)
 refine ⟨.ref s1.heap.objs.size,upd H1 s1.heap.objs.size (.tup xs),I1.laid (t':=s1.toks) (λb u e=>VW _ e) (VT _) ?_,rfl,q _ hf⟩
 exact ⟨z,us,r,⟨_,Wd _ rfl,rfl,_,rfl⟩⟩
theorem ui (h:PA X es t):PE X (.List es pos) (Ii t):=by
 intro pins s σ H Q I hq
 refine wpAny_List_spliced (cn (h pos pins s σ H _ I hq) λus s1 ⟨xs,H1,I1,r,z,q⟩=>⟨by rw [← r.length];exact z,?_⟩)
 have hf:H1 s1.heap.objs.size=none:=I1.hok.fresh (VT _)
 refine ⟨.ref s1.heap.objs.size,upd H1 s1.heap.objs.size (.lst xs),I1.laid (t':=s1.toks) (λb u e=>VW _ e) (VT _) ?_,rfl,q _ hf⟩
 exact ⟨z,us,0,r,Wd _ rfl⟩
abbrev Sp:=List V→Hp→VK→XK→Prop
abbrev nh:=List Env→Hp→Shared→XK→Value→Shared→Prop
structure AZ (P:Program) (w:World) (K:VL) (mg:Str→Option Value) (base:Heap) (A:Around) (outer:List Env) (s:Shared) (H:Hp):Prop where
 frames:A.frames=some outer
 mod:Mod K mg base
 bs:∀b o,base.get? b=some o→s.heap.get? b=some o∧H b=none
 bsz:base.objs.size≤s.heap.objs.size
 oj:s.heap.FunFrames base outer
 frf:∀b∈kT outer,H b=none
 hok:oK P w H s.heap
 bare:AllBare s.gens
def CE (outer:List Env) (P:Program) (w:World) (H:Hp) (s:Shared) (Q:VK) (u:Value) (s':Shared):Prop :=
 ∃v H',s'.os=s.os∧AllBare s'.gens∧Un (kT outer) [] H H' s.heap s'.heap∧oK P w H' s'.heap∧RelV v u∧Q v H'
def CR (CX:nh) (outer:List Env) (P:Program) (w:World) (H:Hp) (s:Shared) (Q:VK) (E:XK) (r:Result) (s':Shared):Prop :=
 match r with
 | .ok (.ret u)=>CE outer P w H s Q u s'
 | .ok _=>False
 | .error e=>CX outer H s E e s'
structure aK (P:Program) (w:World) (K:VL) (mg:Str→Option Value) (base:Heap) (CX:nh) (k:Nat) (f:Addr) (fd:FuncData) (ps:List Str) (sp:Sp):Prop where
 len:∀vs H Q E,sp vs H Q E→vs.length=ps.length
 run:∀(A:Around) (outer:List Env) (s:Shared) (H:Hp) (args:Args) (us:List Value) (vs:List V) (Q:VK) (E:XK),bF k A→AZ P w K mg base A outer s H→BindsTo s fd args (ps.zip us)→Vals vs us→sp vs H Q E →
  codeAny (model P w) A (.call (.ref f) args) (CR CX outer P w H s Q E) s
variable {P:Program} {f:Addr} {mg:Str→Option Value} {base:Heap} {CX:nh} {fd:FuncData} {ps:List Str} {sp:Sp}
theorem aK.imp {sp':Sp} (F:aK P w K mg base CX k f fd ps sp)
  (h:∀vs H Q E,sp' vs H Q E→sp vs H Q E):aK P w K mg base CX k f fd ps sp' :=
 ⟨λvs H Q E q=>F.len vs H Q E (h _ _ _ _ q),λA outer s H args us vs Q E hr he hb hv hs=>F.run A outer s H args us vs Q E hr he hb hv (h _ _ _ _ hs)⟩
variable {outer:List Env}
theorem AZ.make (e:AZ P w K mg base A outer s H) (C:Addr) (us:List Value) (kw:List (Str × Value)) :
  AZ P w K mg base (A.under (.builtin "type.__call__" ⟨.ref C :: us,kw⟩)) outer s H:=⟨by first | exact e.frames | (simpa [Around.under,Code.envs,Code.isFrame,pushEnvs] using e.frames),e.mod,e.bs,e.bsz,e.oj,e.frf,e.hok,e.bare⟩
theorem Inv.Po (I:Inv X pins σ H s):AZ X.prog X.w X.K X.mg X.base X.A X.stack s H :=
 ⟨I.ok.frames,I.ok.mod,I.bs,V6 I.ok.bsz I.sz,I.stack,I.ze,I.hok,I.bare⟩
variable {Q:VK} {s':Shared}
theorem Inv.after (I:Inv X pins σ H s) (h:CE X.stack X.prog X.w H s Q u s'):EP X pins σ Q u s':=by
 obtain ⟨v,H',os,bare,un,hok,r,q⟩:=h
 obtain ⟨hh,g,d,t,os'⟩:=s'
 obtain rfl:os'=s.os:=os
 exact ⟨v,H',I.call (h':=hh) (g':=g) (d':=d) (t':=t) (ch:=[]) un hok bare (λb z=>absurd z (by simp)),r,q⟩
def AG (sp:Sp) (dvs:List V) (E:XK) (t:TA):TE:=λσ H Q=>t σ H λvs H1=>sp (vs ++ dvs) H1 Q E
def Ik (C:Addr) (m:Str) (sp:Sp) (dvs:List V) (E:XK) (ta:TE) (t:TA):TE:=λσ H Q=>ta σ H λx H1=>∃a dx fs,x=.ref a∧H1 a=some (.ins C dx fs)∧fs.lookup m=none ∧
 t σ H1 λvs H2=>sp (x :: (vs ++ dvs)) H2 Q E
def Ij (C:Addr) (sp:Sp) (dvs:List V) (E:XK) (t:TA):TE:=λσ H Q=>t σ H λvs H1=>∀x dx,H1 x=none→H1 dx=none→dx≠x →
 sp (.ref x :: (vs ++ dvs)) (upd (upd H1 dx (.own x)) x (.ins C dx [])) (λv H2=>v=.non∧Q (.ref x) H2) E
def Binds (K:VL) (fd:FuncData) (ps:List Str) (ds:List Value):Prop :=
 ∀(s:Shared) (us:List Value),K.In s.heap→(us ++ ds).length=ps.length→BindsTo s fd ⟨us,[]⟩ (ps.zip (us ++ ds))
theorem Binds.all (h:∀us:List Value,us.length=ps.length→bindArgs fd ⟨us,[]⟩=pure (ps.zip us)):Binds K fd ps []:=λs us _ hl=>by
 rw [WX] at hl ⊢
 exact .of_eq (h us hl)
def Passes (CX:nh) (X:Cx) (E:XK):Prop:=∀(pins:List (Addr × Obj)) (σ:St) (H:Hp) (s:Shared) (e:Value) (s':Shared),Inv X pins σ H s→CX X.stack H s E e s'→X.xe e s'
variable {E:XK} {vs dvs:List L2.V} {ds:List Value}
theorem yR (F:aK X.prog X.w X.K X.mg X.base CX k f fd ps sp) (hr:bF k X.A) (hb:Binds X.K fd ps ds) (hd:Vals dvs ds) (hx:Passes CX X E)
  (I:Inv X pins σ H s) (r:Vals vs us) (h:sp (vs ++ dvs) H Q E):wpAny (model X.prog X.w) X.A (call (.ref f) us) (EP X pins σ Q) X.xe s:=by
 have r2:Vals (vs ++ dvs) (us ++ ds):=r.append hd
 have hl:(us ++ ds).length=ps.length:=by rw [← r2.length];exact F.len _ _ _ _ h
 refine wpAny_call (codeAny_mono (F.run X.A X.stack s H ⟨us,[]⟩ (us ++ ds) (vs ++ dvs) Q E hr I.Po (hb s us I.wQ hl) r2 h) λr s' hq=>?_)
 cases r with
 | error e=>exact hx pins σ H s e s' I hq
 | ok fl =>
  cases fl with
  | ret u=>exact I.after hq
  | next=>exact False.elim hq
  | brk=>exact False.elim hq
  | cont=>exact False.elim hq
variable {x:Str} {p:Pos}
theorem Kc (F:aK X.prog X.w X.K X.mg X.base CX k f fd ps sp) (hr:bF k X.A) (hg:Gl X x) (hm:X.mg x=some (.ref f)) (hk:WL X.K (.ref f)=true) (hb:Binds X.K fd ps ds) (hd:Vals dvs ds) (hx:Passes CX X E)
  (ha:PA X (e :: es) t) (hdb:(x == ("__debug__":Str))=false:=by decide) (he:starEach (e :: es) X.env=(false,eval e X.env) :: starEach es X.env:=by rfl) (hpl:(backTo pos (starEach es X.env)).any (·.1)=false:=by rfl) :
  PE X (.Call (.Name x p) (e :: es) [] pos) (AG sp dvs E t):=by
 intro pins s σ H Q I h
 refine wpAny_Call_Name_kw (jX I hg hm ?_ hdb)
 refine Yp (h₀:=X.base) I.ok.mod.kin hk (cn (ha pos pins s σ H _ I h) λus s1 ⟨vs,H1,I1,r,q⟩=>⟨I1.wQ,?_⟩) he hpl
 exact yR F hr hb hd hx I1 r q
theorem G3 (F:aK X.prog X.w X.K X.mg X.base CX k f fd ps sp) (hr:bF k X.A) (hg:Gl X x) (hm:X.mg x=some (.ref f)) (hk:WL X.K (.ref f)=true) (hb:Binds X.K fd ps ds) (hd:Vals dvs ds) (hx:Passes CX X E)
  (hdb:(x == ("__debug__":Str))=false:=by decide):PE X (.Call (.Name x p) [] [] pos) (AG sp dvs E zf):=by
 intro pins s σ H Q I h
 refine wpAny_Call_Name_kw (jX I hg hm ?_ hdb)
 exact Yb I.wQ hk (yR (us:=[]) F hr hb hd hx I .nil h)
variable {apos:Pos}
theorem Kf (he:PE X o ta) (c:kR X.K C) (hm:Meth X.K C m f) (F:aK X.prog X.w X.K X.mg X.base CX k f fd ps sp) (hr:bF k X.A) (hb:Binds X.K fd ps ds) (hd:Vals dvs ds) (hx:Passes CX X E) (ha:PA X (e :: es) t)
  (hst:starEach (e :: es) X.env=(false,eval e X.env) :: starEach es X.env:=by rfl) (hpl:(backTo pos (starEach es X.env)).any (·.1)=false:=by rfl)
  (ht:eval (.Call (.Attribute o m apos) (e :: es) [] pos) X.env=(do
   let ov ← eval o X.env
   standAt apos.atName
   let (f,first) ← holding [ov] (getMethod ov m pl)
   callWith pos f first (backTo pos (starEach (e :: es) X.env)) (backToKw pos (keywordEach [] X.env))):=by rfl) :
  PE X (.Call (.Attribute o m apos) (e :: es) [] pos) (Ik C m sp dvs E ta t):=by
 intro pins s σ H Q I h
 refine YX (pl:=pl) (cn (he pins s σ H _ I h) λu s1 ⟨x,H1,I1,rx,a,dx,fs,ex,ea,l,q⟩=>?_) ht
 subst ex
 obtain rfl:u=Value.ref a:=rx
 refine tQ I1 ea c hm l ?_
 refine Yp (first:=[.ref a]) (h₀:=X.base) I.ok.mod.kin hm.kp (cn (ha pos pins s1 σ H1 _ I1 q) λus s2 ⟨vs,H2,I2,r,q2⟩=>⟨I2.wQ,?_⟩) hst hpl
 exact yR (us:=.ref a :: us) (vs:=.ref a :: vs) F hr hb hd hx I2 (.cons rfl r) q2
theorem G8 (he:PE X o ta) (c:kR X.K C) (hm:Meth X.K C m f) (F:aK X.prog X.w X.K X.mg X.base CX k f fd ps sp) (hr:bF k X.A) (hb:Binds X.K fd ps ds) (hd:Vals dvs ds) (hx:Passes CX X E)
  (ht:eval (.Call (.Attribute o m apos) [] [] pos) X.env=(do
   let ov ← eval o X.env
   standAt apos.atName
   let (f,first) ← holding [ov] (getMethod ov m pl)
   callWith pos f first (backTo pos (starEach [] X.env)) (backToKw pos (keywordEach [] X.env))):=by rfl) :
  PE X (.Call (.Attribute o m apos) [] [] pos) (Ik C m sp dvs E ta zf):=by
 intro pins s σ H Q I h
 refine YX (pl:=pl) (cn (he pins s σ H _ I h) λu s1 ⟨x,H1,I1,rx,a,dx,fs,ex,ea,l,q⟩=>?_) ht
 subst ex
 obtain rfl:u=Value.ref a:=rx
 refine tQ I1 ea c hm l ?_
 exact Yb (first:=[.ref a]) I1.wQ hm.kp (yR (us:=[.ref a]) (vs:=[.ref a]) F hr hb hd hx I1 (.cons rfl .nil) q)
structure Mk (K:VL) (C f:Addr):Prop where
 makes:Ya K C=true
 init:WK K (.ref C) "__init__"=some (some (.ref f))
 fn:Yo K (.ref f)=true
 kp:WL K (.ref C)=true
theorem An (M:Mk X.K C f) (F:aK X.prog X.w X.K X.mg X.base CX k f fd ps sp) (hr:bF (k + 1) X.A) (hb:Binds X.K fd ps ds) (hd:Vals dvs ds)
  (hx:Passes CX X E) (I:Inv X pins σ H s) (r:Vals vs us)
  (h:∀x dx,H x=none→H dx=none→dx≠x→sp (.ref x :: (vs ++ dvs)) (upd (upd H dx (.own x)) x (.ins C dx [])) (λv H2=>v=.non∧Q (.ref x) H2) E) :
  wpAny (model X.prog X.w) X.A (call (.ref C) us) (EP X pins σ Q) X.xe s:=by
 have hq:=h (s.heap.objs.size + 1) s.heap.objs.size (I.hok.fresh (Nat.le_succ _)) (I.hok.fresh (VT _)) (Wf (Xo _))
 have I2:=Inv.made (C:=C) I
 have r2:Vals (V.ref (s.heap.objs.size + 1) :: (vs ++ dvs)) (Value.ref (s.heap.objs.size + 1) :: (us ++ ds)):=.cons rfl (r.append hd)
 have hl:(Value.ref (s.heap.objs.size + 1) :: us ++ ds).length=ps.length:=by
  have e:=r2.length
  rw [F.len _ _ _ _ hq] at e
  exact e.symm
 refine wpAny_call (Gu (f:=f) I.wQ M.makes M.init (beq_iff_eq.mp M.fn) (codeAny_mono (F.run _ X.stack _ _ ⟨Value.ref (s.heap.objs.size + 1) :: us,[]⟩ (Value.ref (s.heap.objs.size + 1) :: (us ++ ds)) _ _ E (hr.make C us [])
  (I2.Po.make C us []) (hb _ (Value.ref (s.heap.objs.size + 1) :: us) I2.wQ hl) r2 hq) λr s' hq'=>?_))
 cases r with
 | error e=>exact hx pins σ _ _ e s' I2 hq'
 | ok fl =>
  cases fl with
  | ret u =>
   obtain ⟨v,H',I3,rv,ev,q3⟩:=I2.after hq'
   subst ev
   exact ⟨rv,⟨V.ref (s.heap.objs.size + 1),H',I3,rfl,q3⟩⟩
  | next=>exact False.elim hq'
  | brk=>exact False.elim hq'
  | cont=>exact False.elim hq'
theorem Ke (M:Mk X.K C f) (F:aK X.prog X.w X.K X.mg X.base CX k f fd ps sp) (hr:bF (k + 1) X.A) (hg:Gl X x) (hm:X.mg x=some (.ref C)) (hb:Binds X.K fd ps ds) (hd:Vals dvs ds) (hx:Passes CX X E)
  (ha:PA X (e :: es) t) (hdb:(x == ("__debug__":Str))=false:=by decide) (he:starEach (e :: es) X.env=(false,eval e X.env) :: starEach es X.env:=by rfl) (hpl:(backTo pos (starEach es X.env)).any (·.1)=false:=by rfl) :
  PE X (.Call (.Name x p) (e :: es) [] pos) (Ij C sp dvs E t):=by
 intro pins s σ H Q I h
 refine wpAny_Call_Name_kw (jX I hg hm ?_ hdb)
 refine Yp (h₀:=X.base) I.ok.mod.kin M.kp (cn (ha pos pins s σ H _ I h) λus s1 ⟨vs,H1,I1,r,q⟩=>⟨I1.wQ,?_⟩) he hpl
 exact An M F hr hb hd hx I1 r q
theorem G7 (M:Mk X.K C f) (F:aK X.prog X.w X.K X.mg X.base CX k f fd ps sp) (hr:bF (k + 1) X.A) (hg:Gl X x) (hm:X.mg x=some (.ref C)) (hb:Binds X.K fd ps ds) (hd:Vals dvs ds) (hx:Passes CX X E)
  (hdb:(x == ("__debug__":Str))=false:=by decide):PE X (.Call (.Name x p) [] [] pos) (Ij C sp dvs E zf):=by
 intro pins s σ H Q I h
 refine wpAny_Call_Name_kw (jX I hg hm ?_ hdb)
 exact Yb I.wQ M.kp (An (us:=[]) M F hr hb hd hx I .nil h)
structure av (N P:List Str) (sc:Scope):Prop where
 kind:sc.kind=.function
 co:sc.isCoroutine=false
 gen:sc.isGenerator=false
 nd:N.Nodup
 pre:N.take P.length=P
 par:∀x∈P,sc.names.lookup x=some .local∨sc.names.lookup x=some .cell
 nofree:∀y∈sc.names,y.2≠.free
theorem wF {kindOf:Str→Option NameKind} {x:Str}:∀{binds:List (Str × Value)} {m:Str→Option Value},(∀v,(x,v) ∉ binds)→bindL kindOf binds m x=m x
 | [],_,_=>rfl
 | (n,v) :: r,m,h=>by
  unfold bindL
  rw [wF λw hw=>h w (V5 _ hw)]
  split
  ·have:x≠n:=by rintro rfl;exact h v V9
   simp [this]
  ·rfl
theorem wC {kindOf:Str→Option NameKind} {x:Str}:∀{binds:List (Str × Value)} {m:Str→Option Value},(∀v,(x,v) ∉ binds)→bindC kindOf binds m x=m x
 | [],_,_=>rfl
 | (n,v) :: r,m,h=>by
  unfold bindC
  rw [wC λw hw=>h w (V5 _ hw)]
  split
  ·rfl
  ·have:x≠n:=by rintro rfl;exact h v V9
   simp [this]
theorem wD {kindOf:Str→Option NameKind} {x:Str} {v:Value}:∀{P:List Str} {vs:List Value} {i:Nat} {m:Str→Option Value},P.Nodup→P[i]?=some x→vs[i]?=some v→kindOf x=some .local →
  bindL kindOf (P.zip vs) m x=some v
 | [],_,_,_,_,h,_,_=>by simp at h
 | _ :: _,[],_,_,_,_,h,_=>by simp at h
 | p :: P,w :: vs,0,m,nd,h1,h2,hk=>by
  simp at h1 h2;subst h1;subst h2
  show bindL kindOf ((p,w) :: P.zip vs) m p=_
  unfold bindL
  rw [wF λv hv=>(W5.mp nd).1 (YY hv).1,if_pos hk]
  simp
 | p :: P,w :: vs,i + 1,m,nd,h1,h2,hk=>by
  show bindL kindOf ((p,w) :: P.zip vs) m x=_
  unfold bindL
  exact wD (i:=i) (W5.mp nd).2 (by simpa using h1) (by simpa using h2) hk
theorem wB {kindOf:Str→Option NameKind} {x:Str} {v:Value}:∀{P:List Str} {vs:List Value} {i:Nat} {m:Str→Option Value},P.Nodup→P[i]?=some x→vs[i]?=some v→kindOf x≠some .local →
  bindC kindOf (P.zip vs) m x=some v
 | [],_,_,_,_,h,_,_=>by simp at h
 | _ :: _,[],_,_,_,_,h,_=>by simp at h
 | p :: P,w :: vs,0,m,nd,h1,h2,hk=>by
  simp at h1 h2;subst h1;subst h2
  show bindC kindOf ((p,w) :: P.zip vs) m p=_
  unfold bindC
  rw [wC λv hv=>(W5.mp nd).1 (YY hv).1,if_neg hk]
  simp
 | p :: P,w :: vs,i + 1,m,nd,h1,h2,hk=>by
  show bindC kindOf ((p,w) :: P.zip vs) m x=_
  unfold bindC
  exact wB (i:=i) (W5.mp nd).2 (by simpa using h1) (by simpa using h2) hk
def start (N:List Str) (vs:List V):St:=vs.map some ++ WW (N.length - vs.length) none
def Bf (CX:nh) (P:Program) (w:World) (K:VL) (mg:Str→Option Value) (base:Heap) (N:List Str) (qual:Str) (scope:Scope) (f:Addr) (cd:Value) (A:Around) (outer:List Env) (s:Shared) (H:Hp) (E:XK):Cx where
 prog:=P
 w:=w
 K:=K
 mg:=mg
 base:=base
 A:=A.deeper (envOfC qual scope s.heap.objs.size f cd)
 N:=N
 s₀:=s
 H₀:=H
 env:=envOfC qual scope s.heap.objs.size f cd
 outer:=outer
 stack:=envOfC qual scope s.heap.objs.size f cd :: outer
 ex:=[]
 calm:=true
 fn:=λ_=>true
 pn:=[]
 xe:=λe s'=>wpAny (model P w) (A.deeper (envOfC qual scope s.heap.objs.size f cd)) (leaving (envOfC qual scope s.heap.objs.size f cd) e) (λ_ s''=>CX outer H s E e s'') (λe' s''=>CX outer H s E e' s'') s'
variable {n:Nat}
theorem zy {sc:Scope} (h:sc.names.lookup x=some .cell):∃c,(cellsFrom n sc.names []).lookup x=some c:=by
 have q:=YQ sc.names n [] (.inl h)
 exact YD.mp q
variable {qual:Str}
theorem Em {N:List Str} {scope:Scope} {cd:Value} {s1:Shared}
  (S:av N ps scope) (hd:A.handled=none) (e0:AZ P w K mg base A outer s H) (hl:vs.length=ps.length) (r:Vals vs us)
  (x:InCallC s s.heap.objs.size (bindL (envOfC qual scope s.heap.objs.size f cd).kindOf (ps.zip us) λ_=>none) (cellsFrom (s.heap.objs.size + 1) scope.names []) (bindC (envOfC qual scope s.heap.objs.size f cd).kindOf (ps.zip us) λ_=>none) s1) :
  Inv (Bf CX P w K mg base N qual scope f cd A outer s H E) [] (start N vs) H s1:=by
 have hpl:ps.length≤N.length:=by have:=congrArg Xj S.pre;rw [Wa] at this;omega
 obtain ⟨h1,tk,rfl,hk⟩:=x.done
 have noA:∀b:Addr,b ∉ (Bf CX P w K mg base N qual scope f cd A outer s H E).ex:=λb z=>absurd (show b∈([]:List Addr) from z) (by simp)
 refine ⟨⟨e0.mod,S.kind,rfl,rfl,VT _,λy z c h1 h2=>?_,λy hy=>?_,λy c _ h=>?_,λ_=>hd,Around.frames_deeper e0.frames,.inr ⟨rfl,rfl⟩,λb z=>absurd z (noA b),e0.bs,e0.bsz,λb _ _=>noA b,λb z=>absurd z (noA b),e0.oj,e0.frf⟩,
  rfl,e0.bare,Un.kept hk,⟨_,x.toInCall.ns,λi y v h1 h2 h3=>?_⟩,λy c h=>⟨_,x.cell y c h⟩,e0.hok.fresh (VT _),λy c h=>?_,λp hp=>absurd (show p∈([]:List (Addr × Obj)) from hp) (by simp),e0.hok.kept hk,?_⟩
 ·exact name_of_addr x.apart (PySem.mem_of_lookup h1) (PySem.mem_of_lookup h2)
 ·have hy:scope.names.lookup y=some .cell∨scope.names.lookup y=some .free:=hy
  rcases hy with hy | hy
  ·exact zy hy
  ·exact absurd rfl (S.nofree _ (PySem.mem_of_lookup hy))
 ·exact Ym (x.above y c (PySem.mem_of_lookup h))
 ·have hi:i < vs.length:=by
   unfold start at h2
   by_cases hi:i < vs.length
   ·exact hi
   ·rw [XA (by simpa using hi)] at h2
    rw [YI] at h2
    split at h2 <;> cases h2
  have ha:vs[i]?=some v:=by
   unfold start at h2
   rw [Xd (by simpa using hi),VS] at h2
   cases e:vs[i]? with
   | none=>rw [e] at h2;cases h2
   | some a=>rw [e] at h2;cases h2;rfl
  obtain ⟨u,hu,rv⟩:=r.get ha
  have hp:ps[i]?=some y:=by
   rw [← S.pre,List.getElem?_take_of_lt (by omega)];exact h1
  have ndP:ps.Nodup:=by rw [← S.pre];exact S.nd.sublist (WU _ _)
  refine ⟨u,rv,?_⟩
  rcases S.par y (V0 hp) with k | k
  ·exact .inl ⟨k,wD ndP hp hu k⟩
  ·obtain ⟨c,e⟩:=zy (n:=s.heap.objs.size + 1) k
   refine .inr ⟨.inl k,c,e,?_⟩
   have q:=x.cell y c e
   rw [wB ndP hp hu (by show scope.names.lookup y≠_;rw [k];decide)] at q
   exact q
 ·exact e0.hok.fresh (Ym (x.above y c (PySem.mem_of_lookup h)))
 ·unfold start
  show _=N.length
  rw [VZ,VM,YZ]
  omega
variable {name:Str} {osl:Array (Option Value)}
theorem CP {params:Arguments} {body:List Stmt} {scope:Scope} {dV kV doc pm cdv ct oc:Value} {an od:Option Addr}
  {N:List Str} (lk:K.lookup f=some ⟨oc,od,.func (WD name qual params body scope dV kV doc pm an cdv ct),osl⟩) (hcd:Xp K cdv qual=true) (S:av N ps scope)
  (len:∀vs H Q E,sp vs H Q E→vs.length=ps.length)
  (hbody:∀(A:Around) (outer:List Env) (s:Shared) (H:Hp) (vs:List V) (Q:VK) (E:XK),bF k (A.deeper (envOfC qual scope s.heap.objs.size f cdv))→sp vs H Q E →
   ∃t,xI (Bf CX P w K mg base N qual scope f cdv A outer s H E) body t∧t { nx:=λ_ H'=>Q .non H',rt:=Q } (start N vs) H) :
  aK P w K mg base CX (k + 1) f (WD name qual params body scope dV kV doc pm an cdv ct) ps sp:=by
 refine ⟨len,λA outer s H args us vs Q E hr e0 hb r hsp=>?_⟩
 have hl:=len _ _ _ _ hsp
 have KX:K.In s.heap:=e0.mod.kin.keeps λb o e=>(e0.bs b o e).1
 have lim:s.heap.NoLimit:=e0.mod.nolimit.keeps λb o e=>(e0.bs b o e).1
 have hkind:∀y∈ps.zip us,scope.names.lookup y.1=some .local∨(scope.names.lookup y.1=some .cell∧((cellsFrom (s.heap.objs.size + 1) scope.names []).lookup y.1).isSome=true):=λ⟨n,v⟩ hy=>by
  rcases S.par n (YY hy).1 with q | q
  ·exact .inl q
  ·exact .inr ⟨q,YQ _ _ _ (.inl q)⟩
 refine codeAny_call_function hr.depth (KX _ _ lk) rfl S.co S.gen rfl (PySem.W.codeRec_of KX hcd) (hb _ _ _ _ ?_)
 refine wpAny_newFunctionEnv_cells S.kind hkind λenv he s1 x=>?_
 subst he
 refine ⟨lim.keeps x.toInCall.keep,codeAny_func ?_⟩
 obtain ⟨t,ht,hq⟩:=hbody A outer s H vs Q E (hr.deeper _) hsp
 have I:Inv (Bf CX P w K mg base N qual scope f cdv A outer s H E) [] (start N vs) H s1:=Em S hr.hd e0 hl r x
 refine wpAny_mono (ht [] s1 (start N vs) H _ I hq) (λfl s' hs=>?_) λe s' hs=>hs
 have fin:∀{σ':St} {H':Hp} {v:V} {u:Value},Inv (Bf CX P w K mg base N qual scope f cdv A outer s H E) [] σ' H' s'→RelV v u→Q v H'→CE outer P w H s Q u s' :=
  λ{σ' H' v u} J rv q=>⟨v,H',J.os,J.bare,J.base,J.hok,rv,q⟩
 cases fl with
 | ret u =>
  obtain ⟨v,σ',H',J,rv,q⟩:=hs
  exact fin J rv q
 | next =>
  obtain ⟨σ',H',J,q⟩:=hs
  exact fin (v:=V.non) (u:=Value.none) J rfl q
 | brk =>
  obtain ⟨_,_,_,q⟩:=hs
  exact False.elim q
 | cont =>
  obtain ⟨_,_,_,q⟩:=hs
  exact False.elim q
def Mh (r:List V→Hp→VK→Prop) (t:TA):TE:=λσ H Q=>t σ H λvs H1=>r vs H1 Q
variable {r:List L2.V→Hp→VK→Prop} {aa2:String}
theorem cX (hc:bJ X (.builtin aa2) r) (hg:Gl X x) (hm:X.mg x=none) (hv:bootBuiltins x=some (.builtin aa2)) (ha:PA X (e :: es) t) (hn:x≠"__name__":=by decide) (hdb:(x == ("__debug__":Str))=false:=by decide)
  (he:starEach (e :: es) X.env=(false,eval e X.env) :: starEach es X.env:=by rfl) (hpl:(backTo pos (starEach es X.env)).any (·.1)=false:=by rfl):PE X (.Call (.Name x p) (e :: es) [] pos) (Mh r t):=by
 intro pins s σ H Q I h
 refine wpAny_Call_Name_kw (jW I hg hm hv ?_ hn hdb)
 exact PyProof.Rows.callWith_builtin1 (cn (ha pos pins s σ H _ I h) λus s1 ⟨vs,H1,I1,r1,q1⟩=>hc pins s1 σ H1 vs us Q I1 r1 q1) he hpl
variable {T:String}
theorem qG (hc:bJ X (.type T) r) (hg:Gl X x) (hm:X.mg x=none) (hv:bootBuiltins x=some (.type T)) (ha:PA X (e :: es) t) (hn:x≠"__name__":=by decide) (hdb:(x == ("__debug__":Str))=false:=by decide)
  (he:starEach (e :: es) X.env=(false,eval e X.env) :: starEach es X.env:=by rfl) (hpl:(backTo pos (starEach es X.env)).any (·.1)=false:=by rfl):PE X (.Call (.Name x p) (e :: es) [] pos) (Mh r t):=by
 intro pins s σ H Q I h
 refine wpAny_Call_Name_kw (jW I hg hm hv ?_ hn hdb)
 exact PyProof.Rows.callWith_type1 (cn (ha pos pins s σ H _ I h) λus s1 ⟨vs,H1,I1,r1,q1⟩=>hc pins s1 σ H1 vs us Q I1 r1 q1) he hpl
namespace HT
open PySem PyProof.Rows
def lexLt:List Int→List Int→Bool
 | [],[]=>false
 | [],_ :: _=>true
 | _ :: _,[]=>false
 | x :: xs,y :: ys=>if x=y then lexLt xs ys else decide (x < y)
section
open PySem.SeqAt
open PySem.AutoSeq1 (wpAny_loadPart')
open PySem.MeetsSeq PySem.MeetsSeq2 PySem.MeetsSeq3
end
def fk (n d:Nat):Option Int→Nat
 | none=>d
 | some v=>if v < 0 then (v + (n:Int)).toNat else min v.toNat n
theorem HI (n d:Nat):fk n d none=d:=rfl
theorem KP (n d k:Nat):fk n d (some (k:Int))=min k n:=by
 show (if (k:Int) < 0 then ((k:Int) + (n:Int)).toNat else min (k:Int).toNat n)=min k n
 rw [if_neg (by omega),Xf]
theorem N7 (n d:Nat) (hd:d≤n) (o:Option Int):fk n d o≤n:=by
 cases o with
 | none=>exact hd
 | some v =>
  show (if v < 0 then (v + (n:Int)).toNat else min v.toNat n)≤n
  by_cases hv:v < 0
  ·rw [if_pos hv];omega
  ·rw [if_neg hv];exact Nat.min_le_right _ _
theorem CC (v:Int) (n d:Nat):(if v < 0 then max (v + (n:Int)) 0 else min v (n:Int))=((fk n d (some v):Nat):Int):=by
 show (if v < 0 then max (v + (n:Int)) 0 else min v (n:Int))=(((if v < 0 then (v + (n:Int)).toNat else min v.toNat n):Nat):Int)
 by_cases hv:v < 0
 ·simp only [if_pos hv];omega
 ·simp only [if_neg hv];omega
theorem A9 (lo hi:Option Int) (n:Nat):Builtin.Slice.sliceAdjust lo hi 1 (n:Int)=(((fk n 0 lo:Nat):Int),((fk n n hi:Nat):Int)):=by
 have h1:¬ ((1:Int) < 0):=by omega
 unfold Builtin.Slice.sliceAdjust
 simp only [h1,if_false]
 refine Prod.ext ?_ ?_
 ·cases lo with
  | none=>rfl
  | some v=>exact CC v n 0
 ·cases hi with
  | none=>rfl
  | some v=>exact CC v n n
theorem BW (i j:Nat):Builtin.Slice.slicePlaces (i:Int) (j:Int) 1=j - i:=by
 unfold Builtin.Slice.slicePlaces
 have h1:(1:Int) > 0:=by omega
 simp only [h1,if_true,Int.ediv_one]
 split <;> omega
variable {w:World} {s:Shared} {A:Around} {E:Value→Shared→Prop} {prog:Program}
theorem uK {v:Value} {o:Option Int} {Q:Option Int→Shared→Prop} (p:IsPart v o) (h:Q o s):wpAny (model prog w) A (Builtin.Slice.slicePartIndex v) Q E s:=by
 cases p with
 | none=>exact slicePart_none h
 | int i t=>exact slicePart_int h
theorem qY {sl:Addr} {vl vu:Value} {lo hi:Option Int} {n:Nat} {Q:Int × Int × Nat→Shared→Prop} (hs:s.heap.IsSliceOf sl vl vu .none) (pl:IsPart vl lo) (pu:IsPart vu hi)
  (h:Q (((fk n 0 lo:Nat):Int),1,fk n n hi - fk n 0 lo) s):wpAny (model prog w) A (Builtin.Slice.sliceApplied (.ref sl) (pure (n:Int))) Q E s:=by
 obtain ⟨os,hos,hcs,hds⟩:=id hs
 unfold Builtin.Slice.sliceApplied Builtin.Slice.sliceFields
 refine wpAny_bind (wpAny_bind (wpAny_field hos hds (x:=vl) rfl (wpAny_bind (wpAny_field hos hds (x:=vu) rfl (wpAny_bind (wpAny_field hos hds (x:=.none) rfl (wpAny_pure ?_)))))))
 refine wpAny_bind (slicePart_none ?_)
 show wpAny _ _ (if ((1:Int) == 0)=true then _ else _) _ _ s
 rw [if_neg (by decide)]
 refine wpAny_bind (uK pl (wpAny_bind (uK pu (wpAny_bind (wpAny_pure ?_)))))
 show wpAny _ _ (match Builtin.Slice.sliceAdjust lo hi 1 (n:Int) with | (lo,hi)=>pure (lo,(1:Int),Builtin.Slice.slicePlaces lo hi 1)) _ _ s
 rw [A9 lo hi n]
 show wpAny _ _ (pure (((fk n 0 lo:Nat):Int),(1:Int),Builtin.Slice.slicePlaces ((fk n 0 lo:Nat):Int) ((fk n n hi:Nat):Int) 1)) _ _ s
 rw [BW]
 exact wpAny_pure h
theorem Hb (xs:Array Value) (i k:Nat):((WM k).filterMap λ(m:Nat)=>xs[((i:Int) + (m:Int) * 1).toNat]?).toArray=((xs.toList.drop i).take k).toArray:=by
 have e:(λ(m:Nat)=>xs[((i:Int) + (m:Int) * 1).toNat]?)=λm=>xs[i + m]?:=by
  funext m
  have:((i:Int) + (m:Int) * 1).toNat=i + m:=by omega
  rw [this]
 rw [e]
 have:=pick_run xs i k
 rw [List.filterMap_map] at this
 have e2:((λx=>xs[x]?) ∘ λx=>i + x)=λm=>xs[i + m]?:=rfl
 rw [e2] at this
 rw [this]
theorem o5 {t sl:Addr} {items:Array Value} {vl vu:Value} {lo hi:Option Int} {Q:Value→Shared→Prop} (ht:IsTup s.heap t items) (hs:s.heap.IsSliceOf sl vl vu .none) (pl:IsPart vl lo) (pu:IsPart vu hi)
  (hw:¬ (fk items.size 0 lo=0∧fk items.size items.size hi=items.size))
  (h:Q (.ref s.heap.objs.size) { s with heap:=s.heap.push { cls:=.type "tuple",data:=.seq ((items.toList.drop (fk items.size 0 lo)).take (fk items.size items.size hi - fk items.size 0 lo)).toArray } })
  (hsz:items.size≤sizeLine):wpAny (model prog w) A (getItem (.ref t) (.ref sl)) Q E s:=by
 have htake:sizeOk (.seq ((items.toList.drop (fk items.size 0 lo)).take (fk items.size items.size hi - fk items.size 0 lo)).toArray):=by
  show ((items.toList.drop (fk items.size 0 lo)).take (fk items.size items.size hi - fk items.size 0 lo)).toArray.size≤sizeLine
  rw [VU,Wa,Xa,Array.length_toList]
  omega
 have hj:fk items.size items.size hi≤items.size:=N7 _ _ (VT _) hi
 obtain ⟨os,hos,hcs,hds⟩:=id hs
 have hTs:s.TypeIs (.ref sl) "slice":=⟨os,hos,hcs⟩
 unfold getItem
 try with_reducible refine wpAny_holding ?_
 first | refine wpAny_bind (wpAny_pure ?_) | skip
 refine wpAny_bind (wpAny_sequenceKey ht.typeIs (by decide) ?_)
 refine wpAny_bind (wpAny_callSpecial?_slot (name:=Str.ofString "__getitem__") ht.typeIs PyProof.Rows.slot_tuple_getitem
  (wpAny_call_entry PyProof.Rows.slot_tuple_getitem ht.typeIs entry_tuple_getitem ?_ (args_tuple_getitem _ _)))
 show wpAny _ _ (Builtin.Tuple.tupleItemsOf (.ref t) >>= _) _ _ s
 refine wpAny_bind (tupleItemsOf_ ht ?_)
 refine wpAny_bind (wpAny_typeOf hTs ?_)
 rw [if_pos (by decide)]
 refine wpAny_bind (qY hs pl pu ?_)
 have hno:¬ ((((fk items.size 0 lo:Nat):Int) == 0 && (1:Int) == 1 && (fk items.size items.size hi - fk items.size 0 lo) == items.size)=true):=by
  intro q
  rw [Wt,Wt] at q
  have q1:((fk items.size 0 lo:Nat):Int)=0:=eq_of_beq q.1.1
  have q2:fk items.size items.size hi - fk items.size 0 lo=items.size:=eq_of_beq q.2
  exact hw ⟨by omega,by omega⟩
 show wpAny _ _ (if (((fk items.size 0 lo:Nat):Int) == 0 && (1:Int) == 1 && (fk items.size items.size hi - fk items.size 0 lo) == items.size)=true then _ else _) _ _ s
 rw [if_neg hno,Hb]
 first
  | exact wpAny_bind (m:=Builtin.Tuple.tupleExact _) (wpAny_newObj_type (wpAny_pure ⟨_,rfl,wpAny_pure h⟩) htake)
  | exact wpAny_bind (m:=Builtin.Tuple.tupleExact _) (wpAny_newObj_type (wpAny_bind (wpAny_pure (wpAny_pure ⟨_,rfl,wpAny_pure h⟩))) htake)
  | exact wpAny_bind (wpAny_bind (m:=Builtin.Tuple.tupleExact _) (wpAny_newObj_type (wpAny_pure (wpAny_pure ⟨_,rfl,wpAny_pure h⟩)) htake))
  | exact wpAny_bind (wpAny_bind (m:=Builtin.Tuple.tupleExact _) (wpAny_newObj_type (wpAny_pure ⟨_,rfl,wpAny_pure h⟩) htake))
end HT
abbrev TO:=St→Hp→(Option Int→Hp→Prop)→Prop
def PO (X:Cx) (e:Option Expr) (t:TO):Prop :=
 ∀(pins:List (Addr × Obj)) (s:Shared) (σ:St) (H:Hp) (Q:Option Int→Hp→Prop),Inv X pins σ H s→t σ H Q →
  wpAny (model X.prog X.w) X.A (evalPart e X.env) (λu s'=>∃o H',Inv X pins σ H' s'∧IsPart u o∧Q o H') X.xe s
def zg:TO:=λ_ H Q=>Q none H
def Im (t:TE):TO:=λσ H Q=>t σ H λx H1=>∃i,x=.int i∧Q (some i) H1
theorem intsAre_of {ns:List Int}:∀{us:List Value},Vals (ns.map V.int) us→IntsAre us ns:=by
 induction ns with
 | nil=>intro us r;rw [Wj] at r;cases r;exact .nil
 | cons n ns ih =>
  intro us r
  rw [VR] at r
  cases r with
  | cons r1 r2 =>
   obtain ⟨t,e⟩:=r1
   subst e
   exact .cons n t (ih r2)
theorem yC:PO X none zg:=by
 intro pins s σ H Q I h
 rw [evalPart_none]
 exact wpAny_pure ⟨none,H,I,.none,h⟩
theorem yD (h:PE X e te):PO X (some e) (Im te):=by
 intro pins s σ H Q I hw
 rw [evalPart_some]
 refine cn (h pins s σ H _ I hw) λu s1 ⟨x,H1,I1,r1,q1⟩=>?_
 obtain ⟨i,rfl,q⟩:=q1
 obtain ⟨t,rfl⟩:=r1
 exact ⟨some i,H1,I1,.int i t,q⟩
variable {lo hi:Option Expr}
def nC (X:Cx) (r:V→Option Int→Option Int→Hp→VK→Prop):Prop :=
 ∀(pins:List (Addr × Obj)) (s:Shared) (σ:St) (H:Hp) (x:V) (v vl vu:Value) (lo hi:Option Int) (sl:Addr) (Q:VK),Inv X pins σ H s→RelV x v→s.heap.IsSliceOf sl vl vu .none→IsPart vl lo→IsPart vu hi→r x lo hi H Q →
  ∃T id,typeLookup (.type T) "__getitem__"=pure (some (.builtin id))∧s.TypeIs v T∧wpAny (model X.prog X.w) X.A (getItem v (.ref sl)) (EP X pins σ Q) X.xe s
theorem nC.or {r r':V→Option Int→Option Int→Hp→VK→Prop} (h:nC X r) (h':nC X r'):nC X (λx lo hi H Q=>r x lo hi H Q∨r' x lo hi H Q):=by
 intro pins s σ H x v vl vu lo hi sl Q I rx hs pl pu q
 rcases q with q | q
 ·exact h pins s σ H x v vl vu lo hi sl Q I rx hs pl pu q
 ·exact h' pins s σ H x v vl vu lo hi sl Q I rx hs pl pu q
def Uk (r:V→Option Int→Option Int→Hp→VK→Prop) (te:TE) (tl th:TO):TE:=λσ H Q=>te σ H λx H1=>tl σ H1 λl H2=>th σ H2 λu H3=>r x l u H3 Q
variable {tl th:TO} {p2:Pos}
theorem uj {r:V→Option Int→Option Int→Hp→VK→Prop} (hr:nC X r) (he:PE X e te) (hl:PO X lo tl) (hu:PO X hi th):PE X (.Subscript e (.Slice lo hi none p2) pos) (Uk r te tl th):=by
 intro pins s σ H Q I h
 refine Subscript_ (cn (he pins s σ H _ I h) λv s1 ⟨x,H1,I1,r1,q1⟩=>?_)
 refine wpAny_Slice (cn (hl pins s1 σ H1 _ I1 q1) λvl s2 ⟨l,H2,I2,pl,q2⟩=>cn (hu pins s2 σ H2 _ I2 q2) λvu s3 ⟨u,H3,I3,pu,q3⟩=>?_)
 rw [evalPart_none]
 refine wpAny_pure ?_
 have I4:Inv X pins σ H3 { s3 with heap:=s3.heap.push { cls:=.type "slice",data:=.fields #[vl,vu,.none] } }:=I3.kept (t':=s3.toks) λb ob q=>VW _ q
 obtain ⟨T,id,hT,ht,hg⟩:=hr pins { s3 with heap:=s3.heap.push { cls:=.type "slice",data:=.fields #[vl,vu,.none] } } σ H3 x v vl vu l u s3.heap.objs.size Q I4 r1 (Heap.IsSliceOf.new ..) pl pu q3
 show wpAny (model X.prog X.w) X.A (subscriptTail e (.Slice lo hi none p2) v (.ref s3.heap.objs.size)) (EP X pins σ Q) X.xe { s3 with heap:=s3.heap.push { cls:=.type "slice",data:=.fields #[vl,vu,.none] } }
 exact tail_any (ops:=[.ref s3.heap.objs.size,v]) ht hT hg (by with_unfolding_all rfl)
def xO (xs:List V) (lo hi:Option Int):List V:=(xs.drop (HT.fk xs.length 0 lo)).take (HT.fk xs.length xs.length hi - HT.fk xs.length 0 lo)
theorem rG (xs:List V) (lo hi:Option Int):(xO xs lo hi).length≤xs.length:=by
 unfold xO
 rw [Wa,Xa]
 omega
def T9 (K:VL):V→Option Int→Option Int→Hp→VK→Prop:=λx lo hi H Q=>∃a xs,x=.ref a∧fo K H a xs ∧
 ¬ (HT.fk xs.length 0 lo=0∧HT.fk xs.length xs.length hi=xs.length)∧∀p,H p=none→Q (.ref p) (upd H p (.tup (xO xs lo hi)))
theorem Ob:nC X (T9 X.K):=by
 intro pins s σ H x v vl vu lo hi sl Q I rx hs pl pu h
 obtain ⟨a,xs,rfl,hx,hw,q⟩:=h
 cases rx
 obtain ⟨its,r,ht,hz⟩:=I.tuple hx
 have hlen:its.toArray.size=xs.length:=by rw [VU];exact r.length.symm
 refine ⟨"tuple",_,PyProof.Rows.slot_tuple_getitem.lookup,ht.typeIs,?_⟩
 refine HT.o5 ht hs pl pu (by rw [hlen];exact hw) ?_ (by rw [hlen];exact hz)
 rw [hlen]
 refine ⟨.ref s.heap.objs.size,_,I.laid (t':=s.toks) (o:=.tup (xO xs lo hi)) (λb ob q=>VW _ q) (VT _) ?_,rfl,q _ (I.hok.fresh (VT _))⟩
 exact ⟨V6 (rG xs lo hi) hz,_,(r.drop (HT.fk xs.length 0 lo)).take (HT.fk xs.length xs.length hi - HT.fk xs.length 0 lo),IsTup.new _ _⟩
def Fn (n:Nat) (i:Int):Option Nat:=if 0≤i then (if i < n then some i.toNat else none) else if -(n:Int)≤i then some (i + n).toNat else none
def c_ {α:Type} (xs:List α) (i:Int):Option α:=(Fn xs.length i).bind λj=>xs[j]?
theorem C3 {i:Int} {j:Nat} (h:Fn n i=some j):seqIndex? i n=some j∧j < n∧-(n:Int)≤i∧i < n:=by
 unfold Fn at h
 by_cases h0:0≤i
 ·rw [if_pos h0] at h
  by_cases h1:i < n
  ·rw [if_pos h1] at h
   have e:i.toNat=j:=Option.some.inj h
   exact ⟨by rw [seqIndex_of h0 h1,e],by omega,by omega,h1⟩
  ·rw [if_neg h1] at h;cases h
 ·rw [if_neg h0] at h
  by_cases h1:-(n:Int)≤i
  ·rw [if_pos h1] at h
   have e:(i + n).toNat=j:=Option.some.inj h
   exact ⟨by rw [seqIndex_neg (by omega) h1,e],by omega,h1,by omega⟩
  ·rw [if_neg h1] at h;cases h
theorem xK {α:Type} {xs:List α} {i:Int} {v:α} (h:c_ xs i=some v):∃j,seqIndex? i xs.length=some j∧xs[j]?=some v∧j < xs.length∧-(xs.length:Int)≤i∧i < xs.length:=by
 unfold c_ at h
 cases e:Fn xs.length i with
 | none=>rw [e] at h;cases h
 | some j =>
  rw [e] at h
  obtain ⟨h1,h2,h3,h4⟩:=C3 e
  exact ⟨j,h1,h,h2,h3,h4⟩
theorem bM {α:Type} {xs:List α} {j:Nat} {v:α} (h:xs[j]?=some v):c_ xs (j:Int)=some v:=by
 have hj:j < xs.length:=(VO.mp h).1
 have e:Fn xs.length (j:Int)=some j:=by
  unfold Fn
  rw [if_pos (by omega),if_pos (by omega)];simp
 unfold c_;rw [e];exact h
def bL (b:Expr):Prop:=∀o i,subscripted b false o i=operate [o,i] (getItem o i)
def mG (X:Cx) (r:R2):Prop :=
 ∀(value slice:Expr) (pins:List (Addr × Obj)) (s:Shared) (σ:St) (H:Hp) (x y:V) (v u:Value) (Q:VK),Inv X pins σ H s→RelV x v→RelV y u→r x y H Q →
  subscripted slice false v u=operate [v,u] (getItem v u)→wpAny (model X.prog X.w) X.A (subscriptTail value slice v u) (EP X pins σ Q) X.xe s
def lh (X:Cx) (id:String) (r:V→List V→Hp→VK→Prop):Prop :=
 ∀(pins:List (Addr × Obj)) (s:Shared) (σ:St) (H:Hp) (x:V) (xs:List V) (v:Value) (us:List Value) (Q:VK),Inv X pins σ H s→RelV x v→Vals xs us→r x xs H Q →
  wpAny (model X.prog X.w) X.A (call (.builtin id) (v :: us)) (EP X pins σ Q) X.xe s
theorem mG.or {r r':R2} (h:mG X r) (h':mG X r'):mG X (λx y H Q=>r x y H Q∨r' x y H Q):=by
 intro value slice pins s σ H x y v u Q I rx ry q hs
 rcases q with q | q
 ·exact h value slice pins s σ H x y v u Q I rx ry q hs
 ·exact h' value slice pins s σ H x y v u Q I rx ry q hs
theorem lh.or {id:String} {r r':V→List V→Hp→VK→Prop} (h:lh X id r) (h':lh X id r'):lh X id (λx xs H Q=>r x xs H Q∨r' x xs H Q):=by
 intro pins s σ H x xs v us Q I rx rs q
 rcases q with q | q
 ·exact h pins s σ H x xs v us Q I rx rs q
 ·exact h' pins s σ H x xs v us Q I rx rs q
variable {a b:Expr} {tb:TE}
theorem G6 {r:R2} (hr:mG X r) (ha:PE X a ta) (hb:PE X b tb) (hs:bL b):PE X (.Subscript a b pos) (IJ r ta tb):=by
 intro pins s σ H Q I h
 exact Subscript_ (MG ha hb I h λv u s2 x y H2 I2 rx ry q=>hr a b pins s2 σ H2 x y v u Q I2 rx ry q (hs _ _))
def T3 (K:VL):R2:=λx y H Q=>∃p xs i v,x=.ref p∧y=.int i∧dG K H p xs∧c_ xs i=some v∧Q v H
def T5 (K:VL):R2:=λx y H Q=>∃p xs i v,x=.ref p∧y=.int i∧fo K H p xs∧c_ xs i=some v∧Q v H
def T4:R2:=λx y H Q=>∃z i c,x=.str z∧y=.int i∧z.length≤sizeLine∧c_ z.cps.toList i=some c∧Q (.str ⟨#[c]⟩) H
theorem Jt:mG X (T3 X.K):=by
 intro value slice pins s σ H x y v u Q I rx ry h hs
 obtain ⟨p,xs,i,z,rfl,rfl,hq,he,q⟩:=h
 cases rx
 obtain ⟨t,rfl⟩:=ry
 obtain ⟨its,r,pl,hz⟩:=I.list hq
 obtain ⟨j,h1,h2,h3,h4,h5⟩:=xK he
 obtain ⟨w,ew,rw'⟩:=r.get h2
 have hl:=r.length
 have hn:=oo
 have fin:EP X pins σ Q w s:=⟨z,H,I,rw',q⟩
 by_cases h0:0≤i
 ·have hj:i.toNat=j:=by
   rw [seqIndex_of h0 h5] at h1
   exact Option.some.inj h1
  exact item_listR pl.isList h0 (by omega) (by rw [hj];simpa using ew) fin hs
 ·have hj:(i + (its.toArray.size:Int)).toNat=j:=by
   rw [seqIndex_neg (by omega) h4] at h1
   rw [VU,← hl]
   exact Option.some.inj h1
  exact subscriptTail_builtinR (x:=w) pl.isList.typeIs slot_list_getitem.lookup
   (wpAny_getItem_list_neg (Q:=λr s'=>r=w∧EP X pins σ Q r s') pl.isList (by omega) (by rw [VU] <;> omega) (by omega) (by rw [hj];simpa using ew) ⟨rfl,fin⟩) hs
theorem M3:mG X (T5 X.K):=by
 intro value slice pins s σ H x y v u Q I rx ry h hs
 obtain ⟨p,xs,i,z,rfl,rfl,hq,he,q⟩:=h
 cases rx
 obtain ⟨t,rfl⟩:=ry
 obtain ⟨its,r,pl,hz⟩:=I.tuple hq
 obtain ⟨j,h1,h2,h3,h4,h5⟩:=xK he
 obtain ⟨w,ew,rw'⟩:=r.get h2
 have hl:=r.length
 have hn:=oo
 have fin:EP X pins σ Q w s:=⟨z,H,I,rw',q⟩
 exact subscriptTail_builtinR (x:=w) pl.typeIs slot_tuple_getitem.lookup
  (getItem_tuple (j:=j) (Q:=λr s'=>r=w∧EP X pins σ Q r s') pl (by omega) (by omega) (by rw [VU,← hl];exact h1) (by simpa using ew) ⟨rfl,fin⟩) hs
theorem M1:mG X T4:=by
 intro value slice pins s σ H x y v u Q I rx ry h hs
 obtain ⟨z,i,c,rfl,rfl,hz,he,q⟩:=h
 obtain ⟨t,rfl⟩:=rx
 obtain ⟨t',rfl⟩:=ry
 obtain ⟨j,h1,h2,h3,h4,h5⟩:=xK he
 have hl:z.cps.toList.length=z.length:=by simp [Str.length]
 rw [hl] at h1 h4 h5
 have hn:=oo
 exact tail_any (typeIs_str s z t) slot_str_getitem.lookup (getItem_str (c:=c) (by
  have e1:decide (i < -(2 ^ 63:Int))=false:=decide_eq_false (by omega)
  have e2:decide (i ≥ 2 ^ 63)=false:=decide_eq_false (by omega)
  rw [e1,e2,Bool.or_false]) (by rw [h1];simpa using h2) ⟨.str ⟨#[c]⟩,H,I.tok _,⟨_,rfl⟩,q⟩) hs
theorem By (its:List Value) (n j:Nat) (u:Value):Obj.mapSeq (·.setIfInBounds j u) { cls:=.type "list",data:=.seq its.toArray n }={ cls:=.type "list",data:=.seq (its.set j u).toArray n }:=by
 simp [Obj.mapSeq]
variable {xs:List L2.V} {p:Addr}
theorem Inv.lst (I:Inv X pins σ H s) (h:H p=some (.lst xs)) :
  ∃(its:List Value) (n:Nat),Vals xs its∧s.heap.get? p=some { cls:=.type "list",data:=.seq its.toArray n }∧xs.length≤sizeLine:=by
 obtain ⟨z,its,n,r,e⟩:=I.hok p _ h
 exact ⟨its,n,r,e,z⟩
variable {ys:List L2.V}
theorem Inv.Nj {its its':List Value} {n':Nat} {f:Obj→Obj} (I:Inv X pins σ H s) (h:H p=some (.lst xs))
  (ho:s.heap.get? p=some { cls:=.type "list",data:=.seq its.toArray n }) (hf:f { cls:=.type "list",data:=.seq its.toArray n }={ cls:=.type "list",data:=.seq its'.toArray n' }) (r:Vals ys its') (hz:ys.length≤sizeLine) (t:Nat) :
  Inv X pins σ (upd H p (.lst ys)) { s with heap:=s.heap.update p f,toks:=t }:=by
 have e:(s.heap.update p f).get? p=some { cls:=.type "list",data:=.seq its'.toArray n' }:=by
  rw [Heap.get?_update_self f ho (by rw [hf] <;> rfl),hf]
 refine I.write (x:=p) (e:=p) (by rw [h];trivial) (.inl rfl) (λb u hb q=>(YR _ _ (Ne.symm hb)).trans q) ⟨_,e⟩ ?_
 exact ⟨hz,its',n',r,e⟩
def Rn:V→V→V→Hp→(Hp→Prop)→Prop:=λo i v H Q=>∃p xs k j,o=.ref p∧i=.int k∧H p=some (.lst xs)∧Fn xs.length k=some j∧Q (upd H p (.lst (xs.set j v)))
theorem set_list:fH X Rn:=by
 intro pins s σ H o i v ov iv u Q I ro ri rv h
 obtain ⟨p,xs,k,j,rfl,rfl,hp,hj,q⟩:=h
 cases ro
 obtain ⟨t,rfl⟩:=ri
 obtain ⟨its,n,r,ho,hz⟩:=I.lst hp
 obtain ⟨h1,h2,h3,h4⟩:=C3 hj
 have hl:=r.length
 have hn:=oo
 have I':Inv X pins σ (upd H p (.lst (xs.set j v))) { s with heap:=s.heap.update p (Obj.mapSeq (·.setIfInBounds j u)) } :=
  I.Nj hp ho (By its n j u) (r.set rv j) (by rw [XQ];exact hz) s.toks
 by_cases h0:0≤k
 ·have hk:k.toNat=j:=by
   rw [seqIndex_of h0 h4] at h1
   exact Option.some.inj h1
  exact PySem.W.ki_setAt ho h0 (by omega) (by rw [VU,← hl];exact h4) (by rw [hk];exact ⟨_,I',q⟩)
 ·have hk:(k + (its.toArray.size:Int)).toNat=j:=by
   rw [seqIndex_neg (by omega) h3] at h1
   rw [VU,← hl]
   exact Option.some.inj h1
  exact PySem.W.ki_setBack ho (by omega) (by rw [VU,← hl];exact h3) (by omega) (by rw [hk];exact ⟨_,I',q⟩)
theorem y6 (lo hi:Option Int) (n:Nat):(sliceBounds lo hi none n).1=((HT.fk n 0 lo:Nat):Int)∧(sliceBounds lo hi none n).2.1=((HT.fk n n hi:Nat):Int)∧(sliceBounds lo hi none n).2.2=1:=by
 refine ⟨?_,?_,rfl⟩
 ·cases lo with
  | none=>simp [sliceBounds,HT.fk]
  | some i =>
   simp only [sliceBounds,HT.fk,ZY,show (1:Int) > 0 by decide,if_true]
   by_cases h:i < 0
   ·simp only [h,if_true] <;> omega
   ·simp only [h,if_false] <;> omega
 ·cases hi with
  | none=>simp [sliceBounds,HT.fk]
  | some i =>
   simp only [sliceBounds,HT.fk,ZY,show (1:Int) > 0 by decide,if_true]
   by_cases h:i < 0
   ·simp only [h,if_true] <;> omega
   ·simp only [h,if_false] <;> omega
theorem wk (its:List Value) (lo hi:Option Int):slicePick its.toArray lo hi none=((its.drop (HT.fk its.length 0 lo)).take (HT.fk its.length its.length hi - HT.fk its.length 0 lo)).toArray:=by
 obtain ⟨h1,h2,h3⟩:=y6 lo hi its.toArray.size
 unfold slicePick
 rw [h1,h2,h3]
 simp only [sliceRange_one,pick_run,VU] <;> rfl
def T8 (K:VL):V→Option Int→Option Int→Hp→VK→Prop:=λx lo hi H Q=>∃a xs,x=.ref a∧dG K H a xs∧∀p,H p=none→Q (.ref p) (upd H p (.lst (xO xs lo hi)))
theorem Dz:nC X (T8 X.K):=by
 intro pins s σ H x v vl vu lo hi sl Q I rx hs pl pu h
 obtain ⟨a,xs,rfl,hx,q⟩:=h
 cases rx
 obtain ⟨its,r,ht,hz⟩:=I.list hx
 have hlen:=r.length
 refine ⟨"list",_,slot_list_getitem.lookup,ht.isList.typeIs,?_⟩
 refine wpAny_getItem_list_slice ht.isList hs pl pu .none (by simp) ?_ (by rw [VU] <;> omega)
 rw [wk,← hlen]
 refine ⟨.ref s.heap.objs.size,_,I.laid (t':=s.toks) (o:=.lst (xO xs lo hi)) (λb ob q=>VW _ q) (VT _) ?_,rfl,q _ (I.hok.fresh (VT _))⟩
 exact ⟨V6 (rG xs lo hi) hz,_,0,(r.drop (HT.fk xs.length 0 lo)).take (HT.fk xs.length xs.length hi - HT.fk xs.length 0 lo),Wd _ rfl⟩
def nD:V→Bool
 | .non=>true
 | .bl _=>true
 | .int _=>true
 | .str _=>true
 | _=>false
def Jn:V→V→Bool
 | .non,.non=>true
 | .bl a,.bl b=>a == b
 | .bl a,.int b=>(if a then 1 else 0) == b
 | .int a,.bl b=>a == (if b then 1 else 0)
 | .int a,.int b=>a == b
 | .str a,.str b=>a == b
 | _,_=>false
theorem MO {y x:V} {v:Value} (ry:RelV y u) (rx:RelV x v) (fy:nD y=true) (fx:nD x=true):SeqAt.EqAt A s u v (Jn y x):=by
 cases y with
 | non =>
  cases ry
  cases x with
  | non=>cases rx;exact Yc _
  | bl b=>cases rx;exact Zg b
  | int b=>obtain ⟨t,rfl⟩:=rx;exact Zr b t
  | str b=>obtain ⟨t,rfl⟩:=rx;exact Zs b t
  | _=>exact absurd (show false=true from fx) Wz
 | bl a =>
  cases ry
  cases x with
  | non=>cases rx;exact Zh a
  | bl b=>cases rx;exact Zi a b
  | int b=>obtain ⟨t,rfl⟩:=rx;exact Zt a b t
  | str b=>obtain ⟨t,rfl⟩:=rx;exact Zu a b t
  | _=>exact absurd (show false=true from fx) Wz
 | int a =>
  obtain ⟨t',rfl⟩:=ry
  cases x with
  | non=>cases rx;exact Zv a t'
  | bl b=>cases rx;exact Zw a t' b
  | int b=>obtain ⟨t,rfl⟩:=rx;exact ZD a t' b t
  | str b=>obtain ⟨t,rfl⟩:=rx;exact Yk a t' b t
  | _=>exact absurd (show false=true from fx) Wz
 | str a =>
  obtain ⟨t',rfl⟩:=ry
  cases x with
  | non=>cases rx;exact Zx a t'
  | bl b=>cases rx;exact Zy a t' b
  | int b=>obtain ⟨t,rfl⟩:=rx;exact Yl a t' b t
  | str b=>obtain ⟨t,rfl⟩:=rx;exact Yq a t' b t
  | _=>exact absurd (show false=true from fx) Wz
 | _=>exact absurd (show false=true from fy) Wz
def zj (x:V) (u:Value):Bool:=match u with
 | .none=>Jn .non x
 | .bool b=>Jn (.bl b) x
 | .int i _=>Jn (.int i) x
 | .str z _=>Jn (.str z) x
 | _=>false
theorem FQ {x y:V} (r:RelV y u) (f:nD y=true):zj x u=Jn y x:=by
 cases y with
 | non=>cases r;rfl
 | bl b=>cases r;rfl
 | int i=>obtain ⟨t,rfl⟩:=r;rfl
 | str z=>obtain ⟨t,rfl⟩:=r;rfl
 | _=>exact absurd (show false=true from f) Wz
theorem mJ {x:V}:∀{xs:List V} {us:List Value},Vals xs us→xs.all nD=true→us.any (zj x)=xs.any λy=>Jn y x
 | _,_,.nil,_=>rfl
 | y :: xs,u :: us,.cons r t,f=>by
  rw [ZE,Wt] at f
  rw [Xx,Xx,FQ r f.1,mJ t f.2]
theorem jF {A:Around} {s:Shared} {x:V} {v:Value} (rx:RelV x v) (fx:nD x=true):∀{xs:List V} {us:List Value},Vals xs us→xs.all nD=true→∀u∈us,SeqAt.EqAt A s u v (zj x u)
 | _,_,.nil,_=>λu hu=>by cases hu
 | y :: xs,u :: us,.cons r t,f=>λu' hu=>by
  rw [ZE,Wt] at f
  rcases V2.mp hu with rfl | hu
  ·rw [FQ r f.1];exact MO r rx f.1 fx
  ·exact jF rx fx t f.2 u' hu
def Su (x:V) (xs:List V):Bool:=xs.any λy=>Jn y x
def Vl (K:VL) (neg:Bool):R2:=λx y H Q=>∃p xs,y=.ref p∧(dG K H p xs∨fo K H p xs)∧nD x=true∧xs.all nD=true∧Q (.bl (if neg then !Su x xs else Su x xs)) H
theorem EU:eX X (compareOp .In) (Vl X.K false):=by
 intro pins s σ H x y v u Q I rx ry h
 obtain ⟨p,xs,rfl,hq,fx,fs,q⟩:=h
 cases ry
 rcases hq with hq | hq
 ·obtain ⟨its,r,pl,hz⟩:=I.list hq
  refine SeqAt.in_listAt (zj x) pl.isList (λw hw=>jF rx fx r fs w (by simpa using hw)) ⟨.bl _,H,I,rfl,?_⟩
  rw [show its.toArray.any (zj x)=its.any (zj x) by simp,mJ r fs]
  exact q
 ·obtain ⟨its,r,pl,hz⟩:=I.tuple hq
  refine SeqAt.in_tupleAt (zj x) pl (λw hw=>jF rx fx r fs w (by simpa using hw)) ⟨.bl _,H,I,rfl,?_⟩
  rw [show its.toArray.any (zj x)=its.any (zj x) by simp,mJ r fs]
  exact q
theorem yr:eX X (compareOp .NotIn) (Vl X.K true):=by
 intro pins s σ H x y v u Q I rx ry h
 obtain ⟨p,xs,rfl,hq,fx,fs,q⟩:=h
 cases ry
 rcases hq with hq | hq
 ·obtain ⟨its,r,pl,hz⟩:=I.list hq
  refine SeqAt.notIn_listAt (zj x) pl.isList (λw hw=>jF rx fx r fs w (by simpa using hw)) ⟨.bl _,H,I,rfl,?_⟩
  rw [show its.toArray.any (zj x)=its.any (zj x) by simp,mJ r fs]
  exact q
 ·obtain ⟨its,r,pl,hz⟩:=I.tuple hq
  refine SeqAt.notIn_tupleAt (zj x) pl (λw hw=>jF rx fx r fs w (by simpa using hw)) ⟨.bl _,H,I,rfl,?_⟩
  rw [show its.toArray.any (zj x)=its.any (zj x) by simp,mJ r fs]
  exact q
theorem xM:bJ X (.builtin "len") (λxs H Q=>∃p ys,xs=[.ref p]∧(dG X.K H p ys∨fo X.K H p ys)∧Q (.int ys.length) H):=by
 intro pins s σ H xs us Q I r h
 obtain ⟨p,ys,rfl,hq,q⟩:=h
 obtain ⟨u,rfl,rx⟩:=vals1 r
 cases rx
 have hn:=oo
 rcases hq with hq | hq
 ·obtain ⟨its,r',pl,hz⟩:=I.list hq
  have hlen:=r'.length
  exact Calls.call_len_list pl.isList (by simp only [VU] <;> omega) ⟨.int ys.length,H,I.tok _,⟨s.toks + 1,by rw [VU,hlen]⟩,q⟩
 ·obtain ⟨its,r',pl,hz⟩:=I.tuple hq
  have hlen:=r'.length
  exact len_tuple pl (by simp only [VU] <;> omega) ⟨.int ys.length,H,I.tok _,⟨s.toks + 1,by rw [VU,hlen]⟩,q⟩
theorem xN:bJ X (.builtin "len") (λxs H Q=>∃z,xs=[.str z]∧z.length≤sizeLine∧Q (.int z.length) H):=by
 intro pins s σ H xs us Q I r h
 obtain ⟨z,rfl,hz,q⟩:=h
 obtain ⟨u,rfl,t,rfl⟩:=vals1 r
 have hn:=oo
 exact len_str (by omega) ⟨.int z.length,H,I.tok _,⟨_,rfl⟩,q⟩
theorem bJ.or {f:Value} {r':List V→Hp→VK→Prop} (h:bJ X f r) (h':bJ X f r'):bJ X f (λxs H Q=>r xs H Q∨r' xs H Q):=by
 intro pins s σ H xs us Q I rs q
 rcases q with q | q
 ·exact h pins s σ H xs us Q I rs q
 ·exact h' pins s σ H xs us Q I rs q
theorem oV:bJ X (.type "list") (λxs H Q=>∃p ys,xs=[.ref p]∧(dG X.K H p ys∨fo X.K H p ys)∧∀l,H l=none→Q (.ref l) (upd H l (.lst ys))):=by
 intro pins s σ H xs us Q I r h
 obtain ⟨p,ys,rfl,hq,q⟩:=h
 obtain ⟨u,rfl,rx⟩:=vals1 r
 cases rx
 have fin:∀(its:List Value),Vals ys its→ys.length≤sizeLine→∀(h':Heap) (c':Nat),(∀b o',s.heap.get? b=some o'→h'.get? b=some o') →
   h'.get? s.heap.objs.size=some { cls:=.type "list",dict:=none,data:=.seq its.toArray c',slots:=#[] }→EP X pins σ Q (.ref s.heap.objs.size) { s with heap:=h' }:=λits r' hz h' c' kp e =>
  ⟨.ref s.heap.objs.size,_,I.laid (t':=s.toks) kp (VT _) (show fq X.prog X.w _ h' _ (.lst ys) from ⟨hz,its,c',r',e⟩),rfl,q _ (I.hok.fresh (VT _))⟩
 rcases hq with hq | hq
 ·obtain ⟨its,r',pl,hz⟩:=I.list hq
  have hlen:=r'.length
  obtain ⟨o,ho,hc,n,hd⟩:=pl.isList
  exact call_list_seq p (.inl rfl) ho hc hd (λh' c' kp e=>fin its r' hz h' c' kp e) (by simp only [VU] <;> omega)
 ·obtain ⟨its,r',pl,hz⟩:=I.tuple hq
  have hlen:=r'.length
  obtain ⟨o,ho,hc,n,hd⟩:=pl
  exact call_list_seq p (.inr rfl) ho hc hd (λh' c' kp e=>fin its r' hz h' c' kp e) (by simp only [VU] <;> omega)
theorem vE:bJ X (.type "tuple") (λxs H Q=>∃p ys,xs=[.ref p]∧((dG X.K H p ys∧∀l,H l=none→Q (.ref l) (upd H l (.tup ys)))∨(fo X.K H p ys∧Q (.ref p) H))):=by
 intro pins s σ H xs us Q I r h
 obtain ⟨p,ys,rfl,h⟩:=h
 obtain ⟨u,rfl,rx⟩:=vals1 r
 cases rx
 rcases h with ⟨hq,q⟩ | ⟨hq,q⟩
 ·obtain ⟨its,r',pl,hz⟩:=I.list hq
  have hlen:=r'.length
  refine call_tuple_list pl.isList (λh' kp=>?_) (by simp only [VU] <;> omega)
  have I1:Inv X pins σ H { s with heap:=h' }:=I.kept (t':=s.toks) kp
  have I2:Inv X pins σ (upd H h'.objs.size (.tup ys)) { s with heap:=h'.push { cls:=.type "tuple",data:=.seq its.toArray } } :=
   I1.laid (t':=s.toks) (λb o e=>VW _ e) (VT _) (show fq X.prog X.w _ _ _ (.tup ys) from ⟨hz,its,r',IsTup.new _ _⟩)
  exact ⟨.ref h'.objs.size,_,I2,rfl,q _ (I1.hok.fresh (VT _))⟩
 ·obtain ⟨its,r',pl,hz⟩:=I.tuple hq
  exact call_tuple_same pl ⟨.ref p,H,I,rfl,q⟩
def SI (K:VL) (T:String) (x:V) (H:Hp):Prop:=match x with
 | .str _=>T="str"
 | .int _=>T="int"
 | .ref p=>(T="list"∧∃xs,dG K H p xs)∨(T="tuple"∧∃o,K.lookup p=some o∧o.cls=.type "tuple"∧o.dict=none) ∨
   (T="dict"∧((∃kvs,H p=some (.dK kvs))∨∃kvs ep,H p=some (.dE kvs ep)))∨(T="set"∧∃S n,H p=some (.set S n))
 | _=>False
theorem Iw {x:V} {v:Value} (I:Inv X pins σ H s) (r:RelV x v) (ty:SI X.K T x H) :
  s.TypeIs v T∧∀a,v=.ref a→∃ob,s.heap.get? a=some ob∧ob.dict=none:=by
 cases x with
 | str z =>
  obtain ⟨t,rfl⟩:=r
  cases (show T="str" from ty)
  exact ⟨typeIs_str s z t,λ_ e=>nomatch e⟩
 | int i =>
  obtain ⟨t,rfl⟩:=r
  cases (show T="int" from ty)
  exact ⟨typeIs_int s i t,λ_ e=>nomatch e⟩
 | ref p =>
  cases r
  rcases ty with ⟨rfl,xs,hq⟩ | ⟨rfl,o,hk,hc,hd⟩ | ⟨rfl,hk⟩ | ⟨rfl,S,n,hk⟩
  ·obtain ⟨its,_,pl,_⟩:=I.list hq
   refine ⟨pl.isList.typeIs,λa e=>?_⟩
   cases e
   obtain ⟨o,n,e,c,hd,_⟩:=pl
   exact ⟨o,e,hd⟩
  ·refine ⟨⟨o,I.wQ p o hk,hc⟩,λa e=>?_⟩
   cases e
   exact ⟨o,I.wQ _ o hk,hd⟩
  ·have z:∃o,s.heap.get? p=some o∧o.ExactDict:=by
    rcases hk with ⟨kvs,hk⟩ | ⟨kvs,ep,hk⟩
    ·obtain ⟨_,_,_,_,o,_,_,e,ex,_⟩:=I.hok p _ hk
     exact ⟨o,e,ex⟩
    ·obtain ⟨_,_,_,_,o,_,e,ex,_⟩:=I.hok p _ hk
     exact ⟨o,e,ex⟩
   obtain ⟨o,e,ex⟩:=z
   refine ⟨⟨o,e,ex.1⟩,λa e2=>?_⟩
   cases e2
   exact ⟨o,e,ex.2.1⟩
  ·obtain ⟨o,_,_,_,e,ex,_⟩:=I.hok p _ hk
   refine ⟨⟨o,e,ex.1⟩,λa e2=>?_⟩
   cases e2
   exact ⟨o,e,ex.2.1⟩
 | _=>exact False.elim ty
def Ud (K:VL) (T:String) (r:V→List V→Hp→VK→Prop) (to:TE):TE:=λσ H Q=>to σ H λx H1=>SI K T x H1∧r x [] H1 Q
def Uc (K:VL) (T:String) (r:V→List V→Hp→VK→Prop) (to:TE) (t:TA):TE:=λσ H Q=>to σ H λx H1=>SI K T x H1∧t σ H1 λxs H2=>r x xs H2 Q
variable {to:TE} {r:L2.V→List L2.V→Hp→VK→Prop} {cpos:Pos} {aa3:String}
theorem NH (pa:PlainAttrs T) (slot:Slot T name aa3) (hty:typeOf (.builtin aa3)=pure (.type "method_descriptor")) (hm:lh X aa3 r) (ho:PE X o to)
  (hbase:attributeBase o name X.env (eval o X.env)=eval o X.env:=by rfl) (hline:(apos.endLine == cpos.line)=true:=by rfl):PE X (.Call (.Attribute o name apos) [] [] cpos) (Ud X.K T r to):=by
 intro pins s σ H Q I h
 refine wpAny_Call_method0_late hbase hline (cn (ho pins s σ H _ I h) λv s1 ⟨x,H1,I1,r1,ty,q1⟩=>?_)
 obtain ⟨h1,h2⟩:=Iw I1 r1 ty
 exact ⟨T,aa3,pa,slot,hty,h1,h2,Calls.callWith_builtin rfl (PySem.evalArgs_none (hm pins s1 σ H1 x [] v [] Q I1 r1 .nil q1))⟩
theorem G1 (pa:PlainAttrs T) (slot:Slot T name aa3) (hty:typeOf (.builtin aa3)=pure (.type "method_descriptor")) (hm:lh X aa3 r) (ho:PE X o to) (ha:PA X (e :: es) t)
  (hbase:attributeBase o name X.env (eval o X.env)=eval o X.env:=by rfl)
  (hfew:((backTo cpos (starEach (e :: es) X.env)).all (λx=>!x.1) && (backToKw cpos (keywordEach [] X.env)).all (λx=>x.1.isSome)
   && decide ((e :: es).length + ([]:List Keyword).length + (if ([]:List Keyword).isEmpty then 0 else 1) < 30))=true:=by rfl)
  (hline:(apos.endLine == cpos.line)=true:=by rfl) (hs:starEach (e :: es) X.env=(false,eval e X.env) :: starEach es X.env:=by rfl) (hplain:(backTo cpos (starEach es X.env)).any (·.1)=false:=by rfl) :
  PE X (.Call (.Attribute o name apos) (e :: es) [] cpos) (Uc X.K T r to t):=by
 intro pins s σ H Q I h
 refine wpAny_Call_method_late hbase hfew hline rfl (cn (ho pins s σ H _ I h) λv s1 ⟨x,H1,I1,r1,ty,q1⟩=>?_)
 obtain ⟨h1,h2⟩:=Iw I1 r1 ty
 refine ⟨T,aa3,pa,slot,hty,h1,h2,?_⟩
 have hA:=ha cpos pins s1 σ H1 _ I1 q1
 rw [hs] at hA ⊢
 refine Calls.callWith_builtin (by show (false || (backTo cpos (starEach es X.env)).any (·.1))=false;rw [hplain] <;> rfl) (Calls.evalArgs_plain ?_)
 exact cn hA λus s2 ⟨vs,H2,I2,r2,q2⟩=>hm pins s2 σ H2 x vs v us Q I2 r1 r2 q2
def US (X:Cx) (id:String) (r:V→List V→Hp→VK→Prop):Prop :=
 ∀(pins:List (Addr × Obj)) (s:Shared) (σ:St) (H:Hp) (x:V) (xs:List V) (v:Value) (us:List Value) (Q:VK),Inv X pins σ H s→RelV x v→Vals xs us→r x xs H Q →
  wpAny (model X.prog X.w) X.A (call (.builtin id) (v :: us)) (EP X pins σ Q) X.xe s
theorem Vals.one {x:V} (r:Vals [x] us):∃u,us=[u]∧RelV x u:=vals1 r
theorem Vals.zero:∀{us:List Value},Vals [] us→us=[]
 | _,.nil=>rfl
theorem Vals.dropLast (h:Vals xs us):Vals xs.dropLast us.dropLast:=by
 induction h with
 | nil=>exact .nil
 | cons r t ih =>
  cases t with
  | nil=>exact .nil
  | cons q t'=>exact .cons r ih
theorem Vals.eraseIdx:∀{xs:List V} {us:List Value} (i:Nat),Vals xs us→Vals (xs.eraseIdx i) (us.eraseIdx i)
 | _,_,_,.nil=>.nil
 | _,_,0,.cons _ t=>t
 | _,_,i + 1,.cons r t=>.cons r (Vals.eraseIdx i t)
theorem Bi {α:Type} (l:List α):l.eraseIdx (l.length - 1)=l.dropLast:=by
 induction l with
 | nil=>rfl
 | cons a r ih =>
  cases r with
  | nil=>rfl
  | cons b r =>
   have e:(a :: b :: r).length - 1=((b :: r).length - 1) + 1:=by
    have h1:(a :: b :: r).length=r.length + 2:=rfl
    have h2:(b :: r).length=r.length + 1:=rfl
    omega
   rw [e,List.eraseIdx_cons_succ,ih]
   all_goals rfl
variable {t':Nat} {l:Addr}
theorem Inv.Jx {its its':List Value} {f:Array Value→Array Value} (I:Inv X pins σ H s) (hH:H l=some (.lst xs))
  (e:s.heap.get? l=some { cls:=.type "list",data:=.seq its.toArray n }) (hf:f its.toArray=its'.toArray) (hv:Vals ys its') (hz:ys.length≤sizeLine) :
  Inv X pins σ (upd H l (.lst ys)) { s with heap:=s.heap.update l (Obj.mapSeq f),toks:=t' }:=by
 have q:=PySem.IsL.update e f
 rw [hf] at q
 refine I.write (x:=l) (e:=l) (by rw [hH];exact trivial) (.inl rfl) (λb' u hb hu=>(YR s.heap (Obj.mapSeq f) (Ne.symm hb)).trans hu) ⟨_,q⟩ ?_
 exact ⟨hz,its',_,hv,q⟩
theorem Inv.Tt {its:List Value} (I:Inv X pins σ H s) (hv:Vals ys its) (hz:ys.length≤sizeLine) :
  Inv X pins σ (upd H s.heap.objs.size (.lst ys)) { s with heap:=s.heap.push { cls:=.type "list",data:=.seq its.toArray },toks:=t' } :=
 I.laid (λ_ _ q=>VW _ q) (VT _) ⟨hz,its,0,hv,Wd _ rfl⟩
theorem Inv.fresh (I:Inv X pins σ H s):H s.heap.objs.size=none:=I.hok.fresh (VT _)
theorem Inv.Jy (I:Inv X pins σ H s) (hH:H l=some (.lst xs)):xs.length≤sizeLine∧∃(its:List Value) (n:Nat),Vals xs its∧xs.length=its.length∧s.heap.get? l=some { cls:=.type "list",data:=.seq its.toArray n }:=by
 obtain ⟨z,its,n,r,e⟩:=I.hok l _ hH
 exact ⟨z,its,n,r,r.length,e⟩
theorem GB (h:n≤sizeLine):Builtin.List.listTooLong n=false:=by
 unfold Builtin.List.listTooLong
 exact decide_eq_false (by omega)
def Kw:V→List V→Hp→VK→Prop:=λx vs H Q=>∃l xs y,x=.ref l∧vs=[y]∧H l=some (.lst xs)∧xs.length < sizeLine∧Q .non (upd H l (.lst (xs ++ [y])))
theorem wX:US X "list.append" Kw:=by
 intro pins s σ H x vs v us Q I rx rv h
 obtain ⟨l,xs,y,rfl,rfl,hH,hz,q⟩:=h
 cases rx
 obtain ⟨u,rfl,ru⟩:=rv.one
 obtain ⟨z,its,n,r,hl,e⟩:=I.Jy hH
 refine call_meets F.slot_list_append ⟨_,e,rfl⟩ F.entry_list_append (F.args_list_append_2 _ _) (PySem.list_append l its.toArray n u (by rw [VU];omega)) ⟨e,?_⟩
 refine ⟨.non,_,I.Jx (its':=its ++ [u]) hH e (by simp) (r.append (.cons ru .nil)) ?_,rfl,q⟩
 rw [VZ,List.length_singleton]
 omega
def T7:V→List V→Hp→VK→Prop:=λx vs H Q=>∃l xs y,x=.ref l∧vs=[]∧H l=some (.lst xs)∧xs[xs.length - 1]?=some y∧Q y (upd H l (.lst xs.dropLast))
theorem Nl:US X "list.pop" T7:=by
 intro pins s σ H x vs v us Q I rx rv h
 obtain ⟨l,xs,y,rfl,rfl,hH,hy,q⟩:=h
 cases rx
 have hus:=rv.zero
 subst hus
 obtain ⟨z,its,n,r,hl,e⟩:=I.Jy hH
 obtain ⟨u,hu,ru⟩:=r.get hy
 have hy':its.toArray[its.toArray.size - 1]?=some u:=by
  show its.toArray[its.length - 1]?=some u
  rw [← Array.getElem?_toList,← hl]
  exact hu
 refine call_meets F.slot_list_pop ⟨_,e,rfl⟩ F.entry_list_pop (F.args_list_pop_1 _) (MeetsSeq.list_pop_last l its.toArray n u hy' (by rw [VU];omega)) ⟨e,?_⟩
 refine ⟨y,_,I.Jx (its':=its.dropLast) hH e ?_ r.dropLast ?_,ru,q⟩
 ·show its.toArray.eraseIdxIfInBounds (its.toArray.size - 1)=its.dropLast.toArray
  rw [VU,List.eraseIdxIfInBounds_toArray,Bi]
 ·rw [Zj]
  omega
namespace Att
open PySem PySem.W PySem.Calls PyProof.Rows
theorem sh {P:Params} {h:Heap}:∀(ns:List Int) (vs:List Value),WellAll P h vs (ns.map WData.int)→IntsAre vs ns:=by
 intro ns
 induction ns with
 | nil =>
  intro vs w
  rw [Wj] at w
  cases w
  exact .nil
 | cons n ns ih =>
  intro vs w
  rw [VR] at w
  cases w with
  | cons a b =>
   cases a
   exact .cons _ _ (ih _ b)
theorem E8 {l:OpenLaw} {n:Nat} (hn:l.most=some n) {P:Params} {h:Heap} {args:List WData} {vals:List Value}
  (hpre:l.row.toRowW.claim.pre args=true) (hwl:WellAll P h vals args) :
  ∃a vs ns,vals=[Value.ref a]∧args=[WData.list (ns.map WData.int)]∧h.get? a=some { cls:=.type "list",data:=.seq vs.toArray }∧IntsAre vs ns∧ns.length≤n:=by
 have hsh:WShape.hasAll [] args [.list .int]=true:=(pre_splitW hpre).1
 have hc:l.pre.holds [] { args:=args }=true:=(pre_splitW hpre).2
 obtain ⟨d,r,rfl,h1,h2⟩:=hasAllW_cons hsh
 obtain rfl:=hasAllW_nil h2
 obtain ⟨xs,rfl,h3⟩:=hasW_list h1
 obtain ⟨ns,rfl⟩:=items_int h3
 have hlen:ns.length≤n:=by
  unfold OpenLaw.pre at hc
  have h4:(WTm.not (.lt (.lit (.int (n:Int))) (.len (.arg 0)))).holds [] { args:=[.list (ns.map .int)] }=true:=by
   have h4:=(holds_andW hc).1
   rw [hn] at h4
   exact h4
  have h5:=condW_of h4 (w_not (w_lt w_lit (w_len_list (w_arg rfl))))
  rw [VM] at h5
  refine Nat.le_of_not_lt λq=>?_
  have q':(n:Int) < ((ns.length:Nat):Int):=by omega
  first
   | (rw [decide_eq_true q'] at h5;exact absurd h5 (by decide))
   | (simp at h5;omega)
 cases hwl with
 | cons w1 w2 =>
  cases w2
  cases w1 with
  | list ho hall=>exact ⟨_,_,ns,rfl,rfl,ho,sh ns _ hall,hlen⟩
theorem E1 (l:OpenLaw) (args:List WData):l.row.toRowW.claim.post args (.bool true) args=true :=
 postW_of (r:=l.row.toRowW) (X:=(true == true))
  (show WShape.has [] (.bool true) .bool=true by first | rfl | decide | simp [WShape.has,WShape.arms,WShape.armsAll])
  (show (WTm.eq .res (.lit (.bool true))).value [] { args:=args,res:=some (.bool true),after:=args }=some (.bool (true == true)) from w_eq_bool (w_res rfl) w_lit) rfl
theorem zw {l:OpenLaw} {n:Nat} {q:Program} {loose:List Str} {XP:(Str→Option Value)→Heap→Prop} {YP:World→Heap→Prop} {d:DefRec}
  (hn:l.most=some n) (hdf:d.params.defaults=[])
  (call:∀(w:World) (s₀ s₁:Shared) (mg mb:Str→Option Value) (fa:Addr) (o:Obj) (pm cd doc:Value) (a:Addr) (vs:List Value) (ns:List Int),
   Ground q loose [] XP w s₀ mg mb s₁.heap→YP w s₁.heap →
   s₁.heap.get? fa=some o→o.data=.func (docDef d.name d.params d.body d.scope pm cd doc)→s₁.heap.CodeRec cd d.name→mg d.name=some (.ref fa) →
   s₁.heap.get? a=some { cls:=.type "list",data:=.seq vs.toArray }→IntsAre vs ns→ns.length≤n→s₁.gens=#[] →
   codeAny (model l.prog w) callerA (.call (.ref fa) ⟨[.ref a],[]⟩) (λr s'=>r=.ok (.ret (.bool true))∧OldK s₁.heap s'.heap∧s'.os=s₁.os∧AllBare s'.gens) s₁) :
  WalkO q loose XP YP l.row.toRowW d [] (λf vs=>PySem.call f vs):=by
 intro w s₀ s₁ mg mb G Y fa o pm cd doc dV kV ho hd hcd hD hmg hg args vals as hpre hlay hrd hwl hlo
 obtain rfl:dV=.none:=Dflts.none hD hdf
 obtain rfl:kV=.none:=Dflts.noKw hD
 obtain ⟨a,vs,ns,rfl,rfl,hobj,hints,hlen⟩:=E8 hn hpre hwl
 refine enter_call (codeAny_mono (call w s₀ s₁ mg mb fa o pm cd doc a vs ns G Y ho (fd_plain hd) hcd hmg hobj hints hlen hg) λr s' hq=>?_)
 obtain ⟨rfl,h2,h3,h4⟩:=hq
 exact ⟨.inl ⟨.bool true,.bool true,[],rfl,λ_=>rfl,.bool true,E1 l _,λ_=>⟨List.Pairwise.nil,λ_ hm=>(nomatch hm)⟩⟩,h2,h3,h4⟩
end Att
theorem xn:∀{vs:List Value} {ns:List Int},IntsAre vs ns→Vals (ns.map V.int) vs
 | _,_,.nil=>.nil
 | _,_,.cons n t h=>.cons ⟨t,rfl⟩ (xn h)
abbrev D8 {h:Heap} (_:K.In h):VL:=K
def inClass (s:Stmt) (j:Nat):Stmt:=match s with
 | .ClassDef _ _ _ body _ _ _ _ _ _ _=>body.getD j (.Pass ⟨0,0,0,0⟩)
 | _=>.Pass ⟨0,0,0,0⟩
def dC (s:Stmt):Arguments:=match s with
 | .FunctionDef _ a _ _ _ _ _ _ _ _=>a
 | _=>{ posonlyargs:=[],args:=[],vararg:=none,kwonlyargs:=[],kw_defaults:=[],kwarg:=none,defaults:=[] }
def bX (s:Stmt):List Stmt:=match s with
 | .FunctionDef _ _ b _ _ _ _ _ _ _=>b
 | _=>[]
def aq (s:Stmt):Scope:=match s with
 | .FunctionDef _ _ _ _ _ _ sc _ _ _=>sc
 | _=>{ kind:=.function,names:=[],isGenerator:=false,isCoroutine:=false }
abbrev OO:nh:=λ_ _ _ _ _ _=>False
abbrev E0:XK:=λ_ _ _=>False
structure bZ (K:VL) (x qual:Str) (st:Stmt) (f:Addr) (fd:FuncData):Prop where
 ex:∃(oc:Value) (od:Option Addr) (kV doc pm:Value) (an:Option Addr) (cdv ct:Value) (osl:Array (Option Value)),
  fd=WD x qual (dC st) (bX st) (aq st) .none kV doc pm an cdv ct∧K.lookup f=some ⟨oc,od,.func fd,osl⟩∧Xp K cdv qual=true
 kp:WL K (.ref f)=true
variable {st:Stmt}
theorem bZ.ok {N:List Str} (F:bZ K x qual st f fd) (S:av N ps (aq st)) (len:∀vs H Q E,sp vs H Q E→vs.length=ps.length)
  (hbody:∀(cdv:Value) (A:Around) (outer:List Env) (s:Shared) (H:Hp) (vs:List V) (Q:VK) (E:XK),bF k (A.deeper (envOfC qual (aq st) s.heap.objs.size f cdv))→sp vs H Q E →
   ∃t,xI (Bf OO P w K mg base N qual (aq st) f cdv A outer s H E).Sw (bX st) t∧t { nx:=λ_ H'=>Q .non H',rt:=Q } (start N vs) H):aK P w K mg base OO (k + 1) f fd ps sp:=by
 obtain ⟨oc,od,kV,doc,pm,an,cdv,ct,osl,rfl,lk,hcd⟩:=F.ex
 refine CP lk hcd S len λA outer s H vs Q E hr hsp=>?_
 obtain ⟨t,h,q⟩:=hbody cdv A outer s H vs Q E hr hsp
 exact ⟨t,h.Sw,q⟩
theorem bZ.binds (F:bZ K x qual st f fd)
  (h:∀(kV doc pm:Value) (an:Option Addr) (cdv ct:Value) (us:List Value),us.length=ps.length→bindArgs (WD x qual (dC st) (bX st) (aq st) .none kV doc pm an cdv ct) ⟨us,[]⟩=pure (ps.zip us)):Binds K fd ps []:=by
 obtain ⟨oc,od,kV,doc,pm,an,cdv,ct,osl,rfl,lk,hcd⟩:=F.ex
 exact .all (h kV doc pm an cdv ct)
theorem xT {oc:Value} {od an:Option Addr} {kV doc pm cdv ct:Value} (l:K.lookup f=some ⟨oc,od,.func (WD x qual (dC st) (bX st) (aq st) .none kV doc pm an cdv ct),osl⟩)
  (c:Xp K cdv qual=true) (k:WL K (.ref f)=true):bZ K x qual st f (WD x qual (dC st) (bX st) (aq st) .none kV doc pm an cdv ct):=⟨⟨oc,od,kV,doc,pm,an,cdv,ct,osl,rfl,l,c⟩,k⟩
theorem ba (h:n≤1000):n < sizeLine:=Wn h (by decide)
theorem pv (i:Nat) (hN:X.N[i]?=some x:=by rfl) (hv:og X.env.scope x:=by first | exact Or.inl rfl | exact Or.inr (Or.inl rfl) | exact Or.inr (Or.inr rfl)) (hd:(x == ("__debug__":Str))=false:=by decide)
  (hcd:(x == ("__classdict__":Str))=false:=by decide):PE X (.Name x pos) (Fc i):=BQ hN hv hd hcd
def cb (H H':Hp):Prop:=∀b o,H b=some o→H' b=some o
theorem cb.trans {H1 H2:Hp} (a:cb H H1) (b:cb H1 H2):cb H H2:=λc o h=>b c o (a c o h)
theorem cb.free {H':Hp} (e:cb H H') (h:H' l=Option.none):H l=Option.none:=by
 cases q:H l with
 | none=>rfl
 | some o =>
  rw [e l o q] at h
  cases h
theorem cb.seq {H':Hp} {a:Addr} (e:cb H H') (h:dG K H a xs):dG K H' a xs:=by
 rcases h with (h | ⟨o,h⟩) | h
 ·exact .inl (.inl (e _ _ h))
 ·exact .inl (.inr ⟨o,e _ _ h⟩)
 ·exact .inr h
theorem zF {a b:Int} (h:b≠0):WE b (a % b)=WE a b:=by
 have e:a=b * (a / b) + a % b:=(Int.mul_ediv_add_emod a b).symm
 have d1:((WE b (a % b):Nat):Int) ∣ a:=by
  rw [e]
  exact Int.dvd_add (Int.dvd_trans (YM ..) (ZN ..)) (by rw [← e];exact X0 ..)
 have d2:((WE a b:Nat):Int) ∣ a % b:=by
  have e2:a % b=a - b * (a / b):=by omega
  rw [e2]
  exact Int.dvd_sub (YM ..) (Int.dvd_trans (X0 ..) (ZN ..))
 exact Nat.dvd_antisymm (Int.dvd_gcd d1 (YM ..)) (Int.dvd_gcd (X0 ..) d2)
theorem CV {a:Int} (h:0≤a):((WE a 0:Nat):Int)=a:=by
 rw [Int.gcd_zero_right];omega
theorem Jq (a b:Int):WE (if a < 0 then -a else a) (if b < 0 then -b else b)=WE a b:=by
 split <;> split <;> simp [Int.gcd_neg,Int.neg_gcd]
theorem FX (a b:Int):WE (if a < 0 then -a else a) b=WE a b:=by
 split <;> simp [Int.gcd_neg,Int.neg_gcd]
theorem CY {t b:Int} (h:b≠0):0 < ((WE t b:Nat):Int):=by
 have:0 < WE t b:=Int.gcd_pos_of_ne_zero_right t h
 omega
theorem MV {t b:Int} (h:b≠0):WE t b≤b.natAbs:=Nat.le_of_dvd (by omega) (Int.ofNat_dvd.mp (by rw [Int.dvd_natAbs];exact X0 ..))
theorem x_ {t b:Int} (h:0 < b):t.fdiv ((WE t b:Nat):Int)=(Wm t b).num:=by
 rw [Rat.num_divInt,Int.sign_eq_one_of_pos h,Int.one_mul,Y0 b t,Wr _ (WY _)]
theorem den_pos {t b:Int} (h:0 < b):b.fdiv ((WE t b:Nat):Int)=((Wm t b).den:Int):=by
 rw [Zn,if_neg (by omega),Y0 b t,Wr _ (WY _)]
 rw [ZZ]
 congr 1
 omega
theorem C_ {t b:Int} (h:b < 0):t.fdiv (-((WE t b:Nat):Int))=(Wm t b).num:=by
 have e:t.fdiv (-((WE t b:Nat):Int))=(-t).fdiv ((WE t b:Nat):Int):=by
  have:=Z0 (a:=-t) (b:=((WE t b:Nat):Int))
  rw [← this];simp
 rw [e,Rat.num_divInt,Int.sign_eq_neg_one_of_neg h,Y0 b t,Wr _ (WY _)]
 congr 1
 omega
theorem Jl {t b:Int} (h:b < 0):b.fdiv (-((WE t b:Nat):Int))=((Wm t b).den:Int):=by
 have e:b.fdiv (-((WE t b:Nat):Int))=(-b).fdiv ((WE t b:Nat):Int):=by
  have:=Z0 (a:=-b) (b:=((WE t b:Nat):Int))
  rw [← this];simp
 rw [e,Zn,if_neg (by omega),Y0 b t,Wr _ (WY _)]
 rw [ZZ]
 congr 1
 omega
theorem C9 (t b:Int):(Wm t b).num.natAbs≤t.natAbs:=by
 rcases ZO b 0 with h | h | h
 ·rw [← C_ h]
  exact Int.natAbs_fdiv_le_natAbs ..
 ·subst h;simp
 ·rw [← x_ h,Wr _ (WY _)]
  exact Int.natAbs_ediv_le_natAbs ..
theorem CI {t b:Int} (h:b≠0):(((Wm t b).den:Int)).natAbs≤b.natAbs:=by
 rw [Zn,if_neg h]
 exact Nat.div_le_self ..
theorem m4 (p:Rat):Wm p.num p.den=p:=ZF p
theorem gw (p:Rat):(p.den:Int)≠0:=by have:=p.den_pos;omega
theorem fu (p:Rat):(0:Int) < p.den:=by have:=p.den_pos;omega
theorem add_eq (p q:Rat):Wm (p.num * q.den + q.num * p.den) (p.den * q.den)=p + q:=by
 rw [← Rat.divInt_add_divInt _ _ (gw p) (gw q),m4,m4]
theorem sub_eq (p q:Rat):Wm (p.num * q.den - q.num * p.den) (p.den * q.den)=p - q:=by
 rw [← Rat.divInt_sub_divInt _ _ (gw p) (gw q),m4,m4]
theorem mul_eq (p:Rat) (m:Int):Wm (p.num * m) p.den=p * m:=by
 have:=Rat.divInt_mul_divInt p.num m (d₁:=p.den) (d₂:=1)
 rw [m4,Int.mul_one] at this
 rw [← this,WV]
 congr 1
 grind
theorem cast_eq (p:Rat):(p.num:Rat)=p * (p.den:Int):=by
 have h:((p.den:Int):Rat)≠0:=by
  intro e
  exact gw p (by exact_mod_cast e)
 have e:=m4 p
 rw [WV] at e
 grind
theorem dU (p:Rat):((p.den:Int):Rat)≠0:=λe=>gw p (by exact_mod_cast e)
theorem Ph (b p m:Rat) (v:Int):Wm (p.num * (m.den * b.den) + v * (m.num * b.den - b.num * m.den) * p.den) (p.den * (m.den * b.den))=p + (m - b) * v:=by
 have h:=dU p
 have g:=dU b
 have k:=dU m
 simp only [WV,XR,Yd,Wk,cast_eq p,cast_eq b,cast_eq m]
 generalize ((p.den:Int):Rat)=d at h ⊢
 generalize ((b.den:Int):Rat)=e at g ⊢
 generalize ((m.den:Int):Rat)=f at k ⊢
 generalize (v:Rat)=v
 grind
theorem lI {n:Int} (h:n≠0):(n:Rat)≠0:=λe=>h (by exact_mod_cast e)
theorem NU (g:Rat) (n:Int) (h:n≠0):Wm g.num (g.den * n)=g / n:=by
 have k:=dU g
 have l:=lI h
 simp only [WV,Wk,cast_eq g]
 generalize ((g.den:Int):Rat)=d at k ⊢
 generalize (n:Rat)=n at l ⊢
 grind
structure Bd (n:Nat) (x:Int):Prop where
 lt:x.natAbs < 2 ^ n
variable {x:Int}
theorem Bd.bits (h:Bd n x):Builtin.Int.intBits x≤n:=intBits_le_iff.mpr h.lt
theorem Bd.of (h:Builtin.Int.intBits x≤n):Bd n x:=⟨intBits_le_iff.mp h⟩
theorem Bd.mono {m:Nat} (h:Bd m x) (hmn:m≤n):Bd n x:=.of (V6 h.bits hmn)
theorem Bd.neg (h:Bd n x):Bd n (-x):=.of (intBits_neg_le h.bits)
theorem Bd.add {m:Nat} {y:Int} (h:Bd m x) (g:Bd n y) (hk:max m n + 1≤k:=by decide):Bd k (x + y):=(Bd.of (intBits_add_le h.bits g.bits)).mono hk
theorem Bd.sub {m:Nat} {y:Int} (h:Bd m x) (g:Bd n y) (hk:max m n + 1≤k:=by decide):Bd k (x - y):=(Bd.of (intBits_sub_le h.bits g.bits)).mono hk
theorem Bd.mul {m:Nat} {y:Int} (h:Bd m x) (g:Bd n y) (hk:m + n≤k:=by decide):Bd k (x * y):=(Bd.of (intBits_mul_le h.bits g.bits)).mono hk
theorem Bd.le {y:Int} (g:Bd n y) (h:x.natAbs≤y.natAbs):Bd n x:=⟨Wn h g.lt⟩
theorem Bd.small (h1:-(2 ^ 64) < x) (h2:x < 2 ^ 64):Bd 64 x:=.of (intBits_le_64 h1 h2)
theorem Bd.log (h:Bd n x) (hn:n≤9000) (h0:x≠0):x.natAbs.log2 < 9000 :=
 V7 ((Nat.log2_lt (by omega)).mpr h.lt) hn
def CM (i j:Int):Prop:=∃m n,Bd m i∧Bd n j∧m + n≤134217728
theorem CM.of {m:Nat} {i j:Int} (h:Bd m i) (g:Bd n j) (hk:m + n≤134217728:=by decide):CM i j:=⟨m,n,h,g,hk⟩
theorem JT:eX X (binaryOp .Mult) (rI CM λi j=>.int (i * j)):=SA λ_ _ _ _ _ _ _ hc q=>by
 obtain ⟨m,n,h,g,hk⟩:=hc
 exact mul_int q (IntMulOk.of_le h.bits g.bits hk)
def CQ (_ j:Int):Prop:=j≠0∧Bd 9000 j
theorem GN:eX X (binaryOp .FloorDiv) (rI CQ λi j=>.int (i.fdiv j)):=SA λ_ _ _ _ _ _ _ hc q =>
 floordiv_int hc.1 q (.inl (PyProof.noPylong_of_log2 (hc.2.log (VT _) hc.1)))
def rT (K:VL) (f:Bool→Bool):R2:=λx y H Q=>∃(p q:Addr) (ns ms:List Int),x=.ref p∧y=.ref q∧fo K H p (ns.map V.int)∧fo K H q (ms.map V.int)∧Q (.bl (f (decide (ns=ms)))) H
theorem eQ {α:Type} (x:α) (xs:List α):c_ (x :: xs) 0=some x:=bM (j:=0) rfl
theorem iJ {α:Type} (x y:α) (xs:List α):c_ (x :: y :: xs) 1=some y:=bM (j:=1) rfl
theorem rF {α:Type} (x y z:α) (xs:List α):c_ (x :: y :: z :: xs) 2=some z:=bM (j:=2) rfl
theorem Pa {α:Type} (x y z u:α) (xs:List α):c_ (x :: y :: z :: u :: xs) 3=some u:=bM (j:=3) rfl
theorem dO {N P:List Str} {sc:Scope} (a:sc.kind=.function:=by rfl) (b:sc.isCoroutine=false:=by rfl) (c:sc.isGenerator=false:=by rfl) (d:N.Nodup:=by decide +kernel) (e:N.take P.length=P:=by rfl) (f:∀x∈P,sc.names.lookup x=some .local∨sc.names.lookup x=some .cell:=by decide +kernel) (g:∀y∈sc.names,y.2≠.free:=by decide +kernel):av N P sc:=⟨a,b,c,d,e,f,g⟩
def Def (K:VL) (mg:Str→Option Value) (x:Str) (st:Stmt):Prop:=∃f fd,bZ K x x st f fd∧mg x=some (.ref f)
variable {x:Str}
theorem MK {h:Heap} (X:K.In h) (G:h.Ns mainGlobals mg) {od an:Option Addr} {sl:Array (Option Value)} {oc kV dc pm cd ct:Value}
  (a:WA K mainGlobals x=some (some (.ref f))) (l:K.lookup f=some ⟨oc,od,.func (WD x x (dC st) (bX st) (aq st) .none kV dc pm an cd ct),sl⟩) (c:Xp K cd x=true) (k:WL K (.ref f)=true) :
  Def K mg x st:=⟨f,_,xT l c k,Wy X G a⟩
theorem M9 {fa:Addr} {p:Str} (D:Def K mg "law" st) (hfa:mg "law"=some (.ref fa))
  (hb:∀(kV doc pm:Value) (an:Option Addr) (cdv ct:Value) (u:Value),bindArgs (WD "law" "law" (dC st) (bX st) (aq st) .none kV doc pm an cdv ct) ⟨[u],[]⟩=pure [(p,u)]) :
  ∃fd,bZ K "law" "law" st fa fd∧∀(s:Shared) (u:Value),BindsTo s fd ⟨[u],[]⟩ [(p,u)]:=by
 obtain ⟨f,fd,F,m⟩:=D
 have e:=m.symm.trans hfa
 cases e
 obtain ⟨oc,od,kV,doc,pm,an,cdv,ct,osl,rfl,lk,hcd⟩:=F.ex
 exact ⟨_,F,λs u=>.of_eq (hb kV doc pm an cdv ct u)⟩
structure Vo (mg:Str→Option Value):Prop where
 abs:mg "abs"=none
 len:mg "len"=none
 isinstance:mg "isinstance"=none
 range:mg "range"=none
 int:mg "int"=none
 bool:mg "bool"=none
 tuple:mg "tuple"=none
 list:mg "list"=none
 sorted:mg "sorted"=none
 all:mg "all"=none
theorem _root_.L2.cb.tup {H':Hp} {a:Addr} (e:cb H H') (h:fo K H a xs):fo K H' a xs:=by
 rcases h with (h | ⟨o,h⟩) | h
 ·exact .inl (.inl (e _ _ h))
 ·exact .inl (.inr ⟨o,e _ _ h⟩)
 ·exact .inr h
theorem _root_.L2.cb.new (h:H p=none) (o:HO):cb H (upd H p o):=λb u q=>by rw [aI (cO q h)];exact q
def VJ (K:VL) (H:Hp) (a:Addr) (q:Rat):Prop:=fo K H a [.int q.num,.int q.den]
structure Sz (n:Nat) (q:Rat):Prop where
 num:Bd n q.num
 den:Bd n q.den
theorem Sz.mono {m:Nat} {q:Rat} (h:Sz m q) (k:m≤n):Sz n q:=⟨h.num.mono k,h.den.mono k⟩
theorem KH (x y:Rat):(x.num=y.num∧(x.den:Int)=(y.den:Int))=(x=y):=propext
 ⟨λh=>Rat.ext h.1 (by have:=h.2;omega),λh=>by subst h;exact ⟨rfl,rfl⟩⟩
theorem lK (c:Str→NameKind→Bool):∀(names:List (Str × NameKind)) (y:Str),
  (names.map λ(x:Str × NameKind)=>if c x.1 x.2 then (x.1,NameKind.cell) else (x.1,x.2)).lookup y=(names.lookup y).map λk=>if c y k then NameKind.cell else k
 | [],_=>rfl
 | (n,k) :: r,y=>by
  have ih:=lK c r y
  cases hy:y == n with
  | true =>
   have e:y=n:=by simpa using hy
   subst e
   by_cases h:c y k=true <;> simp [Wo,h]
  | false =>
   by_cases h:c n k=true <;> simp [Wo,h,hy,ih]
theorem l_ (sc:Scope) (env:Env) (y:Str):(relabel sc env).names.lookup y=(sc.names.lookup y).map λk=>if (k == .free && env.scope.kind == .function && env.kindOf y == some .cell) then NameKind.cell else k:=by
 have h:=lK (λn k=>k == .free && env.scope.kind == .function && env.kindOf n == some .cell) sc.names y
 exact h
theorem oh {env:Env}:∀(names:List (Str × NameKind)) (acc:List (Str × Addr)),(∀y∈names,y.2=.free→∃c,env.cells.lookup y.1=some c)→(∀y c,acc.lookup y=some c→env.cells.lookup y=some c) →
  ∃cl,(forIn names acc λ(x:Str × NameKind) (r:List (Str × Addr))=>match x with
   | (name,kind)=>if (kind == NameKind.free)=true then (do let c ← cellOf env name;pure (ForInStep.yield ((name,c) :: r))) else (pure (ForInStep.yield r):Sem (ForInStep (List (Str × Addr)))))=(pure cl:Sem (List (Str × Addr))) ∧
   (∀y c,cl.lookup y=some c→env.cells.lookup y=some c)∧(∀y c,acc.lookup y=some c→∃c,cl.lookup y=some c)∧∀y∈names,y.2=.free→∃c,cl.lookup y.1=some c
 | [],acc,_,ha=>⟨acc,rfl,ha,λy c e=>⟨c,e⟩,λy hy=>by cases hy⟩
 | (n,k) :: r,acc,hn,ha=>by
  by_cases hk:k=.free
  ·subst hk
   obtain ⟨c,hc⟩:=hn (n,.free) V9 rfl
   obtain ⟨cl,e,h1,h2,h3⟩:=oh r ((n,c) :: acc) (λy hy=>hn y (V5 _ hy)) (λy d e=>by
    rw [Wo] at e
    cases hy:y == n with
    | true =>
     rw [hy] at e
     have e1:y=n:=by simpa using hy
     subst e1
     rw [hc]
     exact e
    | false=>rw [hy] at e;exact ha y d e)
   have self:∃d,cl.lookup n=some d:=h2 n c (by simp [Wo])
   refine ⟨cl,?_,h1,λy d q=>?_,λy hy hf=>?_⟩
   ·rw [Z8]
    have ec:cellOf env n=pure c:=by unfold cellOf;rw [hc]
    simp only [beq_self_eq_true,if_true,ec,pure_bind]
    exact e
   ·by_cases hy:y=n
    ·subst hy;exact self
    ·exact h2 y d (by rw [List.lookup_cons];have:(y == n)=false:=by simpa using hy
                      rw [this];exact q)
   ·rcases V2.mp hy with rfl | hy
    ·exact self
    ·exact h3 y hy hf
  ·obtain ⟨cl,e,h1,h2,h3⟩:=oh r acc (λy hy=>hn y (V5 _ hy)) ha
   refine ⟨cl,?_,h1,h2,λy hy hf=>?_⟩
   ·rw [Z8]
    have hb:(k == NameKind.free)=false:=by simpa using hk
    simp only [hb,We,if_false,pure_bind]
    exact e
   ·rcases V2.mp hy with rfl | hy
    ·exact absurd hf hk
    ·exact h3 y hy hf
theorem gT {sc:Scope} (h:∀y∈sc.names,y.2=.free→∃c,env.cells.lookup y.1=some c) :
  ∃cl,closureFor sc env=pure cl∧(∀y c,cl.lookup y=some c→env.cells.lookup y=some c)∧∀y∈sc.names,y.2=.free→∃c,cl.lookup y.1=some c:=by
 obtain ⟨cl,e,h1,_,h3⟩:=oh sc.names [] h (λy c z=>by cases z)
 refine ⟨cl,?_,h1,h3⟩
 unfold closureFor
 have e':=congrArg (λm=>m >>= λr=>(pure r:Sem (List (Str × Addr)))) e
 simp only [pure_bind] at e'
 exact e'
abbrev dy (sc osc:Scope) (N:List Str) (x:Str) (ks:List (Str × Nat)):Prop :=
 sc.kind=.function∧(∀y∈sc.names,y.2≠.cell)∧sc.names.lookup x=some .local∧(∀y∈sc.names,y.2=.local→sc.names.lookup y.1=some .local) ∧
 (∀y∈sc.names,y.2=.free→osc.names.lookup y.1=some .cell)∧(∀p∈ks,N[p.2]?=some p.1∧sc.names.lookup p.1=some .free)∧(x :: ks.map (·.1)).Nodup
def gJ (X:Cx) (sc:Scope) (cl:List (Str × Addr)) (C:Addr) (x:Str) (ks:List (Str × Nat)) (s₀:Shared) (H₀:Hp) (fp:List Addr) (pins:List (Addr × Obj)):Cx :=
 { X with N:=x :: ks.map (·.1),s₀:=s₀,H₀:=H₀,env:=compEnvC sc cl C X.env,outer:=X.stack,ex:=fp,fn:=λ_=>false,pn:=X.pn ++ pins,xe:=λ_ _=>False }
def fW (ks:List (Str × Nat)) (σ:St):St:=ks.map λp=>(σ[p.2]?).getD none
theorem aaG {α β:Type} (f:α→β) (l:List α) (i:Nat):(l.map f)[i]?=(l[i]?).map f:=VS
variable {fp:List Addr} {aa4:Scope} {cl:List (Str × Addr)} {ks:List (Str × Nat)}
theorem zK (I:Inv X pins σ H s) (ok:dy aa4 X.env.scope X.N x ks) (h1:∀y c,cl.lookup y=some c→X.env.cells.lookup y=some c) (h2:∀y∈aa4.names,y.2=.free→∃c,cl.lookup y.1=some c)
  (hfp:∀b∈fp,n0 X pins H b∧∃o,s.heap.get? b=some o) {h4:Heap} {m:Str→Option Value} (hn:h4.Ns s.heap.objs.size m) (kp:∀b o,s.heap.get? b=some o→h4.get? b=some o) :
  Inv (gJ X aa4 cl s.heap.objs.size x ks s H fp pins) [] (none :: fW ks σ) H { s with heap:=h4,toks:=t' }:=by
 obtain ⟨kd,nc,lx,ll,fr,kk,nd⟩:=ok
 have fresh:H s.heap.objs.size=none:=I.hok.fresh (VT _)
 have lt:∀b o,s.heap.get? b=some o→b≠s.heap.objs.size:=λb o e=>Wf (V4 e)
 have cellLt:∀y c,X.env.cells.lookup y=some c→c≠s.heap.objs.size:=λy c e=>by
  obtain ⟨v,o,ho,_⟩:=I.cell y c e
  exact lt c o ho
 have sub:∀b∈kT X.stack,b=X.env.locals∨b∈X.fs:=λb hb=>V2.mp (I.rh b hb)
 have kof:∀y,(compEnvC aa4 cl s.heap.objs.size X.env).kindOf y=(relabel aa4 X.env).names.lookup y:=λy=>rfl
 have ok':(gJ X aa4 cl s.heap.objs.size x ks s H fp pins).Ok:={
  mod:=I.ok.mod
  kind:=kd
  glob:=I.ok.glob
  blt:=I.ok.blt
  above:=VT _
  inj:=λy z c e1 e2=>I.ok.inj y z c (h1 y c e1) (h1 z c e2)
  has:=λy hy=>by
   rw [show (gJ X aa4 cl s.heap.objs.size x ks s H fp pins).env.kindOf y=_ from kof y,l_] at hy
   cases e:aa4.names.lookup y with
   | none=>rw [e] at hy;rcases hy with z | z <;> cases z
   | some k =>
    have hm:(y,k)∈aa4.names:=by
     have:=YJ.mp e
     obtain ⟨l1,l2,q,_⟩:=this
     rw [q]
     simp
    by_cases hk:k=.free
    ·subst hk;exact h2 _ hm rfl
    ·have hb:(k == NameKind.free)=false:=by simpa using hk
     rw [e] at hy
     simp only [Xu,hb,X3,We,if_false] at hy
     rcases hy with z | z
     ·exact absurd (Option.some.inj z) (nc _ hm)
     ·exact absurd (Option.some.inj z) hk
  cab:=λ_ _ z=>by cases z
  hd:=λz=>I.ok.hd z
  frames:=I.ok.frames
  stk:=.inl rfl
  exf:=λb hb=>⟨lt b _ (hfp b hb).2.choose_spec,λy c e=>(hfp b hb).1.2.2.2.2.1 y c (h1 y c e)⟩
  bs:=λb o e=>I.bs b o e
  bsz:=V6 I.ok.bsz I.sz
  noex:=λb o e hb=>by
   rcases (hfp b hb).1.2.2.2.1 with z | z
   ·exact I.ok.noex b o e z
   ·exact absurd (V7 (V4 e) (V6 I.ok.bsz z)) (Xc _)
  exfs:=λb hb z=>by
   rcases sub b z with e | e
   ·exact (hfp b hb).1.2.1 e
   ·exact (hfp b hb).1.2.2.1 e
  oj:=I.stack
  frf:=I.ze }
 obtain ⟨mX,hnX,hlX⟩:=I.loc
 refine ⟨ok',rfl,I.bare,Un.kept kp,⟨m,hn,λi y v e1 e2 e3=>?_⟩,λy c e=>?_,fresh,λy c e=>I.freeC y c (h1 y c e),λp hp=>?_,I.hok.kept kp,by simp [gJ,fW]⟩
 ·cases i with
  | zero =>
   rw [XS] at e2
   cases e2
  | succ i =>
   have e1':(ks.map (·.1))[i]?=some y:=by simpa [gJ] using e1
   rw [Xk] at e2
   unfold fW at e2
   rw [VS] at e1' e2
   cases ep:ks[i]? with
   | none=>rw [ep] at e1';cases e1'
   | some p =>
    rw [ep] at e1' e2
    have ey:p.1=y:=Option.some.inj e1'
    have ev:(σ[p.2]?).getD none=some v:=Option.some.inj e2
    obtain ⟨kN,kf⟩:=kk p (V0 ep)
    have es:σ[p.2]?=some (some v):=by
     cases q:σ[p.2]? with
     | none=>rw [q] at ev;cases ev
     | some w=>rw [q] at ev;exact congrArg some ev
    have hm:(p.1,NameKind.free)∈aa4.names:=by
     obtain ⟨l1,l2,q,_⟩:=YJ.mp kf
     rw [q]
     simp
    have oc:X.env.scope.names.lookup p.1=some .cell:=fr _ hm rfl
    obtain ⟨u,ru,lu⟩:=hlX p.2 p.1 v kN es (.inr (.inl oc))
    refine ⟨u,ru,.inr ⟨.inl ?_,?_⟩⟩
    ·rw [show (gJ X aa4 cl s.heap.objs.size x ks s H fp pins).env.kindOf y=_ from kof y,l_,← ey,kf]
     have k1:X.env.kindOf p.1=some .cell:=oc
     simp [I.ok.kind,k1]
    ·obtain ⟨c,hc⟩:=h2 _ hm rfl
     have hc:cl.lookup p.1=some c:=hc
     rcases lu with ⟨z,_⟩ | ⟨_,c',hc',z⟩
     ·have z':X.env.scope.names.lookup p.1=some .local:=z
      rw [oc] at z';cases z'
     ·have:=h1 _ _ hc
      rw [hc'] at this
      cases this
      obtain ⟨o,ho,hd⟩:=z
      exact ⟨_,by rw [← ey];exact hc,o,kp _ _ ho,hd⟩
 ·obtain ⟨v,o,ho,hd⟩:=I.cell y c (h1 y c e)
  exact ⟨v,o,kp _ _ ho,hd⟩
 ·rw [WX] at hp
  obtain ⟨a1,a2,a3,a4,a5⟩:=I.pin p hp
  refine ⟨kp _ _ a1,a2,lt _ _ a1,λz=>?_,a5⟩
  rcases sub p.1 z with e | e
  ·exact a3 e
  ·exact a4 e
def IH (X:Cx) (ifs:List Expr) (t:TT):Prop :=
 ∀(pins:List (Addr × Obj)) (s:Shared) (σ:St) (H:Hp) (Q:Bool→Hp→Prop),Inv X pins σ H s→t σ H Q →
  wpAny (model X.prog X.w) X.A (forIn ifs true λc r=>if r=true then do let ok ← isTrue c X.env (eval c X.env);pure (ForInStep.yield ok) else pure (ForInStep.yield r)) (TP X pins σ Q) X.xe s
theorem yJ:IH X [] (λ_ H Q=>Q true H):=λpins s σ H Q I h=>by rw [List.forIn_nil];exact wpAny_pure ⟨H,I,h⟩
theorem Dm {c:Expr} {t:TT} (h:PT X c t):IH X [c] t:=λpins s σ H Q I q=>wpAny_tests_one (h pins s σ H Q I q)
variable {R:Result→Shared→Prop} {px:Pos} {iter:Expr} {ifs:List Expr}
theorem EC {elt:Expr} {sc:Scope} {it acc:Value} (I:Nat→Shared→Prop)
  (turn:∀n s,I n s→wpAny (model prog w) A (pyNext it) (λr s₁=>match r with
   | none=>R (.ok .next) s₁
   | some v=>wpAny (model prog w) A (letOwnedTupleGo (.Name x px) it v) (λ_ s₂=>wpAny (model prog w) A (assign (.Name x px) env v) (λ_ s₃=>wpAny (model prog w) A (forIn ifs true λc r=>if r=true then do let ok ← isTrue c env (eval c env);pure (ForInStep.yield ok) else pure (ForInStep.yield r)) (λok s₃=>if ok=true then wpAny (model prog w) A (eval elt env) (λy s₄ =>
     wpAny (model prog w) A (call (.builtin "list.append") [acc,y]) (λ_ s₅=>∃m,m < n∧I m s₅) (λ_ _=>False) s₄) (λ_ _=>False) s₃ else ∃m,m < n∧I m s₃) (λ_ _=>False) s₃) (λ_ _=>False) s₂) (λ_ _=>False) s₁) (λ_ _=>False) s)
  (n:Nat) (h:I n s):codeAny (model prog w) A (.compLoop (.ListComp elt [⟨.Name x px,iter,ifs,0⟩] sc pos) 0 it acc env) R s:=by
 refine codeAny_loop rfl I (λn s hI=>?_) n h
 show wpAny _ _ ((compTurn (.ListComp elt [⟨.Name x px,iter,ifs,0⟩] sc pos) 0 it acc env).onRaise (λx=>do noteFrame x env;theTreesLotGoes x)) _ _ s
 refine wpAny_noted ?_
 rw [compTurn_list]
 have no:∀(e:Value) (s':Shared),False→notedBy (model prog w) A env (λe s'=>R (.error e) s') e s':=λ_ _ z=>z.elim
 refine wpAny_bind (wpAny_standAt (wpAny_bind (wpAny_mono (turn n s hI) (λr s₁ h₁=>?_) no)))
 cases r with
 | none=>exact wpAny_pure h₁
 | some v =>
  refine wpAny_bind (wpAny_mono h₁ (λ_ s₂ h₂=>?_) no)
  refine wpAny_bind (wpAny_mono h₂ (λ_ s₃ h₃=>wpAny_bind (wpAny_mono h₃ (λok s₃' h₃'=>?_) no)) no)
  cases ok with
  | false=>exact wpAny_pure ⟨rfl,h₃'⟩
  | true =>
   exact wpAny_bind (wpAny_bind (wpAny_mono h₃' (λy s₄ h₄=>wpAny_bind (wpAny_mono h₄ (λ_ s₅ h₅=>wpAny_pure (wpAny_pure ⟨rfl,h₅⟩)) no)) no))
def Oi (wi:TI) (ks:List (Str × Nat)) (tc:TT) (te:TE):TE:=λσ H Q=>wi σ H λJ H1=>∀D,H1 D=none→∃W:Nat→Nat→Hp→Prop,(∃m,W 0 m (upd H1 D (.lst []))) ∧
 ∀i m H2,W i m H2→(J.stop i H2∧Q (.ref D) H2)∨(J.go i H2∧∀v H3,J.yld i H2 v H3→tc (some v :: fW ks σ) H3 λb H4=>if b=true then te (some v :: fW ks σ) H4 λy H5=>∃ys,H5 D=some (.lst ys)∧ys.length < sizeLine∧∃m',m' < m∧W (i + 1) m' (upd H5 D (.lst (ys ++ [y]))) else ∃m',m' < m∧W (i + 1) m' H4)
variable {tc:TT}
theorem Am {elt:Expr} {sc:Scope} {it:Addr} {tn:Nat→Heap→Prop} {J:It}
  {RR:Value→Addr→Result→Shared→Prop} {E:Value→Shared→Prop}
  (hc:X.calm=true) (ok:dy sc X.env.scope X.N x ks) (h1:∀y c,cl.lookup y=some c→X.env.cells.lookup y=some c) (h2:∀y∈sc.names,y.2=.free→∃c,cl.lookup y.1=some c)
  (he:∀cl C s₀ H₀ fp pins,PE (gJ X sc cl C x ks s₀ H₀ fp pins) elt te) (hcn:∀cl C s₀ H₀ fp pins,IH (gJ X sc cl C x ks s₀ H₀ fp pins) ifs tc)
  (I:Inv X pins σ H s) (T:Turn X.prog X.w X.K (.Name x px) J fp it tn) (st:tn 0 s.heap) (f:∀b∈fp,n0 X pins H b)
  (hw:∀D,H D=none→∃W:Nat→Nat→Hp→Prop,(∃m,W 0 m (upd H D (.lst [])))∧∀i m H2,W i m H2→(J.stop i H2∧Q (.ref D) H2) ∨
   (J.go i H2∧∀v H3,J.yld i H2 v H3→tc (some v :: fW ks σ) H3 λb H4=>if b=true then te (some v :: fW ks σ) H4 λy H5=>∃ys,H5 D=some (.lst ys)∧ys.length < sizeLine∧∃m',m' < m∧W (i + 1) m' (upd H5 D (.lst (ys ++ [y]))) else ∃m',m' < m∧W (i + 1) m' H4))
  (hR:∀(D C:Addr) (s':Shared) (H':Hp) (m:Str→Option Value),Inv X pins σ H' s'→Q (.ref D) H'→s'.heap.Ns C m→H' C=none→C≠X.env.locals→X.s₀.heap.objs.size≤C→(∀y c,X.env.cells.lookup y=some c→c≠C)→(∀p∈X.pn ++ pins,p.1≠C)→RR (.ref D) C (.ok .next) s') :
  wpAny (model X.prog X.w) X.A (newList []) (λacc s₃=>wpAny (model X.prog X.w) X.A (newFunctionEnv sc X.env.globals cl [] X.env.qual none .none (some X.env)) (λcenv s₄ =>
   codeAny (model X.prog X.w) X.A (.compStart (.ListComp elt [⟨.Name x px,iter,ifs,0⟩] sc pos) 0 (.ref it) acc { cenv with scope:=relabel sc X.env }) (RR acc cenv.locals) s₄) E s₃) E s:=by
 have okk:=ok
 obtain ⟨kd,nc,lx,ll,fr,kk,nd⟩:=okk
 have hD0:H s.heap.objs.size=none:=I.hok.fresh (VT _)
 obtain ⟨W,⟨m0,w0⟩,turn⟩:=hw s.heap.objs.size hD0
 refine wpAny_newObj_type ?_
 have I3:Inv X pins σ (upd H s.heap.objs.size (.lst [])) { s with heap:=s.heap.push { cls:=.type "list",dict:=none,data:=.seq ([]:List Value).toArray } } :=
  I.laid (t':=s.toks) (λb u e=>VW _ e) (VT _) (show fq X.prog X.w _ _ _ (.lst []) from ⟨Ww _,[],0,.nil,Wd _ rfl⟩)
 have st3:tn 0 (s.heap.push { cls:=.type "list",dict:=none,data:=.seq ([]:List Value).toArray }):=T.keep 0 _ _ st λb hb o e=>VW _ e
 generalize hD:s.heap.objs.size=D at *
 generalize hH:upd H D (.lst [])=H3 at *
 generalize hs3:({ s with heap:=s.heap.push { cls:=.type "list",dict:=none,data:=.seq ([]:List Value).toArray } }:Shared)=s3 at *
 have e3:s.heap.push { cls:=.type "list",dict:=none,data:=.seq ([]:List Value).toArray }=s3.heap:=by rw [← hs3]
 rw [e3] at st3
 have fD:∀b∈fp,b≠D:=λb hb z=>by
  obtain ⟨o,ho,_⟩:=T.obj 0 _ st b hb
  have:=V4 ho
  rw [z,← hD] at this
  exact Xc _ this
 have f3:∀b∈fp,n0 X pins H3 b:=λb hb=>⟨by rw [← hH,aI (fD b hb)];exact (f b hb).1,(f b hb).2⟩
 have g3:∀b∈fp,∃o,s3.heap.get? b=some o:=λb hb=>by
  obtain ⟨o,ho,_⟩:=T.obj 0 _ st3 b hb
  exact ⟨o,ho⟩
 refine wpAny_newFunctionEnv nc (by intro y hy;simp at hy) (λh₁ hns hsb=>?_) kd
 have kp:∀b o,s3.heap.get? b=some o→h₁.get? b=some o:=λb o e=>hsb.extBut b o (Wf (V4 e)) (VW _ e)
 have J0:=zK (fp:=fp) (cl:=cl) (t':=s3.toks + ([]:List (Str × Value)).length) I3 ok h1 h2 (λb hb=>⟨f3 b hb,g3 b hb⟩) hns kp
 have st4:tn 0 h₁:=T.keep 0 _ _ st3 λb hb o e=>kp b o e
 have ltC:∀b o,s3.heap.get? b=some o→b≠s3.heap.objs.size:=λb o e=>Wf (V4 e)
 have cC:∀y c,X.env.cells.lookup y=some c→c≠s3.heap.objs.size:=λy c e=>by
  obtain ⟨v,o,ho,_⟩:=I3.cell y c e
  exact ltC c o ho
 have pC:∀p∈X.pn ++ pins,p.1≠s3.heap.objs.size:=λp hp=>ltC _ _ (I3.pin p hp).1
 have lC:s3.heap.objs.size≠X.env.locals:=Yn I3.lt
 have fX:∀{H':Hp},(∀b∈fp,H' b=none)→∀b∈fp,n0 (gJ X sc cl s3.heap.objs.size x ks s3 H3 fp pins) [] H' b:=λhn b hb=>by
  obtain ⟨o,ho⟩:=g3 b hb
  obtain ⟨_,q1,q2,q3,q4,q5⟩:=f b hb
  refine ⟨hn b hb,ltC b o ho,λz=>?_,.inl hb,λy c e=>q4 y c (h1 y c e),λp hp=>q5 p (by simpa [gJ] using hp)⟩
  rcases V2.mp (I3.rh b z) with e | e
  ·exact q1 e
  ·exact q2 e
 have back:∀{o:Option V} {H':Hp} {s':Shared},Inv (gJ X sc cl s3.heap.objs.size x ks s3 H3 fp pins) [] (o :: fW ks σ) H' s'→Inv X pins σ H' s':=λ{o H' s'} J=>by
  obtain ⟨hh,g,d,t,os'⟩:=s'
  obtain rfl:os'=s3.os:=J.os
  exact I3.call (h':=hh) (g':=g) (d':=d) (t':=t) (ch:=fp) J.base J.hok J.bare λb hb=>⟨(f b hb).2.2.2.1,(f b hb).2.1,(f b hb).2.2.2.2.1,(f b hb).2.2.2.2.2⟩
 have lookX:(relabel sc X.env).names.lookup x=some .local:=lookup_relabel_local lx
 have loop:∀s',(∃(i:Nat) (o:Option V) (H':Hp),Inv (gJ X sc cl s3.heap.objs.size x ks s3 H3 fp pins) [] (o :: fW ks σ) H' s'∧tn i s'.heap∧(∀b∈fp,H' b=none)∧W i m0 H') →
   codeAny (model X.prog X.w) X.A (.compLoop (.ListComp elt [⟨.Name x px,iter,ifs,0⟩] sc pos) 0 (.ref it) (.ref D) (compEnvC sc cl s3.heap.objs.size X.env)) (RR (.ref D) s3.heap.objs.size) s':=by
  intro s' hs'
  refine EC (λn s'=>∃(i:Nat) (o:Option V) (H':Hp),Inv (gJ X sc cl s3.heap.objs.size x ks s3 H3 fp pins) [] (o :: fW ks σ) H' s'∧tn i s'.heap∧(∀b∈fp,H' b=none)∧W i n H') ?_ m0 hs'
  rintro n s5 ⟨i,o,H5,J5,t5,n5,w5⟩
  rcases turn i n H5 w5 with ⟨stop,hq⟩ | ⟨go,step⟩
  ·refine cn (T.done (gJ X sc cl s3.heap.objs.size x ks s3 H3 fp pins) rfl rfl rfl hc i [] s5 _ H5 _ J5 (fX n5) t5 stop) λr s6 ⟨hr,J6⟩=>?_
   subst hr
   obtain ⟨m,hm,_⟩:=J6.loc
   exact hR D _ s6 H5 m (back J6) hq hm J6.free lC I3.sz cC pC
  ·refine cn (T.item (gJ X sc cl s3.heap.objs.size x ks s3 H3 fp pins) rfl rfl rfl hc i [] s5 _ H5 _ J5 (fX n5) t5 go) λr s6 ⟨u,hr,h6⟩=>?_
   subst hr
   refine cn h6 λ_ s7 ⟨v,H7,J7,r7,y7,t7,n7⟩=>?_
   have J7':=J7.pinned (fX n7) (T.obj _ _ t7)
   refine wpAny_assign_Name (gr (X:=gJ X sc cl s3.heap.objs.size x ks s3 H3 fp pins) (i:=0) J7' nd rfl (.inl lookX) r7 (λs8 J8=>?_) (.inr lookX))
   refine cn (hcn cl s3.heap.objs.size s3 H3 fp pins _ s8 _ H7 _ J8 (step v H7 y7)) λok s8' ⟨H8,J8',q8⟩=>?_
   cases ok with
   | false =>
    simp only [We,if_false] at q8 ⊢
    obtain ⟨m',hm,w'⟩:=q8
    refine ⟨m',hm,i + 1,_,_,J8'.iC,?_,?_,w'⟩
    ·exact T.keep _ _ _ t7 λb hb o e=>(J8'.pin (b,o) (V1 _ (V1 _ (dg hb e)))).1
    ·intro b hb
     obtain ⟨o,e,d⟩:=T.obj _ _ t7 b hb
     exact (J8'.pin (b,o) (V1 _ (V1 _ (dg hb e)))).2.1
   | true =>
    simp only [if_true] at q8 ⊢
    refine cn (he cl s3.heap.objs.size s3 H3 fp pins _ s8' _ H8 _ J8' q8) λy s9 ⟨vy,H9,J9,r9,ys,hys,hz,m',hm,w'⟩=>?_
    refine cn (wX (X:=gJ X sc cl s3.heap.objs.size x ks s3 H3 fp pins) _ s9 _ H9 (.ref D) [vy] (.ref D) [y] (λ_ H'=>H'=upd H9 D (.lst (ys ++ [vy]))) J9 rfl (.cons r9 .nil) ⟨D,ys,vy,rfl,rfl,hys,hz,rfl⟩) λ_ s10 ⟨_,H10,J10,_,eH⟩=>?_
    subst eH
    refine ⟨m',hm,i + 1,_,_,J10.iC,?_,?_,w'⟩
    ·exact T.keep _ _ _ t7 λb hb o e=>(J10.pin (b,o) (V1 _ (V1 _ (dg hb e)))).1
    ·intro b hb
     obtain ⟨o,e,d⟩:=T.obj _ _ t7 b hb
     exact (J10.pin (b,o) (V1 _ (V1 _ (dg hb e)))).2.1
 have l0:=loop _ ⟨0,none,H3,J0,st4,λb hb=>(f3 b hb).1,w0⟩
 exact codeAny_compStart_list l0 (T.self _ 0 _ _ _ st4 l0)
theorem pz {sc osc:Scope} {N:List Str} (ok:dy sc osc N x ks) (I:Inv X pins σ H s) (ho:X.env.scope=osc):∀y∈sc.names,y.2=.free→∃c,X.env.cells.lookup y.1=some c:=λy hy hf =>
 I.ok.has y.1 (.inl (by show X.env.scope.names.lookup y.1=some .cell;rw [ho];exact ok.2.2.2.2.1 y hy hf))
variable {wi:TI}
theorem NJ {elt:Expr} {sc:Scope} (osc:Scope) (N:List Str) (ks:List (Str × Nat)) (hc:X.calm=true) (ho:X.env.scope=osc) (hN:X.N=N) (hi:PI X (.Name x px) iter wi)
  (he:∀cl C s₀ H₀ fp pins,PE (gJ X sc cl C x ks s₀ H₀ fp pins) elt te) (hcn:∀cl C s₀ H₀ fp pins,IH (gJ X sc cl C x ks s₀ H₀ fp pins) ifs tc) (ok:dy sc osc N x ks:=by decide +kernel) (hs:∀x,foldedSetIterable iter X.env x=pure x:=by intro _;rfl) :
  PE X (.ListComp elt [⟨.Name x px,iter,ifs,0⟩] sc pos) (Oi wi ks tc te):=by
 intro pins s σ H Q I hw
 obtain ⟨cl,hcl,h1,h2⟩:=gT (pz ok I ho)
 have ok':dy sc X.env.scope X.N x ks:=by rw [ho,hN];exact ok
 rw [eval_ListComp]
 refine wpAny_comprehension_free (use:=none) rfl hs hcl ok.1 ok.2.2.2.1 (cn (hi pins s σ H _ I hw) λv s1 h3=>cn h3 λitv s2 h4=>?_)
 obtain ⟨it,fp,tn,J,H2,rfl,I2,T,st2,f2,hR⟩:=h4
 refine Am (RR:=λacc C=>compPost (model X.prog X.w) X.A X.xe none (EP X pins σ Q) acc C) hc ok' h1 h2 he hcn I2 T st2 f2 hR ?_
 intro D C s' H' m J' q hn hC cl' cs cc cp
 refine ⟨m,hn,λh' hsb=>⟨.ref D,H',?_,rfl,q⟩⟩
 exact J'.turned (t':=s'.toks) (it:=C) (λb o ne e=>hsb.extBut b o ne e) hC cl' (.inr cs) cc cp
def RV (wi:TI) (ks:List (Str × Nat)) (tc:TT) (te:TE) (i:Nat):TS:=λD σ H=>Oi wi ks tc te σ H λv H1=>D.nx (σ.set i (some v)) H1
theorem Hf {elt:Expr} {y:Str} {py:Pos} {sc:Scope} {spos:Pos} {i:Nat} (osc:Scope) (N:List Str) (ks:List (Str × Nat)) (hc:X.calm=true) (ho:X.env.scope=osc) (hN:X.N=N) (hnd:X.N.Nodup) (hy:X.N[i]?=some y) (hl:Loc X.env.scope y)
  (hi:PI X (.Name x px) iter wi) (he:∀cl C s₀ H₀ fp pins,PE (gJ X sc cl C x ks s₀ H₀ fp pins) elt te) (hcn:∀cl C s₀ H₀ fp pins,IH (gJ X sc cl C x ks s₀ H₀ fp pins) ifs tc) (ok:dy sc osc N x ks:=by decide +kernel) (hs:∀x,foldedSetIterable iter X.env x=pure x:=by intro _;rfl)
  (hsw:swapsWith (.ListComp elt [⟨.Name x px,iter,ifs,0⟩] sc pos) (some (.Name y py)) spos.line X.env=pure true:=by rfl) (hf:X.fn y=true∨X.env.scope.names.lookup y=some .local:=by first | exact .inl rfl | exact .inr rfl | assumption) :
  PS X (.Assign [.Name y py] (.ListComp elt [⟨.Name x px,iter,ifs,0⟩] sc pos) spos) (RV wi ks tc te i):=by
 intro pins s σ H Dn I hw
 obtain ⟨cl,hcl,h1,h2⟩:=gT (pz ok I ho)
 have ok':dy sc X.env.scope X.N x ks:=by rw [ho,hN];exact ok
 rw [exec_Assign_Name_used _ _ _ _ hsw]
 refine wpAny_bind (wpAny_standAt (wpAny_bind ?_))
 show wpAny _ X.A (do let _ ← comprehension (.ListComp elt [⟨.Name x px,iter,ifs,0⟩] sc pos) sc X.env _ (newList []) false (eval iter X.env) (some (assign (.Name y py) X.env))) _ _ s
 refine wpAny_bind (wpAny_mono (wpAny_comprehension_free (use:=some (assign (.Name y py) X.env)) (Q:=λ_ s'=>SP X pins Dn .next s') rfl hs hcl ok.1 ok.2.2.2.1
  (cn (hi pins s σ H _ I hw) λv s1 h3=>cn h3 λitv s2 h4=>?_)) (λ_ s' hq=>wpAny_pure (wpAny_pure hq)) λ_ _ e=>e)
 obtain ⟨it,fp,tn,J,H2,rfl,I2,T,st2,f2,hR⟩:=h4
 refine Am (Q:=λv H1=>Dn.nx (σ.set i (some v)) H1) (RR:=λacc C=>compPost (model X.prog X.w) X.A X.xe (some (assign (.Name y py) X.env)) (λ_ s'=>SP X pins Dn .next s') acc C) hc ok' h1 h2 he hcn I2 T st2 f2 hR ?_
 intro D C s' H' m J' q hn hC cl' cs cc cp
 show wpAny _ X.A (assign (.Name y py) X.env (.ref D)) _ _ _
 refine wpAny_assign_Name (rj J' hnd hy hl (v:=.ref D) rfl (λs'' J'' ⟨a,hsb,ha⟩=>?_) hf)
 refine ⟨m,hn.sameBut hsb (λz=>?_),λh' hsb'=>⟨_,H',?_,q⟩⟩
 ·rcases ha with e | e
  ·exact cl' (z.trans e)
  ·exact cc _ _ e z.symm
 ·exact J''.turned (t':=s''.toks) (it:=C) (λb o ne e=>hsb'.extBut b o ne e) hC cl' (.inr cs) cc cp
def SF (wi:TI) (ks:List (Str × Nat)) (te:TE):TE:=λσ H Q=>wi σ H λJ H1=>∀D,H1 D=none→∃W:Nat→Nat→Hp→Prop,(∃m,W 0 m (upd H1 D (.lst []))) ∧
 ∀i m H2,W i m H2→(J.stop i H2∧Q (.ref D) H2)∨(J.go i H2∧∀v H3,J.yld i H2 v H3→te (some v :: fW ks σ) H3 λy H4=>∃ys,H4 D=some (.lst ys)∧ys.length < sizeLine∧∃m',m' < m∧W (i + 1) m' (upd H4 D (.lst (ys ++ [y]))))
theorem QJ {elt:Expr} {sc:Scope} (osc:Scope) (N:List Str) (ks:List (Str × Nat)) (hc:X.calm=true) (ho:X.env.scope=osc) (hN:X.N=N) (hi:PI X (.Name x px) iter wi)
  (he:∀cl C s₀ H₀ fp pins,PE (gJ X sc cl C x ks s₀ H₀ fp pins) elt te) (ok:dy sc osc N x ks:=by decide +kernel) (hs:∀x,foldedSetIterable iter X.env x=pure x:=by intro _;rfl) :
  PE X (.ListComp elt [⟨.Name x px,iter,[],0⟩] sc pos) (SF wi ks te):=λpins s σ H Q I hw=>NJ osc N ks hc ho hN hi he (λ_ _ _ _ _ _=>yJ) ok hs pins s σ H Q I hw
def Uj (wi:TI) (ks:List (Str × Nat)) (te:TE) (i:Nat):TS:=λD σ H=>SF wi ks te σ H λv H1=>D.nx (σ.set i (some v)) H1
theorem QN {elt:Expr} {y:Str} {py:Pos} {sc:Scope} {spos:Pos} {i:Nat} (osc:Scope) (N:List Str) (ks:List (Str × Nat)) (hc:X.calm=true) (ho:X.env.scope=osc) (hN:X.N=N) (hnd:X.N.Nodup) (hy:X.N[i]?=some y) (hl:Loc X.env.scope y)
  (hi:PI X (.Name x px) iter wi) (he:∀cl C s₀ H₀ fp pins,PE (gJ X sc cl C x ks s₀ H₀ fp pins) elt te) (ok:dy sc osc N x ks:=by decide +kernel) (hs:∀x,foldedSetIterable iter X.env x=pure x:=by intro _;rfl)
  (hsw:swapsWith (.ListComp elt [⟨.Name x px,iter,[],0⟩] sc pos) (some (.Name y py)) spos.line X.env=pure true:=by rfl) (hf:X.fn y=true∨X.env.scope.names.lookup y=some .local:=by first | exact .inl rfl | exact .inr rfl | assumption) :
  PS X (.Assign [.Name y py] (.ListComp elt [⟨.Name x px,iter,[],0⟩] sc pos) spos) (Uj wi ks te i):=λpins s σ H D I hw=>Hf osc N ks hc ho hN hnd hy hl hi he (λ_ _ _ _ _ _=>yJ) ok hs hsw hf pins s σ H D I hw
def one (c:Nat):Str:=⟨#[c]⟩
theorem wO:∀(cs:List Nat) (acc:Array Nat),(cs.map one).foldl (λacc (p:Str)=>acc ++ (Str.ofString "").cps ++ p.cps) acc=acc ++ cs.toArray
 | [],acc=>by simp
 | c :: cs,acc=>by
  have e:(Str.ofString "").cps=#[]:=by decide +kernel
  rw [VR,XT,wO cs]
  rw [e]
  show (acc ++ #[] ++ #[c]) ++ cs.toArray=_
  simp
theorem join_ones (cs:List Nat):Txt.join (Str.ofString "") (cs.map one)=⟨cs.toArray⟩:=by
 unfold Txt.join Builtin.Str.glued
 cases cs with
 | nil=>rfl
 | cons c cs =>
  simp only [VR,List.drop_succ_cons,Yw,List.headD_cons]
  rw [wO]
  show (⟨#[c] ++ cs.toArray⟩:Str)=_
  simp
theorem kF:∀{ys:List Str} {us:List Value},Vals (ys.map V.str) us→StrsAre us ys
 | [],_,.nil=>.nil
 | y :: ys,_,.cons r rr=>by
  obtain ⟨t,rfl⟩:=r
  exact .cons y t (kF rr)
def rJoin (K:VL):V→List V→Hp→VK→Prop:=λx vs H Q=>∃z p ys,x=.str z∧vs=[.ref p]∧dG K H p (ys.map V.str)∧(ys.map (·.length)).sum + ys.length * z.length≤16777216∧Q (.str (Txt.join z ys)) H
theorem JF:lh X "str.join" (rJoin X.K):=by
 intro pins s σ H x vs v us Q I rx rv h
 obtain ⟨z,p,ys,rfl,rfl,hp,hz,q⟩:=h
 obtain ⟨t,rfl⟩:=rx
 obtain ⟨u,rfl,ru⟩:=vals1 rv
 cases ru
 obtain ⟨its,r,pl,_⟩:=I.list hp
 exact join_list pl.isList (by simpa using kF r) hz λt' k=>⟨.str _,H,I.tok _,⟨_,rfl⟩,q⟩
end
section
def Bc:Expr→Option V
 | .Constant (.int i) _ _=>some (.int i)
 | .Constant (.str x) _ _=>some (.str x)
 | .Constant (.bool b) _ _=>some (.bl b)
 | _=>none
theorem z9 {X:Cx}:∀{es:List Expr} (vs:List V),es.map Bc=vs.map some→PA X es (λ_ H Q=>Q vs H)
 | [],[],_=>λ_ _ _ _ H Q I h=>Calls.spliced_nil ⟨[],H,I,.nil,h⟩
 | [],_ :: _,h=>by cases h
 | _ :: _,[],h=>by cases h
 | e :: es,v :: vs,h=>by
  rw [VR,VR] at h
  injection h with h1 h2
  have ih:=z9 (X:=X) (es:=es) vs h2
  have hs:starEach (e :: es) X.env=(false,eval e X.env) :: starEach es X.env:=by
   cases e <;> first | rfl | cases h1
  have he:PE X e (tC v):=by
   cases e with
   | Constant c j pos =>
    cases c with
    | int i=>cases h1;exact yw
    | str x=>cases h1;exact uk
    | bool b=>cases h1;exact Df
    | _=>cases h1
   | _=>cases h1
  exact λpos pins s σ H Q I hq=>aZ he ih hs pos pins s σ H Q I hq
structure QE (X:Cx) (e:Expr) (t:TE):Prop where
 run:PE X e t
structure QT (X:Cx) (e:Expr) (t:TT):Prop where
 run:PT X e t
structure QW (X:Cx) (e:Expr) (t:TT):Prop where
 run:PW X e t
structure QA (X:Cx) (es:List Expr) (t:TA):Prop where
 run:PA X es t
structure QS (X:Cx) (st:Stmt) (t:TS):Prop where
 run:PS X st t
structure QB (X:Cx) (st:List Stmt) (t:TS):Prop where
 run:xI X st t
structure QG (X:Cx) (e:Expr) (t:TG):Prop where
 run:PG X e t
structure Si (X:Cx) (es:List Expr) (t:lj):Prop where
 run:Lf X es t
structure QI (X:Cx) (tg e:Expr) (t:TI):Prop where
 run:PI X tg e t
structure QO (X:Cx) (e:Option Expr) (t:TO):Prop where
 run:PO X e t
variable {x:Str} {X:Cx} {pos:Pos}
theorem aaS (i:Nat) (hN:X.N[i]?=some x:=by rfl) (hv:og X.env.scope x:=by first | exact Or.inl rfl | exact Or.inr (Or.inl rfl) | exact Or.inr (Or.inr rfl)) (hd:(x == ("__debug__":Str))=false:=by decide)
  (hcd:(x == ("__classdict__":Str))=false:=by decide):QE X (.Name x pos) (Fc i):=⟨BQ hN hv hd hcd⟩
variable {j:Nat}
theorem ky {i:Int} {j pos}:QE X (.Constant (.int i) j pos) (tC (.int i)):=⟨yw⟩
theorem xv {b:Bool} {j pos}:QE X (.Constant (.bool b) j pos) (tC (.bl b)):=⟨Df⟩
theorem yk {j pos}:QE X (.Constant .none j pos) (tC .non):=⟨BN⟩
theorem T' {j pos}:QE X (.Constant (.str x) j pos) (tC (.str x)):=⟨uk⟩
theorem Zl {v:V} {u:Value} (hg:Gl X x) (hm:X.mg x=some u) (r:RelV v u) (hd:(x == ("__debug__":Str))=false:=by decide):QE X (.Name x pos) (tC v):=⟨eD hg hm r hd⟩
theorem ZM {v:V} {u:Value} (hg:Gl X x) (hm:X.mg x=none) (hv:bootBuiltins x=some u) (r:RelV v u) (hn:x≠"__name__":=by decide) (hd:(x == ("__debug__":Str))=false:=by decide):QE X (.Name x pos) (tC v):=⟨yu hg hm hv r hn hd⟩
variable {a b:Expr} {ta tb:TE} {r:R2}
theorem aaC {op:Operator} (ho:eX X (binaryOp op) r) (ha:QE X a ta) (hb:QE X b tb):QE X (.BinOp a op b pos) (IJ r ta tb):=⟨G9 ho ha.run hb.run⟩
theorem aaD {op:UnaryOp} {r:V→Hp→VK→Prop} (ho:p9 X (unaryOp op) r) (ha:QE X a ta):QE X (.UnaryOp op a pos) (Um r ta):=⟨Ha ho ha.run⟩
theorem aaE {op:CmpOp} (ho:eX X (compareOp op) r) (ha:QE X a ta) (hb:QE X b tb) (hm:behindInMarks op b=false):QE X (.Compare a [op] [b] pos) (IJ r ta tb):=⟨yv ho ha.run hb.run hm⟩
theorem aaF {op:CmpOp} (ho:eX X (compareOp op) r) (ha:QE X a ta) (hb:QE X b tb) (hm:behindInMarks op b=false):QT X (.Compare a [op] [b] pos) (Ip (IJ r ta tb)):=⟨yI ho ha.run hb.run hm⟩
theorem aad {op} (h:QE X a ta):QE X (.BoolOp op [a] pos) ta:=⟨BO h.run⟩
variable {aa5:List Expr}
theorem aae (ha:QE X a ta) (hb:QE X (.BoolOp .And (b :: aa5) pos) tb):QE X (.BoolOp .And (a :: b :: aa5) pos) (Ie ta tb):=⟨BM ha.run hb.run⟩
theorem aaf (ha:QE X a ta) (hb:QE X (.BoolOp .Or (b :: aa5) pos) tb):QE X (.BoolOp .Or (a :: b :: aa5) pos) (Om ta tb):=⟨G_ ha.run hb.run⟩
variable {tA:TT}
theorem aac (ha:QT X a tA):QT X (.UnaryOp .Not a pos) (Ol tA):=⟨B1 ha.run⟩
theorem Z4 (ha:QT X a tA):QW X (.BoolOp .And [a] pos) tA:=⟨yL ha.run⟩
theorem Z5 (ha:QT X a tA):QW X (.BoolOp .Or [a] pos) tA:=⟨B6 ha.run⟩
variable {tB':TT}
theorem Z7 (ha:QT X a tA) (hb:QW X (.BoolOp .And (b :: aa5) pos) tB'):QW X (.BoolOp .And (a :: b :: aa5) pos) (K1 tA tB'):=⟨B5 ha.run hb.run⟩
theorem aab (ha:QT X a tA) (hb:QW X (.BoolOp .Or (b :: aa5) pos) tB'):QW X (.BoolOp .Or (a :: b :: aa5) pos) (SG tA tB'):=⟨Hi ha.run hb.run⟩
variable {e:Expr} {te:TE}
theorem Z1 (h:QE X e te) (he:∀whole,isTrue e X.env whole=(do let v ← whole;standAt e.pos;holding [v] (truthy v)):=by intro _;rfl):QT X e (tB te):=⟨B2 h.run he⟩
variable {c:Expr}
theorem aag (hc:QT X c tA) (ha:QE X a ta) (hb:QE X b tb):QE X (.IfExp c a b pos) (Ui tA ta tb):=⟨uh hc.run ha.run hb.run⟩
theorem aaH:QA X [] zf:=⟨e_⟩
variable {t:TA} {es:List Expr}
theorem aaI (ha:QE X e te) (hr:QA X es t) (hs:starEach (e :: es) X.env=(false,eval e X.env) :: starEach es X.env:=by rfl):QA X (e :: es) (gu te t):=⟨aZ ha.run hr.run hs⟩
theorem aaJ {x1} (h:QA X es t):QE X (.Tuple es x1 pos) (Ow t):=⟨BP h.run⟩
theorem aaK (h:QA X es t):QE X (.List es pos) (Ii t):=⟨ui h.run⟩
theorem aaQ (hr:mG X r) (ha:QE X a ta) (hb:QE X b tb) (hs:bL b):QE X (.Subscript a b pos) (IJ r ta tb):=⟨G6 hr ha.run hb.run hs⟩
theorem aaN:QO X none zg:=⟨yC⟩
theorem aaO (h:QE X e te):QO X (some e) (Im te):=⟨yD h.run⟩
variable {p2:Pos}
theorem aaP {lo hi:Option Expr} {tl th:TO} {r:V→Option Int→Option Int→Hp→VK→Prop} (hr:nC X r) (he:QE X e te) (hl:QO X lo tl) (hu:QO X hi th):QE X (.Subscript e (.Slice lo hi none p2) pos) (Uk r te tl th):=⟨uj hr he.run hl.run hu.run⟩
variable {p:Pos} {r:List L2.V→Hp→VK→Prop}
theorem aaL {id:String} (hc:bJ X (.builtin id) r) (hg:Gl X x) (hm:X.mg x=none) (hv:bootBuiltins x=some (.builtin id)) (ha:QA X (e :: es) t) (hn:x≠"__name__":=by decide) (hdb:(x == ("__debug__":Str))=false:=by decide)
  (he:starEach (e :: es) X.env=(false,eval e X.env) :: starEach es X.env:=by rfl) (hpl:(backTo pos (starEach es X.env)).any (·.1)=false:=by rfl):QE X (.Call (.Name x p) (e :: es) [] pos) (Mh r t):=⟨cX hc hg hm hv ha.run hn hdb he hpl⟩
theorem aaM {T:String} (hc:bJ X (.type T) r) (hg:Gl X x) (hm:X.mg x=none) (hv:bootBuiltins x=some (.type T)) (ha:QA X (e :: es) t) (hn:x≠"__name__":=by decide) (hdb:(x == ("__debug__":Str))=false:=by decide)
  (he:starEach (e :: es) X.env=(false,eval e X.env) :: starEach es X.env:=by rfl) (hpl:(backTo pos (starEach es X.env)).any (·.1)=false:=by rfl):QE X (.Call (.Name x p) (e :: es) [] pos) (Mh r t):=⟨qG hc hg hm hv ha.run hn hdb he hpl⟩
variable {o:Expr} {to:TE} {apos cpos:Pos}
theorem aaR {name:Str} {T id:String} {r:V→List V→Hp→VK→Prop} (pa:PlainAttrs T) (slot:Slot T name id) (hty:typeOf (.builtin id)=pure (.type "method_descriptor")) (hm:lh X id r) (ho:QE X o to) (ha:QA X (e :: es) t)
  (hbase:attributeBase o name X.env (eval o X.env)=eval o X.env:=by rfl)
  (hfew:((backTo cpos (starEach (e :: es) X.env)).all (λx=>!x.1) && (backToKw cpos (keywordEach [] X.env)).all (λx=>x.1.isSome)
   && decide ((e :: es).length + ([]:List Keyword).length + (if ([]:List Keyword).isEmpty then 0 else 1) < 30))=true:=by rfl)
  (hline:(apos.endLine == cpos.line)=true:=by rfl) (hs:starEach (e :: es) X.env=(false,eval e X.env) :: starEach es X.env:=by rfl) (hplain:(backTo cpos (starEach es X.env)).any (·.1)=false:=by rfl) :
  QE X (.Call (.Attribute o name apos) (e :: es) [] cpos) (Uc X.K T r to t):=⟨G1 pa slot hty hm ho.run ha.run hbase hfew hline hs hplain⟩
theorem aah:QB X [] Il:=⟨yH⟩
variable {u t:TS} {st:Stmt} {aa6:List Stmt}
theorem aai (h1:QS X st t) (h2:QB X aa6 u):QB X (st :: aa6) (Ou t u):=⟨pN h1.run h2.run⟩
theorem aaj (h1:QS X st t):QB X [st] t:=⟨sM h1.run⟩
theorem aak (he:QE X e te) (hs:swapsWith e none pos.line X.env=pure false:=by rfl):QS X (.Expr e pos) (Ih te):=⟨yE he.run hs⟩
theorem aal (he:QE X e te):QS X (.Return (some e) pos) (Ot te):=⟨B0 he.run⟩
theorem aam:QS X (.Return none pos) Io:=⟨yF⟩
theorem aan {a b:List Stmt} {tc:TT} (hc:QT X c tc) (ha:QB X a t) (hb:QB X b u):QS X (.If c a b pos) (Oh tc t u):=⟨He hc.run ha.run hb.run⟩
variable {body:List Stmt}
theorem aaw {tc:TT} {tb:TS} (hp:PassesOwn (model X.prog X.w) X.A X.env X.xe) (hc:QT X c tc) (hb:QB X body tb):QS X (.While c body [] pos) (Cn tc tb):=⟨uu hp hc.run hb.run⟩
variable {i:Nat}
theorem aao (hN:X.N.Nodup) (hi:X.N[i]?=some x) (hx:Loc X.env.scope x) (hf:X.fn x=true∨X.env.scope.names.lookup x=some .local:=by first | exact .inl rfl | exact .inr rfl | assumption):QG X (.Name x pos) (tO i):=⟨yx hN hi hx hf⟩
theorem aap:Si X [] MS:=⟨yy⟩
theorem aaq {t:TG} {u:lj} (h1:QG X e t) (h2:Si X es u)
  (hs:(assignEach (e :: es) X.env).map (·.2)=assign e X.env :: (assignEach es X.env).map (·.2):=by rfl):Si X (e :: es) (FW t u):=⟨um h1.run h2.run hs⟩
variable {k:Nat}
theorem aar {t:lj} {n:Nat} (hc:X.calm=true) (h:Si X es t)
  (hn:(assignEach es X.env).length=n:=by rfl) (hst:(assignEach es X.env).findIdx? (·.1)=none:=by rfl):QG X (.Tuple es k pos) (MU X.K n t):=⟨BS hc h.run hn hst⟩
theorem aas {i:Expr} {ti:TE} {t:fI} (ho:QE X o to) (hi:QE X i ti) (hs:fH X t)
  (ha:∀v,assign (.Subscript o i pos) X.env v=(do
   let ov ← holding [v] (eval o X.env)
   let iv ← holding [v,ov] (eval i X.env)
   standAt pos
   holding [v,ov,iv] (setItem ov iv v)
   release [v,ov,iv] []):=by intro _;rfl):QG X (.Subscript o i pos) (MT to ti t):=⟨BR ho.run hi.run hs ha⟩
variable {tg:Expr} {g:TG}
theorem aat (he:QE X e te) (hg:QG X tg g) (hs:swapsWithSole [tg] e pos.line X.env=pure false:=by rfl) (hw:swappedStores [tg] e X.env=pure none:=by rfl)
  (h1:(assignEach [tg] X.env).map (·.2)=[assign tg X.env]:=by rfl):QS X (.Assign [tg] e pos) (Cm te g):=⟨BX he.run hg.run hs hw h1⟩
theorem aau {pos':Pos} (hN:X.N.Nodup) (hi:X.N[i]?=some x) (hx:Loc X.env.scope x) (he:QE X e te) (hs:swapsWith e (some (.Name x pos')) pos.line X.env=pure false:=by rfl) (hf:X.fn x=true∨X.env.scope.names.lookup x=some .local:=by first | exact .inl rfl | exact .inr rfl | assumption) :
  QS X (.Assign [.Name x pos'] e pos) (Cm te (tO i)):=⟨yG hN hi hx he.run hs hf⟩
variable {ta:TA}
theorem aav {y:Str} {px py pt:Pos} {kt k2 pt2} (hc:X.calm=true) (hN:X.N.Nodup) (hi:X.N[i]?=some x) (hj:X.N[j]?=some y) (hij:i≠j)
  (hx:X.env.scope.names.lookup x=some .local) (hy:X.env.scope.names.lookup y=some .local) (ha:QA X [a,b] ta)
  (hw:swappedStores [.Tuple [.Name x px,.Name y py] kt pt] (.Tuple [a,b] k2 pt2) X.env=pure (some [x,y]))
  (hs:swapsWithSole [.Tuple [.Name x px,.Name y py] kt pt] (.Tuple [a,b] k2 pt2) pos.line X.env=pure false:=by rfl) :
  QS X (.Assign [.Tuple [.Name x px,.Name y py] kt pt] (.Tuple [a,b] k2 pt2) pos) (Oo i j ta):=⟨BZ hc hN hi hj hij hx hy ha.run hw hs⟩
theorem aax {l:Expr} {tl:TE} (hl:QE X l tl):QI X tg l (F2 X.K tl):=⟨yz hl.run⟩
theorem aay {l:Expr} {tl:TE} (hl:QE X l tl):QI X tg l (MW X.K tl):=⟨BU hl.run⟩
theorem aaz (hg:Gl X "range") (hm:X.mg "range"=none) (ha:QA X [a] ta) (hs:starEach [a] X.env=[(false,eval a X.env)]:=by rfl):QI X tg (.Call (.Name "range" p) [a] [] pos) (F3 ta):=⟨qH hg hm ha.run hs⟩
theorem aaA (hg:Gl X "range") (hm:X.mg "range"=none) (ha:QA X [a,b] ta) (hs:starEach [a,b] X.env=[(false,eval a X.env),(false,eval b X.env)]:=by rfl) (hs2:starEach [b] X.env=[(false,eval b X.env)]:=by rfl) :
  QI X tg (.Call (.Name "range" p) [a,b] [] pos) (F4 ta):=⟨qJ hg hm ha.run hs hs2⟩
theorem aaB {iter:Expr} {wi:TI} {tb:TS} (hp:PassesOwn (model X.prog X.w) X.A X.env X.xe) (hc:X.calm=true) (hi:QI X tg iter wi) (hg:QG X tg g) (hb:QB X body tb)
  (hs:∀x,foldedSetIterable iter X.env x=pure x:=by intro _;rfl):QS X (.For tg iter body [] pos) (Og wi g tb):=⟨BY hp hc hi.run hg.run hb.run hs⟩
def rL (K:VL) (f:Bool→Bool):R2:=λx y H Q=>∃(p q:Addr) (ns ms:List Int),x=.ref p∧y=.ref q∧dG K H p (ns.map V.int)∧dG K H q (ms.map V.int)∧Q (.bl (f (decide (ns=ms)))) H
inductive Py where
 | non | bl (b:Bool) | int (i:Int) | str (x:Str) | tup (xs:List Py) | lst (xs:List Py)
mutual
def At (K:VL) (H:Hp):Py→V→Prop
 | .non,v=>v=.non
 | .bl b,v=>v=.bl b
 | .int i,v=>v=.int i
 | .str x,v=>v=.str x
 | .tup xs,v=>∃a vs,v=.ref a∧fo K H a vs∧sW K H xs vs
 | .lst xs,v=>∃a vs,v=.ref a∧dG K H a vs∧sW K H xs vs
def sW (K:VL) (H:Hp):List Py→List V→Prop
 | [],vs=>vs=[]
 | x :: xs,vs=>∃v us,vs=v :: us∧At K H x v∧sW K H xs us
end
mutual
def gK:Py→Py→Bool
 | .non,.non=>true
 | .bl a,.bl b=>a == b
 | .int a,.int b=>a == b
 | .bl a,.int b=>(if a then 1 else 0) == b
 | .int a,.bl b=>a == (if b then 1 else 0)
 | .str a,.str b=>a == b
 | .tup xs,.tup ys=>lA xs ys
 | .lst xs,.lst ys=>lA xs ys
 | _,_=>false
def lA:List Py→List Py→Bool
 | [],[]=>true
 | x :: xs,y :: ys=>gK x y && lA xs ys
 | _,_=>false
end
mutual
def dep:Py→Nat
 | .tup xs=>dN xs + 1
 | .lst xs=>dN xs + 1
 | _=>0
def dN:List Py→Nat
 | []=>0
 | x :: xs=>max (dep x) (dN xs)
end
mutual
theorem zE:∀x:Py,gK x x=true
 | .non=>rfl
 | .bl b=>by simp [gK]
 | .int b=>by simp [gK]
 | .str b=>by simp [gK]
 | .tup xs=>by simpa [gK] using qw xs
 | .lst xs=>by simpa [gK] using qw xs
theorem qw:∀xs:List Py,lA xs xs=true
 | []=>rfl
 | x :: xs=>by simp [lA,zE x,qw xs]
end
mutual
theorem At.same {K:VL} {H H':Hp} (e:cb H H'):∀{x:Py} {v:V},At K H x v→At K H' x v
 | .non,_,h=>h
 | .bl _,_,h=>h
 | .int _,_,h=>h
 | .str _,_,h=>h
 | .tup xs,_,⟨a,vs,e1,h,k⟩=>⟨a,vs,e1,e.tup h,sW.same e k⟩
 | .lst xs,_,⟨a,vs,e1,h,k⟩=>⟨a,vs,e1,e.seq h,sW.same e k⟩
theorem sW.same {K:VL} {H H':Hp} (e:cb H H'):∀{xs:List Py} {vs:List V},sW K H xs vs→sW K H' xs vs
 | [],_,h=>h
 | _ :: _,_,⟨v,us,e1,h,k⟩=>⟨v,us,e1,At.same e h,sW.same e k⟩
end
theorem sW.length {K:VL} {H:Hp}:∀{xs:List Py} {vs:List V},sW K H xs vs→xs.length=vs.length
 | [],_,h=>by cases h;rfl
 | _ :: xs,_,⟨v,us,e1,_,k⟩=>by subst e1;simp [sW.length k]
def Ef (xs ys:List Py) (j:Nat):Bool:=match xs[j]?,ys[j]? with
 | some x,some y=>gK x y
 | _,_=>false
theorem jU:∀(xs ys:List Py),((WM (min xs.length ys.length)).all (Ef xs ys) && (xs.length == ys.length))=lA xs ys
 | [],[]=>rfl
 | [],_ :: _=>by simp [lA]
 | _ :: _,[]=>by simp [lA]
 | x :: xs,y :: ys=>by
  have ih:=jU xs ys
  rw [V_,V_,Nat.succ_min_succ,List.range_succ_eq_map,ZE,List.all_map]
  have e1:(Ef (x :: xs) (y :: ys) ∘ Nat.succ)=Ef xs ys:=by
   funext j
   simp [Ef]
  have e2:(xs.length + 1 == ys.length + 1)=(xs.length == ys.length):=by
   rw [Y1]
   simp
  rw [e1,e2,Bool.and_assoc,ih]
  simp [Ef,lA]
variable {H:Hp} {pins:List (Addr × Obj)} {σ:St} {s:Shared}
mutual
theorem At.one (I:Inv X pins σ H s):∀{x y:Py} {v:V},At X.K H x v→At X.K H y v→gK x y=true
 | .non,y,v,h,k=>by cases h;cases y <;> simp_all [At,gK]
 | .bl b,y,v,h,k=>by cases h;cases y <;> simp_all [At,gK]
 | .int b,y,v,h,k=>by cases h;cases y <;> simp_all [At,gK]
 | .str b,y,v,h,k=>by cases h;cases y <;> simp_all [At,gK]
 | .tup xs,y,v,h,k=>by
  obtain ⟨a,vs,rfl,h1,h2⟩:=h
  cases y with
  | tup ys =>
   obtain ⟨b,us,e,k1,k2⟩:=k
   cases e
   cases I.xm h1 k1
   simpa [gK] using sW.one I h2 k2
  | lst ys =>
   obtain ⟨b,us,e,k1,k2⟩:=k
   cases e
   obtain ⟨_,_,⟨o,e1,c1,_⟩,_⟩:=I.tuple h1
   obtain ⟨_,_,⟨o',n,e2,c2,_⟩,_⟩:=I.list k1
   rw [e1] at e2;cases e2;exact absurd (Value.type.inj (c1.symm.trans c2)) (by decide)
  | _=>cases k
 | .lst xs,y,v,h,k=>by
  obtain ⟨a,vs,rfl,h1,h2⟩:=h
  cases y with
  | lst ys =>
   obtain ⟨b,us,e,k1,k2⟩:=k
   cases e
   cases I.o9 h1 k1
   simpa [gK] using sW.one I h2 k2
  | tup ys =>
   obtain ⟨b,us,e,k1,k2⟩:=k
   cases e
   obtain ⟨_,_,⟨o,e1,c1,_⟩,_⟩:=I.tuple k1
   obtain ⟨_,_,⟨o',n,e2,c2,_⟩,_⟩:=I.list h1
   rw [e1] at e2;cases e2;exact absurd (Value.type.inj (c1.symm.trans c2)) (by decide)
  | _=>cases k
theorem sW.one (I:Inv X pins σ H s):∀{xs ys:List Py} {vs:List V},sW X.K H xs vs→sW X.K H ys vs→lA xs ys=true
 | [],ys,vs,h,k=>by
  cases h
  cases ys with
  | nil=>rfl
  | cons y ys=>obtain ⟨_,_,e,_⟩:=k;cases e
 | x :: xs,ys,vs,h,k=>by
  obtain ⟨v,us,rfl,h1,h2⟩:=h
  cases ys with
  | nil=>cases k
  | cons y ys =>
   obtain ⟨v',us',e,k1,k2⟩:=k
   cases e
   simp [lA,At.one I h1 k1,sW.one I h2 k2]
end
mutual
theorem Pp (I:Inv X pins σ H s):∀(x y:Py) {v v':V} {u u':Value} {A:Around},At X.K H x v→At X.K H y v'→RelV v u→RelV v' u'→A.units + dep x < cLine→SeqAt.EqAt A s u u' (gK x y)
 | .non,y,v,v',u,u',A,h,k,r,r',hu=>by
  cases h;cases r
  cases y with
  | non=>cases k;cases r';exact Yc _
  | bl b=>cases k;cases r';exact Zg _
  | int b=>cases k;obtain ⟨t,rfl⟩:=r';exact Zr _ _
  | str b=>cases k;obtain ⟨t,rfl⟩:=r';exact Zs _ _
  | tup ys=>obtain ⟨a,vs,rfl,h1,h2⟩:=k;cases r';obtain ⟨_,_,p,_⟩:=I.tuple h1;exact SeqAt.EqAt.none_tuple p (by simpa [dep] using hu)
  | lst ys=>obtain ⟨a,vs,rfl,h1,h2⟩:=k;cases r';obtain ⟨_,_,p,_⟩:=I.list h1;exact SeqAt.EqAt.none_list p.isList (by simpa [dep] using hu)
 | .bl x,y,v,v',u,u',A,h,k,r,r',hu=>by
  cases h;cases r
  cases y with
  | non=>cases k;cases r';exact Zh _
  | bl b=>cases k;cases r';exact Zi _ _
  | int b=>cases k;obtain ⟨t,rfl⟩:=r';exact Zt _ _ _
  | str b=>cases k;obtain ⟨t,rfl⟩:=r';exact Zu _ _ _
  | tup ys=>obtain ⟨a,vs,rfl,h1,h2⟩:=k;cases r';obtain ⟨_,_,p,_⟩:=I.tuple h1;exact SeqAt.EqAt.bool_tuple _ p (by simpa [dep] using hu)
  | lst ys=>obtain ⟨a,vs,rfl,h1,h2⟩:=k;cases r';obtain ⟨_,_,p,_⟩:=I.list h1;exact SeqAt.EqAt.bool_list _ p.isList (by simpa [dep] using hu)
 | .int x,y,v,v',u,u',A,h,k,r,r',hu=>by
  cases h;obtain ⟨t0,rfl⟩:=r
  cases y with
  | non=>cases k;cases r';exact Zv _ _
  | bl b=>cases k;cases r';exact Zw _ _ _
  | int b=>cases k;obtain ⟨t,rfl⟩:=r';exact ZD _ _ _ _
  | str b=>cases k;obtain ⟨t,rfl⟩:=r';exact Yk _ _ _ _
  | tup ys=>obtain ⟨a,vs,rfl,h1,h2⟩:=k;cases r';obtain ⟨_,_,p,_⟩:=I.tuple h1;exact SeqAt.EqAt.int_tuple _ _ p (by simpa [dep] using hu)
  | lst ys=>obtain ⟨a,vs,rfl,h1,h2⟩:=k;cases r';obtain ⟨_,_,p,_⟩:=I.list h1;exact SeqAt.EqAt.int_list _ _ p.isList (by simpa [dep] using hu)
 | .str x,y,v,v',u,u',A,h,k,r,r',hu=>by
  cases h;obtain ⟨t0,rfl⟩:=r
  cases y with
  | non=>cases k;cases r';exact Zx _ _
  | bl b=>cases k;cases r';exact Zy _ _ _
  | int b=>cases k;obtain ⟨t,rfl⟩:=r';exact Yl _ _ _ _
  | str b=>cases k;obtain ⟨t,rfl⟩:=r';exact Yq _ _ _ _
  | tup ys=>obtain ⟨a,vs,rfl,h1,h2⟩:=k;cases r';obtain ⟨_,_,p,_⟩:=I.tuple h1;exact SeqAt.EqAt.str_tuple _ _ p (by simpa [dep] using hu)
  | lst ys=>obtain ⟨a,vs,rfl,h1,h2⟩:=k;cases r';obtain ⟨_,_,p,_⟩:=I.list h1;exact SeqAt.EqAt.str_list _ _ p.isList (by simpa [dep] using hu)
 | .tup xs,y,v,v',u,u',A,h,k,r,r',hu=>by
  have h0:=h
  obtain ⟨a,vs,rfl,h1,h2⟩:=h
  cases r
  obtain ⟨is,r1,p1,_⟩:=I.tuple h1
  have hu0:A.units < cLine:=by omega
  have hu1:A.in1.units + dN xs < cLine:=by
   have e:dep (.tup xs)=dN xs + 1:=by rw [dep]
   rw [e] at hu
   show A.units + 1 + dN xs < cLine
   omega
  cases y with
  | non=>cases k;cases r';exact SeqAt.EqAt.tuple_none p1 hu0
  | bl b=>cases k;cases r';exact SeqAt.EqAt.tuple_bool _ p1 hu0
  | int b=>cases k;obtain ⟨t,rfl⟩:=r';exact SeqAt.EqAt.tuple_int _ _ p1 hu0
  | str b=>cases k;obtain ⟨t,rfl⟩:=r';exact SeqAt.EqAt.tuple_str _ _ p1 hu0
  | lst ys=>obtain ⟨b,us,rfl,k1,k2⟩:=k;cases r';obtain ⟨_,_,p,_⟩:=I.list k1;exact SeqAt.EqAt.tuple_list p1 p.isList hu0
  | tup ys =>
   have k0:=k
   obtain ⟨b,us,rfl,k1,k2⟩:=k
   cases r'
   by_cases hab:a=b
   ·subst hab
    rw [At.one I h0 k0]
    exact Yc _
   ·obtain ⟨js,r2,p2,_⟩:=I.tuple k1
    refine ZG hab ?_
    have key:=SeqAt.RcAt.tuples (e:=Ef xs ys) p1 p2 hu0 λj q1 q2=>tN I xs ys h2 k2 r1 r2 hu1 j (by simpa using q1) (by simpa using q2)
    have e1:is.length=xs.length:=by rw [← r1.length,h2.length]
    have e2:js.length=ys.length:=by rw [← r2.length,k2.length]
    simp only [VU] at key
    rw [e1,e2,jU] at key
    simpa [gK] using key
 | .lst xs,y,v,v',u,u',A,h,k,r,r',hu=>by
  have h0:=h
  obtain ⟨a,vs,rfl,h1,h2⟩:=h
  cases r
  obtain ⟨is,r1,p1,_⟩:=I.list h1
  have hu0:A.units < cLine:=by omega
  have hu1:A.in1.units + dN xs < cLine:=by
   have e:dep (.lst xs)=dN xs + 1:=by rw [dep]
   rw [e] at hu
   show A.units + 1 + dN xs < cLine
   omega
  cases y with
  | non=>cases k;cases r';exact SeqAt.EqAt.list_none p1.isList hu0
  | bl b=>cases k;cases r';exact SeqAt.EqAt.list_bool _ p1.isList hu0
  | int b=>cases k;obtain ⟨t,rfl⟩:=r';exact SeqAt.EqAt.list_int _ _ p1.isList hu0
  | str b=>cases k;obtain ⟨t,rfl⟩:=r';exact SeqAt.EqAt.list_str _ _ p1.isList hu0
  | tup ys=>obtain ⟨b,us,rfl,k1,k2⟩:=k;cases r';obtain ⟨_,_,p,_⟩:=I.tuple k1;exact SeqAt.EqAt.list_tuple p1.isList p hu0
  | lst ys =>
   have k0:=k
   obtain ⟨b,us,rfl,k1,k2⟩:=k
   cases r'
   by_cases hab:a=b
   ·subst hab
    rw [At.one I h0 k0]
    exact Yc _
   ·obtain ⟨js,r2,p2,_⟩:=I.list k1
    refine ZG hab ?_
    have e1:is.length=xs.length:=by rw [← r1.length,h2.length]
    have e2:js.length=ys.length:=by rw [← r2.length,k2.length]
    have ae:=jU xs ys
    by_cases hl:xs.length=ys.length
    ·have key:=SeqAt.RcAt.lists (e:=Ef xs ys) p1.isList p2.isList (by simp only [VU];omega) hu0 λj q1 q2=>tN I xs ys h2 k2 r1 r2 hu1 j (by simpa using q1) (by simpa using q2)
     simp only [VU] at key
     rw [hl,ZT] at ae
     have e3:(ys.length == ys.length)=true:=by simp
     rw [e3,Xy] at ae
     rw [e1,hl,ae] at key
     simpa [gK] using key
    ·have key:=SeqAt.RcAt.lists_lengths p1.isList p2.isList (A:=A) (by simp only [VU];rw [e1,e2];simpa using hl) hu0
     have e3:lA xs ys=false:=by
      rw [← ae]
      have:(xs.length == ys.length)=false:=by simpa using hl
      rw [this,XE]
     simpa [gK,e3] using key
theorem tN (I:Inv X pins σ H s):∀(xs ys:List Py) {vs us:List V} {is js:List Value} {A:Around},sW X.K H xs vs→sW X.K H ys us→Vals vs is→Vals us js→A.units + dN xs < cLine→∀j (h1:j < is.length) (h2:j < js.length),SeqAt.EqAt A s is[j] js[j] (Ef xs ys j)
 | [],ys,vs,us,is,js,A,h,k,r,r',hu,j,h1,h2=>by
  cases h;cases r;exact absurd h1 (Ye _)
 | x :: xs,[],vs,us,is,js,A,h,k,r,r',hu,j,h1,h2=>by
  cases k;cases r';exact absurd h2 (Ye _)
 | x :: xs,y :: ys,vs,us,is,js,A,h,k,r,r',hu,j,h1,h2=>by
  obtain ⟨v,vs',rfl,a1,a2⟩:=h
  obtain ⟨v',us',rfl,b1,b2⟩:=k
  cases r with
  | cons q1 q2 =>
   cases r' with
   | cons z1 z2 =>
    have e:dN (x :: xs)=max (dep x) (dN xs):=by rw [dN]
    rw [e] at hu
    cases j with
    | zero=>exact Pp I x y a1 b1 q1 z1 (by omega)
    | succ j =>
     have:=tN I xs ys a2 b2 q2 z2 (A:=A) (by omega) j (by simpa using h1) (by simpa using h2)
     simpa [Ef] using this
end
variable {A:Around}
theorem T_ (I:Inv X pins σ H s) (x y:Py) {v v':V} {u u':Value} (h:At X.K H x v) (k:At X.K H y v') (r:RelV v u) (r':RelV v' u') (hu:A.units + dep x < cLine):SeqAt.RcAt A s u u' (gK x y):=by
 have hu0:A.units < cLine:=by omega
 cases x with
 | non =>
  cases h;cases r
  cases y with
  | non=>cases k;cases r';exact SeqAt.RcAt.none_none
  | bl b=>cases k;cases r';exact SeqAt.RcAt.none_bool _
  | int b=>cases k;obtain ⟨t,rfl⟩:=r';exact SeqAt.RcAt.none_int _ _
  | str b=>cases k;obtain ⟨t,rfl⟩:=r';exact SeqAt.RcAt.none_str _ _
  | tup ys=>obtain ⟨b,us,rfl,k1,k2⟩:=k;cases r';obtain ⟨js,r2,p2,_⟩:=I.tuple k1;exact SeqAt.RcAt.none_tuple p2 hu0
  | lst ys=>obtain ⟨b,us,rfl,k1,k2⟩:=k;cases r';obtain ⟨js,r2,p2,_⟩:=I.list k1;exact SeqAt.RcAt.none_list p2.isList hu0
 | bl i =>
  cases h;cases r
  cases y with
  | non=>cases k;cases r';exact SeqAt.RcAt.bool_none _
  | bl b=>cases k;cases r';exact SeqAt.RcAt.bool_bool _ _
  | int b=>cases k;obtain ⟨t,rfl⟩:=r';exact SeqAt.RcAt.bool_int _ _ _
  | str b=>cases k;obtain ⟨t,rfl⟩:=r';exact SeqAt.RcAt.bool_str _ _ _
  | tup ys=>obtain ⟨b,us,rfl,k1,k2⟩:=k;cases r';obtain ⟨js,r2,p2,_⟩:=I.tuple k1;exact SeqAt.RcAt.bool_tuple _ p2 hu0
  | lst ys=>obtain ⟨b,us,rfl,k1,k2⟩:=k;cases r';obtain ⟨js,r2,p2,_⟩:=I.list k1;exact SeqAt.RcAt.bool_list _ p2.isList hu0
 | int i =>
  cases h;obtain ⟨t0,rfl⟩:=r
  cases y with
  | non=>cases k;cases r';exact SeqAt.RcAt.int_none _ _
  | bl b=>cases k;cases r';exact SeqAt.RcAt.int_bool _ _ _
  | int b=>cases k;obtain ⟨t,rfl⟩:=r';exact SeqAt.RcAt.int_int _ _ _ _
  | str b=>cases k;obtain ⟨t,rfl⟩:=r';exact SeqAt.RcAt.int_str _ _ _ _
  | tup ys=>obtain ⟨b,us,rfl,k1,k2⟩:=k;cases r';obtain ⟨js,r2,p2,_⟩:=I.tuple k1;exact SeqAt.RcAt.int_tuple _ _ p2 hu0
  | lst ys=>obtain ⟨b,us,rfl,k1,k2⟩:=k;cases r';obtain ⟨js,r2,p2,_⟩:=I.list k1;exact SeqAt.RcAt.int_list _ _ p2.isList hu0
 | str i =>
  cases h;obtain ⟨t0,rfl⟩:=r
  cases y with
  | non=>cases k;cases r';exact SeqAt.RcAt.str_none _ _
  | bl b=>cases k;cases r';exact SeqAt.RcAt.str_bool _ _ _
  | int b=>cases k;obtain ⟨t,rfl⟩:=r';exact SeqAt.RcAt.str_int _ _ _ _
  | str b=>cases k;obtain ⟨t,rfl⟩:=r';exact SeqAt.RcAt.str_str _ _ _ _
  | tup ys=>obtain ⟨b,us,rfl,k1,k2⟩:=k;cases r';obtain ⟨js,r2,p2,_⟩:=I.tuple k1;exact SeqAt.RcAt.str_tuple _ _ p2 hu0
  | lst ys=>obtain ⟨b,us,rfl,k1,k2⟩:=k;cases r';obtain ⟨js,r2,p2,_⟩:=I.list k1;exact SeqAt.RcAt.str_list _ _ p2.isList hu0
 | tup xs =>
  obtain ⟨a,vs,rfl,h1,h2⟩:=h
  cases r
  obtain ⟨is,r1,p1,_⟩:=I.tuple h1
  have hu1:A.in1.units + dN xs < cLine:=by
   have e:dep (.tup xs)=dN xs + 1:=by rw [dep]
   rw [e] at hu
   show A.units + 1 + dN xs < cLine
   omega
  cases y with
  | non=>cases k;cases r';exact SeqAt.RcAt.tuple_none p1 hu0
  | bl b=>cases k;cases r';exact SeqAt.RcAt.tuple_bool _ p1 hu0
  | int b=>cases k;obtain ⟨t,rfl⟩:=r';exact SeqAt.RcAt.tuple_int _ _ p1 hu0
  | str b=>cases k;obtain ⟨t,rfl⟩:=r';exact SeqAt.RcAt.tuple_str _ _ p1 hu0
  | tup ys =>
   obtain ⟨b,us,rfl,k1,k2⟩:=k;cases r';obtain ⟨js,r2,p2,_⟩:=I.tuple k1
   have e1:is.length=xs.length:=by rw [← r1.length,h2.length]
   have e2:js.length=ys.length:=by rw [← r2.length,k2.length]
   have ae:=jU xs ys
   have key:=SeqAt.RcAt.tuples (e:=Ef xs ys) p1 p2 hu0 λj q1 q2=>tN I xs ys h2 k2 r1 r2 hu1 j (by simpa using q1) (by simpa using q2)
   simp only [VU] at key
   rw [e1,e2,ae] at key
   simpa [gK] using key
  | lst ys=>obtain ⟨b,us,rfl,k1,k2⟩:=k;cases r';obtain ⟨js,r2,p2,_⟩:=I.list k1;exact SeqAt.RcAt.tuple_list p1 p2.isList hu0
 | lst xs =>
  obtain ⟨a,vs,rfl,h1,h2⟩:=h
  cases r
  obtain ⟨is,r1,p1,_⟩:=I.list h1
  have hu1:A.in1.units + dN xs < cLine:=by
   have e:dep (.lst xs)=dN xs + 1:=by rw [dep]
   rw [e] at hu
   show A.units + 1 + dN xs < cLine
   omega
  cases y with
  | non=>cases k;cases r';exact SeqAt.RcAt.list_none p1.isList hu0
  | bl b=>cases k;cases r';exact SeqAt.RcAt.list_bool _ p1.isList hu0
  | int b=>cases k;obtain ⟨t,rfl⟩:=r';exact SeqAt.RcAt.list_int _ _ p1.isList hu0
  | str b=>cases k;obtain ⟨t,rfl⟩:=r';exact SeqAt.RcAt.list_str _ _ p1.isList hu0
  | tup ys=>obtain ⟨b,us,rfl,k1,k2⟩:=k;cases r';obtain ⟨js,r2,p2,_⟩:=I.tuple k1;exact SeqAt.RcAt.list_tuple p1.isList p2 hu0
  | lst ys =>
   obtain ⟨b,us,rfl,k1,k2⟩:=k;cases r';obtain ⟨js,r2,p2,_⟩:=I.list k1
   have e1:is.length=xs.length:=by rw [← r1.length,h2.length]
   have e2:js.length=ys.length:=by rw [← r2.length,k2.length]
   have ae:=jU xs ys
   by_cases hl:xs.length=ys.length
   ·have key:=SeqAt.RcAt.lists (e:=Ef xs ys) p1.isList p2.isList (by simp only [VU];omega) hu0 λj q1 q2=>tN I xs ys h2 k2 r1 r2 hu1 j (by simpa using q1) (by simpa using q2)
    simp only [VU] at key
    rw [hl,ZT] at ae
    have e3:(ys.length == ys.length)=true:=by simp
    rw [e3,Xy] at ae
    rw [e1,hl,ae] at key
    simpa [gK] using key
   ·have key:=SeqAt.RcAt.lists_lengths p1.isList p2.isList (A:=A) (by simp only [VU];rw [e1,e2];simpa using hl) hu0
    have e3:lA xs ys=false:=by
     rw [← ae]
     have:(xs.length == ys.length)=false:=by simpa using hl
     rw [this,XE]
    simpa [gK,e3] using key
theorem Ru (I:Inv X pins σ H s) (x y:Py) {v v':V} {u u':Value} (h:At X.K H x v) (k:At X.K H y v') (r:RelV v u) (r':RelV v' u') (hu:A.units + dep x < cLine):SeqAt.RcNeAt A s u u' (!gK x y):=by
 have hu0:A.units < cLine:=by omega
 cases x with
 | non =>
  cases h;cases r
  cases y with
  | non=>cases k;cases r';exact SeqAt.RcNeAt.none_none
  | bl b=>cases k;cases r';exact SeqAt.RcNeAt.none_bool _
  | int b=>cases k;obtain ⟨t,rfl⟩:=r';exact SeqAt.RcNeAt.none_int _ _
  | str b=>cases k;obtain ⟨t,rfl⟩:=r';exact SeqAt.RcNeAt.none_str _ _
  | tup ys=>obtain ⟨b,us,rfl,k1,k2⟩:=k;cases r';obtain ⟨js,r2,p2,_⟩:=I.tuple k1;exact SeqAt.RcNeAt.none_tuple p2 hu0
  | lst ys=>obtain ⟨b,us,rfl,k1,k2⟩:=k;cases r';obtain ⟨js,r2,p2,_⟩:=I.list k1;exact SeqAt.RcNeAt.none_list p2.isList hu0
 | bl i =>
  cases h;cases r
  cases y with
  | non=>cases k;cases r';exact SeqAt.RcNeAt.bool_none _
  | bl b=>cases k;cases r';exact SeqAt.RcNeAt.bool_bool _ _
  | int b=>cases k;obtain ⟨t,rfl⟩:=r';exact SeqAt.RcNeAt.bool_int _ _ _
  | str b=>cases k;obtain ⟨t,rfl⟩:=r';exact SeqAt.RcNeAt.bool_str _ _ _
  | tup ys=>obtain ⟨b,us,rfl,k1,k2⟩:=k;cases r';obtain ⟨js,r2,p2,_⟩:=I.tuple k1;exact SeqAt.RcNeAt.bool_tuple _ p2 hu0
  | lst ys=>obtain ⟨b,us,rfl,k1,k2⟩:=k;cases r';obtain ⟨js,r2,p2,_⟩:=I.list k1;exact SeqAt.RcNeAt.bool_list _ p2.isList hu0
 | int i =>
  cases h;obtain ⟨t0,rfl⟩:=r
  cases y with
  | non=>cases k;cases r';exact SeqAt.RcNeAt.int_none _ _
  | bl b=>cases k;cases r';exact SeqAt.RcNeAt.int_bool _ _ _
  | int b=>cases k;obtain ⟨t,rfl⟩:=r';exact SeqAt.RcNeAt.int_int _ _ _ _
  | str b=>cases k;obtain ⟨t,rfl⟩:=r';exact SeqAt.RcNeAt.int_str _ _ _ _
  | tup ys=>obtain ⟨b,us,rfl,k1,k2⟩:=k;cases r';obtain ⟨js,r2,p2,_⟩:=I.tuple k1;exact SeqAt.RcNeAt.int_tuple _ _ p2 hu0
  | lst ys=>obtain ⟨b,us,rfl,k1,k2⟩:=k;cases r';obtain ⟨js,r2,p2,_⟩:=I.list k1;exact SeqAt.RcNeAt.int_list _ _ p2.isList hu0
 | str i =>
  cases h;obtain ⟨t0,rfl⟩:=r
  cases y with
  | non=>cases k;cases r';exact SeqAt.RcNeAt.str_none _ _
  | bl b=>cases k;cases r';exact SeqAt.RcNeAt.str_bool _ _ _
  | int b=>cases k;obtain ⟨t,rfl⟩:=r';exact SeqAt.RcNeAt.str_int _ _ _ _
  | str b=>cases k;obtain ⟨t,rfl⟩:=r';exact SeqAt.RcNeAt.str_str _ _ _ _
  | tup ys=>obtain ⟨b,us,rfl,k1,k2⟩:=k;cases r';obtain ⟨js,r2,p2,_⟩:=I.tuple k1;exact SeqAt.RcNeAt.str_tuple _ _ p2 hu0
  | lst ys=>obtain ⟨b,us,rfl,k1,k2⟩:=k;cases r';obtain ⟨js,r2,p2,_⟩:=I.list k1;exact SeqAt.RcNeAt.str_list _ _ p2.isList hu0
 | tup xs =>
  obtain ⟨a,vs,rfl,h1,h2⟩:=h
  cases r
  obtain ⟨is,r1,p1,_⟩:=I.tuple h1
  have hu1:A.in1.units + dN xs < cLine:=by
   have e:dep (.tup xs)=dN xs + 1:=by rw [dep]
   rw [e] at hu
   show A.units + 1 + dN xs < cLine
   omega
  cases y with
  | non=>cases k;cases r';exact SeqAt.RcNeAt.tuple_none p1 hu0
  | bl b=>cases k;cases r';exact SeqAt.RcNeAt.tuple_bool _ p1 hu0
  | int b=>cases k;obtain ⟨t,rfl⟩:=r';exact SeqAt.RcNeAt.tuple_int _ _ p1 hu0
  | str b=>cases k;obtain ⟨t,rfl⟩:=r';exact SeqAt.RcNeAt.tuple_str _ _ p1 hu0
  | tup ys =>
   obtain ⟨b,us,rfl,k1,k2⟩:=k;cases r';obtain ⟨js,r2,p2,_⟩:=I.tuple k1
   have e1:is.length=xs.length:=by rw [← r1.length,h2.length]
   have e2:js.length=ys.length:=by rw [← r2.length,k2.length]
   have ae:=jU xs ys
   have key:=SeqAt.RcNeAt.tuples (e:=Ef xs ys) p1 p2 hu0 λj q1 q2=>tN I xs ys h2 k2 r1 r2 hu1 j (by simpa using q1) (by simpa using q2)
   simp only [VU] at key
   rw [e1,e2,ae] at key
   simpa [gK] using key
  | lst ys=>obtain ⟨b,us,rfl,k1,k2⟩:=k;cases r';obtain ⟨js,r2,p2,_⟩:=I.list k1;exact SeqAt.RcNeAt.tuple_list p1 p2.isList hu0
 | lst xs =>
  obtain ⟨a,vs,rfl,h1,h2⟩:=h
  cases r
  obtain ⟨is,r1,p1,_⟩:=I.list h1
  have hu1:A.in1.units + dN xs < cLine:=by
   have e:dep (.lst xs)=dN xs + 1:=by rw [dep]
   rw [e] at hu
   show A.units + 1 + dN xs < cLine
   omega
  cases y with
  | non=>cases k;cases r';exact SeqAt.RcNeAt.list_none p1.isList hu0
  | bl b=>cases k;cases r';exact SeqAt.RcNeAt.list_bool _ p1.isList hu0
  | int b=>cases k;obtain ⟨t,rfl⟩:=r';exact SeqAt.RcNeAt.list_int _ _ p1.isList hu0
  | str b=>cases k;obtain ⟨t,rfl⟩:=r';exact SeqAt.RcNeAt.list_str _ _ p1.isList hu0
  | tup ys=>obtain ⟨b,us,rfl,k1,k2⟩:=k;cases r';obtain ⟨js,r2,p2,_⟩:=I.tuple k1;exact SeqAt.RcNeAt.list_tuple p1.isList p2 hu0
  | lst ys =>
   obtain ⟨b,us,rfl,k1,k2⟩:=k;cases r';obtain ⟨js,r2,p2,_⟩:=I.list k1
   have e1:is.length=xs.length:=by rw [← r1.length,h2.length]
   have e2:js.length=ys.length:=by rw [← r2.length,k2.length]
   have ae:=jU xs ys
   by_cases hl:xs.length=ys.length
   ·have key:=SeqAt.RcNeAt.lists (e:=Ef xs ys) p1.isList p2.isList (by simp only [VU];omega) hu0 λj q1 q2=>tN I xs ys h2 k2 r1 r2 hu1 j (by simpa using q1) (by simpa using q2)
    simp only [VU] at key
    rw [hl,ZT] at ae
    have e3:(ys.length == ys.length)=true:=by simp
    rw [e3,Xy] at ae
    rw [e1,hl,ae] at key
    simpa [gK] using key
   ·have key:=SeqAt.RcNeAt.lists_lengths p1.isList p2.isList (A:=A) (by simp only [VU];rw [e1,e2];simpa using hl) hu0
    have e3:lA xs ys=false:=by
     rw [← ae]
     have:(xs.length == ys.length)=false:=by simpa using hl
     rw [this,XE]
    simpa [gK,e3] using key
def rP (K:VL) (f:Bool→Bool):R2:=λv v' H Q=>∃x y:Py,At K H x v∧At K H y v'∧dep x≤60∧Q (.bl (f (gK x y))) H
theorem Nz (hu:X.A.units + 61 < cLine):eX X (compareOp .Eq) (rP X.K id):=by
 intro pins s σ H x y v u Q I rx ry h
 obtain ⟨a,b,h1,h2,d,q⟩:=h
 exact T_ I a b h1 h2 rx ry (by omega) X.prog X.w X.xe _ ⟨.bl _,H,I,rfl,q⟩
theorem GO (hu:X.A.units + 61 < cLine):eX X (compareOp .NotEq) (rP X.K not):=by
 intro pins s σ H x y v u Q I rx ry h
 obtain ⟨a,b,h1,h2,d,q⟩:=h
 exact Ru I a b h1 h2 rx ry (by omega) X.prog X.w X.xe _ ⟨.bl _,H,I,rfl,q⟩
section
open PySem.Calls PySem.W Builtin.Getset_descriptor
def ExcAt (x D:Addr) (h:Heap):Prop:=∃ox,h.get? x=some ox∧ox.cls=.ref D
variable {h:Heap} {x D:Addr} {M:Model}
theorem ExcAt.ty (I:ExcAt x D h):Looks M h (typeOf (.ref x)) (.ref D):=by
 obtain ⟨ox,a,b⟩:=I
 rw [← b]
 exact (Looks.ld a).andThen .now
structure r_ (K:Frag) (D:Addr):Prop where
 cls:(clsIn K D).isSome=true
 ga:findIn K (.ref D) "__getattribute__"=some (some (.builtin "BaseException.__getattribute__"))
 gt:findIn K (.ref D) "__getattr__"=some none
 ca:findIn K (.ref D) "__class__"=some (some (.builtin "object.__class__"))
 get:specialIn K (.builtin "object.__class__") "__get__"=some (some (.builtin "getset_descriptor.__get__"))
 tk:takesIn K (.builtin "object.__class__")=some true
 obj:mroIn K D (.type "object")=some true
 bex:subIn K (.ref D) (.type "BaseException")=some true
variable {K:Frag}
theorem Lb (X:K.In h) (Z:r_ K D):Looks M h (Builtin.ObjectAttr.find (.ref x) (.ref D) "__class__") (.bind (.builtin "getset_descriptor.__get__") (.builtin "object.__class__")) :=
 (looks_findIn X Z.ca).andThen ((show Looks M h (Builtin.ObjectAttr.getOf (some (.builtin "object.__class__"))) _ from looks_specialIn X Z.get).andThen
  ((show Looks M h (Builtin.ObjectAttr.dataDescriptor? (some (.builtin "object.__class__")) (some (.builtin "getset_descriptor.__get__"))) (some (.builtin "getset_descriptor.__get__",.builtin "object.__class__")) from (looks_takesIn X Z.tk).andThen .now).andThen (Looks.tag .now)))
variable {w:World} {s:Shared} {A:Around} {prog:Program}
theorem OH {tp:Value} {R:Result→Shared→Prop} (X:K.In s.heap) (Z:r_ K D) (I:ExcAt x D s.heap) (h:R (.ok (.ret (.ref D))) s) :
  codeAny (model prog w) A (.call (.builtin "getset_descriptor.__get__") ⟨[.builtin "object.__class__",.ref x,tp],[]⟩) R s:=by
 obtain ⟨hh,g,dr,t,os⟩:=s
 have L0:=I.ty (M:=model prog w)
 have L1:=looks_mroIn (M:=model prog w) X Z.obj
 refine codeAny_call_builtin KF.slot_gs.plain KF.entry_gs ?_
 refine KF.slot_gs.check _ _ _ _ _ _ _ _ KF.type_class (KF.args_gs _ _ _) ?_
 unfold Builtin.«getset_descriptor.__get__» descrGet;rw [dga_obj]
 refine wpAny_bind (wpAny_pure ?_)
 unfold descrGetter descrCheckInstance descrNameAndClass isInstance;simp only [KF.owner_class]
 repeat lk
 refine ⟨Code.quiet_builtin _ (by decide +kernel),?_⟩
 refine codeAny_builtin KF.entry_class ?_
 unfold Builtin.«object.__class__» shownTypeOf;repeat lk
 exact h
variable {E:Value→Shared→Prop}
theorem IE {tk:Tok} {Q:Fin→Shared→Prop} (X:K.In s.heap) (Z:r_ K D) (I:ExcAt x D s.heap) (h:Q (.done (.ret (.ref D))) s) :
  wpAny (model prog w) A (Builtin.«object.__getattribute__» ⟨[.ref x,.str "__class__" tk],[]⟩) Q E s:=by
 obtain ⟨hh,gg,d,t,os⟩:=s
 have L0:=I.ty (M:=model prog w)
 have L1:=Lb (x:=x) (M:=model prog w) X Z
 unfold Builtin.«object.__getattribute__»
 refine wpAny_bind (wpAny_pure (wpAny_bind (wpAny_pure (wpAny_bind (L0.at (wpAny_bind (L1.at ?_)))))))
 show wpAny _ _ (holding [.builtin "object.__class__"] (call (.builtin "getset_descriptor.__get__") [.builtin "object.__class__",.ref x,.ref D]) >>= ret) _ _ _
 exact wpAny_bind (wpAny_holding (wpAny_call (OH (tp:=.ref D) X Z I (wpAny_pure h))))
theorem IC {nameV:Value} {Q:Unit→Shared→Prop} (X:K.In s.heap) (Z:r_ K D) (I:ExcAt x D s.heap) (hq:Q () s) :
  wpAny M A (checkBuiltinCall "BaseException.__getattribute__" ⟨[.ref x,nameV],[]⟩) Q E s:=by
 have k:builtinKind "BaseException.__getattribute__"=some .slot:=by decide +kernel
 have sp:splitId "BaseException.__getattribute__"=some ("BaseException","__getattribute__"):=by decide +kernel
 have ok:=F.args_bexc_ga (.ref x) nameV
 have L1:Looks M s.heap (isInstance (.ref x) (.type "BaseException")) true:=I.ty.andThen (looks_subIn X Z.bex)
 obtain ⟨hh,gg,d,t,os⟩:=s
 simp only [checkBuiltinCall,k,sp]
 refine wpAny_bind (L1.at ?_)
 simp only [Xz,We,if_false]
 cases sg:Manifest.signature? "BaseException.__getattribute__" with
 | none=>exact wpAny_pure hq
 | some z =>
  unfold argsOk at ok
  rw [sg] at ok
  show wpAny _ _ (Bind.checkArgs _ z _) _ _ _
  rw [show Bind.checkArgs "BaseException.__getattribute__" z ⟨[.ref x,nameV],[]⟩=pure () from ok]
  exact wpAny_pure hq
theorem ID {Q:Option Value→Shared→Prop} (X:K.In s.heap) (Z:r_ K D) (I:ExcAt x D s.heap) (h:Q (some (.ref D)) { s with toks:=s.toks + 1 }):wpAny (model prog w) A (getAttr? (.ref x) "__class__") Q E s:=by
 obtain ⟨hh,gg,d,t,os⟩:=s
 have L0:=I.ty (M:=model prog w)
 have L1:=looks_findIn (M:=model prog w) X Z.ga
 have L2:=looks_findIn (M:=model prog w) X Z.gt
 unfold getAttr? getAttrBy? getAttrBy
 refine wpAny_bind (wpAny_mkText (wpAny_bind (wpAny_attempt (wpAny_holding ?_))))
 refine wpAny_bind (L0.at (wpAny_bind (L1.at ?_)))
 have no:(Value.builtin "BaseException.__getattribute__" == Value.builtin "object.__getattribute__")=false:=by decide +kernel
 show wpAny _ _ (if onTheHeap (.ref D) && Value.builtin "BaseException.__getattribute__" == Value.builtin "object.__getattribute__" then _ else _) _ _ _
 rw [no,XE]
 simp only [We,if_false]
 unfold getAttrByItsOwn hookBefore callGetattribute boundAndCalled
 have f3:=PySem.F.attr_ValueError.ga.bind (.ref x)
 refine wpAny_bind ((show wpAny _ _ (typeLookup (Value.ref D) "__getattr__") _ _ _ from L2.at ?_))
 refine wpAny_bind (wpAny_attempt (wpAny_holding ?_))
 show wpAny _ _ (bindSpecial (Value.builtin "BaseException.__getattribute__") (Value.ref x) >>= _) _ _ _
 rw [f3]
 refine wpAny_bind (wpAny_pure ?_)
 refine wpAny_call (codeAny_call_builtin PySem.F.attr_ValueError.ga.plain PySem.F.entry_bexc_ga (IC (s:=⟨hh,gg,d,t + 1,os⟩) X Z I (IE (s:=⟨hh,gg,d,t + 1,os⟩) X Z I ?_)))
 exact handed_on rfl (wpAny_pure h)
theorem r_.at (Z:r_ K D) (X:K.In h):∃c d cd sl,h.get? D=some ⟨c,d,.cls cd,sl⟩:=by
 obtain ⟨cd,q⟩:=YD.mp Z.cls
 unfold clsIn at q
 split at q
 ·exact ⟨_,_,_,_,X _ _ (by assumption)⟩
 ·cases q
theorem Gi (Z:r_ K D):KitX K (.ref x) (.ref D) (ExcAt x D) where
 ty:=λ_ _ _ I=>I.ty
 it:=λ_ _ X _=>by
  obtain ⟨c,d,cd,sl,o⟩:=Z.at X
  intro A' Q' E' s' k q
  unfold isType loadHead
  exact wpAny_bind (wpAny_loadPart (k _ _ o) (wpAny_pure q))
 ne:=λh tp dd its n sl X htp=>Bool.eq_false_iff.mpr λq=>by
  obtain ⟨c,d,cd,sl',o⟩:=Z.at X
  rw [Value.ref.inj (beq_iff_eq.mp q)] at o
  cases o.symm.trans htp
 ca:=λX I k=>ID X Z I k
end
structure nA (P:Program) (w:World) (outer:List Env) (H:Hp) (s:Shared) (ea:Addr) (cls:Value) (H':Hp) (s':Shared):Prop where
 os:s'.os=s.os
 bare:AllBare s'.gens
 un:Un (kT outer) [] H H' s.heap s'.heap
 hok:oK P w H' s'.heap
 fl:∃B t,Y2 B outer ea cls (.ref t) s'.heap∧∀b o,s'.heap.get? b=some o→(H' b≠none∨∃o₀,s.heap.get? b=some o₀)→b ∉ kT outer→B.get? b=some o
def cq (P:Program) (w:World):nh:=λouter H s E e s'=>∃ea cls H',e=.ref ea∧nA P w outer H s ea cls H' s'∧E cls none H'
variable {a:Addr} {P:Program} {w:World} {h:Heap}
theorem JI {o:HO} (x:fq P w H h a o):∃ob,h.get? a=Ws ob:=by
 have lt:=x.lt
 cases o with
 | lst xs=>obtain ⟨_,_,_,_,e⟩:=x;exact ⟨_,e⟩
 | tup xs=>obtain ⟨_,_,_,ob,e,_⟩:=x;exact ⟨_,e⟩
 | dK kvs=>obtain ⟨_,_,_,_,o,_,_,e,_⟩:=x;exact ⟨_,e⟩
 | dE kvs ep=>obtain ⟨_,_,_,_,o,_,e,_⟩:=x;exact ⟨_,e⟩
 | set S n=>obtain ⟨o,_,_,_,e,_⟩:=x;exact ⟨_,e⟩
 | ins C dx fs=>obtain ⟨_,_,_,e,_⟩:=x;exact ⟨_,e⟩
 | own y=>exact x
 | xd fs=>obtain ⟨_,⟨_,_,_,e,_⟩,_⟩:=x;exact ⟨_,e⟩
 | N2 lo hi=>obtain ⟨_,_,_,e⟩:=x;exact ⟨_,e⟩
 | rH ob u=>obtain ⟨e,_⟩:=x;exact ⟨_,e⟩
 | tbl ps=>exact ⟨_,x⟩
 | met f y=>exact ⟨_,x⟩
 | ext φ=>obtain ⟨_,e,_⟩:=x;exact e
variable {H':Hp} {h1:Heap}
theorem lD (I:Inv X pins σ H s) (un:Un (kT X.stack) [] H H' s.heap h1) {b:Addr} (hb:b∈kT X.stack):H' b=none∧∃o,h1.get? b=some o∧∀vs,o.data≠.fields vs:=by
 obtain ⟨_,o,ho,hn⟩:=I.stack.mem hb
 have n:=I.ze b hb
 obtain ⟨sl,e⟩:=un.any ho n (by simp)
 exact ⟨un.free b o ho n (by simp),_,e,hn⟩
variable {B h2:Heap}
theorem xV (I:Inv X pins σ H s) (un:Un (kT X.stack) [] H H' s.heap h1) (cov:∀b o,h1.get? b=some o→(H' b≠none∨∃o₀,s.heap.get? b=some o₀)→b ∉ kT X.stack→B.get? b=some o)
  (hB:B.StaysIn h2) (up:h1.UpToSlots h2):Un (kT X.stack) [] H H' s.heap h2 where
 keep:=λb o e n hb hx=>hB b o (cov b o (un.keep b o e n hb hx) (.inr ⟨o,e⟩) hb)
 slot:=λb o e n hb hx=>by
  obtain ⟨sl,e1⟩:=un.slot b o e n hb hx
  obtain ⟨_,o',e2,hn⟩:=lD I un hb
  rw [e1] at e2;cases e2
  obtain ⟨sl',e3⟩:=up b _ e1 hn
  exact ⟨sl',e3⟩
 free:=un.free
 there:=λb o e hx=>by
  obtain ⟨o',e1⟩:=un.there b o e hx
  by_cases hb:b∈kT X.stack
  ·obtain ⟨_,o2,e2,hn⟩:=lD I un hb
   obtain ⟨sl',e3⟩:=up b _ e2 hn
   exact ⟨_,e3⟩
  ·exact ⟨o',hB b o' (cov b o' e1 (.inr ⟨o,e⟩) hb)⟩
 tups:=un.tups
 frzs:=un.frzs
 tbls:=un.tbls
theorem xU (I:Inv X pins σ H s) (un:Un (kT X.stack) [] H H' s.heap h1) (cov:∀b o,h1.get? b=some o→(H' b≠none∨∃o₀,s.heap.get? b=some o₀)→b ∉ kT X.stack→B.get? b=some o)
  (hB:B.StaysIn h2) (ok:oK X.prog X.w H' h1):oK X.prog X.w H' h2:=λa o e=>by
 have nf:∀b u,H' b=some u→b ∉ kT X.stack:=λb u q hb=>by
  have:=(lD I un hb).1
  rw [q] at this;cases this
 refine (ok a o e).my (λb u hb q=>?_) (λ_ q=>q) λ_ _ q=>q
 rcases hb with rfl | hb
 ·exact hB _ _ (cov _ _ q (.inl (by rw [e];exact λz=>nomatch z)) (nf _ _ e))
 ·exact hB _ _ (cov _ _ q (.inl (by rw [hb];exact λz=>nomatch z)) (nf _ _ hb))
theorem Be (un:Un (kT X.stack) [] H H' s.heap h1) (ok:oK X.prog X.w H' h1) (cov:∀b o,h1.get? b=some o→(H' b≠none∨∃o₀,s.heap.get? b=some o₀)→b ∉ kT X.stack→B.get? b=some o) (hB:B.StaysIn h2) :
  ∀b o,h2.get? b=some o→(H' b≠none∨∃o₀,s.heap.get? b=some o₀)→b ∉ kT X.stack→B.get? b=some o:=λb o e hb nb=>by
 have:∃o1,h1.get? b=some o1:=by
  rcases hb with z | ⟨o₀,z⟩
  ·cases q:H' b with
   | none=>exact absurd q z
   | some u=>exact JI (ok b u q)
  ·exact un.there b o₀ z (by simp)
 obtain ⟨o1,e1⟩:=this
 have c:=cov b o1 e1 hb nb
 have:=hB b o1 c
 rw [e] at this;cases this
 exact c
variable {s':Shared} {t ea:Addr} {cls:Value}
theorem nA.on (I:Inv X pins σ H s) (F:nA X.prog X.w X.stack H s ea cls H' s'):∃B t,Y2 B X.stack ea cls (.ref t) s'.heap ∧
  ∀h2,Y2 B X.stack ea cls (.ref t) h2→s'.heap.UpToSlots h2→nA X.prog X.w X.stack H s ea cls H' { s' with heap:=h2 }:=by
 obtain ⟨B,t,fl,cov⟩:=F.fl
 exact ⟨B,t,fl,λh2 fl2 up=>⟨F.os,F.bare,xV I F.un cov fl2.1 up,xU I F.un cov fl2.1 F.hok,B,t,fl2,Be F.un F.hok cov fl2.1⟩⟩
theorem CO {s2:Shared} (I:Inv X pins σ H s) (hst:X.stack=X.env :: X.outer) (hfr:X.env.frame=some X.env.locals) (hex:X.ex=[]) (os:s2.os=s.os) (bare:AllBare s2.gens) (un:Un (kT X.stack) [] H H' s.heap s2.heap)
  (ok:oK X.prog X.w H' s2.heap) (cov:∀b o,s2.heap.get? b=some o→(H' b≠none∨∃o₀,s.heap.get? b=some o₀)→b ∉ kT X.stack→B.get? b=some o) (fl:Y2 B X.outer ea cls (.ref t) s2.heap) :
  nA X.prog X.w X.outer X.H₀ X.s₀ ea cls H' s2:=by
 have nst:∀b o,X.s₀.heap.get? b=some o→b ∉ X.fs→b ∉ kT X.stack:=λb o e nb hb=>by
  rcases V2.mp (I.rh b hb) with z | z
  ·have:=V7 (V4 e) I.ok.above
   rw [z] at this
   exact Xc _ this
  ·exact nb z
 have sub:∀b,b∈X.fs→b∈kT X.stack:=λb hb=>by rw [hst];unfold kT;rw [Wh,hfr];exact V5 _ hb
 have nx:∀b:Addr,b ∉ X.ex:=λb=>by rw [hex];simp
 refine ⟨os.trans I.os,bare,⟨λb o e n hb _=>?_,λb o e n hb _=>?_,λb o e n _=>?_,λb o e _=>?_,λb xs q=>un.tups b xs (I.base.tups b xs q),λb o xs q=>un.frzs b o xs (I.base.frzs b o xs q),λb ps q=>?_⟩,ok,B,t,fl,λb o e hb nb=>?_⟩
 ·exact un.keep b o (I.base.keep b o e n hb (nx b)) (I.base.free b o e n (nx b)) (nst b o e hb) (by simp)
 ·obtain ⟨sl,e1⟩:=I.base.slot b o e n hb (nx b)
  obtain ⟨sl',e2⟩:=un.slot b _ e1 (I.base.free b o e n (nx b)) (sub b hb) (by simp)
  exact ⟨sl',e2⟩
 ·obtain ⟨o',e1⟩:=I.base.there b o e (nx b)
  exact un.free b o' e1 (I.base.free b o e n (nx b)) (by simp)
 ·obtain ⟨o',e1⟩:=I.base.there b o e (nx b)
  exact un.there b o' e1 (by simp)
 ·obtain ⟨m1,e1⟩:=I.base.tbls b ps q
  obtain ⟨m2,e2⟩:=un.tbls b _ e1
  exact ⟨m1 ++ m2,by rw [e2,Array.append_assoc]⟩
 ·rcases hb with z | ⟨o₀,z⟩
  ·exact cov b o e (.inl z) λhb=>z (lD I un hb).1
  ·obtain ⟨o1,e1⟩:=I.base.there b o₀ z (nx b)
   exact cov b o e (.inr ⟨o1,e1⟩) (nst b o₀ z nb)
variable {E:XK} {R:Value→Shared→Prop}
theorem Eu {e:Value} (I:Inv X pins σ H s) (hst:X.stack=X.env :: X.outer) (hfr:X.env.frame=some X.env.locals) (hex:X.ex=[]) (h:cq X.prog X.w X.stack H s E e s') :
  wpAny (model X.prog X.w) X.A (leaving X.env e) (λ_ s''=>cq X.prog X.w X.outer X.H₀ X.s₀ E e s'') R s':=by
 obtain ⟨ea,cls,H',rfl,F,q⟩:=h
 obtain ⟨B,t,fl,cov⟩:=F.fl
 refine wpAny_leaves_onW (by rw [I.ok.frames,hst]) hfr (hst ▸ fl) λh2 fl2 up=>?_
 exact ⟨ea,cls,H',rfl,CO (s2:={ s' with heap:=h2 }) I hst hfr hex F.os F.bare (xV I F.un cov fl2.1 up) (xU I F.un cov fl2.1 F.hok) (Be F.un F.hok cov fl2.1) fl2,q⟩
variable {C:Addr}
theorem leave_new {e:Addr} {args:List Value} {h':Heap} (I:Inv X pins σ H s) (hst:X.stack=X.env :: X.outer) (hfr:X.env.frame=some X.env.locals) (hex:X.ex=[])
  (hx:Zo s.heap h' e (.ref C) args) (q:E (.ref C) none H) :
  wpAny (model X.prog X.w) X.A (leaving X.env (.ref e)) (λ_ s''=>cq X.prog X.w X.outer X.H₀ X.s₀ E (.ref e) s'') R { s with heap:=h' }:=by
 have hin:∀env∈X.env :: X.outer,∀a,env.frame=some a→a∈kT X.stack:=λenv he a ha=>by rw [hst];exact Xt.mpr ⟨env,he,ha⟩
 have cov:∀b o,s.heap.get? b=some o→(H b≠none∨∃o₀,s.heap.get? b=some o₀)→b ∉ kT X.stack→(YU s.heap (kT X.stack)).get? b=some o:=λb o e _ nb=>Zq _ e nb
 refine wpAny_leaves_madeW (base:=YU s.heap (kT X.stack)) (by rw [I.ok.frames,hst]) hfr (λb o z=>ZC _ z) (PySem.W.funFrames_hide (hst ▸ I.stack) hin) hx λh2 t fl _ _ up=>?_
 have up2:s.heap.UpToSlots h2:=(Heap.UpToSlots.of_keeps hx.keeps).trans up
 exact ⟨e,.ref C,H,rfl,CO (s2:={ s with heap:=h2 }) I hst hfr hex rfl I.bare (xV I Un.refl cov fl.1 up2) (xU I Un.refl cov fl.1 I.hok) (Be Un.refl I.hok cov fl.1) fl,q⟩
abbrev SU:List Value:=[.type "ValueError",.type "Exception",.type "BaseException",.type "object"]
structure Own (K:VL) (mg:Str→Option Value) (x:Str) (C:Addr):Prop where
 mg:mg x=some (.ref C)
 own:ZH K C SU "ValueError.__new__"=true
 xc:r_ K C
variable {K:VL}
theorem Ka {bmB:List Value} {newId:String} (X:K.In h) (q:ZH K C bmB newId=true) :
  ∃bm N nm qn bs hd sn sub ab col dd k0 k1 k2 k3 k5 mN,h.get? C=some (excClassObj nm qn C N bs bm hd sn sub ab col dd k0 k1 k2 k3 k5 newId)∧h.Ns N mN∧mN "__init__"=none∧OwnTail h bmB bm:=by
 unfold ZH at q
 split at q
 ·next dd cd sl ho =>
  split at q
  ·next C' bm k0 k1 k2 k3 n k5 hm hs =>
   simp only [beq_iff_eq,Wt,ZP] at q
   obtain ⟨⟨⟨⟨⟨rfl,rfl⟩,e3⟩,e4⟩,e5⟩,e6⟩:=q
   cases cd with
   | mk nm bs mro ns qn hd sn sub ab col del =>
    have hm:mro=.ref C' :: bm:=hm
    have e3:del=false:=e3
    subst hm;subst e3
    have hsl:sl=#[k0,k1,k2,k3,some (.builtin n),k5]:=Array.toList_inj.mp hs
    subst hsl
    exact ⟨bm,ns,nm,qn,bs,hd,sn,sub,ab,col,dd,k0,k1,k2,k3,k5,_,X _ _ ho,.of_isNs (PySem.W.isNs_of_in X e5),PySem.W.nsMap_none_of_in X e5 e6,PySem.W.tail_of_in X e4⟩
  ·cases q
 ·cases q
def Oq (C:Addr) (E:XK) (t:TA):TS:=λ_ σ H=>t σ H λvs H1=>vs.length≤sizeLine∧E (.ref C) none H1
def Throws (X:Cx) (E:XK):Prop:=∀(pins:List (Addr × Obj)) (σ:St) (H:Hp) (s:Shared) (e C:Addr) (args:List Value) (h':Heap),Inv X pins σ H s→Zo s.heap h' e (.ref C) args→E (.ref C) none H→X.xe (.ref e) { s with heap:=h' }
theorem E4 {np:Pos} {t:TA} (O:Own X.K X.mg x C) (hc:X.calm=true) (hx:Throws X E) (hg:Gl X x) (ha:PA X (e :: es) t)
  (hd:(x == ("__debug__":Str))=false:=by decide) (he:starEach (e :: es) X.env=(false,eval e X.env) :: starEach es X.env:=by rfl) (hpl:(backTo cpos (starEach es X.env)).any (·.1)=false:=by rfl) :
  PS X (.Raise (some (.Call (.Name x np) (e :: es) [] cpos)) none pos) (Oq C E t):=by
 intro pins s σ H D I h
 obtain ⟨bm,N,nm,qn,bs,hd',sn,sub,ab,col,dd,k0,k1,k2,k3,k5,mN,hC,hN,hni,T⟩:=Ka I.mod.kin O.own
 have hplain:(backTo cpos (starEach (e :: es) X.env)).any (·.1)=false:=by
  rw [he]
  show (false || (backTo cpos (starEach es X.env)).any (·.1))=false
  rw [hpl];rfl
 refine wpAny_Raise_call_subT (C:=C) (N:=N) (nm:=nm) (q:=qn) (bs:=bs) (hdct:=hd') (sn:=sn) (sub:=sub) (ab:=ab) (col:=col) (dd:=dd) (k0:=k0) (k1:=k1) (k2:=k2) (k3:=k3) (k5:=k5) PySem.F.excBase_ValueError (T.hasType (by decide +kernel)) (I.ok.hd hc) hplain hni ?_
 refine jX I hg O.mg ⟨rfl,?_⟩ hd
 have key:=cn (ha cpos pins s σ H _ I h) (Q':=λus s1=>us.length≤sizeLine∧s1.heap.get? C=some (excClassObj nm qn C N bs bm hd' sn sub ab col dd k0 k1 k2 k3 k5 "ValueError.__new__")∧s1.heap.Ns N mN∧OwnTail s1.heap SU bm ∧
  ∀h' e,Zo s1.heap h' e (.ref C) us→X.xe (.ref e) { s1 with heap:=h' }) λus s1 ⟨vs,H1,I1,r,z,q⟩ =>
   ⟨by rw [← r.length];exact z,I1.bk _ _ hC,hN.keeps I1.bk,T.keeps I1.bk,λh' ea hm=>hx pins σ H1 s1 ea C us h' I1 hm q⟩
 rw [he] at key ⊢
 exact PySem.Calls.evalArgs_plain (cn key λ_ _ z=>⟨rfl,z⟩)
abbrev wG (P:Program) (w:World) (K:VL) (mg:Str→Option Value) (base:Heap) (N:List Str) (qual:Str) (scope:Scope) (f:Addr) (cd:Value) (A:Around) (outer:List Env) (s:Shared) (H:Hp) (E:XK):Cx:=Bf (cq P w) P w K mg base N qual scope f cd A outer s H E
variable {N:List Str} {f:Addr} {mg:Str→Option Value} {base:Heap} {outer:List Env} {qual:Str} {scope:Scope} {cd:Value}
theorem bH:Throws (wG P w K mg base N qual scope f cd A outer s H E) E:=λpins σ H1 s1 e C args h' I hm q =>
 leave_new (X:=wG P w K mg base N qual scope f cd A outer s H E) I rfl rfl rfl hm q
theorem oi:Passes (cq P w) (wG P w K mg base N qual scope f cd A outer s H E) E:=λpins σ H1 s1 e s' I h =>
 Eu (X:=wG P w K mg base N qual scope f cd A outer s H E) I rfl rfl rfl h
theorem bA:PassesOwn (model P w) (wG P w K mg base N qual scope f cd A outer s H E).A (wG P w K mg base N qual scope f cd A outer s H E).env (wG P w K mg base N qual scope f cd A outer s H E).xe:=PassesOwn.leaving
variable {ps:List Str} {sp:Sp}
theorem VB {fd:FuncData} (F:bZ K x qual st f fd) (S:av N ps (aq st)) (len:∀vs H Q E,sp vs H Q E→vs.length=ps.length)
  (hbody:∀(cdv:Value) (A:Around) (outer:List Env) (s:Shared) (H:Hp) (vs:List V) (Q:VK) (E:XK),bF k (A.deeper (envOfC qual (aq st) s.heap.objs.size f cdv))→sp vs H Q E →
   ∃t,QB (wG P w K mg base N qual (aq st) f cdv A outer s H E) (bX st) t∧t { nx:=λ_ H'=>Q .non H',rt:=Q } (start N vs) H):aK P w K mg base (cq P w) (k + 1) f fd ps sp:=by
 obtain ⟨oc,od,kV,doc,pm,an,cdv,ct,osl,rfl,lk,hcd⟩:=F.ex
 refine CP lk hcd S len λA outer s H vs Q E hr hsp=>?_
 obtain ⟨t,h,q⟩:=hbody cdv A outer s H vs Q E hr hsp
 exact ⟨t,h.run,q⟩
def Mo (P:Program) (w:World) (K:VL) (mg:Str→Option Value) (base:Heap) (k:Nat) (x:Str) (ps:List Str) (sp:Sp):Prop :=
 ∃f fd,aK P w K mg base (cq P w) k f fd ps sp∧Binds K fd ps []∧WL K (.ref f)=true∧mg x=some (.ref f)
theorem Kd {k':Nat} {t:TA} (C:Mo X.prog X.w X.K X.mg X.base k x ps sp) (hx:Passes (cq X.prog X.w) X E) (hr:bF k' X.A) (hk:k≤k') (hg:Gl X x) (ha:PA X (e :: es) t)
  (hdb:(x == ("__debug__":Str))=false:=by decide) (he:starEach (e :: es) X.env=(false,eval e X.env) :: starEach es X.env:=by rfl) (hpl:(backTo pos (starEach es X.env)).any (·.1)=false:=by rfl) :
  PE X (.Call (.Name x p) (e :: es) [] pos) (AG sp [] E t):=by
 obtain ⟨f,fd,F,b,kp,m⟩:=C
 exact Kc F (hr.mono hk) hg m kp b .nil hx ha hdb he hpl
theorem Def.SW (D:Def K mg x st)
  (h:∀f fd,bZ K x x st f fd→aK P w K mg base (cq P w) k f fd ps sp)
  (hb:∀(kV doc pm:Value) (an:Option Addr) (cdv ct:Value) (us:List Value),us.length=ps.length→bindArgs (WD x x (dC st) (bX st) (aq st) .none kV doc pm an cdv ct) ⟨us,[]⟩=pure (ps.zip us)) :
  Mo P w K mg base k x ps sp:=by
 obtain ⟨f,fd,F,m⟩:=D
 exact ⟨f,fd,h f fd F,F.binds hb,F.kp,m⟩
abbrev MI (X:Cx) (pn:List (Addr × Obj)) (xe:Value→Shared→Prop):Cx:={ X with pn:=pn,xe:=xe }
abbrev OP (X:Cx) (pn:List (Addr × Obj)) (e:Addr):Cx:={ X with A:=X.A.mark (some (.ref e)),calm:=false,pn:=pn,xe:=λ_ _=>False }
theorem TF (ok:X.Ok) (pn:List (Addr × Obj)) (xe:Value→Shared→Prop):(MI X pn xe).Ok :=
 ⟨ok.mod,ok.kind,ok.glob,ok.blt,ok.above,ok.inj,ok.has,ok.cab,ok.hd,ok.frames,ok.stk,ok.exf,ok.bs,ok.bsz,ok.noex,ok.exfs,ok.oj,ok.frf⟩
theorem TC (ok:X.Ok) (pn:List (Addr × Obj)) (e:Addr):(OP X pn e).Ok :=
 ⟨ok.mod,ok.kind,ok.glob,ok.blt,ok.above,ok.inj,ok.has,ok.cab,(λz=>nomatch z),ok.frames,ok.stk,ok.exf,ok.bs,ok.bsz,ok.noex,ok.exfs,ok.oj,ok.frf⟩
variable {pn:List (Addr × Obj)}
theorem PB (I:Inv X pins σ H s) (xe:Value→Shared→Prop):Inv (MI X (X.pn ++ pins) xe) [] σ H s :=
 ⟨TF I.ok _ xe,I.os,I.bare,I.base,I.loc,I.cell,I.free,I.freeC,λp hp=>I.pin p (by simpa using hp),I.hok,I.len⟩
variable {pins1:List (Addr × Obj)}
theorem o6 {xe:Value→Shared→Prop} (ok:X.Ok) (I:Inv (MI X (X.pn ++ pins) xe) pins1 σ H s):Inv X pins σ H s :=
 ⟨ok,I.os,I.bare,I.base,I.loc,I.cell,I.free,I.freeC,λp hp=>I.pin p (Xe _ hp),I.hok,I.len⟩
theorem Lo (I:Inv X pins σ H s) (e:Addr):Inv (OP X (X.pn ++ pins) e) [] σ H s :=
 ⟨TC I.ok _ e,I.os,I.bare,I.base,I.loc,I.cell,I.free,I.freeC,λp hp=>I.pin p (by simpa using hp),I.hok,I.len⟩
theorem sH {e:Addr} (ok:X.Ok) (I:Inv (OP X (X.pn ++ pins) e) pins1 σ H s):Inv X pins σ H s :=
 ⟨ok,I.os,I.bare,I.base,I.loc,I.cell,I.free,I.freeC,λp hp=>I.pin p (Xe _ hp),I.hok,I.len⟩
variable {E:Value→Shared→Prop}
theorem p6 {M:Model} {n:Str} {Q:Unit→Shared→Prop} (I:Inv X pins σ H s) (hN:X.N.Nodup) (hi:X.N[i]?=some n) (hk:X.env.kindOf n=some .local)
  (h:∀s',Inv X pins (σ.set i none) H s'→Q () s'):wpAny M A (do bindName X.env n .none;unbindBehindTheSuite X.env n pos) Q E s:=by
 obtain ⟨m,hn,hl⟩:=id I.loc
 have hcl:(X.env.scope.kind == .class || (X.env.scope.kind == .module && X.env.locals != X.env.globals))=false:=by rw [I.ok.kind];rfl
 have ne:∀b o,X.s₀.heap.get? b=some o→b≠X.env.locals:=λb o e=>Wf (V7 (V4 e) I.ok.above)
 have hiσ:i < σ.length:=by rw [I.len];exact (VO.mp hi).1
 refine wpAny_nameGoes_keeps hk hn hcl λh' v hn' hs=>?_
 refine h _ ⟨I.ok,I.os,I.bare,⟨λb o e n hb hx=>(hs.2 b (ne b o e)).trans (I.base.keep b o e n hb hx),λb o e n hb hx=>?_,I.base.free,λb o e hx=>?_,I.base.tups,I.base.frzs,I.base.tbls⟩,
  ⟨_,hn',λj y v' e1 e2 e3=>?_⟩,λy c e=>?_,I.free,I.freeC,λp hp=>?_,λb ob e=>?_,by simpa using I.len⟩
 ·obtain ⟨sl,e1⟩:=I.base.slot b o e n hb hx
  exact ⟨sl,(hs.2 b (ne b o e)).trans e1⟩
 ·obtain ⟨o',e1⟩:=I.base.there b o e hx
  exact ⟨o',(hs.2 b (ne b o e)).trans e1⟩
 ·by_cases hj:j=i
  ·subst hj
   rw [Wq hiσ] at e2
   cases e2
  ·rw [WO (Ne.symm hj)] at e2
   obtain ⟨u',r',q⟩:=hl j y v' e1 e2 e3
   refine ⟨u',r',?_⟩
   rcases q with ⟨k,e⟩ | ⟨k,c,e,z⟩
   ·refine .inl ⟨k,?_⟩
    have hy:y≠n:=λe=>hj (t4 hN e1 (e ▸ hi))
    simp [hy,e]
   ·exact .inr ⟨k,c,e,z.sameBut hs (I.tJ y c e)⟩
 ·obtain ⟨w',z⟩:=I.cell y c e
  exact ⟨w',z.sameBut hs (I.tJ y c e)⟩
 ·obtain ⟨e,n,nl,nf,d⟩:=I.pin p hp
  exact ⟨(hs.2 p.1 nl).trans e,n,nl,nf,d⟩
 ·refine (I.hok b ob e).my (λc w' hc q=>(hs.2 c ?_).trans q) (λ_ q=>q) λ_ _ q=>q
  rintro rfl
  rcases hc with z | hc
  ·rw [← z,I.free] at e;cases e
  ·rw [I.free] at hc;cases hc
theorem Bq {D:Addr} {oe:Obj} {vs:Array Value} (I:Inv X pins σ H s) (he:s.heap.get? ea=some oe) (hc:oe.cls=.ref D) (hd:oe.data=.fields vs) (hn:H ea=none) (h0:X.s₀.heap.get? ea=none) (hp:∀p∈X.pn ++ pins,p.1≠ea) :
  Inv X pins σ (upd H ea (.ext (ExcAt ea D))) s:=by
 have nl:X.env.locals≠ea:=λz=>by
  obtain ⟨m,⟨o,es,ep,ho,hd',_⟩,_⟩:=I.loc
  rw [z,he] at ho;cases ho;rw [hd] at hd';cases hd'
 refine ⟨I.ok,I.os,I.bare,⟨I.base.keep,I.base.slot,λb o e n hx=>?_,I.base.there,λb xs q=>?_,λb o xs q=>?_,λb ps q=>?_⟩,I.loc,I.cell,?_,λx c e=>?_,λp hq=>?_,λb u q=>?_,I.len⟩
 ·rw [aI (λz=>by rw [z,h0] at e;cases e)]
  exact I.base.free b o e n hx
 ·have:=I.base.tups b xs q
  rw [aI (cO this hn)];exact this
 ·have:=I.base.frzs b o xs q
  rw [aI (cO this hn)];exact this
 ·obtain ⟨m,z⟩:=I.base.tbls b ps q
  exact ⟨m,by rw [aI (cO z hn)];exact z⟩
 ·rw [aI nl];exact I.free
 ·rw [aI]
  ·exact I.freeC x c e
  ·rintro rfl
   obtain ⟨v,o,ho,hd'⟩:=I.cell x c e
   rw [he] at ho;cases ho;rw [hd] at hd';cases hd'
 ·obtain ⟨e,n,r⟩:=I.pin p hq
  exact ⟨e,by rw [aI (hp p hq)];exact n,r⟩
 ·by_cases hb:b=ea
  ·subst hb
   rw [aL] at q;cases q
   exact ⟨⟨oe,he,hc⟩,⟨oe,he⟩,λh1 h2 ⟨o,a,c⟩ k=>⟨o,k o a,c⟩⟩
  ·rw [aI hb] at q
   exact (I.hok b u q).my (λ_ _ _ z=>z) (λc z=>by rw [aI (cO z hn)];exact z) λc xs z=>by rw [aI (cO z hn)];exact z
theorem nA.new (I:Inv X pins σ H s) (F:nA X.prog X.w X.stack H s ea cls H' s'):H' ea=none∧s.heap.get? ea=none:=by
 obtain ⟨B,t,fl,cov⟩:=F.fl
 obtain ⟨oe,vs,he,_,hd,_⟩:=fl.first
 have nf:ea ∉ kT X.stack:=λhb=>by
  obtain ⟨_,o,ho,hn⟩:=lD I F.un hb
  rw [he] at ho;cases ho
  exact hn vs hd
 have no:¬ (H' ea≠none∨∃o₀,s.heap.get? ea=some o₀):=λz=>by
  have:=cov ea oe he z nf
  rw [fl.2.1] at this;cases this
 refine ⟨?_,?_⟩
 ·cases q:H' ea with
  | none=>rfl
  | some u=>exact absurd (.inl (by rw [q];exact λz=>nomatch z)) no
 ·cases q:s.heap.get? ea with
  | none=>rfl
  | some u=>exact absurd (.inr ⟨u,q⟩) no
def Ul (K:VL) (N:Nat) (CW:Addr) (i:Nat) (tb:XK→TS) (ts:TS):TS:=λD σ H=>tb (λcls _ H'=>∃C,cls=.ref C∧PySem.W.exmOne K (.ref C) (.ref CW)=some true ∧
 ∀ea,H' ea=none→ts { nx:=λσ' H2=>D.nx (σ'.set i none) H2,rt:=D.rt,bk:=λσ' H2=>D.bk (σ'.set i none) H2,ct:=λσ' H2=>D.ct (σ'.set i none) H2 } ((WW N none).set i (some (.ref ea))) (upd H' ea (.ext (ExcAt ea C)))) D σ H
theorem Kq {suite:List Stmt} {b₀:Stmt} {n:Str} {CW:Addr} {tb:XK→TS} {ts:TS} {np hpos:Pos} (hst:X.stack=X.env :: X.outer) (hfr:X.env.frame=some X.env.locals) (hex:X.ex=[]) (hg:Gl X x) (hm:X.mg x=some (.ref CW))
  (hN:X.N.Nodup) (hi:X.N[i]?=some n) (hk:X.env.kindOf n=some .local) (hb:∀pn xe E,Passes (cq X.prog X.w) (MI X pn xe) E→xI (MI X pn xe) body (tb E)) (hs:∀pn ea,xI (OP X pn ea) (b₀ :: suite) ts) (hd:(x == ("__debug__":Str))=false:=by decide) :
  PS X (.Try body [.ExceptHandler (some (.Name x np)) (some n) (b₀ :: suite) hpos] [] [] pos) (Ul X.K X.N.length CW i tb ts):=by
 intro pins s σ H D I h
 refine wpAny_Try_except ?_
 refine wpAny_mono (hb (X.pn ++ pins) (λe s₁=>wpAny (model X.prog X.w) X.A (noteFrame e X.env) (λ_ s₂=>wpAny (model X.prog X.w) X.A (setFlight e none) (λ_ s₃ =>
  wpAny (model X.prog X.w) X.A (handleBy e X.env [.ExceptHandler (some (.Name x np)) (some n) (b₀ :: suite) hpos]) (SP X pins D) X.xe s₃) X.xe s₂) X.xe s₁) _ ?pass [] s σ H D (PB I _) h) (λf s1 q=>?_) (λ_ _ z=>z)
 case pass =>
  intro pins1 σ1 H1 s1 e s' I1 hf
  obtain ⟨ea,cls,H2,rfl,F,C,rfl,em,k⟩:=hf
  have J1:Inv X pins σ1 H1 s1:=o6 I.ok I1
  have F:nA X.prog X.w X.stack H1 s1 ea (.ref C) H2 s':=F
  obtain ⟨hn,hnew⟩:=nA.new J1 F
  obtain ⟨B,t,fl,on⟩:=nA.on J1 F
  have h0:X.s₀.heap.get? ea=none:=by
   cases q:X.s₀.heap.get? ea with
   | none=>rfl
   | some o =>
    obtain ⟨o',e1⟩:=J1.base.there ea o q (by rw [hex];simp)
    rw [hnew] at e1;cases e1
  refine wpAny_looks_onW (by rw [I.ok.frames,hst]) hfr (hst ▸ fl) λh4 held4 up4=>?_
  refine wpAny_landsW held4 λh5 fl5 up5=>?_
  have F5:=on h5 (hst ▸ fl5) (up4.trans up5)
  have J5:Inv X pins σ1 H2 { s' with heap:=h5 }:=J1.FD F5.os F5.un F5.hok F5.bare (λb z=>absurd z (by simp))
  have Y5:=Lo J5 ea
  refine wpAny_handleBy_cons (codeAny_handlers_test (jX Y5 hg hm ?_ hd)) (by intro q;cases q)
  obtain ⟨ob,hob,hobc⟩:=fl5.there
  have LT:PySem.W.Looks (model X.prog X.w) h5 (typeOf (.ref ea)) (.ref C):=ExcAt.ty ⟨ob,hob,hobc⟩
  refine (PySem.W.exm_one Y5.wQ LT em).here ?_
  refine codeAny_handlers_suite_as ?_
  refine lands_againW fl5 λh6 fl6 up6=>?_
  have F6:=on h6 (hst ▸ fl6) ((up4.trans up5).trans up6)
  have J6:Inv X pins σ1 H2 { s' with heap:=h6 }:=J1.FD F6.os F6.un F6.hok F6.bare (λb z=>absurd z (by simp))
  obtain ⟨oe,vs,hoe,hoec,hoed,_⟩:=fl6.first
  have J7:=Bq J6 hoe hoec hoed hn h0 λp hp z=>by
   have:=(J1.pin p hp).1
   rw [z,hnew] at this;cases this
  have Y7:=Lo (J7.weak (σ':=WW X.N.length none) (by rw [YZ,J7.len]) λj v z=>by
   rw [YI] at z
   split at z <;> cases z) ea
  refine gr (X:=OP X (X.pn ++ pins) ea) Y7 hN hi (Or.inl hk) (v:=.ref ea) rfl (λs8 I8=>?_) (Or.inr hk)
  refine wpAny_noRaise (cn (hs (X.pn ++ pins) ea [] s8 _ _ _ I8 (k ea hn)) λf s9 q=>?_)
  cases f with
  | next=>obtain ⟨σ',H',I',q⟩:=q;exact p6 (sH I.ok I') hN hi hk λ_ I9=>⟨_,_,I9,q⟩
  | brk=>obtain ⟨σ',H',I',q⟩:=q;exact p6 (sH I.ok I') hN hi hk λ_ I9=>⟨_,_,I9,q⟩
  | cont=>obtain ⟨σ',H',I',q⟩:=q;exact p6 (sH I.ok I') hN hi hk λ_ I9=>⟨_,_,I9,q⟩
  | ret u=>obtain ⟨v,σ',H',I',r,q⟩:=q;exact p6 (sH I.ok I') hN hi hk λ_ I9=>⟨v,_,_,I9,r,q⟩
 ·cases f with
  | next=>obtain ⟨σ',H',I',q⟩:=q;exact wpAny_execs_nil ⟨_,_,o6 I.ok I',q⟩
  | brk=>obtain ⟨σ',H',I',q⟩:=q;exact ⟨_,_,o6 I.ok I',q⟩
  | cont=>obtain ⟨σ',H',I',q⟩:=q;exact ⟨_,_,o6 I.ok I',q⟩
  | ret u=>obtain ⟨v,σ',H',I',r,q⟩:=q;exact ⟨v,_,_,o6 I.ok I',r,q⟩
def Pj:V→Option Value
 | .ref a=>some (.ref a)
 | .ty n=>some (.type n)
 | _=>none
def Ra (K:VL):List V→Hp→VK→Prop:=λxs H Q=>∃a D c cv b,xs=[.ref a,c]∧H a=some (.ext (ExcAt a D))∧r_ K D∧Pj c=some cv∧Yx K (.ref D) cv=some b∧Q (.bl b) H
theorem dm (hK:X.K=K):bJ X (.builtin "isinstance") (Ra K):=by
 subst hK
 intro pins s σ H xs us Q I r h
 obtain ⟨a,D,c,cv,b,rfl,ha,xc,rc,e,q⟩:=h
 obtain ⟨u,w',rfl,rx,ry⟩:=vals2 r
 obtain rfl:u=Value.ref a:=rx
 have:w'=cv:=by
  cases c with
  | ref z=>exact (show w'=Value.ref z from ry).trans (Option.some.inj rc)
  | ty z=>exact (show w'=Value.type z from ry).trans (Option.some.inj rc)
  | _=>cases rc
 subst this
 exact PySem.W.kia_one (Gi xc) I.wQ (I.hok a _ ha).1 e (by intro z;cases z) λtk=>⟨.bl b,H,I.tok _,rfl,q⟩
def iL (i:Nat):Str:=(["BadName","Taken","Full","NoCraft","TooFar","BadMoment","Past","NotThere","NoWatch","NoTale"]:List Str).getD i ""
structure D7 (K:VL) (mg:Str→Option Value) (W:Addr) (c:Nat→Addr):Prop where
 nV:mg "ValueError"=none
 mW:mg "WaterError"=some (.ref W)
 own:∀i,i < 10→Own K mg (iL i) (c i)
 val:∀i,i < 10→Yx K (.ref (c i)) (.type "ValueError")=some true
 wat:∀i,i < 10→PySem.W.exmOne K (.ref (c i)) (.ref W)=some true
 kit:∀i,i < 10→∀j,j < 10→Yx K (.ref (c i)) (.ref (c j))=some (decide (i=j))
open PySem.W in
def IF (K:Frag) (D:Addr):Bool:=(clsIn K D).isSome && findIn K (.ref D) "__getattribute__" == some (some (.builtin "BaseException.__getattribute__")) && findIn K (.ref D) "__getattr__" == some none &&
 findIn K (.ref D) "__class__" == some (some (.builtin "object.__class__")) && specialIn K (.builtin "object.__class__") "__get__" == some (some (.builtin "getset_descriptor.__get__")) && takesIn K (.builtin "object.__class__") == some true &&
 mroIn K D (.type "object") == some true && subIn K (.ref D) (.type "BaseException") == some true
theorem Lc {D:Addr} (h:IF K D=true):r_ K D:=by
 simp only [IF,Wt,beq_iff_eq] at h
 obtain ⟨⟨⟨⟨⟨⟨⟨a,b⟩,c⟩,d⟩,e⟩,f⟩,g⟩,i⟩:=h
 exact ⟨a,b,c,d,e,f,g,i⟩
open PySem.W in
def Pr (K:Frag) (W:Addr) (cs:List Addr):Bool:=cs.length == 10 && (WM 10).all λi=>excIn K (cs.getD i 0) SU "ValueError.__new__" && IF K (cs.getD i 0) && kitOne K (.ref (cs.getD i 0)) (.type "ValueError") == some true &&
 exmOne K (.ref (cs.getD i 0)) (.ref W) == some true && (WM 10).all λj=>kitOne K (.ref (cs.getD i 0)) (.ref (cs.getD j 0)) == some (decide (i=j))
theorem Jp (X:K.In h) (G:h.Ns mainGlobals mg) {W c0 c1 c2 c3 c4 c5 c6 c7 c8 c9:Addr} (v:WA K mainGlobals "ValueError"=some none) (w:WA K mainGlobals "WaterError"=some (some (.ref W)))
  (a0:WA K mainGlobals "BadName"=some (some (.ref c0))) (a1:WA K mainGlobals "Taken"=some (some (.ref c1))) (a2:WA K mainGlobals "Full"=some (some (.ref c2))) (a3:WA K mainGlobals "NoCraft"=some (some (.ref c3)))
  (a4:WA K mainGlobals "TooFar"=some (some (.ref c4))) (a5:WA K mainGlobals "BadMoment"=some (some (.ref c5))) (a6:WA K mainGlobals "Past"=some (some (.ref c6))) (a7:WA K mainGlobals "NotThere"=some (some (.ref c7)))
  (a8:WA K mainGlobals "NoWatch"=some (some (.ref c8))) (a9:WA K mainGlobals "NoTale"=some (some (.ref c9))) (b:Pr K W [c0,c1,c2,c3,c4,c5,c6,c7,c8,c9]=true):∃W c,D7 K mg W c:=by
 have m:∀i,i < 10→mg (iL i)=some (.ref ([c0,c1,c2,c3,c4,c5,c6,c7,c8,c9].getD i 0)):=λi hi=>by
  match i,hi with
  | 0,_=>exact Wy X G a0
  | 1,_=>exact Wy X G a1
  | 2,_=>exact Wy X G a2
  | 3,_=>exact Wy X G a3
  | 4,_=>exact Wy X G a4
  | 5,_=>exact Wy X G a5
  | 6,_=>exact Wy X G a6
  | 7,_=>exact Wy X G a7
  | 8,_=>exact Wy X G a8
  | 9,_=>exact Wy X G a9
 unfold Pr at b
 have b:=(Bool.and_eq_true_iff.mp b).2
 have k:∀i,i < 10→_:=λi hi=>Xb.mp b i (W8.mpr hi)
 simp only [Wt,beq_iff_eq,Xb,W8] at k
 exact ⟨W,λi=>[c0,c1,c2,c3,c4,c5,c6,c7,c8,c9].getD i 0,Yr X G v,Wy X G w,λi hi=>⟨m i hi,(k i hi).1.1.1.1,Lc (k i hi).1.1.1.2⟩,λi hi=>(k i hi).1.1.2,λi hi=>(k i hi).1.2,λi hi j hj=>(k i hi).2 j hj⟩
def xS (i:Nat):List V:=.bl true :: (WM 10).map λj=>.bl (decide (i=j))
abbrev tI (K:VL) (m:Nat) (v:V):TE:=Mh (Ra K) (gu (Fc m) (gu (tC v) zf))
variable {b:Bool}
theorem mz {m ea:Nat} {D:Addr} {v:V} {cv:Value} {Q:VK} (hσ:σ[m]?=some (some (.ref ea))) (hH:H ea=some (.ext (ExcAt ea D))) (xc:r_ K D) (hv:Pj v=some cv) (hk:Yx K (.ref D) cv=some b) (q:Q (.bl b) H) :
  tI K m v σ H Q:=⟨_,hσ,ea,D,v,cv,b,rfl,hH,xc,hv,hk,q⟩
theorem Ia {W:Addr} {c:Nat→Addr} (Er:D7 K mg W c) {m n:Nat} (hi:i < 10) {D:Ends} (hσ:σ[m]?=some (some (.ref ea))) (hH:H ea=some (.ext (ExcAt ea (c i))))
  (q:∀l,H l=none→D.nx (σ.set n (some (.ref l))) (upd H l (.lst (xS i)))) :
  Cm (Ii (gu (tI K m (.ty "ValueError")) (gu (tI K m (.ref (c 0))) (gu (tI K m (.ref (c 1))) (gu (tI K m (.ref (c 2))) (gu (tI K m (.ref (c 3))) (gu (tI K m (.ref (c 4))) (gu (tI K m (.ref (c 5))) (gu (tI K m (.ref (c 6))) (gu (tI K m (.ref (c 7)))
   (gu (tI K m (.ref (c 8))) (gu (tI K m (.ref (c 9))) zf)))))))))))) (tO n) D σ H:=by
 have xc:=(Er.own i hi).xc
 have k:=Er.kit i hi
 refine mz hσ hH xc rfl (Er.val i hi) (mz hσ hH xc rfl (k 0 (by decide)) (mz hσ hH xc rfl (k 1 (by decide)) (mz hσ hH xc rfl (k 2 (by decide)) (mz hσ hH xc rfl (k 3 (by decide)) (mz hσ hH xc rfl (k 4 (by decide))
  (mz hσ hH xc rfl (k 5 (by decide)) (mz hσ hH xc rfl (k 6 (by decide)) (mz hσ hH xc rfl (k 7 (by decide)) (mz hσ hH xc rfl (k 8 (by decide)) (mz hσ hH xc rfl (k 9 (by decide)) ?_))))))))))
 exact ⟨(by show 11≤sizeLine;decide),λl hl=>q l hl⟩
theorem _root_.L2.bF.aM (r:bF k A):A.units + 61 < cLine:=by have:=r.un;omega
def eL (P:Addr) (h:Heap):Prop:=∃ps:Array Value,h.get? P=some { cls:=.none,data:=.fields ps }∧TriplesOk ps.toList
def k9 (K:VL) (c P:Addr):Prop:=c≠P∧∃(o:Obj) (vs:Array Value) (file:Str) (tf:Tok) (flags:Int) (tg:Tok) (inF:Bool) (text:Int) (tt:Tok),
 K.lookup c=some o∧o.cls=.type "code"∧o.data=.fields vs∧vs[11]?=some (.ref P)∧vs.getD 18 .none=.str file tf∧vs.getD 7 .none=.int flags tg∧vs.getD 9 .none=.bool inF∧vs.getD 10 .none=.int text tt
def BMain (mg:Str→Option Value) (h:Heap):Prop:=∃bm ob,mg "__builtins__"=some (.ref bm)∧bm≠builtinsNs∧h.get? bm=some ob∧ob.cls=.type "module"∧ob.dict=some builtinsNs∧ob.data=.plain
variable {P c:Addr}
theorem k9.at {ps:Array Value} (Z:k9 K c P) (X:K.In h) (hp:h.get? P=some { cls:=.none,data:=.fields ps }) (tr:TriplesOk ps.toList):h.IsCode c P ps∧h.TableAt c P ps:=by
 obtain ⟨ne,o,vs,file,tf,flags,tg,inF,text,tt,lk,hc,hd,h11,h18,h7,h9,h10⟩:=Z
 have e11:vs.getD 11 .none=.ref P:=by
  rw [Array.getD_eq_getD_getElem?,h11];rfl
 exact ⟨⟨o,vs,file,tf,flags,tg,inF,text,tt,_,X _ _ lk,hd,e11,h18,h7,h9,h10,hp,rfl,tr,ne⟩,⟨o,vs,X _ _ lk,hc,hd,h11⟩,hp⟩
theorem C1 (I:Inv X pins σ H s) (hP:H P=some (.ext (eL P))) (os:s'.os=s.os) (bare:AllBare s'.gens) (k:∀b o,b≠P→s.heap.get? b=some o→s'.heap.get? b=some o) (t:eL P s'.heap):Inv X pins σ H s':=by
 have nP:∀b,H b=none→b≠P:=λb n z=>by rw [z,hP] at n;cases n
 have hok:oK X.prog X.w H s'.heap:=λb u e=>by
  by_cases hb:b=P
  ·subst hb
   rw [hP] at e;cases e
   obtain ⟨ps,hp,_⟩:=id t
   exact ⟨t,⟨_,hp⟩,((I.hok b _ hP)).2.2⟩
  ·refine (I.hok b u e).my (λd v hd q=>k d v ?_ q) (λ_ q=>q) λ_ _ q=>q
   rcases hd with rfl | hd
   ·exact hb
   ·intro z
    rw [z,hP] at hd;cases hd
 have un:Un (kT X.stack) [] H H s.heap s'.heap:=⟨λb o e n _ _=>k b o (nP b n) e,λb o e n _ _=>⟨o.slots,k b o (nP b n) e⟩,λ_ _ _ n _=>n,λb o e _=>by
  by_cases hb:b=P
  ·subst hb
   obtain ⟨ps,hp,_⟩:=t
   exact ⟨_,hp⟩
  ·exact ⟨o,k b o hb e⟩,λ_ _ q=>q,λ_ _ _ q=>q,λ_ ps q=>⟨#[],by rw [q];simp⟩⟩
 exact I.FD os un hok bare λb z=>absurd z (by simp)
theorem zG {M:Model} {env:Env} {q:Str} {sc:Scope} {Q:Value→Shared→Prop} (hc:env.code=.ref c) (Z:k9 X.K c P) (kin:X.K.In s.heap) (t:eL P s.heap)
  (h:∀code h' tk,(∀b o,b≠P→s.heap.get? b=some o→h'.get? b=some o)→s.heap.objs.size≤h'.objs.size→eL P h'→Q code { s with heap:=h',toks:=tk }):wpAny M A (genexprCode env pos q sc) Q E s:=by
 obtain ⟨ps,hp,tr⟩:=t
 obtain ⟨ic,ta⟩:=Z.at kin hp tr
 cases hf:codeAmong pos ps.toList with
 | some c'=>exact wpAny_genexprCode_hit hc ic hf (h c' s.heap s.toks (λ_ _ _ e=>e) (VT _) ⟨ps,hp,tr⟩)
 | none =>
  refine wpAny_genexprCodeX hc ic ta hf λc' h' tk ext l1 l2 ic' _ ta' _=>h _ h' tk (λb o nb e=>ext b o nb e) (Ym (Wn l1 l2)) ⟨_,ta'.2,?_⟩
  obtain ⟨_,_,_,_,_,_,_,_,_,_,_,_,_,_,_,_,_,hop,hpd,tr',_⟩:=ic'
  exact tr'
theorem zt {α:Type} (B:List α) (q:α→Bool):((WM B.length).all λj=>(B[j]?).elim true q)=B.all q:=by
 rw [Y1,Xb,Xb]
 refine ⟨λh b hb=>?_,λh j hj=>?_⟩
 ·obtain ⟨j,hj,rfl⟩:=Xl hb
  have:=h j (W8.mpr hj)
  rwa [VN hj] at this
 ·have hj:=W8.mp hj
  rw [VN hj]
  exact h _ (Wi hj)
def fG (tx:Str) (ch:Nat):Bool:=!(Builtin.Str.occurrences tx ⟨#[ch]⟩ 0 tx.length 1).isEmpty
def Oe (P:Addr) (tx:Str) (ti:TE):TE:=λσ H Q=>ti σ H λv H1=>∃y:Str,v=.str y∧H1 P=some (.ext (eL P))∧Q (.bl (y.cps.toList.all (fG tx))) H1
theorem Hs {prog:Program} {env:Env} {g:Str} {tx y:Str} {tt:Tok} {code:Value} {fp wr:List Addr} {href:Heap} {D U:Nat} {p1 p3:Pos} (sck:scope.kind=.function) (hx:scope.names.lookup x=some .local) (hg:scope.names.lookup g=some .globalImplicit)
  (ns:href.Ns env.globals mg) (hm:mg g=some (.str tx tt)) (h1:env.globals∈fp) (h2:env.globals ∉ wr) (hmk:behindInMarks .In (.Name g p2)=false) (hdx:(x == ("__debug__":Str))=false) (hdg:(g == ("__debug__":Str))=false) :
  QuietGenD prog w (genEnv scope [] C code builtinsNs env) x [] (.Compare (.Name x p1) [.In] [.Name g p2] p3) fp wr (SignAt y) (λ_=>true) (λi v=>∃ch,y.cps[i]?=some ch∧v=.bool (fG tx ch)) href D U where
 tests:=λA' E' i v s₂ m₂ _ _ _ _ _ _ _=>wpAny_pure ⟨rfl,_,_,rfl,λ_ _ e=>e⟩
 elt:=λA' E' i v s₂ m₂ _ _ _ hP _ hn hmx hk=>by
  obtain ⟨ch,u,hch,rfl⟩:=hP
  refine wpAny_Compare1 (wpAny_Name (wpAny_loadName_local (show (genEnv scope [] C code builtinsNs env).scope.kind=.function from sck) (show (genEnv scope [] C code builtinsNs env).kindOf x=some .local from hx) hn hmx ?_) hdx) hmk
  refine Calls.Name_function_global (show (genEnv scope [] C code builtinsNs env).scope.kind=.function from sck) (show (genEnv scope [] C code builtinsNs env).kindOf g=some .globalImplicit from hg) (Calls.loadGlobal_global (ns.at' λo e=>hk _ h1 h2 o e) hm ?_) hdg
  exact in_str ⟨⟨ch,hch,rfl⟩,_,_,rfl,λ_ _ e=>e⟩
theorem EY {g:Str} {px p1 p3 gpos:Pos} {iter:Expr} {ti:TE} {tx:Str} {tt:Tok} (hcalm:X.calm=true) (Bm:BMain X.mg X.base) (hcode:X.env.code=.ref c) (Z:k9 X.K c P) (hdep:X.A.depth < recursionLimit)
  (hgl:Gl X "all") (hma:X.mg "all"=none) (hsg:X.mg g=some (.str tx tt)) (hi:PE X iter ti) (sck:scope.kind=.function) (hco:scope.isCoroutine=false) (hclos:closureFor scope X.env=pure []) (hcell:∀y∈scope.names,y.2≠.cell)
  (h0:scope.names.lookup (".0":Str)=some NameKind.local) (hx:scope.names.lookup x=some .local) (hsc:scope.names.lookup g=some .globalImplicit) (hmk:behindInMarks .In (.Name g p2)=false) (hs:∀x,genFold iter X.env x=pure x)
  (hst:starEach [.GeneratorExp (.Compare (.Name x p1) [.In] [.Name g p2] p3) [⟨.Name x px,iter,[],0⟩] scope gpos] X.env=[(false,eval (.GeneratorExp (.Compare (.Name x p1) [.In] [.Name g p2] p3) [⟨.Name x px,iter,[],0⟩] scope gpos) X.env)])
  (hdx:(x == ("__debug__":Str))=false) (hdg:(g == ("__debug__":Str))=false) :
  PE X (.Call (.Name "all" p) [.GeneratorExp (.Compare (.Name x p1) [.In] [.Name g p2] p3) [⟨.Name x px,iter,[],0⟩] scope gpos] [] cpos) (Oe P tx ti):=by
 intro pins s σ H Q I h
 refine wpAny_Call_Name_kw (jW I hgl hma PyProof.Rows.Boot.«all» ?_)
 refine PyProof.Rows.callWith_builtin1 ?_ hst rfl
 rw [hst]
 show wpAny _ _ (spliced ((false,eval (.GeneratorExp (.Compare (.Name x p1) [.In] [.Name g p2] p3) [⟨.Name x px,iter,[],0⟩] scope gpos) X.env) :: [])) _ _ s
 refine Calls.spliced_cons ?_
 refine wpAny_GeneratorExp_walksQD (I.ok.hd hcalm) hco hclos hcell h0 hx sck hdep ?_ hs
 refine cn (hi pins s σ H _ I h) λxv s1 ⟨v,H1,I1,r1,y,ev,hP,q⟩=>?_
 subst ev
 obtain ⟨ty,rfl⟩:=r1
 have t1:eL P s1.heap:=(I1.hok P _ hP).1
 have ltP:P < s1.heap.objs.size:=I1.hok.lt hP
 refine wpAny_pyIter_str λo St W st0=>?_
 have k1:∀b ob,s1.heap.get? b=some ob→(s1.heap.push o).get? b=some ob:=λb ob e=>VW _ e
 refine ⟨I1.nolimit.keeps k1,?_⟩
 have t2:eL P (s1.heap.push o):=let ⟨ps,hp,tr⟩:=t1;⟨ps,k1 _ _ hp,tr⟩
 refine zG (X:=X) (s:={ s1 with heap:=s1.heap.push o }) hcode Z (I1.wQ.keeps k1) t2 λcode h' tk k sz t'=>?_
 have kk:∀b ob,b≠P→s1.heap.get? b=some ob→h'.get? b=some ob:=λb ob nb e=>k b ob nb (k1 b ob e)
 have nsP:∀(b:Addr) (m:Str→Option Value),s1.heap.Ns b m→b≠P:=λb m hn z=>by
  obtain ⟨ob,es,ep,ho,hd,_⟩:=hn
  obtain ⟨ps,hp,_⟩:=t1
  rw [z,hp] at ho;cases ho;cases hd
 have nsK:∀(b:Addr) (m:Str→Option Value),s1.heap.Ns b m→h'.Ns b m:=λb m hn=>hn.at' λob e=>kk b ob (nsP b m hn) e
 have nsG:s1.heap.Ns X.env.globals X.mg:=by rw [I1.ok.glob];exact I1.mod.glob.keeps I1.bk
 have nl:h'.NoLimit:=let ⟨mc,h1,h2⟩:=I1.nolimit;⟨mc,nsK _ _ h1,h2⟩
 have ltC:cStatics < s1.heap.objs.size:=let ⟨mc,h1,_⟩:=I1.nolimit;h1.lt
 have szI:s1.heap.objs.size < h'.objs.size:=V7 (by rw [Yv];exact Xo _) sz
 obtain ⟨bm,ob,b1,b2,b3,b4,b5,b6⟩:=Bm
 have b3':=I1.bk _ _ b3
 have nbm:bm≠P:=λz=>by
  obtain ⟨ps,hp,_⟩:=t1
  rw [z,hp] at b3'
  rw [← Option.some.inj b3'] at b6;cases b6
 refine wpAny_builtinsFor (nsK _ _ nsG) b1 b2 (kk _ _ nbm b3') b4 b5 b6 ?_
 refine ⟨s1.heap.objs.size,[s1.heap.objs.size],[s1.heap.objs.size],y.cps.size,SignAt y,St,λ_=>true,λi v=>∃ch,y.cps[i]?=some ch∧v=.bool (fG tx ch),rfl,W,
  (W X.A (I.ok.hd hcalm)).frame _ _ _ st0 λb hb o' e=>k b o' (by rw [VV.mp hb];exact Yn ltP) e,λb hb=>by rw [VV.mp hb];exact szI,nl,
  λhb=>Wf ltC (VV.mp hb),λhref kh=>Hs sck hx hsc ((nsK _ _ nsG).keeps kh) hsg (W8.mpr (nsK _ _ nsG).lt) (λhb=>Wf nsG.lt (VV.mp hb)) hmk hdx hdg,λa h5 tk5 gs hgs ltA szA k5 WS G=>?_⟩
 refine Calls.spliced_nil ?_
 have pall:passing (λ_=>true) y.cps.size 0=WM y.cps.size:=by simp [passing]
 have WS:=WS.in4_1
 refine call_all_walkS (WS.self 0 _ _ _ G ⟨a,_,_,_,_,_,_,(λj=>(y.cps.toList[j]?).elim true (fG tx)),rfl,WS,G,λj v s Q E hv hQ=>?_,λs' hm=>?_⟩)
 ·obtain ⟨i,hi,ch,hch,rfl⟩:=hv
  rw [pall] at hi
  have hji:i=j:=by
   obtain ⟨hj,e⟩:=VO.mp hi
   simpa using e.symm
  subst hji
  have e:y.cps.toList[i]?=some ch:=by simpa using hch
  simp only [e,Option.elim] at hQ
  exact wpAny_truthy_bool hQ
 ·have nwr:∀b,b < s1.heap.objs.size→b ∉ h'.objs.size :: [s1.heap.objs.size]:=λb hb hm=>by
   rcases V2.mp hm with z | z
   ·omega
   ·have:=VV.mp z
    omega
  refine ⟨.bl _,H1,C1 I1 hP hm.os ((I1.bare.push hgs).movedS hm) (λb o' nb e=>hm.heap b o' (nwr b (V4 e)) (k5 b o' (kk b o' nb e))) ?_,rfl,?_⟩
  ·obtain ⟨ps,hp,tr⟩:=t'
   exact ⟨ps,hm.heap P _ (nwr P ltP) (k5 P _ hp),tr⟩
  ·rw [pall]
   have e:y.cps.size=y.cps.toList.length:=by simp
   have z:=zt y.cps.toList (fG tx)
   rw [X1,e,z]
   exact q
structure IZ (K:VL) (mg:Str→Option Value) (x:Str) (st:Stmt) (P:Addr) (f:Addr) (fd:FuncData) (c:Addr):Prop where
 fn:bZ K x x st f fd
 mg:mg x=some (.ref f)
 code:fd.code=.ref c
 tab:k9 K c P
 out:K.lookup P=none
def AY (K:VL) (mg:Str→Option Value) (x:Str) (st:Stmt) (P:Addr):Prop:=∃f fd c,IZ K mg x st P f fd c
def codeB (vs:Array Value):Bool:=(match vs.getD 18 .none with | .str _ _=>true | _=>false) && (match vs.getD 7 .none with | .int _ _=>true | _=>false) && (match vs.getD 9 .none with | .bool _=>true | _=>false) && (match vs.getD 10 .none with | .int _ _=>true | _=>false)
theorem Ep {P:Program} {mb:Str→Option Value} {fa:Addr} {fd:FuncData} {s₁:Shared} {vs:List Value} {ns:List Int} {tabs:List Addr}
  (KX:K.In s₁.heap) (hns:s₁.heap.Ns mainGlobals mg) (hb:s₁.heap.Ns builtinsNs mb) (hbb:∀x:Str,x≠"__name__"→mb x=bootBuiltins x) (hlim:s₁.heap.NoLimit) (hg:s₁.gens=#[])
  (ha:s₁.heap.get? a=some { cls:=.type "list",data:=.seq vs.toArray }) (hi:IntsAre vs ns) (hl:ns.length≤sizeLine) (hr:bF k callerA) (hbm:BMain mg s₁.heap)
  (htab:∀T∈tabs,isCodeTable s₁.heap T∧s₁.heap.get? T=some { cls:=.none,data:=.fields #[] }∧K.lookup T=none)
  (F:∀base:Heap,K.In base→base.Ns mainGlobals mg→BMain mg base→aK P w K mg base OO k fa fd [x] sp) (hbind:∀(s:Shared) (u:Value),BindsTo s fd ⟨[u],[]⟩ [(x,u)])
  (hsp:∀H:Hp,(∀T∈tabs,H T=some (.ext (eL T)))→dG K H a (ns.map V.int)→(∀b,H b≠none→b=a∨b∈tabs)→(∀u,H a=some u→∃o xs,u=.rH o (.lst xs))→sp [.ref a] H (λv H'=>v=.bl true∧cb H H') λ_ _ _=>False) :
  codeAny (model P w) callerA (.call (.ref fa) ⟨[.ref a],[]⟩) (λr s'=>r=.ok (.ret (.bool true))∧OldK s₁.heap s'.heap∧s'.os=s₁.os∧AllBare s'.gens) s₁:=by
 have rv:=xn hi
 have lenV:=hi.length
 have naT:∀T∈tabs,T≠a:=λT hT z=>by
  have:=(htab T hT).2.1
  rw [z,ha] at this
  have h1:=congrArg Obj.cls (Option.some.inj this)
  cases h1
 have core:∀H:Hp,(∀T∈tabs,H T=some (.ext (eL T)))→dG K H a (ns.map V.int)→oK P w H s₁.heap→(∀b,H b≠none→b=a∨b∈tabs)→(∀u,H a=some u→K.lookup a=none∧∃o xs,u=.rH o (.lst xs)) →
   codeAny (model P w) callerA (.call (.ref fa) ⟨[.ref a],[]⟩) (λr s'=>r=.ok (.ret (.bool true))∧OldK s₁.heap s'.heap∧s'.os=s₁.os∧AllBare s'.gens) s₁:=by
  intro H hT hS hok hA hK
  have base_of:∀{b:Addr} {o:Obj},s₁.heap.get? b=some o→H b=none→(vG s₁.heap H).get? b=some o:=λe n=>F1 e n
  have no:∀{b:Addr} {o:Obj},s₁.heap.get? b=some o→(∀xs n,o.data≠.seq xs n)→(∀xs,o.data≠.fields xs)→H b=none:=λ{b o} e d1 d2=>by
   cases q:H b with
   | none=>rfl
   | some u =>
    rcases hA b (by rw [q];simp) with rfl | hb
    ·rw [ha] at e;cases e;exact absurd rfl (d1 _ _)
    ·rw [(htab b hb).2.1] at e;cases e;exact absurd rfl (d2 _)
  have nsK:∀{b:Addr} {m:Str→Option Value},s₁.heap.Ns b m→(vG s₁.heap H).Ns b m:=λ{b m} ⟨o,es,ep,e,d,r⟩=>⟨o,es,ep,base_of e (no e (λ_ _ z=>by rw [d] at z;cases z) λ_ z=>by rw [d] at z;cases z),d,r⟩
  have hKb:K.In (vG s₁.heap H):=λb o e=>base_of (KX b o e) (by
   cases q:H b with
   | none=>rfl
   | some u =>
    rcases hA b (by rw [q];simp) with rfl | hb
    ·have:=(hK u q).1
     exact absurd (this.symm.trans e) (λz=>nomatch z)
    ·have:=(htab b hb).2.2
     exact absurd (this.symm.trans e) (λz=>nomatch z))
  have hM:Mod K mg (vG s₁.heap H):=⟨hKb,nsK hns,⟨mb,nsK hb,hbb⟩,let ⟨mc,h1,h2⟩:=hlim;⟨mc,nsK h1,h2⟩⟩
  have hbm':BMain mg (vG s₁.heap H):=by
   obtain ⟨bm,ob,b1,b2,b3,b4,b5,b6⟩:=hbm
   exact ⟨bm,ob,b1,b2,base_of b3 (no b3 (λ_ _ z=>by rw [b6] at z;cases z) λ_ z=>by rw [b6] at z;cases z),b4,b5,b6⟩
  have e0:AZ P w K mg (vG s₁.heap H) callerA [] s₁ H:=⟨rfl,hM,λb o e=>JJ e,ZS (Ek _ _),trivial,λb hb=>absurd (show b∈([]:List Addr) from hb) (by simp),hok,.of_eq hg⟩
  refine codeAny_mono ((F _ hKb (nsK hns) hbm').run callerA [] s₁ H ⟨[.ref a],[]⟩ [.ref a] [.ref a] _ _ hr e0 (hbind s₁ (.ref a)) (.cons rfl .nil) (hsp H hT hS hA λu z=>(hK u z).2)) λr s' h=>?_
  cases r with
  | error e=>exact False.elim h
  | ok fl =>
   cases fl with
   | next=>exact False.elim h
   | brk=>exact False.elim h
   | cont=>exact False.elim h
   | ret u =>
    obtain ⟨v,H',os,bare,un,hok',r',rfl,same⟩:=h
    obtain rfl:u=Value.bool true:=r'
    refine ⟨rfl,⟨λb o e=>?_,λb o e=>?_⟩,os,bare⟩
    ·cases q:H b with
     | none=>exact .inl (un.keep b o e q (by intro z;exact absurd (show b∈([]:List Addr) from z) (by simp)) (by simp))
     | some u =>
      have q':=same b u q
      rcases hA b (by rw [q];simp) with rfl | hb'
      ·obtain ⟨_,ob,xs,rfl⟩:=hK u q
       obtain ⟨e1,_⟩:=hok _ _ q
       obtain ⟨e2,_⟩:=hok' _ _ q'
       rw [e] at e1;cases e1
       exact .inl e2
      ·have hz:=hT b hb'
       rw [q] at hz;cases hz
       obtain ⟨⟨ps,hp,_⟩,_⟩:=hok' _ _ q'
       obtain ⟨t1,t2,_⟩:=htab b hb'
       rw [t2] at e;cases e
       exact .inr (.inl ⟨t1,rfl,#[],ps,rfl,by rw [hp];simp⟩)
    ·exact un.there b o e (by simp)
 have hTt:∀T∈tabs,∀H:Hp,fq P w H s₁.heap T (.ext (eL T)):=λT hT H=>by
  have:=(htab T hT).2.1
  exact ⟨⟨#[],this,trivial⟩,⟨_,this⟩,λh1 h2 ⟨ps,hp,tr⟩ kk=>⟨ps,kk _ hp,tr⟩⟩
 cases hk:K.lookup a with
 | some o =>
  have e:=KX a o hk
  rw [ha] at e
  cases e
  refine core (λb=>if b∈tabs then some (.ext (eL b)) else none) (λT hT=>if_pos hT) (.inr ⟨_,vs.toArray,_,hk,rfl,rfl,rfl,by rw [VU,lenV];exact hl,by simpa using rv⟩) (λb u z=>?_) (λb z=>?_) λu z=>?_
  ·by_cases hb:b∈tabs
   ·have z':=(if_pos hb).symm.trans z
    cases z'
    exact hTt b hb _
   ·have z':=(if_neg hb).symm.trans z
    cases z'
  ·by_cases hb:b∈tabs
   ·exact .inr hb
   ·exact absurd (if_neg hb) z
  ·have hb:a ∉ tabs:=λhb=>naT a hb rfl
   have z':=(if_neg hb).symm.trans z
   cases z'
 | none =>
  refine core (λb=>if b=a then some (.rH { cls:=.type "list",data:=.seq vs.toArray } (.lst (ns.map V.int))) else if b∈tabs then some (.ext (eL b)) else none) (λT hT=>?_) (.inl (.inr ⟨{ cls:=.type "list",data:=.seq vs.toArray },if_pos rfl⟩)) (λb u z=>?_) (λb z=>?_) λu z=>?_
  ·show (if T=a then _ else _)=_
   rw [if_neg (naT T hT),if_pos hT]
  ·by_cases hb:b=a
   ·have z':=(if_pos hb).symm.trans z
    cases z'
    subst hb
    exact ⟨ha,by rw [VM];exact hl,vs,_,rv,ha⟩
   ·have z:=(if_neg hb).symm.trans z
    by_cases hb:b∈tabs
    ·have z':=(if_pos hb).symm.trans z
     cases z'
     exact hTt b hb _
    ·have z':=(if_neg hb).symm.trans z
     cases z'
  ·by_cases hb:b=a
   ·exact .inl hb
   ·by_cases hb':b∈tabs
    ·exact .inr hb'
    ·exact absurd ((if_neg hb).trans (if_neg hb')) z
  ·have z':=(if_pos rfl).symm.trans z
   cases z'
   exact ⟨hk,_,_,rfl⟩
def Ge (s:Str):Value→Bool
 | .str y _=>y == s
 | _=>false
def Ga (i:Int):Value→Bool
 | .int j _=>j == i
 | _=>false
theorem Ee {s:Str} {u:Value} (X:K.In h) (G:h.Ns mainGlobals mg) (e:WA K mainGlobals x=some (some u)) (hu:Ge s u=true):∃t,mg x=some (.str s t):=by
 cases u with
 | str y t =>
  have:y=s:=by simpa [Ge] using hu
  subst this
  exact ⟨t,Wy X G e⟩
 | _=>cases hu
theorem const_int {i:Int} {u:Value} (X:K.In h) (G:h.Ns mainGlobals mg) (e:WA K mainGlobals x=some (some u)) (hu:Ga i u=true):∃t,mg x=some (.int i t):=by
 cases u with
 | int y t =>
  have:y=i:=by simpa [Ga] using hu
  subst this
  exact ⟨t,Wy X G e⟩
 | _=>cases hu
def sgn (ch:Nat):Str:=⟨#[ch]⟩
inductive PV where
 | non | bl (b:Bool) | int (i:Int) | str (x:Str) | ref (a:Addr) | ty (n:String) | tup (xs:List PV) | fl (xs:List PV)
inductive HQ where
 | lst (xs:List PV) | ins (C:Addr) (fs:List (Str × PV)) | dct (kvs:List (Str × PV)) (ep:Nat) | tab | dtp (hs:List Str→Int) (ks:List (List Str))
def SK (hs:List Str→Int) (a:Addr) (xs:List (List Str × Addr × Value)) (h:Heap):Prop:=(a == sysModules)=false∧xs.length≤sizeLine∧(xs.map (·.1)).Nodup∧∃o es ep,h.get? a=some o∧o.ExactDict∧o.data=.dict es ep∧es.toList=xs.map λx=>(⟨hs x.1,.ref x.2.1,x.2.2⟩:DictEntry)
abbrev Hq:=Addr→Option HQ
def put (J:Hq) (a:Addr) (o:HQ):Hq:=λb=>if b=a then some o else J b
variable {o:HQ} {J:Hq}
theorem aj:put J a o a=some o:=by unfold put;rw [if_pos rfl]
theorem ag {b:Addr} (h:b≠a):put J a o b=J b:=by unfold put;rw [if_neg h]
theorem bI {u:HQ}:put (put J a o) a u=put J a u:=by
 funext b;unfold put;split <;> rfl
theorem Af {b:Addr} {u:HQ} (h:a≠b):put (put J a o) b u=put (put J b u) a o:=by
 funext c;unfold put
 by_cases h1:c=b <;> by_cases h2:c=a <;> simp [h1,h2]
 ·exact absurd (h2.symm.trans h1) h
 ·intro z;exact absurd z.symm h
 ·intro z;exact absurd z h
theorem B4 (h:J a=some o):put J a o=J:=by
 funext b;unfold put
 by_cases e:b=a
 ·subst e;rw [if_pos rfl,h]
 ·rw [if_neg e]
def Fw (K:VL) (J:Hq) (H:Hp) (a:Addr) (vs:List V):Prop:=(J a=none∧Rd H a (.lst vs))∨∃(o:Obj) (its:Array Value) (n:Nat),K.lookup a=some o∧o.cls=.type "list"∧o.dict=none∧o.data=.seq its n∧its.size≤sizeLine∧Vals vs its.toList
variable {vs:List L2.V}
theorem Fw.sq (h:Fw K J H a vs):dG K H a vs:=by
 rcases h with h | h
 ·exact .inl h.2
 ·exact .inr h
section
variable (K:VL)
mutual
def cS (J:Hq) (H:Hp):PV→V→Prop
 | .non,v=>v=.non
 | .bl b,v=>v=.bl b
 | .int i,v=>v=.int i
 | .str x,v=>v=.str x
 | .ref a,v=>v=.ref a
 | .ty n,v=>v=.ty n
 | .tup xs,v=>∃a vs,v=.ref a∧fo K H a vs∧aP J H xs vs
 | .fl xs,v=>∃a vs,v=.ref a∧Fw K J H a vs∧aP J H xs vs
def aP (J:Hq) (H:Hp):List PV→List V→Prop
 | [],vs=>vs=[]
 | x :: xs,vs=>∃v us,vs=v :: us∧cS J H x v∧aP J H xs us
end
def nq {κ:Type} (J:Hq) (H:Hp) (fs:List (κ × PV)) (gs:List (κ × V)):Prop:=fs.map (·.1)=gs.map (·.1)∧aP K J H (fs.map (·.2)) (gs.map (·.2))
def Fx (J:Hq) (H:Hp) (a:Addr):HQ→Prop
 | .lst xs=>∃vs,H a=some (.lst vs)∧aP K J H xs vs
 | .ins C fs=>∃dx gs,H a=some (.ins C dx gs)∧nq K J H fs gs
 | .dct kvs ep=>∃gs,H a=some (.dE gs ep)∧nq K J H kvs gs
 | .tab=>H a=some (.ext (eL a))
 | .dtp hs ks=>∃xs:List (List Str × Addr × Value),xs.map (·.1)=ks∧H a=some (.ext (SK hs a xs))∧∀x∈xs,fo K H x.2.1 (x.1.map V.str)
def Rep (J:Hq) (H:Hp):Prop:=∀a o,J a=some o→Fx K J H a o
structure Ext (J:Hq) (H:Hp) (J':Hq) (H':Hp):Prop where
 tup:∀a vs,fo K H a vs→fo K H' a vs
 ll:∀a o,J a=none→H a=some o→((∃vs,o=.lst vs)∨∃ob vs,o=.rH ob (.lst vs))→J' a=none∧H' a=some o
end
variable {J':Hq}
theorem Ext.fl (e:Ext K J H J' H') (a:Addr) (vs:List V) (n:J a=none) (h:Rd H a (.lst vs)):J' a=none∧Rd H' a (.lst vs):=by
 rcases h with h | ⟨o,h⟩
 ·obtain ⟨a,b⟩:=e.ll a _ n h (.inl ⟨_,rfl⟩);exact ⟨a,.inl b⟩
 ·obtain ⟨a,b⟩:=e.ll a _ n h (.inr ⟨_,_,rfl⟩);exact ⟨a,.inr ⟨o,b⟩⟩
theorem Ext.flat (e:Ext K J H J' H') (h:Fw K J H a vs):Fw K J' H' a vs:=by
 rcases h with h | h
 ·exact .inl (e.fl a vs h.1 h.2)
 ·exact .inr h
mutual
theorem Ext.rep (e:Ext K J H J' H'):∀{x:PV} {v:V},cS K J H x v→cS K J' H' x v
 | .non,_,h=>h
 | .bl _,_,h=>h
 | .int _,_,h=>h
 | .str _,_,h=>h
 | .ref _,_,h=>h
 | .ty _,_,h=>h
 | .tup xs,_,⟨a,vs,e1,h,k⟩=>⟨a,vs,e1,e.tup _ _ h,Ext.jN e k⟩
 | .fl xs,_,⟨a,vs,e1,h,k⟩=>⟨a,vs,e1,e.flat h,Ext.jN e k⟩
theorem Ext.jN (e:Ext K J H J' H'):∀{xs:List PV} {vs:List V},aP K J H xs vs→aP K J' H' xs vs
 | [],_,h=>h
 | _ :: _,_,⟨v,us,e1,h,k⟩=>⟨v,us,e1,Ext.rep e h,Ext.jN e k⟩
end
theorem Ext.refl:Ext K J H J H:=⟨λ_ _ h=>h,λ_ _ n h _=>⟨n,h⟩⟩
variable {J'':Hq} {H'':Hp}
theorem Ext.trans (a:Ext K J H J' H') (b:Ext K J' H' J'' H''):Ext K J H J'' H'' :=
 ⟨λc vs h=>b.tup c vs (a.tup c vs h),λc o n h z=>b.ll c o (a.ll c o n h z).1 (a.ll c o n h z).2 z⟩
theorem Ext.Al {κ:Type} (e:Ext K J H J' H') {fs:List (κ × PV)} {gs:List (κ × V)} (h:nq K J H fs gs):nq K J' H' fs gs:=⟨h.1,e.jN h.2⟩
theorem Ext.same (s:cb H H'):Ext K J H J H':=⟨λa vs h=>s.tup h,λa o n h _=>⟨n,s _ _ h⟩⟩
theorem Fx.same (s:cb H H') (h:Fx K J H a o):Fx K J H' a o:=by
 have e:=Ext.same (K:=K) (J:=J) s
 cases o with
 | lst xs=>obtain ⟨vs,h1,h2⟩:=h;exact ⟨vs,s _ _ h1,e.jN h2⟩
 | ins C fs=>obtain ⟨dx,gs,h1,h2⟩:=h;exact ⟨dx,gs,s _ _ h1,e.Al h2⟩
 | dct kvs ep=>obtain ⟨gs,h1,h2⟩:=h;exact ⟨gs,s _ _ h1,e.Al h2⟩
 | tab=>exact s _ _ (show H a=some (.ext (eL a)) from h)
 | dtp hs ks=>obtain ⟨xs,h0,h1,h2⟩:=h;exact ⟨xs,h0,s _ _ h1,λx hx=>s.tup (h2 x hx)⟩
theorem Rep.same (s:cb H H') (h:Rep K J H):Rep K J H':=λa o q=>(h a o q).same s
theorem Ext.less (h:∀a,J' a=J a∨J' a=none):Ext K J H J' H:=⟨λ_ _ h=>h,λa o n z _=>⟨(h a).elim (λe=>e.trans n) (λe=>e),z⟩⟩
theorem Rep.less (h:∀a,J' a=J a∨J' a=none) (r:Rep K J H):Rep K J' H:=λa o q=>by
 have e:J a=some o:=by
  rcases h a with e | e
  ·rw [← e];exact q
  ·rw [e] at q;cases q
 have x:=Ext.less (K:=K) (H:=H) h
 have z:=r a o e
 cases o with
 | lst xs=>obtain ⟨vs,h1,h2⟩:=z;exact ⟨vs,h1,x.jN h2⟩
 | ins C fs=>obtain ⟨dx,gs,h1,h2⟩:=z;exact ⟨dx,gs,h1,x.Al h2⟩
 | dct kvs ep=>obtain ⟨gs,h1,h2⟩:=z;exact ⟨gs,h1,x.Al h2⟩
 | tab=>exact z
 | dtp hs ks=>exact z
theorem aP.length:∀{xs:List PV} {vs:List V},aP K J H xs vs→xs.length=vs.length
 | [],_,h=>by cases h;rfl
 | _ :: xs,_,⟨v,us,e1,_,k⟩=>by subst e1;simp [aP.length k]
theorem aP.get:∀{xs:List PV} {vs:List V} {i:Nat} {x:PV},aP K J H xs vs→xs[i]?=some x→∃v,vs[i]?=some v∧cS K J H x v
 | [],_,i,x,h,e=>by simp at e
 | y :: xs,_,0,x,⟨v,us,e1,h,k⟩,e=>by subst e1;simp at e;subst e;exact ⟨v,rfl,h⟩
 | y :: xs,_,i + 1,x,⟨v,us,e1,h,k⟩,e=>by
  subst e1
  obtain ⟨w,h1,h2⟩:=aP.get (i:=i) (x:=x) k (by simpa using e)
  exact ⟨w,by simpa using h1,h2⟩
theorem aP.get':∀{xs:List PV} {vs:List V} {i:Nat} {v:V},aP K J H xs vs→vs[i]?=some v→∃x,xs[i]?=some x∧cS K J H x v
 | [],_,i,x,h,e=>by cases h;simp at e
 | y :: xs,_,0,x,⟨v,us,e1,h,k⟩,e=>by subst e1;simp at e;subst e;exact ⟨y,rfl,h⟩
 | y :: xs,_,i + 1,x,⟨v,us,e1,h,k⟩,e=>by
  subst e1
  obtain ⟨w,h1,h2⟩:=aP.get' (i:=i) (v:=x) k (by simpa using e)
  exact ⟨w,by simpa using h1,h2⟩
theorem aP.append:∀{xs ys:List PV} {vs us:List V},aP K J H xs vs→aP K J H ys us→aP K J H (xs ++ ys) (vs ++ us)
 | [],_,_,_,h,k=>by cases h;exact k
 | x :: xs,ys,_,us,⟨v,ws,e1,h,h'⟩,k=>by subst e1;exact ⟨v,ws ++ us,rfl,h,aP.append h' k⟩
theorem aP.drop:∀(n:Nat) {xs:List PV} {vs:List V},aP K J H xs vs→aP K J H (xs.drop n) (vs.drop n)
 | 0,_,_,h=>h
 | n + 1,[],_,h=>by cases h;rfl
 | n + 1,x :: xs,_,⟨v,ws,e1,h,h'⟩=>by subst e1;exact aP.drop n h'
theorem aP.take:∀(n:Nat) {xs:List PV} {vs:List V},aP K J H xs vs→aP K J H (xs.take n) (vs.take n)
 | 0,_,_,h=>rfl
 | n + 1,[],_,h=>by cases h;rfl
 | n + 1,x :: xs,_,⟨v,ws,e1,h,h'⟩=>by subst e1;exact ⟨v,_,rfl,h,aP.take n h'⟩
theorem aP.set {x:PV} {v:V} (r:cS K J H x v):∀(n:Nat) {xs:List PV} {vs:List V},aP K J H xs vs→aP K J H (xs.set n x) (vs.set n v)
 | n,[],_,h=>by cases h;rfl
 | 0,y :: xs,_,⟨w,ws,e1,h,h'⟩=>by subst e1;exact ⟨v,ws,rfl,r,h'⟩
 | n + 1,y :: xs,_,⟨w,ws,e1,h,h'⟩=>by subst e1;exact ⟨w,_,rfl,h,aP.set r n h'⟩
theorem nq.look {κ:Type} [BEq κ] [LawfulBEq κ] {f:κ}:∀{fs:List (κ × PV)} {gs:List (κ × V)} {x:PV},nq K J H fs gs→fs.lookup f=some x→∃v,gs.lookup f=some v∧cS K J H x v
 | [],_,_,_,e=>by cases e
 | (k,y) :: fs,[],x,h,e=>by cases h.1
 | (k,y) :: fs,(k',w) :: gs,x,h,e=>by
  obtain ⟨h1,v,us,h2,h3,h4⟩:=h
  simp only [VR,List.cons.injEq] at h1 h2
  obtain ⟨rfl,h1⟩:=h1
  obtain ⟨rfl,rfl⟩:=h2
  rw [Wo] at e ⊢
  cases hk:f == k with
  | true=>rw [hk] at e;cases e;exact ⟨w,rfl,h3⟩
  | false=>rw [hk] at e;exact nq.look ⟨h1,h4⟩ e
theorem nq.none {κ:Type} [BEq κ] [LawfulBEq κ] {f:κ}:∀{fs:List (κ × PV)} {gs:List (κ × V)},nq K J H fs gs→fs.lookup f=none→gs.lookup f=none
 | [],[],_,_=>rfl
 | [],_ :: _,h,e=>by cases h.1
 | (k,y) :: fs,[],h,e=>by cases h.1
 | (k,y) :: fs,(k',w) :: gs,h,e=>by
  obtain ⟨h1,v,us,h2,h3,h4⟩:=h
  simp only [VR,List.cons.injEq] at h1 h2
  obtain ⟨rfl,h1⟩:=h1
  obtain ⟨rfl,rfl⟩:=h2
  rw [Wo] at e ⊢
  cases hk:f == k with
  | true=>rw [hk] at e;cases e
  | false=>rw [hk] at e;exact nq.none ⟨h1,h4⟩ e
variable {p:Addr}
theorem JH (r:Rep K J H) (h:J a=some o) (n:H p=none):a≠p:=by
 intro e;subst e
 have:=r _ _ h
 cases o with
 | lst xs=>obtain ⟨vs,h1,_⟩:=this;rw [n] at h1;cases h1
 | ins C fs=>obtain ⟨dx,gs,h1,_⟩:=this;rw [n] at h1;cases h1
 | dct kvs ep=>obtain ⟨gs,h1,_⟩:=this;rw [n] at h1;cases h1
 | tab=>have h1:H a=some (.ext (eL a)):=this;rw [n] at h1;cases h1
 | dtp hs ks=>obtain ⟨xs,_,h1,_⟩:=this;rw [n] at h1;cases h1
theorem Rep.free (r:Rep K J H) (n:H p=none):J p=none:=by
 cases e:J p with
 | none=>rfl
 | some o=>exact absurd rfl (JH r e n)
theorem Ext.laid {o:HO} {u:HQ} (n:H p=none):Ext K J H (put J p u) (upd H p o):=by
 refine ⟨λa vs h=>(cb.new n o).tup h,λa o' z h _=>⟨?_,cb.new n o _ _ h⟩⟩
 have ne:a≠p:=by intro e;subst e;rw [n] at h;cases h
 rw [ag ne];exact z
theorem Rep.Fj (e:Ext K J H J' H') (r:Rep K J H) (p:Addr) (q:∀a,a≠p→J' a=J a) (s:∀a o,a≠p→J a≠none→H a=some o→H' a=some o) (h:∀u,J' p=some u→Fx K J' H' p u):Rep K J' H':=λa o z=>by
 by_cases ep:a=p
 ·subst ep;exact h o z
 ·rw [q a ep] at z
  have t:=r a o z
  have jn:J a≠none:=by rw [z];exact λy=>nomatch y
  cases o with
  | lst xs=>obtain ⟨vs,h1,h2⟩:=t;exact ⟨vs,s _ _ ep jn h1,e.jN h2⟩
  | ins C fs=>obtain ⟨dx,gs,h1,h2⟩:=t;exact ⟨dx,gs,s _ _ ep jn h1,e.Al h2⟩
  | dct kvs eq=>obtain ⟨gs,h1,h2⟩:=t;exact ⟨gs,s _ _ ep jn h1,e.Al h2⟩
  | tab=>exact s _ _ ep jn (show H a=some (.ext (eL a)) from t)
  | dtp hs ks=>obtain ⟨xs,h0,h1,h2⟩:=t;exact ⟨xs,h0,s _ _ ep jn h1,λx hx=>e.tup _ _ (h2 x hx)⟩
variable {xs:List PV}
theorem Rep.C6 (r:Rep K J H) (n:H p=none) (h:aP K J H xs vs):Rep K (put J p (.lst xs)) (upd H p (.lst vs)):=by
 have e:=Ext.laid (K:=K) (J:=J) (o:=.lst vs) (u:=.lst xs) n
 refine r.Fj e p (λa ne=>ag ne) (λa o ne _ z=>by rw [aI ne];exact z) λu z=>?_
 rw [aj] at z;cases z
 exact ⟨vs,aL,e.jN h⟩
theorem Ext.wrote {ys:List PV} {ws:List V} (h:J p=some (.lst xs)) (k:H p=some (.lst ws)):Ext K J H (put J p (.lst ys)) (upd H p (.lst vs)):=by
 have sm:∀a u,(∀l,u≠HO.lst l)∨a≠p→Rd H a u→Rd (upd H p (.lst vs)) a u:=λa u d z=>by
  have ne:a≠p:=by
   rcases d with d | d
   ·intro e;subst e
    rcases z with z | ⟨o,z⟩
    ·rw [k] at z;cases z;exact d _ rfl
    ·rw [k] at z;cases z
   ·exact d
  rcases z with z | ⟨o,z⟩
  ·exact .inl (by rw [aI ne];exact z)
  ·exact .inr ⟨o,by rw [aI ne];exact z⟩
 refine ⟨λa vs' z=>?_,λa o z q _=>?_⟩
 ·rcases z with z | z
  ·exact .inl (sm a _ (.inl λl e=>nomatch e) z)
  ·exact .inr z
 ·have ne:a≠p:=by intro e;subst e;rw [h] at z;cases z
  exact ⟨by rw [ag ne];exact z,by rw [aI ne];exact q⟩
theorem Rep.wrote {ys:List PV} {ws:List V} (r:Rep K J H) (h:J p=some (.lst xs)) (k:H p=some (.lst ws)) (q:aP K J H ys vs):Rep K (put J p (.lst ys)) (upd H p (.lst vs)):=by
 have e:=Ext.wrote (K:=K) (ys:=ys) (vs:=vs) h k
 refine r.Fj e p (λa ne=>ag ne) (λa o ne _ z=>by rw [aI ne];exact z) λu z=>?_
 rw [aj] at z;cases z
 exact ⟨vs,aL,e.jN q⟩
abbrev Sr:=List (Option PV)
abbrev cT:=Sr→Hq→(PV→Hq→Prop)→Prop
abbrev p8:=Sr→Hq→(Bool→Hq→Prop)→Prop
abbrev qm:=Sr→Hq→(List PV→Hq→Prop)→Prop
structure En where
 nx:Sr→Hq→Prop
 rt:PV→Hq→Prop
 bk:Sr→Hq→Prop:=λ_ _=>False
 ct:Sr→Hq→Prop:=λ_ _=>False
abbrev kH:=En→Sr→Hq→Prop
structure oa (K:VL) (J:Hq) (H:Hp) (τ:Sr) (σ:St):Prop where
 len:τ.length=σ.length
 get:∀(i:Nat) (x:PV),τ[i]?=some (some x)→∃v,σ[i]?=some (some v)∧cS K J H x v
variable {τ:Sr}
theorem oa.ext (r:oa K J H τ σ) (e:Ext K J H J' H'):oa K J' H' τ σ :=
 ⟨r.len,λi x h=>let ⟨v,a,b⟩:=r.get i x h;⟨v,a,e.rep b⟩⟩
variable {x:PV}
theorem oa.set (r:oa K J H τ σ) {v:V} (i:Nat) (h:cS K J H x v):oa K J H (τ.set i (some x)) (σ.set i (some v)):=by
 refine ⟨by rw [XQ,XQ,r.len],λj y e=>?_⟩
 by_cases hj:i=j
 ·subst hj
  by_cases hl:i < τ.length
  ·rw [Wq hl] at e
   cases e
   exact ⟨v,Wq (by rw [← r.len];exact hl),h⟩
  ·rw [WG (by rw [XQ];omega)] at e
   cases e
 ·rw [WO hj] at e ⊢
  exact r.get j y e
abbrev G2:=Hq × Hp
structure xq (K:VL) (G:G2) (τ:Sr) (J:Hq) (σ:St) (H:Hp):Prop where
 sl:oa K J H τ σ
 hp:Rep K J H
 ext:Ext K G.1 G.2 J H
section
variable (K:VL) (G:G2)
def LE (t:cT):TE:=λσ H Q=>∃τ J Q2,xq K G τ J σ H∧t τ J Q2∧∀x J' v H',cS K J' H' x v→Rep K J' H'→Ext K J H J' H'→Q2 x J'→Q v H'
def LT (t:p8):TT:=λσ H Q=>∃τ J Q2,xq K G τ J σ H∧t τ J Q2∧∀b J' H',Rep K J' H'→Ext K J H J' H'→Q2 b J'→Q b H'
def LA (t:qm):TA:=λσ H Q=>∃τ J Q2,xq K G τ J σ H∧t τ J Q2∧∀xs J' vs H',aP K J' H' xs vs→Rep K J' H'→Ext K J H J' H'→Q2 xs J'→Q vs H'
structure Goes (J:Hq) (H:Hp) (D2:En) (D:Ends):Prop where
 nx:∀τ J' σ H',oa K J' H' τ σ→Rep K J' H'→Ext K J H J' H'→D2.nx τ J'→D.nx σ H'
 rt:∀x J' v H',cS K J' H' x v→Rep K J' H'→Ext K J H J' H'→D2.rt x J'→D.rt v H'
 bk:∀τ J' σ H',oa K J' H' τ σ→Rep K J' H'→Ext K J H J' H'→D2.bk τ J'→D.bk σ H'
 ct:∀τ J' σ H',oa K J' H' τ σ→Rep K J' H'→Ext K J H J' H'→D2.ct τ J'→D.ct σ H'
def LS (t:kH):TS:=λD σ H=>∃τ J D2,xq K G τ J σ H∧t D2 τ J∧Goes K J H D2 D
end
theorem Goes.ext {D2:En} {D:Ends} (g:Goes K J H D2 D) (e:Ext K J H J' H'):Goes K J' H' D2 D :=
 ⟨λτ J1 σ H1 a b c=>g.nx τ J1 σ H1 a b (e.trans c),λx J1 v H1 a b c=>g.rt x J1 v H1 a b (e.trans c),λτ J1 σ H1 a b c=>g.bk τ J1 σ H1 a b (e.trans c),λτ J1 σ H1 a b c=>g.ct τ J1 σ H1 a b (e.trans c)⟩
variable {G:G2}
theorem xq.go (a:xq K G τ J σ H) (r:Rep K J' H') (e:Ext K J H J' H'):xq K G τ J' σ H':=⟨a.sl.ext e,r,a.ext.trans e⟩
structure RE (X:Cx) (G:G2) (e:Expr) (t:cT):Prop where
 run:PE X e (LE X.K G t)
structure RT (X:Cx) (G:G2) (e:Expr) (t:p8):Prop where
 run:PT X e (LT X.K G t)
structure RW (X:Cx) (G:G2) (e:Expr) (t:p8):Prop where
 run:PW X e (LT X.K G t)
structure RA (X:Cx) (G:G2) (es:List Expr) (t:qm):Prop where
 run:PA X es (LA X.K G t)
structure RS (X:Cx) (G:G2) (st:Stmt) (t:kH):Prop where
 run:PS X st (LS X.K G t)
structure RB (X:Cx) (G:G2) (st:List Stmt) (t:kH):Prop where
 run:xI X st (LS X.K G t)
theorem kZ {t t':TE} (h:PE X e t) (k:∀σ H Q,t' σ H Q→t σ H Q):PE X e t':=λpins s σ H Q I q=>h pins s σ H Q I (k _ _ _ q)
theorem SD {t t':TT} (h:PT X e t) (k:∀σ H Q,t' σ H Q→t σ H Q):PT X e t':=λpins s σ H Q I q=>h pins s σ H Q I (k _ _ _ q)
theorem Vg {t t':TT} (h:PW X e t) (k:∀σ H Q,t' σ H Q→t σ H Q):PW X e t':=λwh pins s σ H Q I q=>h wh pins s σ H Q I (k _ _ _ q)
theorem TK {e:List Expr} {t t':TA} (h:PA X e t) (k:∀σ H Q,t' σ H Q→t σ H Q):PA X e t':=λpos pins s σ H Q I q=>h pos pins s σ H Q I (k _ _ _ q)
theorem Ab {e:Stmt} {t t':TS} (h:PS X e t) (k:∀D σ H,t' D σ H→t D σ H):PS X e t':=λpins s σ H D I q=>h pins s σ H D I (k _ _ _ q)
theorem TL {e:List Stmt} {t t':TS} (h:xI X e t) (k:∀D σ H,t' D σ H→t D σ H):xI X e t':=λpins s σ H D I q=>h pins s σ H D I (k _ _ _ q)
def iE {α:Sort _} (_:α):Type:=Unit
def dp {α:Sort _} {k:α}:iE k:=()
def yq {α:Type} (o:Option α) (k:α→Prop) (_:iE k:=dp):Prop:=match o with | some x=>k x | none=>False
def Qk (o:Option (Option PV)) (k:PV→Prop) (_:iE k:=dp):Prop:=match o with | some (some x)=>k x | _=>False
def ET (x:PV) (k:Int→Prop) (_:iE k:=dp):Prop:=match x with | .int i=>k i | _=>False
def LK (x:PV) (k:Bool→Prop) (_:iE k:=dp):Prop:=match x with | .bl i=>k i | _=>False
def Fq (x:PV) (k:Str→Prop) (_:iE k:=dp):Prop:=match x with | .str i=>k i | _=>False
def BH (x:PV) (k:Addr→Prop) (_:iE k:=dp):Prop:=match x with | .ref a=>k a | _=>False
def OR (x:PV) (k:List PV→Prop) (_:iE k:=dp):Prop:=match x with | .tup a=>k a | _=>False
def Dc (xs:List PV) (k:PV→Prop) (_:iE k:=dp):Prop:=match xs with | [x]=>k x | _=>False
def Sy (o:Option HQ) (k:List PV→Prop) (_:iE k:=dp):Prop:=match o with | some (.lst xs)=>k xs | _=>False
def ES (o:Option HQ) (k:List (Str × PV)→Nat→Prop) (_:iE k:=dp):Prop:=match o with | some (.dct xs e)=>k xs e | _=>False
def Nt (C:Addr) (o:Option HQ) (k:List (Str × PV)→Prop) (_:iE k:=dp):Prop:=match o with | some (.ins C' fs)=>if C'=C then k fs else False | _=>False
def TH (xs:List PV) (k:Prop) (_:iE k:=dp):Prop:=match xs with | []=>k | _=>False
def Nu (xs:List PV) (k:PV→List PV→Prop) (_:iE k:=dp):Prop:=match xs with | x :: r=>k x r | []=>False
def OQ (xs:List PV) (k:PV→PV→Prop) (_:iE k:=dp):Prop:=match xs with | [x,y]=>k x y | _=>False
theorem Qq {k:Prop} {d:iE k}:TH [] k d=k:=rfl
variable {k:PV→List PV→Prop}
theorem Nv {r:List PV} {d:iE k}:Nu (x :: r) k d=k x r:=rfl
theorem Qr {y:PV} {k:PV→PV→Prop} {d:iE k}:OQ [x,y] k d=k x y:=rfl
theorem Nx {k:Prop} {d:iE k} (h:TH xs k d):xs=[]∧k:=by cases xs with | nil=>exact ⟨rfl,h⟩ | cons x r=>exact h.elim
theorem JP {d:iE k} (h:Nu xs k d):∃x r,xs=x :: r∧k x r:=by cases xs with | nil=>exact h.elim | cons x r=>exact ⟨_,_,rfl,h⟩
theorem GK {k:PV→PV→Prop} {d:iE k} (h:OQ xs k d):∃x y,xs=[x,y]∧k x y:=by
 unfold OQ at h
 split at h
 ·exact ⟨_,_,rfl,h⟩
 ·exact h.elim
theorem Qt {α:Type} {x:α} {k:α→Prop} {d:iE k}:yq (some x) k d=k x:=rfl
theorem Ql {k:PV→Prop} {d:iE k}:Qk (some (some x)) k d=k x:=rfl
theorem Qo {x:Int} {k:Int→Prop} {d:iE k}:ET (.int x) k d=k x:=rfl
theorem Qm {x:Bool} {k:Bool→Prop} {d:iE k}:LK (.bl x) k d=k x:=rfl
theorem Qu {x:Str} {k:Str→Prop} {d:iE k}:Fq (.str x) k d=k x:=rfl
theorem Qs {x:Addr} {k:Addr→Prop} {d:iE k}:BH (.ref x) k d=k x:=rfl
variable {k:List PV→Prop}
theorem Qv {x:List PV} {d:iE k}:OR (.tup x) k d=k x:=rfl
theorem Qj {k:PV→Prop} {d:iE k}:Dc [x] k d=k x:=rfl
theorem Qp {x:List PV} {d:iE k}:Sy (some (.lst x)) k d=k x:=rfl
theorem Qn {x:List (Str × PV)} {e:Nat} {k:List (Str × PV)→Nat→Prop} {d:iE k}:ES (some (.dct x e)) k d=k x e:=rfl
theorem LL {x:List (Str × PV)} {k:List (Str × PV)→Prop} {d:iE k}:Nt C (some (.ins C x)) k d=k x:=if_pos rfl
theorem fw {α:Type} {o:Option α} {k:α→Prop} {d:iE k} (h:yq o k d):∃x,o=some x∧k x:=by cases o with | none=>exact h.elim | some x=>exact ⟨x,rfl,h⟩
theorem gB {α:Type} {o:Option α} {x:α} {k:α→Prop} (e:o=some x) (h:k x):yq o k:=by rw [e];exact h
theorem GJ {o:Option (Option PV)} {k:PV→Prop} {d:iE k} (h:Qk o k d):∃x,o=some (some x)∧k x:=by
 unfold Qk at h
 split at h
 ·exact ⟨_,rfl,h⟩
 ·exact h.elim
theorem fO {k:Int→Prop} {d:iE k} (h:ET x k d):∃i,x=.int i∧k i:=by cases x <;> first | exact ⟨_,rfl,h⟩ | exact False.elim h
theorem uf {k:Bool→Prop} {d:iE k} (h:LK x k d):∃i,x=.bl i∧k i:=by cases x <;> first | exact ⟨_,rfl,h⟩ | exact False.elim h
theorem i_ {k:Str→Prop} {d:iE k} (h:Fq x k d):∃i,x=.str i∧k i:=by cases x <;> first | exact ⟨_,rfl,h⟩ | exact False.elim h
theorem fP {k:Addr→Prop} {d:iE k} (h:BH x k d):∃i,x=.ref i∧k i:=by cases x <;> first | exact ⟨_,rfl,h⟩ | exact False.elim h
theorem BI {d:iE k} (h:OR x k d):∃i,x=.tup i∧k i:=by cases x <;> first | exact ⟨_,rfl,h⟩ | exact False.elim h
theorem g7 {k:PV→Prop} {d:iE k} (h:Dc xs k d):∃x,xs=[x]∧k x:=by
 unfold Dc at h
 split at h
 ·exact ⟨_,rfl,h⟩
 ·exact h.elim
variable {o:Option HQ}
theorem Nw {d:iE k} (h:Sy o k d):∃x,o=some (.lst x)∧k x:=by
 unfold Sy at h
 split at h
 ·exact ⟨_,rfl,h⟩
 ·exact h.elim
variable {k:List (Str × PV)→Nat→Prop}
theorem j' {d:iE k} (h:ES o k d):∃x e,o=some (.dct x e)∧k x e:=by
 unfold ES at h
 split at h
 ·exact ⟨_,_,rfl,h⟩
 ·exact h.elim
theorem BF {k:List (Str × PV)→Prop} {d:iE k} (h:Nt C o k d):∃x,o=some (.ins C x)∧k x:=by
 unfold Nt at h
 split at h
 ·split at h
  ·rename_i e;subst e;exact ⟨_,rfl,h⟩
  ·exact h.elim
 ·exact h.elim
theorem BJ {k:List PV→Prop} (e:x=.tup xs) (h:k xs):OR x k:=by rw [e];exact h
theorem Nr {k:Bool→Prop} (e:x=.bl b) (h:k b):LK x k:=by rw [e];exact h
variable {x:List (Str × PV)}
theorem BG {n:Nat} (e:o=some (.dct x n)) (h:k x n):ES o k:=by rw [e];exact h
theorem dP {k:List (Str × PV)→Prop} (e:o=some (.ins C x)) (h:k x):Nt C o k:=by rw [e,LL];exact h
variable {x:Str}
def Ai (i:Nat):cT:=λτ J Q=>Qk τ[i]? λx=>Q x J
theorem rv (i:Nat) (hN:X.N[i]?=some x:=by rfl) (hv:og X.env.scope x:=by first | exact Or.inl rfl | exact Or.inr (Or.inl rfl) | exact Or.inr (Or.inr rfl)) (hd:(x == ("__debug__":Str))=false:=by decide)
  (hcd:(x == ("__classdict__":Str))=false:=by decide):RE X G (.Name x pos) (Ai i) :=
 ⟨kZ (BQ hN hv hd hcd) λσ H Q ⟨τ,J,Q2,a2,hq,k⟩=>let ⟨y,ey,q⟩:=GJ hq;let ⟨v,e1,r⟩:=a2.sl.get i y ey;⟨v,e1,k y J v H r a2.hp .refl q⟩⟩
def rC (x:PV):cT:=λ_ J Q=>Q x J
theorem ai {i:Int} {j pos}:RE X G (.Constant (.int i) j pos) (rC (.int i)):=⟨kZ yw λσ H Q ⟨τ,J,Q2,a2,q,k⟩=>k (.int i) J _ H rfl a2.hp .refl q⟩
theorem ig {j pos}:RE X G (.Constant (.bool b) j pos) (rC (.bl b)):=⟨kZ Df λσ H Q ⟨τ,J,Q2,a2,q,k⟩=>k (.bl b) J _ H rfl a2.hp .refl q⟩
theorem l9 {j pos}:RE X G (.Constant .none j pos) (rC .non):=⟨kZ BN λσ H Q ⟨τ,J,Q2,a2,q,k⟩=>k .non J _ H rfl a2.hp .refl q⟩
end
section
variable {x:Str} {X:Cx} {j:Nat} {pos:Pos} {G:G2}
theorem aS {j pos}:RE X G (.Constant (.str x) j pos) (rC (.str x)):=⟨kZ uk λσ H Q ⟨τ,J,Q2,a2,q,k⟩=>k (.str x) J _ H rfl a2.hp .refl q⟩
theorem fB {v:V} {u:Value} (y:PV) (hg:Gl X x) (hm:X.mg x=some u) (r:RelV v u) (hr:∀J H,cS X.K J H y v) (hd:(x == ("__debug__":Str))=false:=by decide):RE X G (.Name x pos) (rC y) :=
 ⟨kZ (eD hg hm r hd) λσ H Q ⟨τ,J,Q2,a2,q,k⟩=>k y J v H (hr J H) a2.hp .refl q⟩
abbrev n_:=PV→PV→Hq→(PV→Hq→Prop)→Prop
abbrev O7:=PV→Hq→(PV→Hq→Prop)→Prop
abbrev AO:=List PV→Hq→(PV→Hq→Prop)→Prop
def Kn (K:VL) (J:Hq) (H:Hp) (Q2:PV→Hq→Prop) (Q:VK):Prop:=∀z J' u H',cS K J' H' z u→Rep K J' H'→Ext K J H J' H'→Q2 z J'→Q u H'
def LR (K:VL) (r:R2) (q:n_):Prop:=∀J H x y v w Q2 Q,cS K J H x v→cS K J H y w→Rep K J H→q x y J Q2→Kn K J H Q2 Q→r v w H Q
def Vr (K:VL) (r:V→Hp→VK→Prop) (q:O7):Prop:=∀J H x v Q2 Q,cS K J H x v→Rep K J H→q x J Q2→Kn K J H Q2 Q→r v H Q
def UR (K:VL) (r:List V→Hp→VK→Prop) (q:AO):Prop:=∀J H xs vs Q2 Q,aP K J H xs vs→Rep K J H→q xs J Q2→Kn K J H Q2 Q→r vs H Q
def ni (X:Cx) (f:Value→Value→Sem Value) (q:n_):Prop:=∃r,eX X f r∧LR X.K r q
def UU (X:Cx) (f:Value→Sem Value) (q:O7):Prop:=∃r,p9 X f r∧Vr X.K r q
def Sg (X:Cx) (q:n_):Prop:=∃r,mG X r∧LR X.K r q
def IG (X:Cx) (f:Value) (q:AO):Prop:=∃r,bJ X f r∧UR X.K r q
def KG (q:n_) (ta tb:cT):cT:=λτ J Q=>ta τ J λx J1=>tb τ J1 λy J2=>q x y J2 Q
def Vn (q:O7) (ta:cT):cT:=λτ J Q=>ta τ J λx J1=>q x J1 Q
variable {ta tb:cT} {q:n_}
theorem sJ {r:R2} (lr:LR X.K r q):∀σ H Q,LE X.K G (KG q ta tb) σ H Q→IJ r (LE X.K G ta) (LE X.K G tb) σ H Q:=λσ H Q ⟨τ,J,Q2,a2,h,k⟩ =>
 ⟨τ,J,_,a2,h,λx J1 v H1 rx r1 e1 q1=>⟨τ,J1,_,a2.go r1 e1,q1,λy J2 w H2 ry r2 e2 q2 =>
  lr J2 H2 x y v w Q2 Q (e2.rep rx) ry r2 q2 λz J' u H' rz rr ee qq=>k z J' u H' rz rr ((e1.trans e2).trans ee) qq⟩⟩
variable {a b:Expr}
theorem aJ {op:Operator} (ho:ni X (binaryOp op) q) (ha:RE X G a ta) (hb:RE X G b tb):RE X G (.BinOp a op b pos) (KG q ta tb):=by
 obtain ⟨r,h,lr⟩:=ho
 exact ⟨kZ (G9 h ha.run hb.run) (sJ lr)⟩
theorem ux {op:UnaryOp} {q:O7} (ho:UU X (unaryOp op) q) (ha:RE X G a ta):RE X G (.UnaryOp op a pos) (Vn q ta):=by
 obtain ⟨r,h,lr⟩:=ho
 exact ⟨kZ (Ha h ha.run) λσ H Q ⟨τ,J,Q2,a2,h,k⟩=>⟨τ,J,_,a2,h,λx J1 v H1 rx r1 e1 q1 =>
  lr J1 H1 x v Q2 Q rx r1 q1 λz J' u H' rz rr ee qq=>k z J' u H' rz rr (e1.trans ee) qq⟩⟩
theorem au (hr:Sg X q) (ha:RE X G a ta) (hb:RE X G b tb) (hs:bL b:=by exact λ_ _=>rfl):RE X G (.Subscript a b pos) (KG q ta tb):=by
 obtain ⟨r,h,lr⟩:=hr
 exact ⟨kZ (G6 h ha.run hb.run hs) (sJ lr)⟩
theorem fA {op:CmpOp} (ho:ni X (compareOp op) q) (ha:RE X G a ta) (hb:RE X G b tb) (hm:behindInMarks op b=false:=by first | exact GA _ | with_unfolding_all rfl):RE X G (.Compare a [op] [b] pos) (KG q ta tb):=by
 obtain ⟨r,h,lr⟩:=ho
 exact ⟨kZ (yv h ha.run hb.run hm) (sJ lr)⟩
def rB (t:cT):p8:=λτ J Q=>t τ J λx J1=>LK x λk=>Q k J1
theorem aG {op:CmpOp} (ho:ni X (compareOp op) q) (ha:RE X G a ta) (hb:RE X G b tb) (hm:behindInMarks op b=false:=by first | exact GA _ | with_unfolding_all rfl):RT X G (.Compare a [op] [b] pos) (rB (KG q ta tb)):=by
 obtain ⟨r,h,lr⟩:=ho
 refine ⟨SD (yI h ha.run hb.run hm) λσ H Q ⟨τ,J,Q2,a2,h,k⟩=>?_⟩
 refine sJ lr σ H _ ⟨τ,J,_,a2,h,λz J' u H' rz rr ee qq=>?_⟩
 obtain ⟨b,rfl,q⟩:=uf qq
 exact ⟨b,rz,k b J' H' rr ee q⟩
variable {e:Expr} {te:cT}
theorem cm (h:RE X G e te) (he:∀whole,isTrue e X.env whole=(do let v ← whole;standAt e.pos;holding [v] (truthy v)):=by intro _;rfl):RT X G e (rB te) :=
 ⟨SD (B2 h.run he) λσ H Q ⟨τ,J,Q2,a2,h,k⟩=>⟨τ,J,_,a2,h,λz J' u H' rz rr ee qq=>by obtain ⟨b,eb,q⟩:=uf qq;subst eb;exact ⟨b,rz,k b J' H' rr ee q⟩⟩⟩
variable {i:Nat}
def zi (J:Hq):PV→Option Bool
 | .non=>some false
 | .bl b=>some b
 | .int i=>some (i != 0)
 | .tup xs=>some (!xs.isEmpty)
 | .fl xs=>some (!xs.isEmpty)
 | .ref a=>match J a with
  | some (.lst xs)=>some (!xs.isEmpty)
  | some (.dct kvs _)=>some (!kvs.isEmpty)
  | _=>none
 | _=>none
theorem iM {α β:Type} {xs:List α} {ys:List β} (h:xs.length=ys.length):xs.isEmpty=ys.isEmpty:=by cases xs <;> cases ys <;> simp_all
variable {H:Hp} {K:VL} {J:Hq}
theorem K3 {x:PV} {v:V} {k:Bool} (r:cS K J H x v) (hp:Rep K J H) (h:zi J x=some k):MA K v H k:=by
 cases x with
 | non=>cases r;cases h;rfl
 | bl b=>cases r;cases h;rfl
 | int i=>cases r;cases h;rfl
 | str s=>cases h
 | ty n=>cases h
 | tup xs=>obtain ⟨a,vs,rfl,h1,h2⟩:=r;cases h;exact .inr (.inl ⟨vs,h1,by rw [iM h2.length]⟩)
 | fl xs=>obtain ⟨a,vs,rfl,h1,h2⟩:=r;cases h;exact .inl ⟨vs,h1.sq,by rw [iM h2.length]⟩
 | ref a =>
  cases r
  unfold zi at h
  dsimp only at h
  cases e:J a with
  | none=>rw [e] at h;cases h
  | some o =>
   rw [e] at h
   have z:=hp a o e
   cases o with
   | lst xs=>obtain ⟨vs,h1,h2⟩:=z;cases h;exact .inl ⟨vs,.inl (.inl h1),by rw [iM h2.length]⟩
   | ins C fs=>cases h
   | tab=>cases h
   | dtp hs ks=>cases h
   | dct kvs ep =>
    obtain ⟨gs,h1,h2⟩:=z;cases h
    refine .inr (.inr ⟨gs,ep,h1,?_⟩)
    have:=congrArg Xj h2.1
    simp only [VM] at this
    rw [iM this]
def Ro (te:cT):p8:=λτ J Q=>te τ J λx J1=>yq (zi J1 x) λk=>Q k J1
theorem N6 (h:RE X G e te) (he:∀whole,isTrue e X.env whole=(do let v ← whole;standAt e.pos;holding [v] (truthy v)):=by intro _;rfl):RT X G e (Ro te) :=
 ⟨SD (Hg h.run he) λσ H Q ⟨τ,J,Q2,a2,h,k⟩=>⟨τ,J,_,a2,h,λz J' u H' rz rr ee qq=>let ⟨b,eb,q⟩:=fw qq;⟨b,K3 rz rr eb,k b J' H' rr ee q⟩⟩⟩
variable {c:Expr}
def Kv (t u:p8):p8:=λτ J Q=>t τ J λc J1=>if c=true then u τ J1 Q else Q false J1
def T6 (t u:p8):p8:=λτ J Q=>t τ J λc J1=>if c=true then Q true J1 else u τ J1 Q
def Rg (t:p8):p8:=λτ J Q=>t τ J λc J1=>Q (!c) J1
variable {tA:p8}
theorem fC (ha:RT X G a tA):RT X G (.UnaryOp .Not a pos) (Rg tA):=⟨SD (B1 ha.run) λσ H Q ⟨τ,J,Q2,a2,h,k⟩=>⟨τ,J,_,a2,h,λb J' H' rr ee q=>k _ J' H' rr ee q⟩⟩
theorem f' (ha:RT X G a tA):RW X G (.BoolOp .And [a] pos) tA:=⟨yL ha.run⟩
theorem jh (ha:RT X G a tA):RW X G (.BoolOp .Or [a] pos) tA:=⟨B6 ha.run⟩
variable {σ:St} {Q:Bool→Hp→Prop} {tB':p8}
theorem FC:LT X.K G (Kv tA tB') σ H Q→K1 (LT X.K G tA) (LT X.K G tB') σ H Q:=λ⟨τ,J,Q2,a2,h,k⟩ =>
 ⟨τ,J,_,a2,h,λb J' H' rr ee q=>by
  cases b with
  | true=>simp only [if_true] at q ⊢;exact ⟨τ,J',Q2,a2.go rr ee,q,λb J2 H2 r2 e2 q2=>k b J2 H2 r2 (ee.trans e2) q2⟩
  | false=>simp only [We,if_false] at q ⊢;exact k _ J' H' rr ee q⟩
theorem J_:LT X.K G (T6 tA tB') σ H Q→SG (LT X.K G tA) (LT X.K G tB') σ H Q:=λ⟨τ,J,Q2,a2,h,k⟩ =>
 ⟨τ,J,_,a2,h,λb J' H' rr ee q=>by
  cases b with
  | false=>simp only [We,if_false] at q ⊢;exact ⟨τ,J',Q2,a2.go rr ee,q,λb J2 H2 r2 e2 q2=>k b J2 H2 r2 (ee.trans e2) q2⟩
  | true=>simp only [if_true] at q ⊢;exact k _ J' H' rr ee q⟩
variable {aa7:List Expr}
theorem jg (ha:RT X G a tA) (hb:RW X G (.BoolOp .And (b :: aa7) pos) tB'):RW X G (.BoolOp .And (a :: b :: aa7) pos) (Kv tA tB'):=⟨Vg (B5 ha.run hb.run) λσ H Q h=>FC h⟩
theorem nT (ha:RT X G a tA) (hb:RW X G (.BoolOp .Or (b :: aa7) pos) tB'):RW X G (.BoolOp .Or (a :: b :: aa7) pos) (T6 tA tB'):=⟨Vg (Hi ha.run hb.run) λσ H Q h=>J_ h⟩
theorem fj (h:RW X G e tA):RT X G e tA:=⟨h.run.pt⟩
def L3 (ta tb:cT):cT:=λτ J Q=>ta τ J λx J1=>LK x λc=>if c=true then tb τ J1 Q else Q (.bl false) J1
def Ri (ta tb:cT):cT:=λτ J Q=>ta τ J λx J1=>LK x λc=>if c=true then Q (.bl true) J1 else tb τ J1 Q
def Rh (ta:cT):cT:=λτ J Q=>ta τ J λx J1=>LK x λc=>Q (.bl (!c)) J1
theorem B8 {op} (h:RE X G a ta):RE X G (.BoolOp op [a] pos) ta:=⟨BO h.run⟩
theorem HA (ha:RE X G a ta) (hb:RE X G (.BoolOp .And (b :: aa7) pos) tb):RE X G (.BoolOp .And (a :: b :: aa7) pos) (L3 ta tb):=⟨kZ (BM ha.run hb.run) λσ H Q ⟨τ,J,Q2,a2,h,k⟩ =>
 ⟨τ,J,_,a2,h,λx J' v H' rx rr ee qq=>by
  obtain ⟨c,ec,q⟩:=uf qq
  subst ec
  refine ⟨c,rx,?_⟩
  cases c with
  | true=>simp only [if_true] at q ⊢;exact ⟨τ,J',Q2,a2.go rr ee,q,λz J2 u H2 rz r2 e2 q2=>k z J2 u H2 rz r2 (ee.trans e2) q2⟩
  | false=>simp only [We,if_false] at q ⊢;exact k (.bl false) J' _ H' rfl rr ee q⟩⟩
theorem Rt (ha:RE X G a ta) (hb:RE X G (.BoolOp .Or (b :: aa7) pos) tb):RE X G (.BoolOp .Or (a :: b :: aa7) pos) (Ri ta tb):=⟨kZ (G_ ha.run hb.run) λσ H Q ⟨τ,J,Q2,a2,h,k⟩ =>
 ⟨τ,J,_,a2,h,λx J' v H' rx rr ee qq=>by
  obtain ⟨c,ec,q⟩:=uf qq
  subst ec
  refine ⟨c,rx,?_⟩
  cases c with
  | false=>simp only [We,if_false] at q ⊢;exact ⟨τ,J',Q2,a2.go rr ee,q,λz J2 u H2 rz r2 e2 q2=>k z J2 u H2 rz r2 (ee.trans e2) q2⟩
  | true=>simp only [if_true] at q ⊢;exact k (.bl true) J' _ H' rfl rr ee q⟩⟩
def Vk (t:p8) (ta tb:cT):cT:=λτ J Q=>t τ J λc J1=>if c=true then ta τ J1 Q else tb τ J1 Q
theorem Rr (hc:RT X G c tA) (ha:RE X G a ta) (hb:RE X G b tb):RE X G (.IfExp c a b pos) (Vk tA ta tb):=⟨kZ (uh hc.run ha.run hb.run) λσ H Q ⟨τ,J,Q2,a2,h,k⟩ =>
 ⟨τ,J,_,a2,h,λc J' H' rr ee q=>by
  cases c with
  | true=>simp only [if_true] at q ⊢;exact ⟨τ,J',Q2,a2.go rr ee,q,λz J2 u H2 rz r2 e2 q2=>k z J2 u H2 rz r2 (ee.trans e2) q2⟩
  | false=>simp only [We,if_false] at q ⊢;exact ⟨τ,J',Q2,a2.go rr ee,q,λz J2 u H2 rz r2 e2 q2=>k z J2 u H2 rz r2 (ee.trans e2) q2⟩⟩⟩
def Ah:qm:=λ_ J Q=>Q [] J
def Ag (ta:cT) (tr:qm):qm:=λτ J Q=>ta τ J λx J1=>tr τ J1 λxs J2=>Q (x :: xs) J2
theorem ah:RA X G [] Ah:=⟨TK e_ λσ H Q ⟨τ,J,Q2,a2,h,k⟩=>k [] J [] H rfl a2.hp .refl h⟩
variable {t:qm} {es:List Expr}
theorem af (ha:RE X G e te) (hr:RA X G es t) (hs:starEach (e :: es) X.env=(false,eval e X.env) :: starEach es X.env:=by rfl):RA X G (e :: es) (Ag te t) :=
 ⟨TK (aZ ha.run hr.run hs) λσ H Q ⟨τ,J,Q2,a2,h,k⟩=>⟨τ,J,_,a2,h,λx J' v H' rx rr ee q=>⟨τ,J',_,a2.go rr ee,q,λxs J2 vs H2 rs r2 e2 q2=>k (x :: xs) J2 (v :: vs) H2 ⟨v,vs,rfl,e2.rep rx,rs⟩ r2 (ee.trans e2) q2⟩⟩⟩
def vP:V→PV
 | .non=>.non | .bl b=>.bl b | .int i=>.int i | .str x=>.str x | _=>.non
theorem uy {K:VL} {J:Hq} {H:Hp}:∀{es:List Expr} {vs:List V},es.map Bc=vs.map some→aP K J H (vs.map vP) vs
 | [],[],_=>rfl
 | [],_ :: _,h=>by cases h
 | _ :: _,[],h=>by cases h
 | e :: es,v :: vs,h=>by
  rw [VR,VR] at h
  injection h with h1 h2
  refine ⟨v,vs,rfl,?_,uy h2⟩
  cases e with
  | Constant c j pos =>
   cases c with
   | int i=>cases h1;rfl
   | str x=>cases h1;rfl
   | bool b=>cases h1;rfl
   | _=>cases h1
  | _=>cases h1
theorem yO (vs:List V) (h:es.map Bc=vs.map some) (xs:List PV) (hx:vs.map vP=xs):RA X G es (λ_ J Q=>Q xs J) :=
 ⟨TK (z9 vs h) λσ H Q ⟨τ,J,Q2,a2,q,k⟩=>k _ J _ H (by rw [← hx];exact uy h) a2.hp .refl q⟩
def Rq (t:qm):cT:=λτ J Q=>t τ J λxs J1=>xs.length≤sizeLine∧Q (.tup xs) J1
theorem bP {x1} (h:RA X G es t):RE X G (.Tuple es x1 pos) (Rq t):=⟨kZ (BP h.run) λσ H Q ⟨τ,J,Q2,a2,h,k⟩=>⟨τ,J,_,a2,h,λxs J' vs H' rs rr ee ⟨hl,q⟩ =>
 ⟨by rw [← rs.length];exact hl,λp hp=>by
  have sm:=cb.new hp (.tup vs)
  have e2:=Ext.same (K:=X.K) (J:=J') sm
  exact k (.tup xs) J' (.ref p) _ ⟨p,vs,rfl,.inl (.inl aL),e2.jN rs⟩ (rr.same sm) (ee.trans e2) q⟩⟩⟩
variable {p:Pos}
def Rc (t:qm):cT:=λτ J Q=>t τ J λxs J1=>xs.length≤sizeLine∧∀p,J1 p=none→Q (.ref p) (put J1 p (.lst xs))
theorem fb (h:RA X G es t):RE X G (.List es pos) (Rc t):=⟨kZ (ui h.run) λσ H Q ⟨τ,J,Q2,a2,h,k⟩=>⟨τ,J,_,a2,h,λxs J' vs H' rs rr ee ⟨hl,q⟩ =>
 ⟨by rw [← rs.length];exact hl,λp hp=>k (.ref p) _ (.ref p) _ rfl (rr.C6 hp rs) (ee.trans (.laid hp)) (q p (rr.free hp))⟩⟩⟩
def Vj (t:qm):cT:=λτ J Q=>t τ J λxs J1=>xs.length≤sizeLine∧Q (.fl xs) J1
variable {xs:List PV} {vs:List L2.V}
theorem ot {p:Addr} (rr:Rep K J H) (rs:aP K J H xs vs) (hp:H p=none):cS K J (upd H p (.lst vs)) (.fl xs) (.ref p)∧Rep K J (upd H p (.lst vs))∧Ext K J H J (upd H p (.lst vs)):=by
 have sm:=cb.new hp (.lst vs)
 have e2:=Ext.same (K:=K) (J:=J) sm
 exact ⟨⟨p,vs,rfl,.inl ⟨rr.free hp,.inl aL⟩,e2.jN rs⟩,rr.same sm,e2⟩
theorem jM (h:RA X G es t):RE X G (.List es pos) (Vj t):=⟨kZ (ui h.run) λσ H Q ⟨τ,J,Q2,a2,h,k⟩=>⟨τ,J,_,a2,h,λxs J' vs H' rs rr ee ⟨hl,q⟩ =>
 ⟨by rw [← rs.length];exact hl,λp hp=>let ⟨x1,x2,x3⟩:=ot rr rs hp;k (.fl xs) _ (.ref p) _ x1 x2 (ee.trans x3) q⟩⟩⟩
abbrev Jf:=Sr→Hq→(Option Int→Hq→Prop)→Prop
def LO (K:VL) (G:G2) (t:Jf):TO:=λσ H Q=>∃τ J Q2,xq K G τ J σ H∧t τ J Q2∧∀b J' H',Rep K J' H'→Ext K J H J' H'→Q2 b J'→Q b H'
structure RO (X:Cx) (G:G2) (e:Option Expr) (t:Jf):Prop where
 run:PO X e (LO X.K G t)
theorem Vf {e:Option Expr} {t t':TO} (h:PO X e t) (k:∀σ H Q,t' σ H Q→t σ H Q):PO X e t':=λpins s σ H Q I q=>h pins s σ H Q I (k _ _ _ q)
def Dw:Jf:=λ_ J Q=>Q none J
def L8 (t:cT):Jf:=λτ J Q=>t τ J λx J1=>ET x λi=>Q (some i) J1
theorem m3:RO X G none Dw:=⟨Vf yC λσ H Q ⟨τ,J,Q2,a2,h,k⟩=>k none J H a2.hp .refl h⟩
theorem f_ (h:RE X G e te):RO X G (some e) (L8 te):=⟨Vf (yD h.run) λσ H Q ⟨τ,J,Q2,a2,h,k⟩=>⟨τ,J,_,a2,h,λx J' v H' rx rr ee qq=>by obtain ⟨i,ei,q⟩:=fO qq;subst ei;exact ⟨i,rx,k _ J' H' rr ee q⟩⟩⟩
abbrev Ea:=PV→Option Int→Option Int→Hq→(PV→Hq→Prop)→Prop
def Sl (X:Cx) (q:Ea):Prop:=∃r,nC X r∧∀J H x lo hi v Q2 Q,cS X.K J H x v→Rep X.K J H→q x lo hi J Q2→Kn X.K J H Q2 Q→r v lo hi H Q
def Vm (q:Ea) (te:cT) (tl th:Jf):cT:=λτ J Q=>te τ J λx J1=>tl τ J1 λl J2=>th τ J2 λu J3=>q x l u J3 Q
variable {p2:Pos}
theorem ij {lo hi:Option Expr} {tl th:Jf} {q:Ea} (hr:Sl X q) (he:RE X G e te) (hl:RO X G lo tl) (hu:RO X G hi th):RE X G (.Subscript e (.Slice lo hi none p2) pos) (Vm q te tl th):=by
 obtain ⟨r,h,lr⟩:=hr
 exact ⟨kZ (uj h he.run hl.run hu.run) λσ H Q ⟨τ,J,Q2,a2,h,k⟩=>⟨τ,J,_,a2,h,λx J' v H' rx rr ee q1=>⟨τ,J',_,a2.go rr ee,q1,λl J2 H2 r2 e2 q2 =>
  ⟨τ,J2,_,a2.go r2 (ee.trans e2),q2,λu J3 H3 r3 e3 q3=>lr J3 H3 x l u v Q2 Q ((e2.trans e3).rep rx) r3 q3 λz J4 w H4 rz r4 e4 q4=>k z J4 w H4 rz r4 (((ee.trans e2).trans e3).trans e4) q4⟩⟩⟩⟩
def Q6 (q:AO) (t:qm):cT:=λτ J Q=>t τ J λxs J1=>q xs J1 Q
theorem CB {r:List V→Hp→VK→Prop} {q:AO} (lr:UR X.K r q):∀σ H Q,LE X.K G (Q6 q t) σ H Q→Mh r (LA X.K G t) σ H Q:=λσ H Q ⟨τ,J,Q2,a2,h,k⟩ =>
 ⟨τ,J,_,a2,h,λxs J1 vs H1 rs r1 e1 q1=>lr J1 H1 xs vs Q2 Q rs r1 q1 λz J' u H' rz rr ee qq=>k z J' u H' rz rr (e1.trans ee) qq⟩
theorem bG {id:String} {q:AO} (hc:IG X (.builtin id) q) (hg:Gl X x) (hm:X.mg x=none) (hv:bootBuiltins x=some (.builtin id)) (ha:RA X G (e :: es) t) (hn:x≠"__name__":=by decide) (hdb:(x == ("__debug__":Str))=false:=by decide)
  (he:starEach (e :: es) X.env=(false,eval e X.env) :: starEach es X.env:=by rfl) (hpl:(backTo pos (starEach es X.env)).any (·.1)=false:=by rfl):RE X G (.Call (.Name x p) (e :: es) [] pos) (Q6 q t):=by
 obtain ⟨r,h,lr⟩:=hc
 exact ⟨kZ (cX h hg hm hv ha.run hn hdb he hpl) (CB lr)⟩
theorem dq {T:String} {q:AO} (hc:IG X (.type T) q) (hg:Gl X x) (hm:X.mg x=none) (hv:bootBuiltins x=some (.type T)) (ha:RA X G (e :: es) t) (hn:x≠"__name__":=by decide) (hdb:(x == ("__debug__":Str))=false:=by decide)
  (he:starEach (e :: es) X.env=(false,eval e X.env) :: starEach es X.env:=by rfl) (hpl:(backTo pos (starEach es X.env)).any (·.1)=false:=by rfl):RE X G (.Call (.Name x p) (e :: es) [] pos) (Q6 q t):=by
 obtain ⟨r,h,lr⟩:=hc
 exact ⟨kZ (qG h hg hm hv ha.run hn hdb he hpl) (CB lr)⟩
abbrev Cz:=PV→List PV→Hq→(PV→Hq→Prop)→Prop
def Le (X:Cx) (T id:String) (q:Cz):Prop:=∃r,lh X id r∧∀J H x xs v vs Q2 Q,cS X.K J H x v→aP X.K J H xs vs→Rep X.K J H→q x xs J Q2→Kn X.K J H Q2 Q→r v vs H Q
def OU (T:String) (J:Hq):PV→Prop
 | .str _=>T="str"
 | .fl _=>T="list"
 | .ref a=>(T="list"∧∃xs,J a=some (.lst xs))∨(T="dict"∧∃kvs ep,J a=some (.dct kvs ep))
 | _=>False
theorem DX {T:String} {x:PV} {v:V} (r:cS K J H x v) (hp:Rep K J H) (h:OU T J x):SI K T v H:=by
 cases x with
 | str s=>cases r;exact h
 | fl xs=>obtain ⟨a,vs,rfl,h1,h2⟩:=r;exact .inl ⟨h,vs,h1.sq⟩
 | ref a =>
  cases r
  rcases h with ⟨h,xs,e⟩ | ⟨h,kvs,ep,e⟩
  ·obtain ⟨vs,h1,_⟩:=hp _ _ e;exact .inl ⟨h,vs,.inl (.inl h1)⟩
  ·obtain ⟨gs,h1,_⟩:=hp _ _ e;exact .inr (.inr (.inl ⟨h,.inr ⟨gs,ep,h1⟩⟩))
 | _=>cases h
def Vi (T:String) (q:Cz) (to:cT) (t:qm):cT:=λτ J Q=>to τ J λx J1=>OU T J1 x∧t τ J1 λxs J2=>q x xs J2 Q
def Q5 (T:String) (q:Cz) (to:cT):cT:=λτ J Q=>to τ J λx J1=>OU T J1 x∧q x [] J1 Q
variable {o:Expr} {to:cT} {apos cpos:Pos}
theorem eV {name:Str} {T id:String} {q:Cz} (pa:PlainAttrs T) (slot:Slot T name id) (hty:typeOf (.builtin id)=pure (.type "method_descriptor")) (hm:Le X T id q) (ho:RE X G o to) (ha:RA X G (e :: es) t)
  (hbase:attributeBase o name X.env (eval o X.env)=eval o X.env:=by rfl)
  (hfew:((backTo cpos (starEach (e :: es) X.env)).all (λx=>!x.1) && (backToKw cpos (keywordEach [] X.env)).all (λx=>x.1.isSome)
   && decide ((e :: es).length + ([]:List Keyword).length + (if ([]:List Keyword).isEmpty then 0 else 1) < 30))=true:=by rfl)
  (hline:(apos.endLine == cpos.line)=true:=by rfl) (hs:starEach (e :: es) X.env=(false,eval e X.env) :: starEach es X.env:=by rfl) (hplain:(backTo cpos (starEach es X.env)).any (·.1)=false:=by rfl) :
  RE X G (.Call (.Attribute o name apos) (e :: es) [] cpos) (Vi T q to t):=by
 obtain ⟨r,h,lr⟩:=hm
 exact ⟨kZ (G1 pa slot hty h ho.run ha.run hbase hfew hline hs hplain) λσ H Q ⟨τ,J,Q2,a2,h,k⟩=>⟨τ,J,_,a2,h,λx J1 v H1 rx r1 e1 ⟨ty,q1⟩=>⟨DX rx r1 ty,τ,J1,_,a2.go r1 e1,q1,λxs J2 vs H2 rs r2 e2 q2 =>
  lr J2 H2 x xs v vs Q2 Q (e2.rep rx) rs r2 q2 λz J' u H' rz rr ee qq=>k z J' u H' rz rr ((e1.trans e2).trans ee) qq⟩⟩⟩
theorem HB {name:Str} {T id:String} {q:Cz} (pa:PlainAttrs T) (slot:Slot T name id) (hty:typeOf (.builtin id)=pure (.type "method_descriptor")) (hm:Le X T id q) (ho:RE X G o to)
  (hbase:attributeBase o name X.env (eval o X.env)=eval o X.env:=by rfl) (hline:(apos.endLine == cpos.line)=true:=by rfl):RE X G (.Call (.Attribute o name apos) [] [] cpos) (Q5 T q to):=by
 obtain ⟨r,h,lr⟩:=hm
 exact ⟨kZ (NH pa slot hty h ho.run hbase hline) λσ H Q ⟨τ,J,Q2,a2,h,k⟩=>⟨τ,J,_,a2,h,λx J1 v H1 rx r1 e1 ⟨ty,q1⟩=>⟨DX rx r1 ty,
  lr J1 H1 x [] v [] Q2 Q rx rfl r1 q1 λz J' u H' rz rr ee qq=>k z J' u H' rz rr (e1.trans ee) qq⟩⟩⟩
abbrev cI:=List PV→Hq→(PV→Hq→Prop)→(Addr→Hq→Prop)→Prop
def Mu (K:VL) (J:Hq) (H:Hp) (E2:Addr→Hq→Prop) (E:XK):Prop:=∀c J' H',Rep K J' H'→Ext K J H J' H'→E2 c J'→E (.ref c) none H'
def cP (K:VL) (sp:cI):Sp:=λvs H Q E=>∃xs J Q2 E2,aP K J H xs vs∧Rep K J H∧sp xs J Q2 E2∧Kn K J H Q2 Q∧Mu K J H E2 E
variable {E:XK} {E2:Addr→Hq→Prop}
theorem Mu.ext {J':Hq} {H':Hp} (k:Mu K J H E2 E) (e:Ext K J H J' H'):Mu K J' H' E2 E:=λc J1 H1 r x q=>k c J1 H1 r (e.trans x) q
variable {P:Program} {w:World} {f:Addr} {k:Nat} {mg:Str→Option Value} {base:Heap} {fd:FuncData} {ps:List Str}
theorem _root_.L2.aK.Sd {sp:Sp} (F:aK P w K mg base (cq P w) k f fd ps sp):aK P w K mg base OO k f fd ps (λvs H Q _=>sp vs H Q E0) :=
 ⟨λvs H Q E q=>F.len vs H Q _ q,λA outer s H args us vs Q E hr he hb hv hs=>codeAny_mono (F.run A outer s H args us vs Q _ hr he hb hv hs) λr s' q=>by
  cases r with
  | error e=>obtain ⟨_,_,_,_,_,z⟩:=q;exact z.elim
  | ok fl=>cases fl <;> exact q⟩
def b7 (P:Program) (w:World) (K:VL) (mg:Str→Option Value) (base:Heap) (k:Nat) (x:Str) (ps:List Str) (sp:cI):Prop:=Mo P w K mg base k x ps (cP K sp)
structure AN (X:Cx) (G:G2) (E2:Addr→Hq→Prop) (E:XK):Prop where
 pass:Passes (cq X.prog X.w) X E
 kn:Mu X.K G.1 G.2 E2 E
def Dv (sp:cI) (E2:Addr→Hq→Prop) (t:qm):cT:=λτ J Q=>t τ J λxs J1=>sp xs J1 Q E2
variable {sp:cI}
theorem aU {k':Nat} (C:b7 X.prog X.w X.K X.mg X.base k x ps sp) (B:AN X G E2 E) (hr:bF k' X.A) (ha:RA X G (e :: es) t) (hk:k≤k':=by decide) (hg:Gl X x:=by rfl)
  (hdb:(x == ("__debug__":Str))=false:=by decide) (he:starEach (e :: es) X.env=(false,eval e X.env) :: starEach es X.env:=by rfl) (hpl:(backTo pos (starEach es X.env)).any (·.1)=false:=by rfl) :
  RE X G (.Call (.Name x p) (e :: es) [] pos) (Dv sp E2 t) :=
 ⟨kZ (Kd C B.pass hr hk hg ha.run hdb he hpl) λσ H Q ⟨τ,J,Q2,a2,h,k⟩=>⟨τ,J,_,a2,h,λxs J1 vs H1 rs r1 e1 q1=>by
  simp only [WX]
  exact ⟨xs,J1,Q2,E2,rs,r1,q1,λz J' u H' rz rr ee qq=>k z J' u H' rz rr (e1.trans ee) qq,B.kn.ext (a2.ext.trans e1)⟩⟩⟩
def Q8 (C:Addr) (ta:cT) (f:Str):cT:=λτ J Q=>ta τ J λx J1=>BH x λa=>Nt C (J1 a) λfs=>yq (fs.lookup f) λv=>Q v J1
variable {C:Addr}
theorem aH {f:Str} (cl:kR X.K C) (na:ay X.K C f) (he:RE X G e ta) (hb:attributeBase e f X.env (eval e X.env)=eval e X.env:=by rfl):RE X G (.Attribute e f pos) (Q8 C ta f) :=
 ⟨kZ (NI he.run hb) λσ H Q ⟨τ,J,Q2,a2,h,k⟩=>⟨τ,J,_,a2,h,λx J1 v H1 rx r1 e1 hh=>by
  obtain ⟨a,ex,hh⟩:=fP hh;obtain ⟨fs,ja,hh⟩:=BF hh;obtain ⟨y,lk,q⟩:=fw hh
  subst ex;cases rx
  obtain ⟨dx,gs,ha,rf⟩:=r1 _ _ ja
  obtain ⟨w,lw,rw'⟩:=rf.look lk
  exact ⟨a,C,dx,gs,w,rfl,ha,cl,na,lw,k y J1 w H1 rw' r1 e1 q⟩⟩⟩
structure bU (P:Program) (w:World) (K:VL) (mg:Str→Option Value) (base:Heap) (C:Addr) (k:Nat) (m:Str) (ps:List Str) (sp:cI):Prop where
 cl:kR K C
 ex:∃f fd,Meth K C m f∧aK P w K mg base (cq P w) k f fd ps (cP K sp)∧Binds K fd ps []
variable {m:Str}
theorem bU.imp {sp':cI} (M:bU P w K mg base C k m ps sp) (h:∀xs J Q E,sp' xs J Q E→sp xs J Q E):bU P w K mg base C k m ps sp':=by
 obtain ⟨cl,f,fd,hm,F,r⟩:=M
 exact ⟨cl,f,fd,hm,F.imp λvs H Q E ⟨xs,J,Q2,E2,a,b,c,d⟩=>⟨xs,J,Q2,E2,a,b,h _ _ _ _ c,d⟩,r⟩
def KD (C:Addr) (m:Str) (sp:cI) (E2:Addr→Hq→Prop) (ta:cT) (t:qm):cT:=λτ J Q=>ta τ J λx J1=>BH x λa=>Nt C (J1 a) λfs=>fs.lookup m=none∧t τ J1 λxs J2=>sp (x :: xs) J2 Q E2
theorem zV (B:AN X G E2 E):∀σ H Q,LE X.K G (KD C m sp E2 to t) σ H Q→Ik C m (cP X.K sp) [] E (LE X.K G to) (LA X.K G t) σ H Q:=λσ H Q ⟨τ,J,Q2,a2,h,k⟩ =>
 ⟨τ,J,_,a2,h,λx J1 v H1 rx r1 e1 hh=>by
  obtain ⟨a,ex,hh⟩:=fP hh;obtain ⟨fs,ja,lk,q⟩:=BF hh
  subst ex;cases rx
  obtain ⟨dx,gs,ha,rf⟩:=r1 _ _ ja
  refine ⟨a,dx,gs,rfl,ha,rf.none lk,τ,J1,_,a2.go r1 e1,q,λxs J2 vs H2 rs r2 e2 q2=>?_⟩
  simp only [WX]
  exact ⟨.ref a :: xs,J2,Q2,E2,⟨.ref a,vs,rfl,rfl,rs⟩,r2,q2,λz J' u H' rz rr ee qq=>k z J' u H' rz rr ((e1.trans e2).trans ee) qq,B.kn.ext ((a2.ext.trans e1).trans e2)⟩⟩
theorem a_ {k':Nat} {pl:Sem Bool} (M:bU X.prog X.w X.K X.mg X.base C k m ps sp) (B:AN X G E2 E) (hr:bF k' X.A) (ho:RE X G o to) (ha:RA X G (e :: es) t) (hk:k≤k':=by decide)
  (hst:starEach (e :: es) X.env=(false,eval e X.env) :: starEach es X.env:=by rfl) (hpl:(backTo pos (starEach es X.env)).any (·.1)=false:=by rfl)
  (ht:eval (.Call (.Attribute o m apos) (e :: es) [] pos) X.env=(do
   let ov ← eval o X.env
   standAt apos.atName
   let (f,first) ← holding [ov] (getMethod ov m pl)
   callWith pos f first (backTo pos (starEach (e :: es) X.env)) (backToKw pos (keywordEach [] X.env))):=by rfl) :
  RE X G (.Call (.Attribute o m apos) (e :: es) [] pos) (KD C m sp E2 to t):=by
 obtain ⟨cl,f,fd,hm,F,b⟩:=M
 exact ⟨kZ (Kf (pl:=pl) ho.run cl hm F (hr.mono hk) b .nil B.pass ha.run hst hpl ht) (zV B)⟩
theorem b8 {k':Nat} {pl:Sem Bool} (M:bU X.prog X.w X.K X.mg X.base C k m ps sp) (B:AN X G E2 E) (hr:bF k' X.A) (ho:RE X G o to) (hk:k≤k':=by decide)
  (ht:eval (.Call (.Attribute o m apos) [] [] pos) X.env=(do
   let ov ← eval o X.env
   standAt apos.atName
   let (f,first) ← holding [ov] (getMethod ov m pl)
   callWith pos f first (backTo pos (starEach [] X.env)) (backToKw pos (keywordEach [] X.env))):=by rfl) :
  RE X G (.Call (.Attribute o m apos) [] [] pos) (KD C m sp E2 to Ah):=by
 obtain ⟨cl,f,fd,hm,F,b⟩:=M
 refine ⟨kZ (G8 (pl:=pl) ho.run cl hm F (hr.mono hk) b .nil B.pass ht) λσ H Q h=>?_⟩
 have z:=zV B σ H Q h
 obtain ⟨τ,J,Q2,a2,h1,k1⟩:=z
 refine ⟨τ,J,Q2,a2,h1,λx J1 v H1 rx r1 e1 q1=>?_⟩
 obtain ⟨a,dx,fs,h2,h3,h4,τ',J',Q',a2',h5,k5⟩:=k1 x J1 v H1 rx r1 e1 q1
 exact ⟨a,dx,fs,h2,h3,h4,k5 [] J' [] H1 rfl a2'.hp .refl h5⟩
structure vB (P:Program) (w:World) (K:VL) (mg:Str→Option Value) (base:Heap) (C:Addr) (k:Nat) (x:Str) (ps:List Str) (sp:cI):Prop where
 m:mg x=some (.ref C)
 ex:∃f fd,Mk K C f∧aK P w K mg base (cq P w) k f fd ps (cP K sp)∧Binds K fd ps []
def KC (C:Addr) (sp:cI) (E2:Addr→Hq→Prop) (t:qm):cT:=λτ J Q=>t τ J λxs J1=>∀a,J1 a=none→sp (.ref a :: xs) (put J1 a (.ins C [])) (λv J2=>v=.non∧Q (.ref a) J2) E2
theorem zQ (B:AN X G E2 E):∀σ H Q,LE X.K G (KC C sp E2 t) σ H Q→Ij C (cP X.K sp) [] E (LA X.K G t) σ H Q:=λσ H Q ⟨τ,J,Q2,a2,h,k⟩ =>
 ⟨τ,J,_,a2,h,λxs J1 vs H1 rs r1 e1 q1 x dx hx hdx ne=>by
  have s1:=cb.new hdx (.own x)
  have hx':upd H1 dx (.own x) x=none:=by rw [aI (Ne.symm ne)];exact hx
  have r2:=r1.same s1
  have e2:Ext X.K J1 H1 (put J1 x (.ins C [])) (upd (upd H1 dx (.own x)) x (.ins C dx [])):=(Ext.same s1).trans (.laid hx')
  have r3:Rep X.K (put J1 x (.ins C [])) (upd (upd H1 dx (.own x)) x (.ins C dx [])):=r2.Fj (.laid hx') x (λa ne=>ag ne) (λa o ne _ z=>by rw [aI ne];exact z) λu z=>by
   rw [aj] at z;cases z
   exact ⟨dx,[],aL,rfl,rfl⟩
  simp only [WX]
  refine ⟨.ref x :: xs,_,_,E2,⟨.ref x,vs,rfl,rfl,e2.jN rs⟩,r3,q1 x (r1.free hx),λz J' u H' rz rr ee ⟨ez,qq⟩=>?_,B.kn.ext ((a2.ext.trans e1).trans e2)⟩
  subst ez
  exact ⟨rz,k (.ref x) J' (.ref x) H' rfl rr ((e1.trans e2).trans ee) qq⟩⟩
theorem yP {k':Nat} (M:vB X.prog X.w X.K X.mg X.base C k x ps sp) (B:AN X G E2 E) (hr:bF k' X.A) (ha:RA X G (e :: es) t) (hk:k + 1≤k':=by decide) (hg:Gl X x:=by rfl)
  (hdb:(x == ("__debug__":Str))=false:=by decide) (he:starEach (e :: es) X.env=(false,eval e X.env) :: starEach es X.env:=by rfl) (hpl:(backTo pos (starEach es X.env)).any (·.1)=false:=by rfl) :
  RE X G (.Call (.Name x p) (e :: es) [] pos) (KC C sp E2 t):=by
 obtain ⟨hm,f,fd,mk,F,b⟩:=M
 exact ⟨kZ (Ke mk F (hr.mono hk) hg hm b .nil B.pass ha.run hdb he hpl) (zQ B)⟩
theorem pO {k':Nat} (M:vB X.prog X.w X.K X.mg X.base C k x ps sp) (B:AN X G E2 E) (hr:bF k' X.A) (hk:k + 1≤k':=by decide) (hg:Gl X x:=by rfl)
  (hdb:(x == ("__debug__":Str))=false:=by decide):RE X G (.Call (.Name x p) [] [] pos) (KC C sp E2 Ah):=by
 obtain ⟨hm,f,fd,mk,F,b⟩:=M
 refine ⟨kZ (G7 mk F (hr.mono hk) hg hm b .nil B.pass hdb) λσ H Q h=>?_⟩
 obtain ⟨τ,J,Q2,a2,h1,k1⟩:=zQ (t:=Ah) B σ H Q h
 exact k1 [] J [] H rfl a2.hp .refl h1
def L7:kH:=λD τ J=>D.nx τ J
def cy (t u:kH):kH:=λD τ J=>t { D with nx:=u D } τ J
theorem aR:RB X G [] L7:=⟨TL yH λD σ H ⟨τ,J,D2,a2,h,g⟩=>g.nx τ J σ H a2.sl a2.hp .refl h⟩
variable {u t:kH} {st:Stmt} {aa9:List Stmt}
theorem ak (h1:RS X G st t) (h2:RB X G aa9 u):RB X G (st :: aa9) (cy t u):=⟨TL (pN h1.run h2.run) λD σ H ⟨τ,J,D2,a2,h,g⟩=>⟨τ,J,{ D2 with nx:=u D2 },a2,h,
 { nx:=λτ' J' σ' H' rs rr ee q=>⟨τ',J',D2,⟨rs,rr,a2.ext.trans ee⟩,q,g.ext ee⟩,rt:=g.rt,bk:=g.bk,ct:=g.ct }⟩⟩
theorem ar (h1:RS X G st t):RB X G [st] t:=⟨sM h1.run⟩
def T1 (t u:kH):kH:=λD τ J=>∃M:Sr→Hq→Prop,t { D with nx:=M } τ J∧∀τ' J',M τ' J'→u D τ' J'
theorem f9 (h1:RS X G st t) (h2:RB X G aa9 u):RB X G (st :: aa9) (T1 t u):=⟨TL (pN h1.run h2.run) λD σ H ⟨τ,J,D2,a2,⟨M,h,hm⟩,g⟩=>⟨τ,J,{ D2 with nx:=M },a2,h,
 { nx:=λτ' J' σ' H' rs rr ee q=>⟨τ',J',D2,⟨rs,rr,a2.ext.trans ee⟩,hm _ _ q,g.ext ee⟩,rt:=g.rt,bk:=g.bk,ct:=g.ct }⟩⟩
def TY:kH:=λD τ J=>D.bk τ J
def TZ:kH:=λD τ J=>D.ct τ J
def L4 (te:cT):kH:=λD τ J=>te τ J λ_ J1=>D.nx τ J1
theorem aV (he:RE X G e te) (hs:swapsWith e none pos.line X.env=pure false:=by rfl):RS X G (.Expr e pos) (L4 te):=⟨Ab (yE he.run hs) λD σ H ⟨τ,J,D2,a2,h,g⟩ =>
 ⟨τ,J,_,a2,h,λx J' v H' rx rr ee q=>g.nx τ J' σ H' (a2.sl.ext ee) rr ee q⟩⟩
def Rl (te:cT):kH:=λD τ J=>te τ J D.rt
theorem aB (he:RE X G e te):RS X G (.Return (some e) pos) (Rl te):=⟨Ab (B0 he.run) λD σ H ⟨τ,J,D2,a2,h,g⟩=>⟨τ,J,_,a2,h,λx J' v H' rx rr ee q=>g.rt x J' v H' rx rr ee q⟩⟩
def L9:kH:=λD _ J=>D.rt .non J
theorem KO:RS X G (.Return none pos) L9:=⟨Ab yF λD σ H ⟨τ,J,D2,a2,h,g⟩=>g.rt .non J .non H rfl a2.hp .refl h⟩
def Q_ (c:p8) (t u:kH):kH:=λD τ J=>c τ J λb J1=>if b=true then t D τ J1 else u D τ J1
variable {tc:p8}
theorem aY {a b:List Stmt} (hc:RT X G c tc) (ha:RB X G a t) (hb:RB X G b u):RS X G (.If c a b pos) (Q_ tc t u):=⟨Ab (He hc.run ha.run hb.run) λD σ H ⟨τ,J,D2,a2,h,g⟩ =>
 ⟨τ,J,_,a2,h,λc J' H' rr ee q=>by
  cases c with
  | true=>simp only [if_true] at q ⊢;exact ⟨τ,J',D2,a2.go rr ee,q,g.ext ee⟩
  | false=>simp only [We,if_false] at q ⊢;exact ⟨τ,J',D2,a2.go rr ee,q,g.ext ee⟩⟩⟩
abbrev A8:=PV→Sr→Hq→(Sr→Hq→Prop)→Prop
abbrev zr:=List PV→Sr→Hq→(Sr→Hq→Prop)→Prop
def LG (K:VL) (G:G2) (t:A8):TG:=λv σ H Q=>∃x τ J Q2,cS K J H x v∧xq K G τ J σ H∧t x τ J Q2∧∀τ' J' σ' H',oa K J' H' τ' σ'→Rep K J' H'→Ext K J H J' H'→Q2 τ' J'→Q σ' H'
def Vp (K:VL) (G:G2) (t:zr):lj:=λvs σ H Q=>∃xs τ J Q2,aP K J H xs vs∧xq K G τ J σ H∧t xs τ J Q2∧∀τ' J' σ' H',oa K J' H' τ' σ'→Rep K J' H'→Ext K J H J' H'→Q2 τ' J'→Q σ' H'
structure RG (X:Cx) (G:G2) (e:Expr) (t:A8):Prop where
 run:PG X e (LG X.K G t)
structure Sj (X:Cx) (G:G2) (es:List Expr) (t:zr):Prop where
 run:Lf X es (Vp X.K G t)
theorem TM {t t':TG} (h:PG X e t) (k:∀v σ H Q,t' v σ H Q→t v σ H Q):PG X e t':=λpins s σ H v u Q I r q=>h pins s σ H v u Q I r (k _ _ _ _ q)
theorem QK {e:List Expr} {t t':lj} (h:Lf X e t) (k:∀v σ H Q,t' v σ H Q→t v σ H Q):Lf X e t':=λpins s σ H v u Q I r q=>h pins s σ H v u Q I r (k _ _ _ _ q)
def Lm (i:Nat):A8:=λx τ J Q=>Q (τ.set i (some x)) J
theorem bq (hN:X.N.Nodup) (hi:X.N[i]?=some x:=by rfl) (hx:Loc X.env.scope x:=by first | exact .inl rfl | exact .inr rfl) (hf:X.fn x=true∨X.env.scope.names.lookup x=some .local:=by first | exact .inl rfl | exact .inr rfl | assumption):RG X G (.Name x pos) (Lm i) :=
 ⟨TM (yx hN hi hx hf) λv σ H Q ⟨x,τ,J,Q2,rx,a2,q,k⟩=>k _ J _ H (a2.sl.set i rx) a2.hp .refl q⟩
def U0:zr:=λvs τ J Q=>TH vs (Q τ J)
def UZ (t:A8) (u:zr):zr:=λvs τ J Q=>Nu vs λv r=>t v τ J λτ' J'=>u r τ' J' Q
theorem mZ:Sj X G [] U0:=⟨QK yy λvs σ H Q ⟨xs,τ,J,Q2,rs,a2,hh,k⟩=>by obtain ⟨e,q⟩:=Nx hh;subst e;exact ⟨rs,k τ J σ H a2.sl a2.hp .refl q⟩⟩
theorem cY {t:A8} {u:zr} (h1:RG X G e t) (h2:Sj X G es u)
  (hs:(assignEach (e :: es) X.env).map (·.2)=assign e X.env :: (assignEach es X.env).map (·.2):=by rfl):Sj X G (e :: es) (UZ t u):=⟨QK (um h1.run h2.run hs) λvs σ H Q ⟨xs,τ,J,Q2,rs,a2,hh,k⟩=>by
 obtain ⟨y,r,e,q⟩:=JP hh
 subst e
 obtain ⟨v,us,rfl,rv,ru⟩:=rs
 exact ⟨v,us,rfl,y,τ,J,_,rv,a2,q,λτ' J' σ' H' rs' rr ee q'=>⟨r,τ',J',Q2,ee.jN ru,⟨rs',rr,a2.ext.trans ee⟩,q',λτ2 J2 σ2 H2 rs2 rr2 ee2 q2=>k τ2 J2 σ2 H2 rs2 rr2 (ee.trans ee2) q2⟩⟩⟩
def U1 (n:Nat) (t:zr):A8:=λx τ J Q=>OR x λxs=>xs.length=n∧t xs τ J Q
theorem qN {t:zr} {n:Nat} (hc:X.calm=true) (h:Sj X G es t)
  (hn:(assignEach es X.env).length=n:=by rfl) (hst:(assignEach es X.env).findIdx? (·.1)=none:=by rfl):RG X G (.Tuple es k pos) (U1 n t):=⟨TM (BS hc h.run hn hst) λv σ H Q ⟨x,τ,J,Q2,rx,a2,hh,k⟩=>by
 obtain ⟨xs,e,l,q⟩:=BI hh
 subst e
 obtain ⟨a,vs,rfl,h1,h2⟩:=rx
 exact ⟨a,vs,rfl,h1,by rw [← h2.length];exact l,xs,τ,J,Q2,h2,a2,q,k⟩⟩
def yM (te:cT) (g:A8):kH:=λD τ J=>te τ J λx J1=>g x τ J1 D.nx
variable {tg:Expr}
theorem uz {g:A8} (he:RE X G e te) (hg:RG X G tg g) (hs:swapsWithSole [tg] e pos.line X.env=pure false:=by rfl) (hw:swappedStores [tg] e X.env=pure none:=by rfl)
  (h1:(assignEach [tg] X.env).map (·.2)=[assign tg X.env]:=by rfl):RS X G (.Assign [tg] e pos) (yM te g):=⟨Ab (BX he.run hg.run hs hw h1) λD σ H ⟨τ,J,D2,a2,h,g⟩ =>
 ⟨τ,J,_,a2,h,λx J' v H' rx rr ee q=>⟨x,τ,J',_,rx,a2.go rr ee,q,λτ' J2 σ' H2 rs r2 e2 q2=>g.nx τ' J2 σ' H2 rs r2 (ee.trans e2) q2⟩⟩⟩
variable {pos':Pos}
theorem aD (hN:X.N.Nodup) (he:RE X G e te) (hi:X.N[i]?=some x:=by rfl) (hx:Loc X.env.scope x:=by first | exact .inl rfl | exact .inr rfl) (hs:swapsWith e (some (.Name x pos')) pos.line X.env=pure false:=by rfl) (hf:X.fn x=true∨X.env.scope.names.lookup x=some .local:=by first | exact .inl rfl | exact .inr rfl | assumption) :
  RS X G (.Assign [.Name x pos'] e pos) (yM te (Lm i)):=⟨Ab (yG hN hi hx he.run hs hf) λD σ H ⟨τ,J,D2,a2,h,g⟩ =>
 ⟨τ,J,_,a2,h,λx J' v H' rx rr ee q=>g.nx _ J' _ H' ((a2.sl.ext ee).set i rx) rr ee q⟩⟩
def Rj (i j:Nat) (ta:qm):kH:=λD τ J=>ta τ J λvs J1=>OQ vs λv w=>D.nx ((τ.set i (some v)).set j (some w)) J1
variable {y:Str} {px py:Pos}
theorem yQ {ta:qm} {pt:Pos} {kt k2 pt2} (hc:X.calm=true) (hN:X.N.Nodup) (hi:X.N[i]?=some x) (hj:X.N[j]?=some y) (hij:i≠j)
  (hx:X.env.scope.names.lookup x=some .local) (hy:X.env.scope.names.lookup y=some .local) (ha:RA X G [a,b] ta)
  (hw:swappedStores [.Tuple [.Name x px,.Name y py] kt pt] (.Tuple [a,b] k2 pt2) X.env=pure (some [x,y]))
  (hs:swapsWithSole [.Tuple [.Name x px,.Name y py] kt pt] (.Tuple [a,b] k2 pt2) pos.line X.env=pure false:=by rfl) :
  RS X G (.Assign [.Tuple [.Name x px,.Name y py] kt pt] (.Tuple [a,b] k2 pt2) pos) (Rj i j ta):=⟨Ab (BZ hc hN hi hj hij hx hy ha.run hw hs) λD σ H ⟨τ,J,D2,a2,h,g⟩ =>
 ⟨τ,J,_,a2,h,λxs J' vs H' rs rr ee hh=>by
  obtain ⟨v,w,e,q⟩:=GK hh
  subst e
  obtain ⟨v',us,rfl,rv,w',us',rfl,rw',e'⟩:=rs
  cases e'
  exact ⟨v',w',rfl,g.nx _ J' _ H' (((a2.sl.ext ee).set i rv).set j rw') rr ee q⟩⟩⟩
def iH (f:Str) (v:PV):List (Str × PV)→List (Str × PV)
 | []=>[(f,v)]
 | (g,w) :: r=>if g=f then (g,v) :: r else (g,w) :: iH f v r
theorem Ae {K:VL} {J:Hq} {H:Hp} {f:Str} {y:PV} {v:V} (r:cS K J H y v):∀{fs:List (Str × PV)} {gs:List (Str × V)},nq K J H fs gs→nq K J H (iH f y fs) (dF f v gs)
 | [],[],_=>⟨rfl,v,[],rfl,r,rfl⟩
 | [],_ :: _,h=>by cases h.1
 | _ :: _,[],h=>by cases h.1
 | (k,y') :: fs,(k',w) :: gs,h=>by
  obtain ⟨h1,v',us,h2,h3,h4⟩:=h
  simp only [VR,List.cons.injEq] at h1 h2
  obtain ⟨rfl,h1⟩:=h1
  obtain ⟨rfl,rfl⟩:=h2
  unfold iH dF
  by_cases hk:k=f
  ·rw [if_pos hk,if_pos hk]
   exact ⟨by simp only [VR,h1],v,_,rfl,r,h4⟩
  ·rw [if_neg hk,if_neg hk]
   obtain ⟨z1,z2⟩:=Ae (f:=f) r (⟨h1,h4⟩:nq K J H fs gs)
   exact ⟨by simp only [VR,z1],w,_,rfl,h3,z2⟩
def L5 (C:Addr) (ta tv:cT) (f:Str):kH:=λD τ J=>tv τ J λy J1=>ta τ J1 λx J2=>BH x λa=>Nt C (J2 a) λfs=>fs.length < 1000∧D.nx τ (put J2 a (.ins C (iH f y fs)))
theorem Ext.OG {p dx:Addr} {fs gs:List (Str × PV)} {fs' gs':List (Str × V)} (h:J p=some (.ins C fs)) (k:H p=some (.ins C dx fs')):Ext K J H (put J p (.ins C gs)) (upd H p (.ins C dx gs')):=by
 have sm:∀a u,a≠p→Rd H a u→Rd (upd H p (.ins C dx gs')) a u:=λa u ne z=>by
  rcases z with z | ⟨o,z⟩
  ·exact .inl (by rw [aI ne];exact z)
  ·exact .inr ⟨o,by rw [aI ne];exact z⟩
 have nn:∀a u,(∀c d l,u≠HO.ins c d l)→Rd H a u→a≠p:=λa u d z e=>by
  subst e
  rcases z with z | ⟨o,z⟩
  ·rw [k] at z;cases z;exact d _ _ _ rfl
  ·rw [k] at z;cases z
 refine ⟨λa vs' z=>?_,λa o z q _=>?_⟩
 ·rcases z with z | z
  ·exact .inl (sm a _ (nn a (.tup vs') (λ_ _ _ e=>nomatch e) z) z)
  ·exact .inr z
 ·have ne:a≠p:=by intro e;subst e;rw [h] at z;cases z
  exact ⟨by rw [ag ne];exact z,by rw [aI ne];exact q⟩
variable {value:Expr} {tv:cT}
theorem dt {f:Str} (cl:kR X.K C) (na:ay X.K C f) (ha:RE X G o ta) (hv:RE X G value tv) (hs:swapsWith value (some (.Attribute o f pos')) pos.line X.env=pure false:=by rfl):RS X G (.Assign [.Attribute o f pos'] value pos) (L5 C ta tv f) :=
 ⟨Ab (NN ha.run hv.run hs) λD σ H ⟨τ,J,D2,a2,h,g⟩=>⟨τ,J,_,a2,h,λy J1 v H1 ry r1 e1 q1=>⟨τ,J1,_,a2.go r1 e1,q1,λx J2 w H2 rx r2 e2 hh=>by
  obtain ⟨a,ex,hh⟩:=fP hh;obtain ⟨fs,ja,hl,q2⟩:=BF hh
  subst ex;cases rx
  obtain ⟨dx,gs,h2,rf⟩:=r2 _ _ ja
  have ll:gs.length=fs.length:=by have:=congrArg Xj rf.1;simpa using this.symm
  have e3:=Ext.OG (K:=X.K) (gs:=iH f y fs) (gs':=dF f v gs) ja h2
  refine ⟨a,C,dx,gs,rfl,h2,cl,na,by omega,g.nx τ _ σ _ (((a2.sl.ext e1).ext e2).ext e3) ?_ ((e1.trans e2).trans e3) q2⟩
  refine r2.Fj e3 a (λb ne=>ag ne) (λb o ne _ z=>by rw [aI ne];exact z) λu z=>?_
  rw [aj] at z;cases z
  exact ⟨dx,_,aL,e3.Al (Ae (e2.rep ry) rf)⟩⟩⟩⟩
def Hw (c:p8) (tb:kH):kH:=λD τ J=>∃W:Nat→Sr→Hq→Prop,(∃m,W m τ J)∧∀m τ J,W m τ J →
 c τ J λb J1=>if b=true then ∃N:Sr→Hq→Prop,(∀τ' J',N τ' J'→∃m',m' < m∧W m' τ' J')∧tb { D with nx:=N,ct:=N,bk:=D.nx } τ J1 else D.nx τ J1
variable {body:List Stmt}
theorem ik {tb:kH} (hp:PassesOwn (model X.prog X.w) X.A X.env X.xe) (hc:RT X G c tc) (hb:RB X G body tb):RS X G (.While c body [] pos) (Hw tc tb):=⟨Ab (uu hp hc.run hb.run) λD σ H ⟨τ,J,D2,a2,⟨W,⟨m0,w0⟩,h⟩,g⟩=>by
 refine ⟨λm σ' H'=>∃τ' J',xq X.K G τ' J' σ' H'∧Ext X.K J H J' H'∧W m τ' J',⟨m0,τ,J,a2,.refl,w0⟩,λm σ1 H1 ⟨τ1,J1,a1,e1,w1⟩=>?_⟩
 refine ⟨τ1,J1,_,a1,h m τ1 J1 w1,λb J2 H2 r2 e2 q=>?_⟩
 cases b with
 | false=>simp only [We,if_false] at q ⊢;exact g.nx τ1 J2 σ1 H2 (a1.sl.ext e2) r2 (e1.trans e2) q
 | true =>
  simp only [if_true] at q ⊢
  obtain ⟨N,hN,q⟩:=q
  refine ⟨λσ' H'=>∃τ' J',xq X.K G τ' J' σ' H'∧Ext X.K J H J' H'∧N τ' J',λσ' H' ⟨τ',J',a',e',n'⟩=>let ⟨m',lt,w'⟩:=hN τ' J' n';⟨m',lt,τ',J',a',e',w'⟩,τ1,J2,{ D2 with nx:=N,ct:=N,bk:=D2.nx },a1.go r2 e2,q,?_⟩
  have ge:=g.ext (e1.trans e2)
  exact { nx:=λτ' J' σ' H' rs rr ee q=>⟨τ',J',⟨rs,rr,(a1.ext.trans e2).trans ee⟩,(e1.trans e2).trans ee,q⟩,rt:=ge.rt,bk:=ge.nx,ct:=λτ' J' σ' H' rs rr ee q=>⟨τ',J',⟨rs,rr,(a1.ext.trans e2).trans ee⟩,(e1.trans e2).trans ee,q⟩ }⟩
structure A2 where
 xs:List PV
 ok:Hq→Prop
structure wu (K:VL) (it:A2) (I:It) (J:Hq) (H:Hp):Prop where
 go:∀J' H',Ext K J H J' H'→Rep K J' H'→it.ok J'→∀i,i < it.xs.length→I.go i H'
 yl:∀J' H',Ext K J H J' H'→Rep K J' H'→it.ok J'→∀i,i < it.xs.length→∀v H2,I.yld i H' v H2→∃x,it.xs[i]?=some x∧cS K J' H2 x v∧Rep K J' H2∧Ext K J' H' J' H2
 stop:∀J' H',Ext K J H J' H'→Rep K J' H'→it.ok J'→I.stop it.xs.length H'
abbrev tF:=Sr→Hq→(A2→Hq→Prop)→Prop
def LI (K:VL) (G:G2) (t:tF):TI:=λσ H R=>∃τ J R2,xq K G τ J σ H∧t τ J R2∧∀it J' I H',wu K it I J' H'→Rep K J' H'→Ext K J H J' H'→R2 it J'→R I H'
structure RI (X:Cx) (G:G2) (tg e:Expr) (t:tF):Prop where
 run:PI X tg e (LI X.K G t)
theorem LM {t t':TI} (h:PI X tg e t) (k:∀σ H Q,t' σ H Q→t σ H Q):PI X tg e t':=λpins s σ H Q I q=>h pins s σ H Q I (k _ _ _ q)
def Q9 (wi:tF) (g:A8) (tb:kH):kH:=λD τ J=>wi τ J λit J1=>∃Pv:Nat→Sr→Hq→Prop,Pv 0 τ J1∧(∀i τ J,Pv i τ J→it.ok J) ∧
 (∀i x τ J,it.xs[i]?=some x→Pv i τ J→g x τ J λτ2 J2=>tb { D with nx:=Pv (i + 1),ct:=Pv (i + 1),bk:=D.nx } τ2 J2)∧∀τ J,Pv it.xs.length τ J→D.nx τ J
variable {iter:Expr} {wi:tF}
theorem cV {g:A8} {tb:kH} (hp:PassesOwn (model X.prog X.w) X.A X.env X.xe) (hc:X.calm=true) (hi:RI X G tg iter wi) (hg:RG X G tg g) (hb:RB X G body tb)
  (hs:∀x,foldedSetIterable iter X.env x=pure x:=by intro _;rfl):RS X G (.For tg iter body [] pos) (Q9 wi g tb):=⟨Ab (BY hp hc hi.run hg.run hb.run hs) λD σ H ⟨τ,J,D2,a2,h,g⟩=>by
 refine ⟨τ,J,_,a2,h,λit J1 I H1 ir r1 e1 ⟨Pv,p0,pok,step,fin⟩=>?_⟩
 refine ⟨λi m σ' H'=>m=it.xs.length - i∧i≤it.xs.length∧∃τ' J',xq X.K G τ' J' σ' H'∧Ext X.K J1 H1 J' H'∧Pv i τ' J',⟨_,rfl,Ww _,τ,J1,a2.go r1 e1,.refl,p0⟩,?_⟩
 rintro i m σ2 H2 ⟨rfl,hil,τ2,J2,a3,e3,p3⟩
 by_cases hlt:i < it.xs.length
 ·refine .inr ⟨ir.go J2 H2 e3 a3.hp (pok _ _ _ p3) i hlt,λσ' H'=>∃τ' J',xq X.K G τ' J' σ' H'∧Ext X.K J1 H1 J' H'∧Pv (i + 1) τ' J',λσ' H' z=>⟨_,by omega,rfl,hlt,z⟩,λv H4 y=>?_⟩
  obtain ⟨x,ex,rx,r4,e4⟩:=ir.yl J2 H2 e3 a3.hp (pok _ _ _ p3) i hlt v H4 y
  refine ⟨x,τ2,J2,_,rx,a3.go r4 e4,step i x τ2 J2 ex p3,λτ5 J5 σ5 H5 rs5 r5 e5 q5=>?_⟩
  have ae:=(a3.ext.trans e4).trans e5
  have ge:=g.ext (((e1.trans e3).trans e4).trans e5)
  refine ⟨τ5,J5,{ D2 with nx:=Pv (i + 1),ct:=Pv (i + 1),bk:=D2.nx },⟨rs5,r5,ae⟩,q5,?_⟩
  exact { nx:=λτ' J' σ' H' rs rr ee q=>⟨τ',J',⟨rs,rr,ae.trans ee⟩,((e3.trans e4).trans e5).trans ee,q⟩,rt:=ge.rt,bk:=ge.nx,ct:=λτ' J' σ' H' rs rr ee q=>⟨τ',J',⟨rs,rr,ae.trans ee⟩,((e3.trans e4).trans e5).trans ee,q⟩ }
 ·have ei:i=it.xs.length:=by omega
  subst ei
  exact .inl ⟨ir.stop J2 H2 e3 a3.hp (pok _ _ _ p3),g.nx τ2 J2 σ2 H2 a3.sl a3.hp (e1.trans e3) (fin _ _ p3)⟩⟩
def Sv (J:Hq):PV→Option A2
 | .fl xs=>some ⟨xs,λ_=>True⟩
 | .ref a=>match J a with
  | some (.lst xs)=>some ⟨xs,λJ'=>J' a=some (.lst xs)⟩
  | _=>none
 | _=>none
def U4 (te:cT):tF:=λτ J R=>te τ J λx J1=>yq (Sv J1 x) λit=>R it J1
theorem wu.list {it:A2} {a:Addr} (h:∀J' H',Ext K J H J' H'→Rep K J' H'→it.ok J'→∃vs,dG K H' a vs∧aP K J' H' it.xs vs):wu K it (SM K a) J H where
 go:=λJ' H' e r o i hi=>by
  obtain ⟨vs,s,rs⟩:=h J' H' e r o
  exact ⟨vs,vs[i]'(by rw [← rs.length];exact hi),s,by simp⟩
 yl:=λJ' H' e r o i hi v H2 y=>by
  obtain ⟨vs,s,rs⟩:=h J' H' e r o
  obtain ⟨e1,y⟩:=y
  subst e1
  obtain ⟨x,ex,rx⟩:=rs.get' (y vs s)
  exact ⟨x,ex,rx,r,.refl⟩
 stop:=λJ' H' e r o=>by
  obtain ⟨vs,s,rs⟩:=h J' H' e r o
  exact ⟨vs,s,by rw [rs.length];exact VT _⟩
theorem dS {l:Expr} {tl:cT} (hl:RE X G l tl):RI X G tg l (U4 tl):=⟨LM (yz hl.run) λσ H R ⟨τ,J,R2,a2,h,k⟩=>⟨τ,J,_,a2,h,λx J1 v H1 rx r1 e1 hh=>by
 obtain ⟨it,ei,q⟩:=fw hh
 cases x with
 | fl xs =>
  obtain ⟨a,vs,rfl,h1,h2⟩:=rx
  cases ei
  refine ⟨a,rfl,⟨vs,h1.sq⟩,k _ J1 _ H1 (.list λJ' H' e r _=>⟨vs,(e.flat h1).sq,e.jN h2⟩) r1 e1 q⟩
 | ref a =>
  cases rx
  unfold Sv at ei
  dsimp only at ei
  cases ej:J1 a with
  | none=>rw [ej] at ei;cases ei
  | some o =>
   rw [ej] at ei
   cases o with
   | lst xs =>
    cases ei
    obtain ⟨vs,h1,h2⟩:=r1 _ _ ej
    refine ⟨a,rfl,⟨vs,.inl (.inl h1)⟩,k _ J1 _ H1 (.list λJ' H' e r o=>?_) r1 e1 q⟩
    obtain ⟨vs',h1',h2'⟩:=r _ _ o
    exact ⟨vs',.inl (.inl h1'),h2'⟩
   | _=>cases ei
 | _=>cases ei⟩⟩
def U8 (te:cT):tF:=λτ J R=>te τ J λx J1=>OR x λxs=>R ⟨xs,λ_=>True⟩ J1
theorem N1 {l:Expr} {tl:cT} (hl:RE X G l tl):RI X G tg l (U8 tl):=⟨LM (BU hl.run) λσ H R ⟨τ,J,R2,a2,h,k⟩=>⟨τ,J,_,a2,h,λx J1 v H1 rx r1 e1 hh=>by
 obtain ⟨xs,ei,q⟩:=BI hh
 subst ei
 obtain ⟨a,vs,rfl,h1,h2⟩:=rx
 refine ⟨a,rfl,⟨vs,h1⟩,k _ J1 _ H1 ?_ r1 e1 q⟩
 exact {
  go:=λJ' H' e r o i hi=>⟨vs,vs[i]'(by rw [← h2.length];exact hi),e.tup _ _ h1,by simp⟩
  yl:=λJ' H' e r o i hi v H2 y=>by
   obtain ⟨e1,y⟩:=y
   subst e1
   obtain ⟨x,ex,rx⟩:=(e.jN h2).get' (y vs (e.tup _ _ h1))
   exact ⟨x,ex,rx,r,.refl⟩
  stop:=λJ' H' e r o=>⟨vs,e.tup _ _ h1,by rw [h2.length];exact VT _⟩ }⟩⟩
def tU (lo:Int) (n:Nat):List PV:=(WM n).map λ(i:Nat)=>PV.int (lo + (i:Int))
theorem lJ (lo:Int) (n:Nat):(tU lo n).length=n:=by simp [tU]
theorem tV (lo:Int) (n i:Nat) (x:PV):(tU lo n)[i]?=some x↔i < n∧x=.int (lo + i):=by
 unfold tU
 rw [VS]
 by_cases h:i < n
 ·rw [Zz h];simp [h,eq_comm]
 ·rw [WG (by simpa using h)];simp [h]
theorem wu.N2 (lo:Int) (n:Nat):wu K ⟨tU lo n,λ_=>True⟩ (O2 lo n) J H where
 go:=λJ' H' e r o i hi=>by
  show i < n
  simpa [lJ] using hi
 yl:=λJ' H' e r o i hi v H2 y=>by
  obtain ⟨e1,y⟩:=y
  subst e1 y
  exact ⟨.int (lo + i),(tV lo n i _).mpr ⟨by simpa [lJ] using hi,rfl⟩,rfl,r,.refl⟩
 stop:=λJ' H' e r o=>by
  show n≤(tU lo n).length
  rw [lJ];exact VT _
def U5 (ta:qm):tF:=λτ J R=>ta τ J λvs J1=>Dc vs λx=>ET x λj=>-(2 ^ 62)≤j∧j < 2 ^ 62∧R ⟨tU 0 j.toNat,λ_=>True⟩ J1
def U6 (ta:qm):tF:=λτ J R=>ta τ J λvs J1=>OQ vs λx y=>ET x λi=>ET y λj=>(-(2 ^ 62)≤i∧i < 2 ^ 62∧-(2 ^ 62)≤j∧j < 2 ^ 62)∧R ⟨tU i (j - i).toNat,λ_=>True⟩ J1
theorem jP {ta:qm} (hg:Gl X "range") (hm:X.mg "range"=none) (ha:RA X G [a] ta) (hs:starEach [a] X.env=[(false,eval a X.env)]:=by rfl):RI X G tg (.Call (.Name "range" p) [a] [] pos) (U5 ta) :=
 ⟨LM (qH hg hm ha.run hs) λσ H R ⟨τ,J,R2,a2,h,k⟩=>⟨τ,J,_,a2,h,λxs J1 vs H1 rs r1 e1 hh=>by
  obtain ⟨x,ex,hh⟩:=g7 hh;obtain ⟨j,ej,l1,l2,q⟩:=fO hh;subst ej ex
  obtain ⟨v,us,rfl,rv,e'⟩:=rs
  cases rv;cases e'
  exact ⟨j,rfl,l1,l2,k _ J1 _ H1 (.N2 0 _) r1 e1 q⟩⟩⟩
theorem E7 {ta:qm} (hg:Gl X "range") (hm:X.mg "range"=none) (ha:RA X G [a,b] ta) (hs:starEach [a,b] X.env=[(false,eval a X.env),(false,eval b X.env)]:=by rfl) (hs2:starEach [b] X.env=[(false,eval b X.env)]:=by rfl) :
  RI X G tg (.Call (.Name "range" p) [a,b] [] pos) (U6 ta) :=
 ⟨LM (qJ hg hm ha.run hs hs2) λσ H R ⟨τ,J,R2,a2,h,k⟩=>⟨τ,J,_,a2,h,λxs J1 vs H1 rs r1 e1 hh=>by
  obtain ⟨x,y,ex,hh⟩:=GK hh;obtain ⟨i,ei,hh⟩:=fO hh;obtain ⟨j,ej,l1,q⟩:=fO hh;subst ei ej ex
  obtain ⟨v,us,rfl,rv,w,us',rfl,rw',e'⟩:=rs
  cases rv;cases rw';cases e'
  exact ⟨i,j,rfl,l1,k _ J1 _ H1 (.N2 i _) r1 e1 q⟩⟩⟩
def d8 (C:Addr) (E2:Addr→Hq→Prop) (t:qm):kH:=λ_ τ J=>t τ J λxs J1=>xs.length≤sizeLine∧E2 C J1
theorem cE {t:qm} {np:Pos} (O:Own X.K X.mg x C) (hc:X.calm=true) (hx:Throws X E) (kn:Mu X.K G.1 G.2 E2 E) (hg:Gl X x) (ha:RA X G (e :: es) t)
  (hd:(x == ("__debug__":Str))=false:=by decide) (he:starEach (e :: es) X.env=(false,eval e X.env) :: starEach es X.env:=by rfl) (hpl:(backTo cpos (starEach es X.env)).any (·.1)=false:=by rfl) :
  RS X G (.Raise (some (.Call (.Name x np) (e :: es) [] cpos)) none pos) (d8 C E2 t):=⟨Ab (E4 O hc hx hg ha.run hd he hpl) λD σ H ⟨τ,J,D2,a2,h,g⟩ =>
 ⟨τ,J,_,a2,h,λxs J1 vs H1 rs r1 e1 ⟨hl,q⟩=>⟨by rw [← rs.length];exact hl,kn C J1 H1 r1 (a2.ext.trans e1) q⟩⟩⟩
section
variable {α β:Type} {a b:α} {l m:List α} {i:Nat} {f:α→β} {c:Bool}
theorem OM:ZI f (a :: l)=f a :: ZI f l:=rfl
theorem ON:ZI f []=[]:=rfl
theorem OK:(a :: l).length=l.length + 1:=rfl
theorem OL:([]:List α).length=0:=rfl
theorem OI:(a :: l) ++ m=a :: (l ++ m):=rfl
theorem OJ:[] ++ m=m:=rfl
theorem Uz:(a :: l)[0]?=some a:=rfl
theorem UA:(a :: l)[i + 1]?=l[i]?:=rfl
theorem UI:(a :: l).set 0 b=b :: l:=rfl
theorem UJ:(a :: l).set (i + 1) b=a :: l.set i b:=rfl
theorem UE:Option.map f (some a)=some (f a):=rfl
theorem UD:(some a).getD b=a:=rfl
theorem UC:(!true)=false:=rfl
theorem UB:(!false)=true:=rfl
theorem UK:(true && c)=c:=rfl
theorem Uy:(false && c)=false:=rfl
theorem UG:WW 0 a=[]:=rfl
theorem UH:WW (i + 1) a=a :: WW i a:=rfl
theorem Se:(a :: l).isEmpty=false:=rfl
theorem Sf:([]:List α).isEmpty=true:=rfl
end
def rp (N:List Str) (xs:List PV):Sr:=xs.map some ++ WW (N.length - xs.length) none
theorem uX {N:List Str} (r:aP K J H xs vs):oa K J H (rp N xs) (start N vs):=by
 refine ⟨by simp [rp,start,r.length],λi x e=>?_⟩
 unfold rp at e
 unfold start
 by_cases hi:i < xs.length
 ·rw [Xd (by simpa using hi),VS] at e
  cases ex:xs[i]? with
  | none=>rw [ex] at e;cases e
  | some y =>
   rw [ex] at e
   cases e
   obtain ⟨v,h1,h2⟩:=r.get ex
   exact ⟨v,by rw [Xd (by rw [VM,← r.length];exact hi),VS,h1];rfl,h2⟩
 ·rw [XA (by simpa using hi)] at e
  have:=V0 e
  rw [List.mem_replicate] at this
  cases this.2
variable {qual:Str}
theorem Nn {N:List Str} (F:bZ K x qual st f fd) (S:av N ps (aq st)) (len:∀xs J Q E,sp xs J Q E→xs.length=ps.length)
  (hbody:∀(cdv:Value) (A:Around) (outer:List Env) (s:Shared) (H:Hp) (E:XK) (G:G2) (xs:List PV) (J:Hq) (Q:PV→Hq→Prop) (E2:Addr→Hq→Prop),bF k (A.deeper (envOfC qual (aq st) s.heap.objs.size f cdv))→sp xs J Q E2 →
   AN (wG P w K mg base N qual (aq st) f cdv A outer s H E) G E2 E →
   ∃t,RB (wG P w K mg base N qual (aq st) f cdv A outer s H E) G (bX st) t∧t { nx:=λ_ J'=>Q .non J',rt:=Q } (rp N xs) J):aK P w K mg base (cq P w) (k + 1) f fd ps (cP K sp):=by
 refine VB F S (λvs H Q E ⟨xs,J,Q2,E2,a,_,b,_⟩=>by rw [← a.length];exact len _ _ _ _ b) λcdv A outer s H vs Q E hr ⟨xs,J,Q2,E2,rs,rr,hs,kn,ke⟩=>?_
 obtain ⟨t,hb,q⟩:=hbody cdv A outer s H E (J,H) xs J Q2 E2 hr hs ⟨oi,ke⟩
 refine ⟨_,⟨hb.run⟩,rp N xs,J,_,⟨uX rs,rr,.refl⟩,q,?_⟩
 exact { nx:=λτ J' σ H' _ r e q=>kn .non J' .non H' rfl r e q,rt:=λx J' v H' rx r e q=>kn x J' v H' rx r e q,bk:=λ_ _ _ _ _ _ _ q=>q.elim,ct:=λ_ _ _ _ _ _ _ q=>q.elim }
theorem VA {N:List Str} {t:(Addr→Hq→Prop)→kH} (F:bZ K x qual st f fd) (S:av N ps (aq st)) (len:∀xs J Q E,sp xs J Q E→xs.length=ps.length)
  (rd:∀(cdv:Value) (A:Around) (outer:List Env) (s:Shared) (H:Hp) (E:XK) (G:G2) (E2:Addr→Hq→Prop),bF k (A.deeper (envOfC qual (aq st) s.heap.objs.size f cdv)) →
   AN (wG P w K mg base N qual (aq st) f cdv A outer s H E) G E2 E→RB (wG P w K mg base N qual (aq st) f cdv A outer s H E) G (bX st) (t E2))
  (run:∀(xs:List PV) (J:Hq) (Q:PV→Hq→Prop) (E2:Addr→Hq→Prop),sp xs J Q E2→∀X:Prop,(t E2 { nx:=λ_ J'=>Q .non J',rt:=Q } (rp N xs) J→X)→X):aK P w K mg base (cq P w) (k + 1) f fd ps (cP K sp) :=
 Nn F S len λcdv A outer s H E G xs J Q E2 hr h B=>⟨_,rd cdv A outer s H E G E2 hr B,run xs J Q E2 h _ id⟩
theorem _root_.L2.Def.eK (D:Def K mg x st)
  (h:∀f fd,bZ K x x st f fd→aK P w K mg base (cq P w) k f fd ps (cP K sp))
  (hb:∀(kV doc pm:Value) (an:Option Addr) (cdv ct:Value) (us:List Value),us.length=ps.length→bindArgs (WD x x (dC st) (bX st) (aq st) .none kV doc pm an cdv ct) ⟨us,[]⟩=pure (ps.zip us)) :
  b7 P w K mg base k x ps sp:=D.SW h hb
def Hl (g:Int→Int→PV):n_:=λx y J Q=>ET x λi=>ET y λj=>Q (g i j) J
def qI (C:Int→Int→Prop) (g:Int→Int→PV):n_:=λx y J Q=>ET x λi=>ET y λj=>C i j∧Q (g i j) J
variable {g':Int→Int→PV} {g:Int→Int→L2.V}
theorem wV (hg:∀J H i j,cS K J H (g' i j) (g i j)):LR K (Kz g) (Hl g'):=λJ H x y v w Q2 Q rx ry r h k=>by
 obtain ⟨i,ex,h⟩:=fO h;obtain ⟨j,ey,q⟩:=fO h
 subst ex ey;exact ⟨i,j,rx,ry,k _ J _ H (hg _ _ _ _) r .refl q⟩
theorem Jw {C:Int→Int→Prop} (hg:∀J H i j,cS K J H (g' i j) (g i j)):LR K (rI C g) (qI C g'):=λJ H x y v w Q2 Q rx ry r h k=>by
 obtain ⟨i,ex,h⟩:=fO h;obtain ⟨j,ey,c,q⟩:=fO h
 subst ex ey;exact ⟨i,j,rx,ry,c,k _ J _ H (hg _ _ _ _) r .refl q⟩
theorem cU:ni X (binaryOp .Add) (Hl λi j=>.int (i + j)):=⟨_,Ny,wV λ_ _ _ _=>rfl⟩
theorem g9:ni X (binaryOp .Sub) (Hl λi j=>.int (i - j)):=⟨_,NF,wV λ_ _ _ _=>rfl⟩
theorem bB:ni X (binaryOp .Mult) (qI CM λi j=>.int (i * j)):=⟨_,JT,Jw λ_ _ _ _=>rfl⟩
theorem iQ:ni X (binaryOp .FloorDiv) (qI CQ λi j=>.int (i.fdiv j)):=⟨_,GN,Jw λ_ _ _ _=>rfl⟩
theorem jb:ni X (binaryOp .Mod) (qI (λ_ j=>0 < j) λi j=>.int (i % j)):=⟨_,NC,Jw λ_ _ _ _=>rfl⟩
theorem BL:ni X (binaryOp .Pow) (qI Mm λi j=>.int (i ^ j.toNat)):=⟨_,ND,Jw λ_ _ _ _=>rfl⟩
theorem lU:ni X (compareOp .Lt) (Hl λi j=>.bl (decide (i < j))):=⟨_,QD,wV λ_ _ _ _=>rfl⟩
theorem De:ni X (compareOp .LtE) (Hl λi j=>.bl (decide (i≤j))):=⟨_,QC,wV λ_ _ _ _=>rfl⟩
theorem rM:ni X (compareOp .Gt) (Hl λi j=>.bl (decide (j < i))):=⟨_,Qz,wV λ_ _ _ _=>rfl⟩
theorem z6:ni X (compareOp .GtE) (Hl λi j=>.bl (decide (j≤i))):=⟨_,Qy,wV λ_ _ _ _=>rfl⟩
def qU (g:Int→PV):O7:=λx J Q=>ET x λi=>Q (g i) J
theorem oJ:UU X (unaryOp .USub) (qU λi=>.int (-i)):=⟨_,OE,λJ H x v Q2 Q rx r h k=>by obtain ⟨i,ex,q⟩:=fO h;subst ex;exact ⟨i,rx,k (.int (-i)) J _ H rfl r .refl q⟩⟩
def QV:n_:=λx y J Q=>Fq x λi=>Fq y λj=>Q (.bl (decide (i.cps.toList < j.cps.toList))) J
theorem BK:ni X (compareOp .Lt) QV:=⟨_,EV,λJ H x y v w Q2 Q rx ry r h k=>by obtain ⟨i,ex,h⟩:=i_ h;obtain ⟨j,ey,q⟩:=i_ h;subst ex ey;exact ⟨i,j,rx,ry,k (.bl _) J _ H rfl r .refl q⟩⟩
def Gb:PV→Bool
 | .non=>true
 | _=>false
theorem C2 {x:PV} {v:V} (r:cS K J H x v):decide (v=.non)=Gb x:=by
 cases x with
 | non=>cases r;rfl
 | tup xs=>obtain ⟨a,vs,rfl,_⟩:=r;rfl
 | fl xs=>obtain ⟨a,vs,rfl,_⟩:=r;rfl
 | _=>cases r;rfl
def Vh:n_:=λx y J Q=>y=.non∧Q (.bl (Gb x)) J
def Hn:n_:=λx y J Q=>y=.non∧Q (.bl (!Gb x)) J
theorem QF:ni X (compareOp .Is) Vh:=⟨_,NB,λJ H x y v w Q2 Q rx ry r ⟨ey,q⟩ k=>by subst ey;cases ry;exact ⟨rfl,by rw [C2 rx];exact k (.bl _) J _ H rfl r .refl q⟩⟩
theorem z7:ni X (compareOp .IsNot) Hn:=⟨_,JV,λJ H x y v w Q2 Q rx ry r ⟨ey,q⟩ k=>by subst ey;cases ry;exact ⟨rfl,by rw [C2 rx];exact k (.bl _) J _ H rfl r .refl q⟩⟩
mutual
def dw:PV→Py
 | .non=>.non | .bl b=>.bl b | .int i=>.int i | .str x=>.str x | .ref _=>.non | .ty _=>.non | .tup xs=>.tup (dR xs) | .fl xs=>.lst (dR xs)
def dR:List PV→List Py
 | []=>[]
 | x :: xs=>dw x :: dR xs
end
mutual
def jw:PV→Bool
 | .ref _=>false | .ty _=>false | .tup xs=>iG xs | .fl xs=>iG xs | _=>true
def iG:List PV→Bool
 | []=>true
 | x :: xs=>jw x && iG xs
end
mutual
theorem sG {J:Hq} {H:Hp}:∀{x:PV} {v:V},jw x=true→cS K J H x v→At K H (dw x) v
 | .non,_,_,h=>h
 | .bl _,_,_,h=>h
 | .int _,_,_,h=>h
 | .str _,_,_,h=>h
 | .tup xs,_,p,⟨a,vs,e,h,k⟩=>⟨a,vs,e,h,jy (by simpa [jw] using p) k⟩
 | .fl xs,_,p,⟨a,vs,e,h,k⟩=>⟨a,vs,e,h.sq,jy (by simpa [jw] using p) k⟩
theorem jy {J:Hq} {H:Hp}:∀{xs:List PV} {vs:List V},iG xs=true→aP K J H xs vs→sW K H (dR xs) vs
 | [],_,_,h=>h
 | x :: xs,_,p,⟨v,us,e,h,k⟩=>by
  have p':jw x=true∧iG xs=true:=by simpa [iG] using p
  exact ⟨v,us,e,sG p'.1 h,jy p'.2 k⟩
end
def eqQ (x y:PV):Bool:=gK (dw x) (dw y)
def II (x:PV):Prop:=jw x=true∧dep (dw x)≤60
def SE (f:Bool→Bool):n_:=λx y J Q=>II x∧jw y=true∧Q (.bl (f (eqQ x y))) J
theorem Lz (f:Bool→Bool):LR K (rP K f) (SE f):=λJ H x y v w Q2 Q rx ry r ⟨⟨px,d⟩,py,q⟩ k=>⟨dw x,dw y,sG px rx,sG py ry,d,k (.bl _) J _ H rfl r .refl q⟩
theorem dh (hu:X.A.units + 61 < cLine):ni X (compareOp .Eq) (SE id):=⟨_,Nz hu,Lz id⟩
theorem g8 (hu:X.A.units + 61 < cLine):ni X (compareOp .NotEq) (SE not):=⟨_,GO hu,Lz not⟩
def iD (J:Hq):PV→PV→Option PV
 | .tup xs,.int i=>c_ xs i
 | .fl xs,.int i=>c_ xs i
 | .ref a,.int i=>match J a with
  | some (.lst xs)=>c_ xs i
  | _=>none
 | _,_=>none
theorem aP.c_ {i:Int} {x:PV} (r:aP K J H xs vs) (h:L2.c_ xs i=some x):∃v,L2.c_ vs i=some v∧cS K J H x v:=by
 unfold L2.c_ at h ⊢
 rw [← r.length]
 cases e:Fn xs.length i with
 | none=>rw [e] at h;cases h
 | some j =>
  rw [e] at h
  obtain ⟨v,h1,h2⟩:=r.get h
  exact ⟨v,h1,h2⟩
def TV:n_:=λx y J Q=>yq (iD J x y) λv=>Q v J
theorem aw:Sg X TV:=⟨_,Jt.or M3,λJ H x y v w Q2 Q rx ry r h k=>by
 obtain ⟨z,ez,q⟩:=fw h
 cases y with
 | int i =>
  cases ry
  cases x with
  | tup xs =>
   obtain ⟨a,vs,rfl,h1,h2⟩:=rx
   obtain ⟨u,e1,e2⟩:=h2.c_ (show L2.c_ xs i=some z from ez)
   exact .inr ⟨a,vs,i,u,rfl,rfl,h1,e1,k z J u H e2 r .refl q⟩
  | fl xs =>
   obtain ⟨a,vs,rfl,h1,h2⟩:=rx
   obtain ⟨u,e1,e2⟩:=h2.c_ (show L2.c_ xs i=some z from ez)
   exact .inl ⟨a,vs,i,u,rfl,rfl,h1.sq,e1,k z J u H e2 r .refl q⟩
  | ref a =>
   cases rx
   unfold iD at ez
   dsimp only at ez
   cases ej:J a with
   | none=>rw [ej] at ez;cases ez
   | some o =>
    rw [ej] at ez
    cases o with
    | lst xs =>
     obtain ⟨vs,h1,h2⟩:=r _ _ ej
     obtain ⟨u,e1,e2⟩:=h2.c_ (show L2.c_ xs i=some z from ez)
     exact .inl ⟨a,vs,i,u,rfl,rfl,.inl (.inl h1),e1,k z J u H e2 r .refl q⟩
    | _=>cases ez
  | _=>cases ez
 | _=>cases x <;> cases ez⟩
def ly (xs:List PV) (lo hi:Option Int):List PV:=(xs.drop (HT.fk xs.length 0 lo)).take (HT.fk xs.length xs.length hi - HT.fk xs.length 0 lo)
theorem xP {lo hi:Option Int} (r:aP K J H xs vs):aP K J H (ly xs lo hi) (xO vs lo hi):=by
 unfold ly xO
 rw [← r.length]
 exact (r.drop _).take _
def Q1:Ea:=λx lo hi J Q=>OR x λxs=>¬ (HT.fk xs.length 0 lo=0∧HT.fk xs.length xs.length hi=xs.length)∧Q (.tup (ly xs lo hi)) J
theorem Ck:Sl X Q1:=⟨_,Ob,λJ H x lo hi v Q2 Q rx r h k=>by
 obtain ⟨xs,ex,hn,q⟩:=BI h
 subst ex
 obtain ⟨a,vs,rfl,h1,h2⟩:=rx
 refine ⟨a,vs,rfl,h1,by rw [← h2.length];exact hn,λp hp=>?_⟩
 have sm:=cb.new hp (.tup (xO vs lo hi))
 have e2:=Ext.same (K:=X.K) (J:=J) sm
 exact k (.tup (ly xs lo hi)) J (.ref p) _ ⟨p,_,rfl,.inl (.inl aL),e2.jN (xP h2)⟩ (r.same sm) e2 q⟩
def kK (J:Hq):PV→Option (List PV)
 | .fl xs=>some xs
 | .ref a=>match J a with
  | some (.lst xs)=>some xs
  | _=>none
 | _=>none
theorem iP {x:PV} {v:V} (rx:cS K J H x v) (r:Rep K J H) (h:kK J x=some xs):∃a vs,v=.ref a∧dG K H a vs∧aP K J H xs vs:=by
 cases x with
 | fl ys=>obtain ⟨a,vs,rfl,h1,h2⟩:=rx;cases h;exact ⟨a,vs,rfl,h1.sq,h2⟩
 | ref a =>
  cases rx
  unfold kK at h
  dsimp only at h
  cases ej:J a with
  | none=>rw [ej] at h;cases h
  | some o =>
   rw [ej] at h
   cases o with
   | lst ys=>cases h;obtain ⟨vs,h1,h2⟩:=r _ _ ej;exact ⟨a,vs,rfl,.inl (.inl h1),h2⟩
   | _=>cases h
 | _=>cases h
def QY:Ea:=λx lo hi J Q=>yq (kK J x) λxs=>Q (.fl (ly xs lo hi)) J
theorem H0:Sl X QY:=⟨_,Dz,λJ H x lo hi v Q2 Q rx r h k=>by
 obtain ⟨xs,ex,q⟩:=fw h
 obtain ⟨a,vs,rfl,h1,h2⟩:=iP rx r ex
 refine ⟨a,vs,rfl,h1,λp hp=>?_⟩
 obtain ⟨x1,x2,x3⟩:=ot r (xP (lo:=lo) (hi:=hi) h2) hp
 exact k _ J _ _ x1 x2 x3 q⟩
def QZ:Ea:=λx lo hi J Q=>yq (kK J x) λxs=>∀p,J p=none→Q (.ref p) (put J p (.lst (ly xs lo hi)))
theorem KY:Sl X QZ:=⟨_,Dz,λJ H x lo hi v Q2 Q rx r h k=>by
 obtain ⟨xs,ex,q⟩:=fw h
 obtain ⟨a,vs,rfl,h1,h2⟩:=iP rx r ex
 exact ⟨a,vs,rfl,h1,λp hp=>k (.ref p) _ _ _ rfl (r.C6 hp (xP h2)) (.laid hp) (q p (r.free hp))⟩⟩
def QQ:AO:=λxs J Q=>Dc xs λx=>ET x λi=>Q (.int (if i < 0 then -i else i)) J
theorem tK:IG X (.builtin "abs") QQ:=⟨_,FE,λJ H xs vs Q2 Q rs r h k=>by
 obtain ⟨x,ex,h⟩:=g7 h;obtain ⟨i,ei,q⟩:=fO h;subst ei
 subst ex;obtain ⟨v,us,rfl,rv,e⟩:=rs;cases rv;cases e
 exact ⟨i,rfl,k (.int _) J _ H rfl r .refl q⟩⟩
def Bs (J:Hq):PV→Option Nat
 | .tup xs=>some xs.length
 | x=>(kK J x).map Xj
def NS:AO:=λxs J Q=>Dc xs λx=>yq (Bs J x) λn=>Q (.int n) J
theorem ft:IG X (.builtin "len") NS:=⟨_,xM,λJ H xs vs Q2 Q rs r h k=>by
 obtain ⟨x,ex,h⟩:=g7 h;obtain ⟨n,en,q⟩:=fw h
 subst ex;obtain ⟨v,us,rfl,rv,e⟩:=rs;cases e
 have go:∀ys,kK J x=some ys→ys.length=n→∃p ws,([v]:List V)=[.ref p]∧(dG X.K H p ws∨fo X.K H p ws)∧Q (.int ws.length) H:=λys h1 h2=>by
  obtain ⟨a,ws,rfl,h3,h4⟩:=iP rv r h1
  exact ⟨a,ws,rfl,.inl h3,by rw [← h4.length,h2];exact k (.int _) J _ H rfl r .refl q⟩
 cases x with
 | tup ys =>
  obtain ⟨a,ws,rfl,h1,h2⟩:=rv
  cases en
  exact ⟨a,ws,rfl,.inr h1,by rw [← h2.length];exact k (.int _) J _ H rfl r .refl q⟩
 | fl ys=>cases en;exact go _ rfl rfl
 | ref a =>
  unfold Bs at en
  cases el:kK J (.ref a) with
  | none=>simp [el] at en
  | some ys=>simp [el] at en;exact go _ el en
 | _=>cases en⟩
def K4 (J:Hq):PV→Option String
 | .non=>some "NoneType" | .bl _=>some "bool" | .int _=>some "int" | .str _=>some "str" | .tup _=>some "tuple" | .fl _=>some "list"
 | .ref a=>match J a with
  | some (.lst _)=>some "list"
  | some (.dct _ _)=>some "dict"
  | _=>none
 | _=>none
def rq (t n:String):Option Bool :=
 if n∈["int","bool","str","tuple","list"] then some (t == n || (t == "bool" && n == "int")) else none
def Vd (x:PV) (k:String→Prop) (_:iE k:=dp):Prop:=match x with | .ty n=>k n | _=>False
theorem Qw {x:String} {k:String→Prop} {d:iE k}:Vd (.ty x) k d=k x:=rfl
def TU:AO:=λxs J Q=>OQ xs λx y=>Vd y λn=>yq (K4 J x) λt=>yq (rq t n) λb=>Q (.bl b) J
def Hj:AO:=λxs J Q=>Dc xs λx=>yq (kK J x) λys=>Q (.fl ys) J
def Hk:AO:=λxs J Q=>Dc xs λx=>yq (kK J x) λys=>∀p,J p=none→Q (.ref p) (put J p (.lst ys))
theorem zB:IG X (.type "list") Hj:=⟨_,oV,λJ H xs vs Q2 Q rs r h k=>by
 obtain ⟨x,ex,h⟩:=g7 h;obtain ⟨ys,el,q⟩:=fw h
 subst ex;obtain ⟨v,us,rfl,rv,e⟩:=rs;cases e
 obtain ⟨a,ws,rfl,h3,h4⟩:=iP rv r el
 refine ⟨a,ws,rfl,.inl h3,λp hp=>?_⟩
 obtain ⟨x1,x2,x3⟩:=ot r h4 hp
 exact k _ J _ _ x1 x2 x3 q⟩
theorem jA:IG X (.type "list") Hk:=⟨_,oV,λJ H xs vs Q2 Q rs r h k=>by
 obtain ⟨x,ex,h⟩:=g7 h;obtain ⟨ys,el,q⟩:=fw h
 subst ex;obtain ⟨v,us,rfl,rv,e⟩:=rs;cases e
 obtain ⟨a,ws,rfl,h3,h4⟩:=iP rv r el
 exact ⟨a,ws,rfl,.inl h3,λp hp=>k (.ref p) _ _ _ rfl (r.C6 hp h4) (.laid hp) (q p (r.free hp))⟩⟩
def TX:AO:=λxs J Q=>∃i j,xs=[.int i,.int j]∧Q (.int (if j > i then j else i)) J
def Dr:Cz:=λx xs J Q=>BH x λa=>Dc xs λy=>Sy (J a) λys=>ys.length < sizeLine∧Q .non (put J a (.lst (ys ++ [y])))
theorem cK:Le X "list" "list.append" Dr:=⟨_,wX,λJ H x xs v vs Q2 Q rx rs r h k=>by
 obtain ⟨a,ex,h⟩:=fP h;obtain ⟨y,exs,h⟩:=g7 h;obtain ⟨ys,ja,hl,q⟩:=Nw h
 subst ex exs;cases rx;obtain ⟨w,us,rfl,rw',e⟩:=rs;cases e
 obtain ⟨ws,h1,h2⟩:=r _ _ ja
 exact ⟨a,ws,w,rfl,rfl,h1,by rw [← h2.length];exact hl,k .non _ _ _ rfl (r.wrote (ys:=ys ++ [y]) ja h1 (h2.append (show aP X.K J H [y] [w] from ⟨w,[],rfl,rw',rfl⟩))) (.wrote ja h1) q⟩⟩
def QX:Cz:=λx xs J Q=>∃a ys y,x=.ref a∧xs=[]∧J a=some (.lst ys)∧ys[ys.length - 1]?=some y∧Q y (put J a (.lst ys.dropLast))
theorem aP.dropLast (r:aP K J H xs vs):aP K J H xs.dropLast vs.dropLast:=by
 rw [Y3,Y3,← r.length]
 exact r.take _
theorem Gy:Le X "list" "list.pop" QX:=⟨_,Nl,λJ H x xs v vs Q2 Q rx rs r ⟨a,ys,y,ex,exs,ja,hy,q⟩ k=>by
 subst ex exs;cases rx;cases rs
 obtain ⟨ws,h1,h2⟩:=r _ _ ja
 obtain ⟨w,e1,e2⟩:=h2.get hy
 have ex:=Ext.wrote (K:=X.K) (ys:=ys.dropLast) (vs:=ws.dropLast) ja h1
 exact ⟨a,ws,w,rfl,rfl,h1,by rw [← h2.length];exact e1,k y _ w _ (ex.rep e2) (r.wrote ja h1 h2.dropLast) ex q⟩⟩
def NP:Cz:=λx xs J Q=>∃a ys,x=.ref a∧xs=[]∧J a=some (.lst ys)∧Q .non (put J a (.lst []))
def KA:V→List V→Hp→VK→Prop:=λx vs H Q=>∃l xs i y,x=.ref l∧vs=[.int (i:Nat),y]∧H l=some (.lst xs)∧i≤xs.length∧xs.length < sizeLine∧i < 2 ^ 62∧Q .non (upd H l (.lst (xs.take i ++ y :: xs.drop i)))
theorem Bp (its:List Value) (i:Nat) (u:Value) (h:i≤its.length):((its.toArray.extract 0 (min ((i:Int)).toNat its.toArray.size)).push u ++ its.toArray.extract (min ((i:Int)).toNat its.toArray.size))=(its.take i ++ u :: its.drop i).toArray:=by
 have e:min ((i:Int)).toNat its.toArray.size=i:=by simp;omega
 rw [e]
 apply Array.ext'
 simp
 exact Xr (by simp)
theorem EF:lh X "list.insert" KA:=by
 intro pins s σ H x vs v us Q I rx rv h
 obtain ⟨l,xs,i,y,rfl,rfl,hH,hi,hz,hb,q⟩:=h
 cases rx
 obtain ⟨u,w,rfl,ru,rw'⟩:=vals2 rv
 obtain ⟨t,rfl⟩:=ru
 obtain ⟨z,its,n,r,hl,e⟩:=I.Jy hH
 have h63:((i:Nat):Int) < 2 ^ 63:=by
  have:((i:Nat):Int) < ((2 ^ 62:Nat):Int):=X5.mpr hb
  exact Int.lt_trans this (by decide)
 have hf:Builtin.List.listFitsIndex ((i:Nat):Int)=true:=fitsIndex_both (Int.le_trans (by decide) (WY i)) h63
 have hs:its.toArray.size≤sizeLine:=by rw [VU,← hl];exact z
 have hn:¬(!Builtin.List.listFitsIndex ((i:Nat):Int))=true:=by rw [hf];exact λz=>nomatch z
 have hneg:¬ (((i:Nat):Int) < 0):=by omega
 have hins:=Bp its i w (by omega)
 clear hb h63 hf
 generalize ((i:Nat):Int)=ii at *
 have mm:=PySem.AutoSeq1.list_insert_list_int_val_1 l its.toArray n ii t w hn hs
 refine call_meets W6 ⟨_,e,rfl⟩ PySem.F.entry_list_insert (PySem.F.args_list_insert_3 _ _ _) mm ⟨e,?_⟩
 refine ⟨.non,_,I.Jx (its':=its.take i ++ w :: its.drop i) hH e ?_ ((r.take i).append (.cons rw' (r.drop i))) ?_,rfl,q⟩
 ·simp only [if_neg hneg]
  exact hins
 ·rw [VZ,V_,Wa,Xa];omega
def Dt:Cz:=λx xs J Q=>∃a ys i y,x=.ref a∧xs=[.int (i:Nat),y]∧J a=some (.lst ys)∧i≤ys.length∧ys.length < sizeLine∧i < 2 ^ 62∧Q .non (put J a (.lst (ys.take i ++ y :: ys.drop i)))
theorem mS:Le X "list" "list.insert" Dt:=⟨_,EF,λJ H x xs v vs Q2 Q rx rs r ⟨a,ys,i,y,ex,exs,ja,hi,hl,hb,q⟩ k=>by
 subst ex exs;cases rx;obtain ⟨w0,us,rfl,rw0,w,us',rfl,rw',e⟩:=rs;cases e;cases rw0
 obtain ⟨ws,h1,h2⟩:=r _ _ ja
 exact ⟨a,ws,i,w,rfl,rfl,h1,by rw [← h2.length];exact hi,by rw [← h2.length];exact hl,hb,k .non _ _ _ rfl (r.wrote (ys:=ys.take i ++ y :: ys.drop i) ja h1 ((h2.take i).append (show aP X.K J H (y :: ys.drop i) (w :: ws.drop i) from ⟨w,_,rfl,rw',h2.drop i⟩))) (.wrote ja h1) q⟩⟩
def uJ (ks:List (Str × Nat)) (τ:Sr):Sr:=ks.map λp=>(τ[p.2]?).getD none
theorem Dy {τ:Sr} (r:oa K J H τ σ) {x:PV} {v:V} (rx:cS K J H x v) (ks:List (Str × Nat)):oa K J H (some x :: uJ ks τ) (some v :: fW ks σ):=by
 refine ⟨by simp [uJ,fW],λi y e=>?_⟩
 cases i with
 | zero=>rw [XS] at e ⊢;cases e;exact ⟨v,rfl,rx⟩
 | succ i =>
  rw [Xk] at e ⊢
  unfold uJ at e
  unfold fW
  rw [VS] at e ⊢
  cases ep:ks[i]? with
  | none=>rw [ep] at e;cases e
  | some p =>
   rw [ep] at e
   have e':(τ[p.2]?).getD none=some y:=Option.some.inj e
   have e2:τ[p.2]?=some (some y):=by
    cases q:τ[p.2]? with
    | none=>rw [q] at e';cases e'
    | some w=>rw [q] at e';exact congrArg some e'
   obtain ⟨v',h1,h2⟩:=r.get _ _ e2
   exact ⟨v',by show some ((σ[p.2]?).getD none)=_;rw [h1];rfl,h2⟩
def Sub (J J':Hq):Prop:=∀a o,J a=some o→J' a=some o
theorem Sub.refl (J:Hq):Sub J J:=λ_ _ h=>h
theorem Sub.put {D:Addr} {o:HQ} (h:J D=none):Sub J (put J D o):=λa u e=>by
 have ne:a≠D:=by intro z;subst z;rw [h] at e;cases e
 rw [ag ne];exact e
def SN (it:A2) (J1:Hq) (ks:List (Str × Nat)) (τ:Sr) (tc:p8) (te:cT) (c:PV→Bool) (g:PV→PV):Prop:=it.xs.length < sizeLine∧∀J',Sub J1 J'→it.ok J' ∧
 ∀x∈it.xs,tc (some x :: uJ ks τ) J' (λb J2=>b=c x∧J2=J')∧(c x=true→te (some x :: uJ ks τ) J' λy J2=>y=g x∧J2=J')
def Hv (wi:tF) (ks:List (Str × Nat)) (tc:p8) (te:cT):cT:=λτ J Q=>wi τ J λit J1=>∃(c:PV→Bool) (g:PV→PV),SN it J1 ks τ tc te c g∧Q (.fl ((it.xs.filter c).map g)) J1
def B7 (wi:tF) (ks:List (Str × Nat)) (tc:p8) (te:cT):cT:=λτ J Q=>wi τ J λit J1=>∃(c:PV→Bool) (g:PV→PV),SN it J1 ks τ tc te c g∧∀p,J1 p=none→Q (.ref p) (put J1 p (.lst ((it.xs.filter c).map g)))
def w_:p8:=λ_ J Q=>Q true J
theorem rV {α:Type} (c:α→Bool) {xs:List α} {x:α} (h:xs[i]?=some x):(xs.take (i + 1)).filter c=(xs.take i).filter c ++ (if c x=true then [x] else []):=by
 rw [V',h,Ys]
 congr 1
 simp only [Option.toList_some,Wu,Y4]
variable {ks:List (Str × Nat)}
theorem x6 {Q:VK} {τ:Sr} (a2:xq K G τ J σ H) {it:A2} {J1:Hq} {I:It} {H1:Hp} (ir:wu K it I J1 H1) (r1:Rep K J1 H1) (e1:Ext K J H J1 H1) {c:PV→Bool} {g:PV→PV}
  (w:SN it J1 ks τ tc te c g)
  (q:∀D H2,H1 D=none→J1 D=none→Rep K (put J1 D (.lst ((it.xs.filter c).map g))) H2→Ext K J1 H1 (put J1 D (.lst ((it.xs.filter c).map g))) H2→Q (.ref D) H2) :
  ∀D,H1 D=none→∃W:Nat→Nat→Hp→Prop,(∃m,W 0 m (upd H1 D (.lst [])))∧∀i m H2,W i m H2→(I.stop i H2∧Q (.ref D) H2) ∨
   (I.go i H2∧∀v H3,I.yld i H2 v H3→LT K G tc (some v :: fW ks σ) H3 λb H4=>if b=true then LE K G te (some v :: fW ks σ) H4 λy H5=>∃ys,H5 D=some (.lst ys)∧ys.length < sizeLine∧∃m',m' < m∧W (i + 1) m' (upd H5 D (.lst (ys ++ [y]))) else ∃m',m' < m∧W (i + 1) m' H4):=by
 intro D hD
 obtain ⟨hlen,w⟩:=w
 have jD:J1 D=none:=r1.free hD
 refine ⟨λi m H2=>m=it.xs.length - i∧i≤it.xs.length∧Rep K (put J1 D (.lst (((it.xs.take i).filter c).map g))) H2∧Ext K J1 H1 (put J1 D (.lst (((it.xs.take i).filter c).map g))) H2,⟨_,rfl,Ww _,r1.C6 (xs:=[]) (vs:=[]) hD rfl,.laid hD⟩,?_⟩
 rintro i m H2 ⟨rfl,hi,r2,e2⟩
 obtain ⟨ok,ww⟩:=w _ (Sub.put (o:=.lst (((it.xs.take i).filter c).map g)) jD)
 by_cases hlt:i < it.xs.length
 ·refine .inr ⟨ir.go _ H2 e2 r2 ok i hlt,λv H3 y=>?_⟩
  obtain ⟨x,ex,rx,r3,e3⟩:=ir.yl _ H2 e2 r2 ok i hlt v H3 y
  obtain ⟨hc,he⟩:=ww x (V0 ex)
  have a3:xq K G (some x :: uJ ks τ) _ (some v :: fW ks σ) H3:=⟨Dy (a2.sl.ext ((e1.trans e2).trans e3)) rx ks,r3,((a2.ext.trans e1).trans e2).trans e3⟩
  refine ⟨_,_,_,a3,hc,λb J4 H4 r4 e4 ⟨eb,ej⟩=>?_⟩
  subst ej
  cases hb:c x with
  | false =>
   rw [eb,hb]
   simp only [We,if_false]
   refine ⟨_,by omega,rfl,hlt,?_⟩
   rw [rV c ex,hb]
   simp only [We,if_false,WX]
   exact ⟨r4,(e2.trans e3).trans e4⟩
  | true =>
   rw [eb,hb]
   simp only [if_true]
   refine ⟨_,_,_,a3.go r4 e4,he hb,λz J5 u H5 rz r5 e5 ⟨ez,ej⟩=>?_⟩
   subst ej ez
   obtain ⟨ys,h5,ry⟩:=r5 D _ aj
   have ll:ys.length≤i:=by
    rw [← ry.length,VM]
    exact V6 (WH _ _) (by rw [Wa];omega)
   have r6:=r5.wrote (ys:=((it.xs.take i).filter c).map g ++ [g x]) (vs:=ys ++ [u]) aj h5 (ry.append (show aP K _ H5 [g x] [u] from ⟨u,[],rfl,rz,rfl⟩))
   have e6:=Ext.wrote (K:=K) (ys:=((it.xs.take i).filter c).map g ++ [g x]) (vs:=ys ++ [u]) (J:=put J1 D (.lst (((it.xs.take i).filter c).map g))) aj h5
   rw [bI] at r6 e6
   refine ⟨ys,h5,by omega,_,by omega,rfl,hlt,?_⟩
   rw [rV c ex,hb,if_pos rfl,VP]
   exact ⟨r6,(((e2.trans e3).trans e4).trans e5).trans e6⟩
 ·have ei:i=it.xs.length:=by omega
  subst ei
  rw [Wg] at r2 e2 ok
  exact .inl ⟨ir.stop _ H2 e2 r2 ok,q D H2 hD jD r2 e2⟩
theorem freeze {J1:Hq} {H2:Hp} {D:Addr} (jD:J1 D=none) (r:Rep K (put J1 D (.lst xs)) H2):cS K J1 H2 (.fl xs) (.ref D)∧Rep K J1 H2∧Ext K (put J1 D (.lst xs)) H2 J1 H2:=by
 obtain ⟨ys,h,ry⟩:=r D _ aj
 have less:∀a,J1 a=put J1 D (.lst xs) a∨J1 a=none:=λa=>by
  by_cases e:a=D
  ·subst e;exact .inr jD
  ·rw [ag e];exact .inl rfl
 have e:=Ext.less (K:=K) (H:=H2) less
 exact ⟨⟨D,ys,rfl,.inl ⟨jD,.inl h⟩,e.jN ry⟩,r.less less,e⟩
theorem Gn:∀σ H Q,LE X.K G (B7 wi ks tc te) σ H Q→Oi (LI X.K G wi) ks (LT X.K G tc) (LE X.K G te) σ H Q:=λσ H Q ⟨τ,J,Q2,a2,h,k⟩ =>
 ⟨τ,J,_,a2,h,λit J1 I H1 ir r1 e1 ⟨c,g,w,q⟩=>x6 (Q:=Q) a2 ir r1 e1 w λD H2 hD jD r2 e2=>k (.ref D) _ _ H2 rfl r2 (e1.trans e2) (q D jD)⟩
theorem Gm:∀σ H Q,LE X.K G (Hv wi ks w_ te) σ H Q→SF (LI X.K G wi) ks (LE X.K G te) σ H Q:=λσ H Q ⟨τ,J,Q2,a2,h,k⟩ =>
 ⟨τ,J,_,a2,h,λit J1 I H1 ir r1 e1 ⟨c,g,w,q⟩ D hD=>by
  obtain ⟨W,w0,turn⟩:=x6 (Q:=Q) a2 ir r1 e1 w (λD H2 hD jD r2 e2=>let ⟨x1,x2,x3⟩:=freeze jD r2;k _ J1 _ H2 x1 x2 ((e1.trans e2).trans x3) q) D hD
  refine ⟨W,w0,λi m H2 hw=>?_⟩
  rcases turn i m H2 hw with z | ⟨go,z⟩
  ·exact .inl z
  ·refine .inr ⟨go,λv H3 y=>?_⟩
   obtain ⟨τ',J',Q',a',t',k'⟩:=z v H3 y
   have:=k' true J' H3 a'.hp .refl t'
   simpa using this⟩
theorem Et:∀σ H Q,LE X.K G (B7 wi ks w_ te) σ H Q→SF (LI X.K G wi) ks (LE X.K G te) σ H Q:=λσ H Q ⟨τ,J,Q2,a2,h,k⟩ =>
 ⟨τ,J,_,a2,h,λit J1 I H1 ir r1 e1 ⟨c,g,w,q⟩ D hD=>by
  obtain ⟨W,w0,turn⟩:=x6 (Q:=Q) a2 ir r1 e1 w (λD H2 hD jD r2 e2=>k (.ref D) _ _ H2 rfl r2 (e1.trans e2) (q D jD)) D hD
  refine ⟨W,w0,λi m H2 hw=>?_⟩
  rcases turn i m H2 hw with z | ⟨go,z⟩
  ·exact .inl z
  ·refine .inr ⟨go,λv H3 y=>?_⟩
   obtain ⟨τ',J',Q',a',t',k'⟩:=z v H3 y
   have:=k' true J' H3 a'.hp .refl t'
   simpa using this⟩
variable {elt:Expr} {aa_:Scope}
theorem HE (osc:Scope) (N:List Str) (ks:List (Str × Nat)) (hc:X.calm=true) (ho:X.env.scope=osc) (hN:X.N=N) (hi:RI X G (.Name x px) iter wi) (he:∀cl C s₀ H₀ fp pins,RE (gJ X aa_ cl C x ks s₀ H₀ fp pins) G elt te)
  (ok:dy aa_ osc N x ks:=by decide +kernel) (hs:∀x,foldedSetIterable iter X.env x=pure x:=by intro _;rfl):RE X G (.ListComp elt [⟨.Name x px,iter,[],0⟩] aa_ pos) (Hv wi ks w_ te) :=
 ⟨kZ (QJ osc N ks hc ho hN hi.run (λcl C s₀ H₀ fp pins=>(he cl C s₀ H₀ fp pins).run) ok hs) Gm⟩
theorem tX {t:cT} {u:TE} (h:∀σ H Q,LE X.K G t σ H Q→u σ H Q):∀D σ H,LS X.K G (yM t (Lm i)) D σ H→u σ H λv H1=>D.nx (σ.set i (some v)) H1:=λD σ H ⟨τ,J,D2,a2,q,g⟩ =>
 h σ H _ ⟨τ,J,_,a2,q,λx J' v H' rx rr ee q=>g.nx _ J' _ H' ((a2.sl.ext ee).set i rx) rr ee q⟩
variable {spos:Pos} {cnd:Expr}
theorem KN (osc:Scope) (N:List Str) (ks:List (Str × Nat)) (hc:X.calm=true) (ho:X.env.scope=osc) (hN:X.N=N) (hnd:X.N.Nodup) (hy:X.N[i]?=some y) (hl:Loc X.env.scope y) (hi:RI X G (.Name x px) iter wi) (he:∀cl C s₀ H₀ fp pins,RE (gJ X aa_ cl C x ks s₀ H₀ fp pins) G elt te) (hcn:∀cl C s₀ H₀ fp pins,RT (gJ X aa_ cl C x ks s₀ H₀ fp pins) G cnd tc)
  (ok:dy aa_ osc N x ks:=by decide +kernel) (hs:∀x,foldedSetIterable iter X.env x=pure x:=by intro _;rfl) (hsw:swapsWith (.ListComp elt [⟨.Name x px,iter,[cnd],0⟩] aa_ pos) (some (.Name y py)) spos.line X.env=pure true:=by rfl) (hf:X.fn y=true∨X.env.scope.names.lookup y=some .local:=by first | exact .inl rfl | exact .inr rfl | assumption) :
  RS X G (.Assign [.Name y py] (.ListComp elt [⟨.Name x px,iter,[cnd],0⟩] aa_ pos) spos) (yM (B7 wi ks tc te) (Lm i)) :=
 ⟨Ab (Hf osc N ks hc ho hN hnd hy hl hi.run (λcl C s₀ H₀ fp pins=>(he cl C s₀ H₀ fp pins).run) (λcl C s₀ H₀ fp pins=>Dm (hcn cl C s₀ H₀ fp pins).run) ok hs hsw hf) (tX Gn)⟩
theorem HH (osc:Scope) (N:List Str) (ks:List (Str × Nat)) (hc:X.calm=true) (ho:X.env.scope=osc) (hN:X.N=N) (hnd:X.N.Nodup) (hy:X.N[i]?=some y) (hl:Loc X.env.scope y) (hi:RI X G (.Name x px) iter wi) (he:∀cl C s₀ H₀ fp pins,RE (gJ X aa_ cl C x ks s₀ H₀ fp pins) G elt te)
  (ok:dy aa_ osc N x ks:=by decide +kernel) (hs:∀x,foldedSetIterable iter X.env x=pure x:=by intro _;rfl) (hsw:swapsWith (.ListComp elt [⟨.Name x px,iter,[],0⟩] aa_ pos) (some (.Name y py)) spos.line X.env=pure true:=by rfl) (hf:X.fn y=true∨X.env.scope.names.lookup y=some .local:=by first | exact .inl rfl | exact .inr rfl | assumption) :
  RS X G (.Assign [.Name y py] (.ListComp elt [⟨.Name x px,iter,[],0⟩] aa_ pos) spos) (yM (B7 wi ks w_ te) (Lm i)) :=
 ⟨Ab (QN osc N ks hc ho hN hnd hy hl hi.run (λcl C s₀ H₀ fp pins=>(he cl C s₀ H₀ fp pins).run) ok hs hsw hf) (tX Et)⟩
section
open HT (lexLt)
def om:List Str→List Str→Bool
 | [],[]=>false
 | [],_ :: _=>true
 | _ :: _,[]=>false
 | x :: xs,y :: ys=>if x=y then om xs ys else decide (x.cps.toList < y.cps.toList)
theorem qz (x y:Str) (xs ys:List Str):om (x :: xs) (y :: ys)=if x=y then om xs ys else decide (x.cps.toList < y.cps.toList):=rfl
theorem o8:om [] []=false:=rfl
theorem vI (y:Str) (ys:List Str):om [] (y :: ys)=true:=rfl
theorem vH (x:Str) (xs:List Str):om (x :: xs) []=false:=rfl
theorem FP (A:Around) (s:Shared) (a:Str) (t:Tok) (c:Str) (u:Tok):∃e,SeqAt.EqAt A s (.str a t) (.str c u) e∧(e=true↔a=c) :=
 ⟨(a == c),Yq a t c u,by simp⟩
theorem Hx (A:Around) (s:Shared) (a:Str) (t:Tok) (c:Str) (u:Tok) (prog:Program) (w:World) (E:Value→Shared→Prop) (Q:Value→Shared→Prop) (h:Q (.bool (decide (a.cps.toList < c.cps.toList))) s) :
  wpAny (model prog w) A (richCompare .Lt (.str a t) (.str c u)) Q E s :=
 (PyProof.Rows.lt_str h:wpAny (model prog w) A (compareOp .Lt (.str a t) (.str c u)) Q E s)
open PySem.SeqAt
open PySem.AutoSeq1 (wpAny_loadPart')
open PySem.MeetsSeq PySem.MeetsSeq2 PySem.MeetsSeq3
theorem wq (l b:Addr) (items items2:Array Value) (n n2:Nat) (dd dd2:Option Addr) (sl sl2:Array (Option Value)) (ns ms:List Str) (hi:StrsAre items.toList ns) (hj:StrsAre items2.toList ms) :
  Meets (Builtin.«tuple.__lt__» ⟨[.ref l,.ref b],[]⟩)
   (λ_ R s=>s.heap.get? l=some { cls:=.type "tuple",dict:=dd,data:=.seq items n,slots:=sl }∧s.heap.get? b=some { cls:=.type "tuple",dict:=dd2,data:=.seq items2 n2,slots:=sl2 } ∧
    R (.ok (.ret (.bool (om ns ms)))) s) :=
 .of_wp λprog w A R s h=>by
  obtain ⟨hp,g,d,tk,os⟩:=s;obtain ⟨hl,hb,h⟩:=h
  have f2:=AutoSeq1.sub_tuple_tuple
  have z1:items.size=ns.length:=by rw [← hi.length];simp
  have z2:items2.size=ms.length:=by rw [← hj.length];simp
  wp_walk using wpAny_loadPart' hl,wpAny_loadPart' hb,wpAny_forIn_list _ (λrest b s'=>b.1=none∧s'=⟨hp,g,d,tk,os⟩∧∃(vs ws:List Value) (ns' ms':List Str),rest=vs.zip ws ∧
   StrsAre vs ns'∧StrsAre ws ms'∧ns'.length + items2.size=ms'.length + items.size∧R (.ok (.ret (.bool (om ns' ms')))) ⟨hp,g,d,tk,os⟩) _
  case turn =>
   rintro ⟨y,x⟩ rest b s' ⟨hb',rfl,vs,ws,ns',ms',hz,hvi,hwi,hlen,hR⟩
   cases hvi with
   | nil=>rw [List.zip_nil_left] at hz;cases hz
   | cons a t hvi' =>
    cases hwi with
    | nil=>rw [List.zip_nil_right] at hz;cases hz
    | cons c u hwi' =>
     rw [ZJ] at hz
     injection hz with hyx hrest
     injection hyx with hy hx
     subst hy hx
     rw [qz] at hR
     simp only [V_] at hlen
     obtain ⟨e,he,hiff⟩:=FP A.in1 ⟨hp,g,d,tk,os⟩ a t c u
     refine wpAny_bind (he prog w _ _ ?_)
     cases e with
     | true =>
      rw [if_pos (hiff.mp rfl)] at hR
      wp_walk
      exact ⟨rfl,rfl,_,_,_,_,hrest,hvi',hwi',by omega,hR⟩
     | false =>
      rw [if_neg (λq=>absurd (hiff.mpr q) Wz)] at hR
      have hri:=Hx A.in1 ⟨hp,g,d,tk,os⟩ a t c u prog w
      wp_walk using hri
      exact ⟨_,rfl,by simpa using hR⟩
  case fin =>
   rintro ⟨b1,b2⟩ s' ⟨hb',rfl,vs,ws,ns',ms',hz,hvi,hwi,hlen,hR⟩
   simp only at hb'
   subst hb'
   have hv:om ns' ms'=decide (items.size < items2.size):=by
    cases hvi with
    | nil =>
     cases hwi with
     | nil =>
      simp only [W_] at hlen
      rw [o8]
      exact (decide_eq_false (by omega)).symm
     | cons c u hw =>
      simp only [W_,V_] at hlen
      rw [vI]
      exact (decide_eq_true (by omega)).symm
    | cons a t hv =>
     cases hwi with
     | nil =>
      simp only [W_,V_] at hlen
      rw [vH]
      exact (decide_eq_false (by omega)).symm
     | cons c u hw =>
      rw [ZJ] at hz
      cases hz
   rw [hv] at hR
   wp_walk
   exact ⟨_,rfl,by simpa [Builtin.Tuple.tupleCompareSizes] using hR⟩
  case h =>
   exact ⟨rfl,rfl,items.toList,items2.toList,ns,ms,rfl,hi,hj,by omega,h⟩
variable {w:World} {s:Shared} {A:Around} {E:Value→Shared→Prop} {prog:Program}
theorem Bv {l b:Addr} {items items2:Array Value} {ns ms:List Str} {Q:Value→Shared→Prop} (hl:IsTup s.heap l items) (hb:IsTup s.heap b items2) (hi:StrsAre items.toList ns) (hj:StrsAre items2.toList ms)
  (hu:A.units < cLine) (h:Q (.bool (om ns ms)) s):wpAny (model prog w) A (compareOp .Lt (.ref l) (.ref b)) Q E s:=by
 obtain ⟨⟨cls,dd,data,sl⟩,ho,hc,n,hd⟩:=id hl
 obtain ⟨⟨cls2,dd2,data2,sl2⟩,ho2,hc2,n2,hd2⟩:=id hb
 simp only at hc hd hc2 hd2
 subst hc hd hc2 hd2
 exact richCompare_meets_room (op:=.Lt) ⟨_,ho,rfl⟩ ⟨_,ho2,rfl⟩ PySem.F.slot_tuple_lt PySem.F.entry_tuple_lt (PySem.F.args_tuple_lt_2 _ _) (wq l b items items2 n n2 dd dd2 sl sl2 ns ms hi hj)
  ⟨ho,ho2,show Value.bool (om ns ms)≠Value.notImplemented∧Q (.bool (om ns ms)) s from ⟨(λx=>nomatch x),h⟩⟩ hu
end
theorem JS (hu:X.A.units < cLine):eX X (compareOp .Lt) (λx y H Q=>∃a b ns ms,x=.ref a∧y=.ref b∧fo X.K H a (ns.map V.str)∧fo X.K H b (ms.map V.str)∧Q (.bl (om ns ms)) H):=by
 intro pins s σ H x y v u Q I rx ry h
 obtain ⟨a,b,ns,ms,rfl,rfl,ha,hb,q⟩:=h
 cases rx;cases ry
 obtain ⟨is,r1,t1,_⟩:=I.tuple ha
 obtain ⟨js,r2,t2,_⟩:=I.tuple hb
 exact Bv t1 t2 (by simpa using kF r1) (by simpa using kF r2) hu ⟨.bl _,H,I,rfl,q⟩
theorem uW {J:Hq} {H:Hp}:∀{ns:List Str} {vs:List V},aP K J H (ns.map PV.str) vs→vs=ns.map V.str
 | [],_,h=>h
 | n :: ns,_,⟨v,us,e,h,k⟩=>by subst e;cases h;rw [uW k];rfl
def LW:n_:=λx y J Q=>∃ns ms,x=.tup (ns.map .str)∧y=.tup (ms.map .str)∧Q (.bl (om ns ms)) J
theorem JW (hu:X.A.units < cLine):ni X (compareOp .Lt) LW:=⟨_,JS hu,λJ H x y v w Q2 Q rx ry r ⟨ns,ms,ex,ey,q⟩ k=>by
 subst ex ey
 obtain ⟨a,vs,rfl,h1,h2⟩:=rx
 obtain ⟨b,ws,rfl,h3,h4⟩:=ry
 cases uW h2;cases uW h4
 exact ⟨a,b,ns,ms,rfl,rfl,h1,h3,k (.bl _) J _ H rfl r .refl q⟩⟩
theorem JR:eX X (binaryOp .Add) (λx y H Q=>∃l b xs zs,x=.ref l∧y=.ref b∧dG X.K H l xs∧dG X.K H b zs∧xs.length + zs.length≤sizeLine∧∀p,H p=none→Q (.ref p) (upd H p (.lst (xs ++ zs)))):=by
 intro pins s σ H x y v u Q I rx ry h
 obtain ⟨l,b,xs,zs,rfl,rfl,hH,hB,hz,q⟩:=h
 cases rx;cases ry
 obtain ⟨its,r,pl,_⟩:=I.list hH
 obtain ⟨its2,r2,pl2,_⟩:=I.list hB
 have l1:=r.length
 have l2:=r2.length
 obtain ⟨⟨c1,d1,da1,sl1⟩,n,e,hc,hd,hda⟩:=pl
 obtain ⟨⟨c2,d2,da2,sl2⟩,n2,e2,hc2,hd2,hda2⟩:=pl2
 simp only at hc hd hda hc2 hd2 hda2
 subst hc hd hda hc2 hd2 hda2
 refine concat_meets ⟨_,e,rfl⟩ ⟨_,e2,rfl⟩ noFill_list_add seq_list_add PySem.F.slot_list_add PySem.F.entry_list_add (PySem.F.args_list_add_2 _ _) (list_addW l b its.toArray its2.toArray n n2 none none sl1 sl2 (by simp only [VU];omega)) ⟨e,e2,?_⟩
 have ea:its.toArray ++ its2.toArray=(its ++ its2).toArray:=by simp
 rw [ea]
 exact ⟨.ref _,_,I.Tt (t':=s.toks) (r.append r2) (by rw [VZ];omega),rfl,q _ I.fresh⟩
def LP:n_:=λx y J Q=>∃xs ys,kK J x=some xs∧kK J y=some ys∧xs.length + ys.length≤sizeLine∧Q (.fl (xs ++ ys)) J
theorem Dd:ni X (binaryOp .Add) LP:=⟨_,JR,λJ H x y v w Q2 Q rx ry r ⟨xs,ys,ex,ey,hl,q⟩ k=>by
 obtain ⟨a,vs,rfl,h1,h2⟩:=iP rx r ex
 obtain ⟨b,ws,rfl,h3,h4⟩:=iP ry r ey
 refine ⟨a,b,vs,ws,rfl,rfl,h1,h3,by rw [← h2.length,← h4.length];exact hl,λp hp=>?_⟩
 obtain ⟨x1,x2,x3⟩:=ot r (h2.append h4) hp
 exact k _ J _ _ x1 x2 x3 q⟩
def cQ (K:VL) (C:Addr) (m qual:Str) (st:Stmt):Prop:=∃f fd,Meth K C m f∧bZ K m qual st f fd
structure cR (K:VL) (mg:Str→Option Value) (x:Str) (C:Addr):Prop where
 cl:kR K C
 m:mg x=some (.ref C)
 mkz:Ya K C=true
 kp:WL K (.ref C)=true
theorem aX {od an:Option Addr} {sl:Array (Option Value)} {oc kV dc pm cd ct:Value} (a:WK K (.ref C) m=some (some (.ref f))) (i:Yo K (.ref f)=true)
  (l:K.lookup f=some ⟨oc,od,.func (WD m qual (dC st) (bX st) (aq st) .none kV dc pm an cd ct),sl⟩) (c:Xp K cd qual=true) (k:WL K (.ref f)=true):cQ K C m qual st :=
 ⟨f,_,⟨a,i,k⟩,xT l c k⟩
theorem o7 {h:Heap} (X:K.In h) (G:h.Ns mainGlobals mg) (aC:WA K mainGlobals x=some (some (.ref C)))
  (pg:XH K C Str.empty=true) (hd:XZ K C=true) (po:YC K C=true) (sa:WK K (.ref C) "__setattr__"=some (some (.builtin "object.__setattr__"))) (mk:Ya K C=true) (kc:WL K (.ref C)=true):cR K mg x C :=
 ⟨⟨pg,hd,po,sa⟩,Wy X G aC,mk,kc⟩
theorem cQ.kL (D:cQ K C m qual st) (cl:kR K C) (h:∀f fd,bZ K m qual st f fd→aK P w K mg base (cq P w) k f fd ps (cP K sp))
  (hb:∀(kV doc pm:Value) (an:Option Addr) (cdv ct:Value) (us:List Value),us.length=ps.length→bindArgs (WD m qual (dC st) (bX st) (aq st) .none kV doc pm an cdv ct) ⟨us,[]⟩=pure (ps.zip us)):bU P w K mg base C k m ps sp:=by
 obtain ⟨f,fd,hm,F⟩:=D
 exact ⟨cl,f,fd,hm,h f fd F,F.binds hb⟩
theorem cQ.Qe (D:cQ K C "__init__" qual st) (kd:cR K mg x C) (h:∀f fd,bZ K "__init__" qual st f fd→aK P w K mg base (cq P w) k f fd ps (cP K sp))
  (hb:∀(kV doc pm:Value) (an:Option Addr) (cdv ct:Value) (us:List Value),us.length=ps.length→bindArgs (WD "__init__" qual (dC st) (bX st) (aq st) .none kV doc pm an cdv ct) ⟨us,[]⟩=pure (ps.zip us)):vB P w K mg base C k x ps sp:=by
 obtain ⟨f,fd,hm,F⟩:=D
 exact ⟨kd.m,f,fd,⟨kd.mkz,hm.at_,hm.fn,kd.kp⟩,h f fd F,F.binds hb⟩
end
section
variable {n:Nat} {F:List Value→Prop}
theorem O9 (h:∀a us,us.length=n→F (a :: us)) (us:List Value) (hu:us.length=n + 1):F us:=by
 cases us with
 | nil=>cases hu
 | cons a us=>exact h a us (Nat.succ.inj hu)
theorem UW (h:F []) (us:List Value) (hu:us.length=0):F us:=by
 cases us with
 | nil=>exact h
 | cons a us=>cases hu
theorem wA (h:∀a,F [a]):∀us:List Value,us.length=1→F us:=O9 λa=>UW (F:=λus=>F (a :: us)) (h a)
theorem kI (h:∀a b,F [a,b]):∀us:List Value,us.length=2→F us:=O9 λa=>wA (F:=λus=>F (a :: us)) (h a)
theorem Fm (h:∀a b c,F [a,b,c]):∀us:List Value,us.length=3→F us:=O9 λa=>kI (F:=λus=>F (a :: us)) (h a)
theorem O8 (h:∀a b c d,F [a,b,c,d]):∀us:List Value,us.length=4→F us:=O9 λa=>Fm (F:=λus=>F (a :: us)) (h a)
theorem UX (h:∀a b c d e,F [a,b,c,d,e]):∀us:List Value,us.length=5→F us:=O9 λa=>O8 (F:=λus=>F (a :: us)) (h a)
def fr (q:Rat):PV:=.tup [.int q.num,.int (q.den:Int)]
theorem MQ (a b:Rat):(fr a=fr b)=(a=b):=by
 apply propext
 constructor
 ·intro h
  unfold fr at h
  simp only [PV.tup.injEq,List.cons.injEq,PV.int.injEq,and_true] at h
  exact Rat.ext h.1 (by have:=h.2;omega)
 ·intro h;rw [h]
theorem Ll (a:Rat):fr a=.tup [.int a.num,.int (a.den:Int)]:=rfl
theorem MY (J:Hq) (q:Rat):iD J (fr q) (.int 0)=some (.int q.num):=eQ _ _
theorem MZ (J:Hq) (q:Rat):iD J (fr q) (.int 1)=some (.int (q.den:Int)):=iJ _ _ _
theorem Sa (J:Hq) (q:Rat):K4 J (fr q)=some "tuple":=rfl
theorem M_ (J:Hq) (q:Rat):Bs J (fr q)=some 2:=rfl
theorem qL (q:Rat):jw (fr q)=true:=by simp [fr,jw,iG]
theorem xY (q:Rat):Gb (fr q)=false:=rfl
theorem FN (q:Rat):dep (dw (fr q))=1:=by simp [fr,dw,dR,dep,dN]
theorem Pm (q:Rat):II (fr q)=True:=eq_true ⟨qL q,by rw [FN];decide⟩
theorem MH (i:Int):II (.int i)=True:=eq_true ⟨by simp [jw],by simp [dw,dep]⟩
theorem FG (i:Str):II (.str i)=True:=eq_true ⟨by simp [jw],by simp [dw,dep]⟩
theorem Pk (i:Bool):II (.bl i)=True:=eq_true ⟨by simp [jw],by simp [dw,dep]⟩
theorem FF:II .non=True:=eq_true ⟨by simp [jw],by simp [dw,dep]⟩
theorem Dq (i:Int):jw (.int i)=true:=by simp [jw]
theorem mU (i:Str):jw (.str i)=true:=by simp [jw]
theorem B3 (i:Bool):jw (.bl i)=true:=by simp [jw]
theorem Kr:jw .non=true:=by simp [jw]
theorem mV (xs:List PV):jw (.tup xs)=iG xs:=by simp [jw]
theorem Hh (xs:List PV):jw (.fl xs)=iG xs:=by simp [jw]
theorem eG (x:PV) (xs:List PV):iG (x :: xs)=(jw x && iG xs):=by simp [iG]
theorem ie:iG []=true:=by simp [iG]
theorem Ad {α:Type} (g:α→PV) (h:∀a,jw (g a)=true):∀xs:List α,iG (xs.map g)=true
 | []=>by simp [iG]
 | x :: xs=>by simp [iG,h,Ad g h xs]
theorem eq_int (a b:Int):eqQ (.int a) (.int b)=decide (a=b):=by unfold eqQ dw gK;rw [Y6]
theorem eq_str (a b:Str):eqQ (.str a) (.str b)=decide (a=b):=by
 unfold eqQ dw gK
 cases h:a == b with
 | true=>simp at h;simp [h]
 | false=>simp at h;simp [h]
theorem Pq (a b:Bool):eqQ (.bl a) (.bl b)=decide (a=b):=by unfold eqQ dw gK;rw [Y6]
def Bh (xs ys:List PV):Bool:=lA (dR xs) (dR ys)
theorem FR (xs ys:List PV):eqQ (.tup xs) (.tup ys)=Bh xs ys:=by unfold eqQ dw gK Bh;rfl
theorem oX (x y:PV) (xs ys:List PV):Bh (x :: xs) (y :: ys)=(eqQ x y && Bh xs ys):=by unfold Bh eqQ;simp [dR,lA]
theorem CN:Bh [] []=true:=by unfold Bh;simp [dR,lA]
theorem eq_self (x:PV):eqQ x x=true:=zE _
theorem CL (a b:Rat):eqQ (fr a) (fr b)=decide (a=b):=by
 rw [Ll,Ll,FR,oX,oX,CN,eq_int,eq_int,Xy,← Z9]
 exact decide_eq_decide.mpr (by rw [KH])
theorem VD (a b c:PV):ly [a,b,c] (some 1) none=[b,c]:=rfl
theorem OB:rq "int" "int"=some true:=by simp [rq]
theorem K5:rq "int" "bool"=some false:=by simp [rq]
theorem Sb:rq "bool" "bool"=some true:=by simp [rq]
theorem OC:rq "str" "str"=some true:=by simp [rq]
theorem OD:rq "tuple" "tuple"=some true:=by simp [rq]
theorem K6:rq "list" "list"=some true:=by simp [rq]
theorem eh (h:n≤1000):n≤sizeLine:=Ym (ba h)
theorem PX:(0≤sizeLine)=True:=eq_true (Ww _)
theorem PY:(1≤sizeLine)=True:=eq_true (eh (by decide))
theorem PZ:(2≤sizeLine)=True:=eq_true (eh (by decide))
theorem P0:(3≤sizeLine)=True:=eq_true (eh (by decide))
theorem P1:(4≤sizeLine)=True:=eq_true (eh (by decide))
section
variable (J:Hq) (xs:List PV) (a:Addr) (i:Int) (b:Bool) (z:Str) (T:String)
theorem Ta:iD J (.tup xs) (.int i)=c_ xs i:=rfl
theorem S_:iD J (.fl xs) (.int i)=c_ xs i:=rfl
theorem PM:iD J (.ref a) (.int i)=(match J a with | some (.lst xs)=>c_ xs i | _=>none):=rfl
theorem Tu:kK J (.fl xs)=some xs:=rfl
theorem Gr:kK J (.ref a)=(match J a with | some (.lst xs)=>some xs | _=>none):=rfl
theorem PU:Bs J (.tup xs)=some xs.length:=rfl
theorem PR:Bs J (.fl xs)=some xs.length:=rfl
theorem Ly:Bs J (.ref a)=(match J a with | some (.lst xs)=>some xs | _=>none).map Xj:=rfl
theorem Uu:K4 J .non=some "NoneType":=rfl
theorem R':K4 J (.bl b)=some "bool":=rfl
theorem Ut:K4 J (.int i)=some "int":=rfl
theorem Uw:K4 J (.str z)=some "str":=rfl
theorem Ux:K4 J (.tup xs)=some "tuple":=rfl
theorem Us:K4 J (.fl xs)=some "list":=rfl
theorem Uv:K4 J (.ref a)=(match J a with | some (.lst _)=>some "list" | some (.dct _ _)=>some "dict" | _=>none):=rfl
theorem R6:zi J .non=some false:=rfl
theorem Mi:zi J (.bl b)=some b:=rfl
theorem R5:zi J (.int i)=some (i != 0):=rfl
theorem R8:zi J (.tup xs)=some (!xs.isEmpty):=rfl
theorem R4:zi J (.fl xs)=some (!xs.isEmpty):=rfl
theorem R7:zi J (.ref a)=(match J a with | some (.lst xs)=>some (!xs.isEmpty) | some (.dct kvs _)=>some (!kvs.isEmpty) | _=>none):=rfl
theorem S8:Sv J (.fl xs)=some ⟨xs,λ_=>True⟩:=rfl
theorem S9:Sv J (.ref a)=(match J a with | some (.lst xs)=>some ⟨xs,λJ'=>J' a=some (.lst xs)⟩ | _=>none):=rfl
theorem PC:Gb .non=true:=rfl
theorem S2:Gb (.bl b)=false:=rfl
theorem S4:Gb (.int i)=false:=rfl
theorem S6:Gb (.str z)=false:=rfl
theorem S7:Gb (.tup xs)=false:=rfl
theorem S3:Gb (.fl xs)=false:=rfl
theorem S5:Gb (.ref a)=false:=rfl
theorem Up:OU T J (.fl xs)=(T="list"):=rfl
theorem Ur:OU T J (.str z)=(T="str"):=rfl
theorem Uq:OU T J (.ref a)=((T="list"∧∃xs,J a=some (.lst xs))∨(T="dict"∧∃kvs ep,J a=some (.dct kvs ep))):=rfl
end
def Fo (it:A2) (g:A8) (tb:kH) (D:En) (τ:Sr) (J1:Hq):Prop:=∃Pv:Nat→Sr→Hq→Prop,Pv 0 τ J1∧(∀i τ J,Pv i τ J→it.ok J) ∧
 (∀i x τ J,it.xs[i]?=some x→Pv i τ J→g x τ J λτ2 J2=>tb { D with nx:=Pv (i + 1),ct:=Pv (i + 1),bk:=D.nx } τ2 J2)∧∀τ J,Pv it.xs.length τ J→D.nx τ J
theorem Kx (wi:tF) (g:A8) (tb:kH) (D:En) (τ:Sr) (J:Hq):Q9 wi g tb D τ J=wi τ J λit J1=>Fo it g tb D τ J1:=rfl
variable {τ:Sr}
theorem oZ {lo:Int} {g:A8} {tb:kH} {D:En} {J1:Hq} (Pv:Nat→Sr→Hq→Prop) (h0:Pv 0 τ J1)
  (hs:∀(i:Nat) τ J,i < n→Pv i τ J→g (.int (lo + (i:Int))) τ J λτ2 J2=>tb { D with nx:=Pv (i + 1),ct:=Pv (i + 1),bk:=D.nx } τ2 J2) (hd:∀τ J,Pv n τ J→D.nx τ J):Fo ⟨tU lo n,λ_=>True⟩ g tb D τ J1 :=
 ⟨Pv,h0,λ_ _ _ _=>trivial,λi x τ J e p=>by obtain ⟨a,b⟩:=(tV lo n i x).mp e;subst b;exact hs i τ J a p,λτ J p=>hd τ J (by simpa [lJ] using p)⟩
structure bE (mg:Str→Option Value):Prop extends Vo mg where
 str:mg "str"=none
 dict:mg "dict"=none
 max:mg "max"=none
 zip:mg "zip"=none
 enumerate:mg "enumerate"=none
def jx (J' J:Hq):Prop:=∀a,J' a=J a∨J' a=none
def Fg (Q:PV→Hq→Prop) (v:PV) (J:Hq):Prop:=∃x J',jx J' J∧(x=v∨∃a xs,v=.ref a∧x=.fl xs∧J a=some (.lst xs)∧J' a=none)∧Q x J'
variable {Q:PV→Hq→Prop} {J:Hq}
theorem Fg.same {v:PV} (h:Q v J):Fg Q v J:=⟨v,J,λ_=>.inl rfl,.inl rfl,h⟩
theorem Fg.less {v:PV} {J':Hq} (l:jx J' J) (h:Q v J'):Fg Q v J:=⟨v,J',l,.inl rfl,h⟩
variable {xs:List PV} {a:Addr}
theorem Fg.rH {J':Hq} (l:jx J' J) (ha:J a=some (.lst xs)) (hn:J' a=none) (h:Q (.fl xs) J'):Fg Q (.ref a) J:=⟨.fl xs,J',l,.inr ⟨a,xs,rfl,rfl,ha,hn⟩,h⟩
variable {H:Hp} {K:VL}
theorem Fg.kn {Q2:PV→Hq→Prop} {Q:VK} (k:Kn K J H Q2 Q):Kn K J H (Fg Q2) Q:=λz J1 u H1 rz r1 e1 ⟨x,J',l,hx,q⟩=>by
 have el:=Ext.less (K:=K) (H:=H1) l
 rcases hx with rfl | ⟨a,xs,rfl,rfl,ha,hn⟩
 ·exact k x J' u H1 (el.rep rz) (r1.less l) (e1.trans el) q
 ·cases rz
  obtain ⟨vs,h1,h2⟩:=r1 _ _ ha
  exact k (.fl xs) J' _ H1 ⟨a,vs,rfl,.inl ⟨hn,.inl h1⟩,el.jN h2⟩ (r1.less l) (e1.trans el) q
variable {P:Program} {w:World} {x:Str} {f:Addr} {k:Nat} {mg:Str→Option Value} {base:Heap} {fd:FuncData}
theorem Vz {qual:Str} {st:Stmt} {N ps:List Str} {sp:cI} (F:bZ K x qual st f fd) (S:av N ps (aq st)) (len:∀xs J Q E,sp xs J Q E→xs.length=ps.length)
  (hbody:∀(cdv:Value) (A:Around) (outer:List Env) (s:Shared) (H:Hp) (E:XK) (G:G2) (xs:List PV) (J:Hq) (Q:PV→Hq→Prop) (E2:Addr→Hq→Prop),bF k (A.deeper (envOfC qual (aq st) s.heap.objs.size f cdv))→sp xs J Q E2 →
   AN (wG P w K mg base N qual (aq st) f cdv A outer s H E) G E2 E →
   ∃t,RB (wG P w K mg base N qual (aq st) f cdv A outer s H E) G (bX st) t∧t { nx:=λ_ J'=>Fg Q .non J',rt:=Fg Q } (rp N xs) J):aK P w K mg base (cq P w) (k + 1) f fd ps (cP K sp):=by
 have:=Nn (sp:=λxs J Q E=>∃Q0,Q=Fg Q0∧sp xs J Q0 E) F S (λxs J Q E ⟨Q0,_,h⟩=>len xs J Q0 E h) (λcdv A outer s H E G xs J Q E2 hr ⟨Q0,eq,h⟩ B=>by subst eq;exact hbody cdv A outer s H E G xs J Q0 E2 hr h B)
 exact this.imp λvs H Q E ⟨xs,J,Q2,E2,a,b,c,d,e⟩=>⟨xs,J,Fg Q2,E2,a,b,⟨Q2,rfl,c⟩,Fg.kn d,e⟩
variable {t:(Addr→Hq→Prop)→kH}
theorem Tz {qual:Str} {st:Stmt} {N ps:List Str} {sp:cI} (F:bZ K x qual st f fd) (S:av N ps (aq st)) (len:∀xs J Q E,sp xs J Q E→xs.length=ps.length)
  (rd:∀(cdv:Value) (A:Around) (outer:List Env) (s:Shared) (H:Hp) (E:XK) (G:G2) (E2:Addr→Hq→Prop),bF k (A.deeper (envOfC qual (aq st) s.heap.objs.size f cdv)) →
   AN (wG P w K mg base N qual (aq st) f cdv A outer s H E) G E2 E→RB (wG P w K mg base N qual (aq st) f cdv A outer s H E) G (bX st) (t E2))
  (run:∀(xs:List PV) (J:Hq) (Q:PV→Hq→Prop) (E2:Addr→Hq→Prop),sp xs J Q E2→∀X:Prop,(t E2 { nx:=λ_ J'=>Fg Q .non J',rt:=Fg Q } (rp N xs) J→X)→X):aK P w K mg base (cq P w) (k + 1) f fd ps (cP K sp) :=
 Vz F S len λcdv A outer s H E G xs J Q E2 hr h B=>⟨_,rd cdv A outer s H E G E2 hr B,run xs J Q E2 h _ id⟩
variable {X:Cx} {G:G2}
theorem FO:AN X G (λ_ _=>False) E0:=⟨λ_ _ _ _ _ _ _ ⟨_,_,_,_,_,z⟩=>z.elim,λ_ _ _ _ _ z=>z.elim⟩
theorem xa {K:VL} {J:Hq} {H:Hp}:∀ns:List Int,aP K J H (ns.map PV.int) (ns.map V.int)
 | []=>rfl
 | n :: ns=>⟨_,_,rfl,rfl,xa ns⟩
theorem Pb {α:Type} (a b c d e:α) (xs:List α):c_ (a :: b :: c :: d :: e :: xs) 4=some e:=bM (j:=4) rfl
theorem Pc {α:Type} (a b c d e f:α) (xs:List α):c_ (a :: b :: c :: d :: e :: f :: xs) 5=some f:=bM (j:=5) rfl
theorem Pd {α:Type} (a b c d e f g:α) (xs:List α):c_ (a :: b :: c :: d :: e :: f :: g :: xs) 6=some g:=bM (j:=6) rfl
theorem Pe {α:Type} (a b c d e f g h:α) (xs:List α):c_ (a :: b :: c :: d :: e :: f :: g :: h :: xs) 7=some h:=bM (j:=7) rfl
theorem Pf {α:Type} (a b c d e f g h i:α) (xs:List α):c_ (a :: b :: c :: d :: e :: f :: g :: h :: i :: xs) 8=some i:=bM (j:=8) rfl
theorem Pg {α:Type} (a b c d e f g h i j:α) (xs:List α):c_ (a :: b :: c :: d :: e :: f :: g :: h :: i :: j :: xs) 9=some j:=bM (j:=9) rfl
theorem MC {α:Type} (a b c d e f g h i j k:α) (xs:List α):c_ (a :: b :: c :: d :: e :: f :: g :: h :: i :: j :: k :: xs) 10=some k:=bM (j:=10) rfl
theorem MD {α:Type} (a b c d e f g h i j k l:α) (xs:List α):c_ (a :: b :: c :: d :: e :: f :: g :: h :: i :: j :: k :: l :: xs) 11=some l:=bM (j:=11) rfl
theorem P2:(5≤sizeLine)=True:=eq_true (eh (by decide))
theorem P4:(6≤sizeLine)=True:=eq_true (eh (by decide))
theorem P5:(7≤sizeLine)=True:=eq_true (eh (by decide))
theorem P6:(8≤sizeLine)=True:=eq_true (eh (by decide))
theorem P7:(9≤sizeLine)=True:=eq_true (eh (by decide))
theorem M':(10≤sizeLine)=True:=eq_true (eh (by decide))
theorem Na:(11≤sizeLine)=True:=eq_true (eh (by decide))
theorem Nc:(12≤sizeLine)=True:=eq_true (eh (by decide))
theorem pU {ss:List Int} (h:ss.all (λs=>decide (0 < s) && decide (s < 2 ^ 63))=true):∀s∈ss,0 < s∧Bd 9000 s:=λs hs=>by
 have:=Xb.mp h s hs
 rw [Wt,decide_eq_true_eq,decide_eq_true_eq] at this
 exact ⟨this.1,(Bd.small (by omega) (by omega)).mono (by decide)⟩
theorem Sz.div {t b:Int} (ht:Bd n t) (hb:Bd n b) (h:b≠0):Sz n (Wm t b):=⟨ht.le (C9 t b),hb.le (CI h)⟩
abbrev Eb:=PV→PV→PV→Hq→(Hq→Prop)→Prop
def Sm (X:Cx) (q:Eb):Prop:=∃r,fH X r∧∀J H o i y ov iv u R2 R,cS X.K J H o ov→cS X.K J H i iv→cS X.K J H y u→Rep X.K J H→q o i y J R2→(∀J' H',Rep X.K J' H'→Ext X.K J H J' H'→R2 J'→R H')→r ov iv u H R
def S0 (to ti:cT) (t:Eb):A8:=λy τ J R=>to τ J λo J1=>ti τ J1 λi J2=>t o i y J2 λJ3=>R τ J3
variable {pos:Pos}
theorem NZ {o i:Expr} {to ti:cT} {t:Eb} (hs:Sm X t) (ho:RE X G o to) (hi:RE X G i ti)
  (ha:∀v,assign (.Subscript o i pos) X.env v=(do
   let ov ← holding [v] (eval o X.env)
   let iv ← holding [v,ov] (eval i X.env)
   standAt pos
   holding [v,ov,iv] (setItem ov iv v)
   release [v,ov,iv] []):=by intro _;rfl):RG X G (.Subscript o i pos) (S0 to ti t):=by
 obtain ⟨r,hr,lf⟩:=hs
 exact ⟨TM (BR ho.run hi.run hr ha) λv σ H Q ⟨y,τ,J,Q2,ry,a2,h,k⟩ =>
  ⟨τ,J,_,a2,h,λx J1 ov H1 rx r1 e1 h1=>⟨τ,J1,_,a2.go r1 e1,h1,λz J2 iv H2 rz r2 e2 h2 =>
   lf J2 H2 x z y ov iv v _ _ (e2.rep rx) rz (e2.rep (e1.rep ry)) r2 h2 λJ3 H3 r3 e3 q=>k τ J3 σ H3 ((((a2.sl.ext e1).ext e2).ext e3)) r3 ((e1.trans e2).trans e3) q⟩⟩⟩
def LZ:Eb:=λo i y J R=>∃p xs k j,o=.ref p∧i=.int k∧J p=some (.lst xs)∧Fn xs.length k=some j∧R (put J p (.lst (xs.set j y)))
theorem KZ:Sm X LZ:=⟨_,set_list,λJ H o i y ov iv u R2 R ro ri ry r ⟨p,xs,k,j,eo,ei,hp,hj,q⟩ kk=>by
 subst eo ei
 cases ro;cases ri
 obtain ⟨vs,h1,h2⟩:=r _ _ hp
 refine ⟨p,vs,k,j,rfl,rfl,h1,by rw [← h2.length];exact hj,kk _ _ (r.wrote hp h1 (h2.set ry j)) (.wrote hp h1) q⟩⟩
variable {te:cT}
theorem oz {o i e:Expr} {to ti:cT} {t:Eb} {pos':Pos} (hs:Sm X t) (ho:RE X G o to) (hi:RE X G i ti) (he:RE X G e te)
  (ha:∀v,assign (.Subscript o i pos') X.env v=(do
   let ov ← holding [v] (eval o X.env)
   let iv ← holding [v,ov] (eval i X.env)
   standAt pos'
   holding [v,ov,iv] (setItem ov iv v)
   release [v,ov,iv] []):=by intro _;rfl)
  (hq:swapsWithSole [.Subscript o i pos'] e pos.line X.env=pure false:=by rfl) (hw:swappedStores [.Subscript o i pos'] e X.env=pure none:=by rfl)
  (h1:(assignEach [.Subscript o i pos'] X.env).map (·.2)=[assign (.Subscript o i pos') X.env]:=by rfl):RS X G (.Assign [.Subscript o i pos'] e pos) (yM te (S0 to ti t)):=uz he (NZ hs ho hi ha) hq hw h1
def UL (X:Cx) (op:Operator) (q:n_):Prop:=∃r,SO X op r∧LR X.K r q
def Q4 (i:Nat) (te:cT) (q:n_):kH:=λD τ J=>Qk τ[i]? λx=>te τ J λy J1=>q x y J1 λz J2=>D.nx (τ.set i (some z)) J2
theorem HG {i:Nat} {e:Expr} {op:Operator} {q:n_} {pos':Pos} (hN:X.N.Nodup) (he:RE X G e te) (ho:UL X op q) (hi:X.N[i]?=some x:=by rfl) (hx:Loc X.env.scope x:=by first | exact .inl rfl | exact .inr rfl) (hf:X.fn x=true∨X.env.scope.names.lookup x=some .local:=by first | exact .inl rfl | exact .inr rfl | assumption) :
  RS X G (.AugAssign (.Name x pos') op e pos) (Q4 i te q):=by
 obtain ⟨r,hr,lf⟩:=ho
 exact ⟨Ab (NL hN hi hx he.run hr hf) λD σ H ⟨τ,J,D2,a2,hh,g⟩=>by
  obtain ⟨x,hx,h⟩:=GJ hh
  obtain ⟨v,h1,h2⟩:=a2.sl.get _ _ hx
  exact ⟨v,h1,τ,J,_,a2,h,λy J1 u H1 ry r1 e1 q1=>lf J1 H1 x y v u _ _ (e1.rep h2) ry r1 q1 λz J2 u2 H2 rz r2 e2 q2=>g.nx _ J2 _ H2 (((a2.sl.ext e1).ext e2).set i rz) r2 (e1.trans e2) q2⟩⟩
theorem F':UL X .Sub (Hl λi j=>.int (i - j)):=⟨_,MX,λJ H x y v w Q2 Q rx ry r h k=>by
 obtain ⟨i,ex,h⟩:=fO h;obtain ⟨j,ey,q⟩:=fO h
 subst ex ey;cases rx;cases ry;exact ⟨i,j,rfl,rfl,k (.int _) J _ H rfl r .refl q⟩⟩
theorem dW {ok:Hq→Prop} {g:A8} {tb:kH} {D:En} {J1:Hq} (Pv:Nat→Sr→Hq→Prop) (h0:Pv 0 τ J1) (hk:∀i τ J,Pv i τ J→ok J)
  (hs:∀(i:Nat) x τ J,xs[i]?=some x→Pv i τ J→g x τ J λτ2 J2=>tb { D with nx:=Pv (i + 1),ct:=Pv (i + 1),bk:=D.nx } τ2 J2) (hd:∀τ J,Pv xs.length τ J→D.nx τ J):Fo ⟨xs,ok⟩ g tb D τ J1:=⟨Pv,h0,hk,hs,hd⟩
theorem mK {α:Type} (xs:List α) (x:α):c_ (xs ++ [x]) (-1)=some x:=by
 unfold L2.c_ Fn
 rw [if_neg (by decide),if_pos (by simp;omega)]
 have e:(-1 + ((xs ++ [x]).length:Int)).toNat=xs.length:=by simp only [VZ,V_,W_];omega
 rw [e]
 simp
theorem Jh {α:Type} {xs:List α} {x:α} (h:xs.getLast?=some x):c_ xs (-1)=some x:=by
 obtain ⟨ys,rfl⟩:=List.getLast?_eq_some_iff.mp h
 exact mK _ _
variable {ys:List PV}
theorem o_ {x:PV} (h:kK J x=some ys):x=.fl ys∨∃a,x=.ref a∧J a=some (.lst ys):=by
 cases x with
 | fl xs=>cases h;exact .inl rfl
 | ref a =>
  right
  refine ⟨a,rfl,?_⟩
  unfold kK at h
  simp only at h
  split at h
  ·rename_i e;cases h;exact e
  ·cases h
 | _=>cases h
theorem Nh {x:PV} (h:kK J x=some ys):Bs J x=some ys.length:=by
 rcases o_ h with rfl | ⟨a,rfl,ha⟩
 ·rfl
 ·rw [Ly,ha];rfl
theorem Qc {x:PV} (h:kK J x=some ys) (i:Int):iD J x (.int i)=c_ ys i:=by
 rcases o_ h with rfl | ⟨a,rfl,ha⟩
 ·rfl
 ·rw [PM,ha]
def jV (j:Nat):List PV:=.bl true :: (WM 10).map λk=>.bl (decide (j=k))
theorem Eg (j:Nat):aP K J H (jV j) (xS j):=by
 unfold jV xS
 refine ⟨_,_,rfl,rfl,?_⟩
 generalize WM 10=l
 induction l with
 | nil=>rfl
 | cons k l ih=>exact ⟨_,_,rfl,rfl,ih⟩
def Rp (c:Nat→Addr) (N n:Nat) (t:(Addr→Hq→Prop)→kH):kH:=λD τ J =>
 t (λa J'=>∃j,j < 10∧a=c j∧D.nx ((WW N none).set n (some (.fl (jV j)))) J') D τ J
theorem N5 {body suite:List Stmt} {b₀:Stmt} {m:Str} {i:Nat} {W:Addr} {c:Nat→Addr} {ts:TS} {np hpos:Pos} (Er:D7 X.K X.mg W c) (hg:Gl X x) (hm:X.mg x=some (.ref W))
  (hN:X.N.Nodup) (hi:X.N[i]?=some m) (hin:i≠n) (hk:X.env.kindOf m=some .local) (hb:∀pn xe E G' E2,AN (MI X pn xe) G' E2 E→RB (MI X pn xe) G' body (t E2)) (hs:∀pn ea,QB (OP X pn ea) (b₀ :: suite) ts)
  (hq:∀(j:Nat),j < 10→∀(σ:St) (H:Hp) (ea:Addr) (D:Ends),σ[i]?=some (some (.ref ea))→H ea=some (.ext (ExcAt ea (c j)))→(∀l,H l=none→D.nx (σ.set n (some (.ref l))) (upd H l (.lst (xS j))))→ts D σ H)
  (hst:X.stack=X.env :: X.outer:=by rfl) (hfr:X.env.frame=some X.env.locals:=by rfl) (hex:X.ex=[]:=by rfl) (hd:(x == ("__debug__":Str))=false:=by decide) :
  RS X G (.Try body [.ExceptHandler (some (.Name x np)) (some m) (b₀ :: suite) hpos] [] [] pos) (Rp c X.N.length n t):=by
 have hiN:i < X.N.length:=by
  rcases Y8 i X.N.length with e | e
  ·exact e
  ·rw [WG e] at hi;cases hi
 refine ⟨Ab (Kq (tb:=λE D σ H=>∃(G':G2) (E2:Addr→Hq→Prop),Mu X.K G'.1 G'.2 E2 E∧LS X.K G' (t E2) D σ H) hst hfr hex hg hm hN hi hk (λpn xe E hp pins s σ H D I ⟨G',E2,kn,h⟩=>(hb pn xe E G' E2 ⟨hp,kn⟩).run pins s σ H D I h) (λpn ea=>(hs pn ea).run) hd) ?_⟩
 intro D σ H ⟨τ,J,D2,a2,h,g⟩
 refine ⟨(J,H),_,?_,τ,J,D2,⟨a2.sl,a2.hp,.refl⟩,h,g⟩
 intro C J' H' r e ⟨j,hj,hC,q⟩
 subst hC
 refine ⟨c j,rfl,Er.wat j hj,λea he=>?_⟩
 refine hq j hj _ _ ea _ (by rw [Wq (by simpa using hiN)]) aL λl hl=>?_
 have s1:cb H' (upd H' ea (.ext (ExcAt ea (c j)))):=cb.new he _
 have r1:=r.same s1
 obtain ⟨x1,x2,x3⟩:=ot (xs:=jV j) r1 (Eg j) hl
 refine g.nx _ J' _ _ ?_ x2 ((e.trans (.same s1)).trans x3) q
 refine ⟨by simp,λk y hy=>?_⟩
 have hkn:k=n:=by
  rcases Y8 k X.N.length with hlt | hge
  ·by_cases e:n=k
   ·exact e.symm
   ·rw [WO e,List.getElem?_replicate_of_lt hlt] at hy;cases hy
  ·rw [WG (by simpa using hge)] at hy;cases hy
 subst hkn
 have hkN:k < X.N.length:=by
  rcases Y8 k X.N.length with e | e
  ·exact e
  ·rw [WG (by simpa using e)] at hy;cases hy
 rw [Wq (by simpa using hkN)] at hy
 cases hy
 exact ⟨.ref l,by rw [WO hin,Wq (by simpa using hkN)],x1⟩
theorem N_ {a b:kH} {D:En} (h:∀N:Sr→Hq→Prop,(∀τ' J',b D τ' J'→N τ' J')→a { D with nx:=N } τ J):cy a b D τ J:=h _ λ_ _ z=>z
def Mg (J:Hq):PV→Option (List PV)
 | .tup xs=>some xs
 | .fl xs=>some xs
 | .ref a=>match J a with
  | some (.lst xs)=>some xs
  | _=>none
 | _=>none
theorem Cj {y:PV} {u:V} (h:Mg J y=some xs) (r:cS K J H y u) (rr:Rep K J H):∃p vs,u=.ref p∧(dG K H p vs∨fo K H p vs)∧aP K J H xs vs:=by
 cases y with
 | tup ys=>cases h;obtain ⟨a,vs,rfl,h1,h2⟩:=r;exact ⟨a,vs,rfl,.inr h1,h2⟩
 | fl ys=>cases h;obtain ⟨a,vs,rfl,h1,h2⟩:=r;exact ⟨a,vs,rfl,.inl h1.sq,h2⟩
 | ref a =>
  cases r
  unfold Mg at h
  simp only at h
  split at h
  ·rename_i e;cases h
   obtain ⟨vs,h1,h2⟩:=rr _ _ e
   exact ⟨a,vs,rfl,.inl (dG.of h1),h2⟩
  ·cases h
 | _=>cases h
theorem gM {K:VL} {J:Hq} {H:Hp}:∀{ns:List Str} {vs:List V},aP K J H (ns.map PV.str) vs→vs=ns.map V.str
 | [],_,h=>h
 | n :: ns,_,⟨v,us,e,h,k⟩=>by subst e;cases h;rw [gM k];rfl
theorem Jj {α:Type} [BEq α] [LawfulBEq α] [DecidableEq α] (x y:α):(x == y)=decide (x=y):=by by_cases h:x=y <;> simp [h]
theorem xW (s:Str) (ss:List Str):Su (.str s) (ss.map V.str)=decide (s∈ss):=by
 unfold Su
 induction ss with
 | nil=>rfl
 | cons x ss ih =>
  rw [VR,Xx,ih,show Jn (.str x) (.str s)=(x == s) from rfl,Jj]
  by_cases h:x=s
  ·subst h;simp
  ·simp [h,show ¬ s=x from λe=>h e.symm]
def Hm (f:Bool→Bool):n_:=λx y J Q=>∃(s:Str) (ss:List Str),x=.str s∧Mg J y=some (ss.map .str)∧Q (.bl (f (decide (s∈ss)))) J
theorem mO (ss:List Str):(ss.map V.str).all nD=true:=by simp [nD]
theorem GQ:ni X (compareOp .In) (Hm id):=⟨_,EU,λJ H x y v w Q2 Q rx ry r ⟨s,ss,ex,hy,q⟩ k=>by
 subst ex;cases rx
 obtain ⟨p,vs,rfl,hq,h2⟩:=Cj hy ry r
 cases gM h2
 exact ⟨p,_,rfl,hq,rfl,mO ss,k (.bl _) J _ H (by rw [if_neg (by decide),xW];rfl) r .refl q⟩⟩
theorem JZ:ni X (compareOp .NotIn) (Hm not):=⟨_,yr,λJ H x y v w Q2 Q rx ry r ⟨s,ss,ex,hy,q⟩ k=>by
 subst ex;cases rx
 obtain ⟨p,vs,rfl,hq,h2⟩:=Cj hy ry r
 cases gM h2
 exact ⟨p,_,rfl,hq,rfl,mO ss,k (.bl _) J _ H (by rw [if_pos rfl,xW];rfl) r .refl q⟩⟩
def UP (K:VL) (a:Addr) (n:Nat):It :=
 ⟨λi H=>∃xs x,dG K H a xs∧i < n∧xs[n - 1 - i]?=some x,λi H x H'=>H'=H∧∀xs,dG K H a xs→xs[n - 1 - i]?=some x,λi H=>i=n⟩
variable {tg:Expr}
theorem Iv (a it:Addr) (n:Nat):Turn P w K tg (UP K a n) [it] it (λi h=>h.IsRevIter it a ((n:Int) - 1 - (i:Int))) where
 mem:=by simp
 obj:=λi h st b hb=>by
  have e:b=it:=by simpa using hb
  subst e
  obtain ⟨o,e,c,d⟩:=st
  exact ⟨o,e,λv z=>by rw [d] at z;cases z⟩
 keep:=λi h h' st k=>st.at λo e=>k it (by simp) o e
 item:=by
  intro X hP hw hK hc i pins s σ H E I hf st hg
  subst hP hw hK
  obtain ⟨xs,x,hq,hi,hx⟩:=hg
  obtain ⟨its,rv,p,hz⟩:=I.list hq
  obtain ⟨u,hu,ru⟩:=rv.get hx
  obtain ⟨f0,f1,f2,f3,f4,f5⟩:=hf it (by simp)
  have e1:(n:Int) - 1 - (i:Int)=((n - 1 - i:Nat):Int):=by omega
  rw [e1] at st
  refine wpAny_pyNext_rev_item st p.isList (x:=u) (by simpa using hu) λh' st' sb=>?_
  have e2:((n - 1 - i:Nat):Int) - 1=(n:Int) - 1 - ((i + 1:Nat):Int):=by omega
  rw [e2] at st'
  have I1:Inv X pins σ H { s with heap:=h' }:=I.turned (t':=s.toks) (λb o hb e=>(sb.2 b hb).trans e) f0 f1 f3 f4 f5
  obtain ⟨o,e,c,d⟩:=id st'
  exact ⟨u,rfl,wK (s:={ s with heap:=h' }) e c d (by decide) ⟨x,H,I1,ru,⟨rfl,λys hy=>by rw [I.o9 hy hq];exact hx⟩,st',λb hb=>(hf b hb).1⟩⟩
 done:=by
  intro X hP hw hK hc i pins s σ H E I hf st hg
  subst hP hw hK
  obtain ⟨f0,f1,f2,f3,f4,f5⟩:=hf it (by simp)
  have hg:i=n:=hg
  have e1:(n:Int) - 1 - (i:Int)=-1:=by omega
  rw [e1] at st
  exact wpAny_pyNext_rev_end (I.ok.hd hc) st λh' eb=>⟨rfl,I.turned (t':=s.toks) (λb o hb e=>eb b o hb e) f0 f1 f3 f4 f5⟩
 self:=λ_ _ _ _ _ st h=>wpAny_pyIter_revIter st h
def S1 (K:VL) (ta:TA):TI:=λσ H R=>ta σ H λvs H1=>∃a xs,vs=[.ref a]∧dG K H1 a xs∧R (UP K a xs.length) H1
variable {l:Expr}
theorem NK {ta:TA} {p:Pos} (hg:Gl X "reversed") (hm:X.mg "reversed"=none) (ha:PA X [l] ta) (hs:starEach [l] X.env=[(false,eval l X.env)]:=by rfl):PI X tg (.Call (.Name "reversed" p) [l] [] pos) (S1 X.K ta):=by
 intro pins s σ H R I h
 refine Call_ (jW I hg hm PyProof.Rows.Boot.«reversed» (PyProof.Rows.callWith_type1 (cn (ha pos pins s σ H _ I h) λus s1 ⟨vs,H1,I1,r1,q1⟩=>?_) hs rfl))
 obtain ⟨a,xs,e,hq,q⟩:=q1
 subst e
 cases r1 with
 | cons r rr =>
  cases rr
  cases r
  obtain ⟨its,rv,pl,hz⟩:=I1.list hq
  refine call_reversed_list pl.isList ?_
  have hl:=rv.length
  have st:(s1.heap.push (revObj a ((its.toArray.size:Int) - 1))).IsRevIter s1.heap.objs.size a ((xs.length:Int) - 1 - ((0:Nat):Int)):=by
   have e:(xs.length:Int) - 1 - ((0:Nat):Int)=(its.toArray.size:Int) - 1:=by simp [hl]
   rw [e]
   exact ⟨_,Wd _ rfl,rfl,rfl⟩
  refine wpAny_pyIter_revIter st ?_
  refine ⟨s1.heap.objs.size,[s1.heap.objs.size],_,_,H1,rfl,I1.kept (t':=s1.toks) λb o e=>VW _ e,Iv a _ xs.length,st,λb hb=>?_,q⟩
  have e:b=s1.heap.objs.size:=by simpa using hb
  subst e
  exact I1.Bl (VT _) (I1.hok.fresh (VT _))
theorem lL {y:PV} {u:V} (h:kK J y=some xs) (r:cS K J H y u) (rr:Rep K J H):∃p vs,u=.ref p∧dG K H p vs∧aP K J H xs vs:=by
 rcases o_ h with rfl | ⟨a,rfl,ha⟩
 ·obtain ⟨a,vs,rfl,h1,h2⟩:=r;exact ⟨a,vs,rfl,h1.sq,h2⟩
 ·cases r
  obtain ⟨vs,h1,h2⟩:=rr _ _ ha
  exact ⟨a,vs,rfl,dG.of h1,h2⟩
def U7 (ta:qm):tF:=λτ J R=>ta τ J λys J1=>∃x xs,ys=[x]∧kK J1 x=some xs∧R ⟨xs.reverse,λJ'=>kK J' x=some xs⟩ J1
theorem N0 {ta:qm} {p:Pos} (hg:Gl X "reversed") (hm:X.mg "reversed"=none) (ha:RA X G [l] ta) (hs:starEach [l] X.env=[(false,eval l X.env)]:=by rfl):RI X G tg (.Call (.Name "reversed" p) [l] [] pos) (U7 ta) :=
 ⟨LM (NK hg hm ha.run hs) λσ H R ⟨τ,J,R2,a2,h,k⟩=>⟨τ,J,_,a2,h,λys J1 vs H1 rs r1 e1 ⟨x,xs,ey,hx,q⟩=>by
  subst ey
  obtain ⟨v,us,rfl,rv,e'⟩:=rs
  cases e'
  obtain ⟨a,ws,rfl,h1,h2⟩:=lL hx rv r1
  have hl:=h2.length
  refine ⟨a,ws,rfl,h1,k _ J1 _ H1 ?_ r1 e1 q⟩
  have at_:∀J' H',Ext X.K J1 H1 J' H'→Rep X.K J' H'→kK J' x=some xs→∃vs,dG X.K H' a vs∧aP X.K J' H' xs vs:=λJ' H' e r o=>by
   obtain ⟨b,vs,eb,g1,g2⟩:=lL o (e.rep rv) r
   cases eb
   exact ⟨vs,g1,g2⟩
  exact {
   go:=λJ' H' e r o i hi=>by
    obtain ⟨vs,s,rs⟩:=at_ J' H' e r o
    rw [Yf] at hi
    have:ws.length - 1 - i < vs.length:=by rw [← rs.length];omega
    exact ⟨vs,vs[ws.length - 1 - i],s,by omega,VN this⟩
   yl:=λJ' H' e r o i hi v H2 y=>by
    obtain ⟨vs,s,rs⟩:=at_ J' H' e r o
    obtain ⟨e1,y⟩:=y
    subst e1
    obtain ⟨z,ez,rz⟩:=rs.get' (y vs s)
    rw [Yf] at hi
    exact ⟨z,by rw [Y9 hi,hl];exact ez,rz,r,.refl⟩
   stop:=λJ' H' e r o=>by
    show xs.reverse.length=ws.length
    rw [Yf,hl] }⟩⟩
theorem aP.flat {K:VL} {J:Hq} {H:Hp} {xs:List PV} {vs:List V} (r:aP K J H xs vs):∀k:Nat,aP K J H (WW k xs).flatten (WW k vs).flatten
 | 0=>rfl
 | k + 1=>by rw [ZA,ZA,ZQ,ZQ];exact r.append (aP.flat r k)
def NT:AO:=λxs J Q=>∃x ys,xs=[x]∧kK J x=some ys∧Q (.tup ys) J
theorem zC:IG X (.type "tuple") NT:=⟨_,vE,λJ H xs vs Q2 Q rs r ⟨x,ys,ex,el,q⟩ k=>by
 subst ex;obtain ⟨v,us,rfl,rv,e⟩:=rs;cases e
 obtain ⟨a,ws,rfl,h3,h4⟩:=lL el rv r
 refine ⟨a,ws,rfl,.inl ⟨h3,λp hp=>?_⟩⟩
 have sm:=cb.new hp (.tup ws)
 exact k (.tup ys) J (.ref p) _ ⟨p,ws,rfl,fo.of aL,(Ext.same (K:=X.K) (J:=J) sm).jN h4⟩ (r.same sm) (.same sm) q⟩
def QR (f:Bool→Bool):n_:=λx y J Q=>∃xs ys,kK J x=some xs∧kK J y=some ys∧II (.fl xs)∧jw (.fl ys)=true∧Q (.bl (f (eqQ (.fl xs) (.fl ys)))) J
theorem Ng (f:Bool→Bool):LR K (rP K f) (QR f):=λJ H x y v w Q2 Q rx ry r ⟨xs,ys,hx,hy,⟨px,d⟩,py,q⟩ k=>by
 obtain ⟨a,vs,rfl,h1,h2⟩:=lL hx rx r
 obtain ⟨b,ws,rfl,h3,h4⟩:=lL hy ry r
 exact ⟨dw (.fl xs),dw (.fl ys),⟨a,vs,rfl,h1,jy (by simpa [jw] using px) h2⟩,⟨b,ws,rfl,h3,jy (by simpa [jw] using py) h4⟩,d,k (.bl _) J _ H rfl r .refl q⟩
theorem GR (hu:X.A.units + 61 < cLine):ni X (compareOp .NotEq) (QR not):=⟨_,GO hu,Ng not⟩
abbrev TJ:=Str→TE
def LQ:Cz:=λx xs J Q=>∃z y ys,x=.str z∧xs=[y]∧kK J y=some (ys.map .str)∧(ys.map (·.length)).sum + ys.length * z.length≤16777216∧Q (.str (Txt.join z ys)) J
theorem JD:Le X "str" "str.join" LQ:=⟨_,JF,λJ H x xs v vs Q2 Q rx rs r ⟨z,y,ys,ex,exs,hy,hl,q⟩ k=>by
 subst ex exs;cases rx;obtain ⟨w,us,rfl,rw',e⟩:=rs;cases e
 obtain ⟨a,ws,rfl,h1,h2⟩:=lL hy rw' r
 cases gM h2
 exact ⟨z,a,ys,rfl,rfl,h1,hl,k (.str _) J _ H rfl r .refl q⟩⟩
variable {h':Heap} {pins:List (Addr × Obj)} {σ:St} {s:Shared}
theorem Inv.DW {t':Nat} {ch:List Addr} (I:Inv X pins σ H s) (k:∀b o,b ∉ ch→s.heap.get? b=some o→h'.get? b=some o) (hf:∀b∈ch,n0 X pins H b):Inv X pins σ H { s with heap:=h',toks:=t' }:=by
 have nit:∀b u,H b=some u→b ∉ ch:=λb u e z=>by rw [(hf b z).1] at e;cases e
 refine I.step (g':=s.gens) (d':=s.drawn) (ch:=ch) (λb hb=>?_) (λb o _ _ hc e _=>k b o hc e) (λb o _ _ hc e _=>⟨o.slots,k b o hc e⟩) (λ_ _ _ _ n=>n)
  (λb o hc e=>⟨o,k b o hc e⟩) (λ_ _ e=>e) (λ_ _ _ e=>e) (λb ps e=>⟨#[],by rw [e];simp⟩) (λm hm=>?_) (λb u e=>?_) I.bare
 ·obtain ⟨f0,f1,f2,f3,f4,f5⟩:=hf b hb
  exact ⟨f3,f1,f4,f5⟩
 ·obtain ⟨o,es,ep,ho,r⟩:=hm
  exact ⟨o,es,ep,k _ o (λz=>(hf _ z).2.1 rfl) ho,r⟩
 ·refine (I.hok b u e).my (λc v hc q=>k c v ?_ q) (λ_ q=>q) λ_ _ q=>q
  rcases hc with z | z
  ·rw [z];exact nit b u e
  ·exact nit c _ z
section
variable {α β:Type}
def gP (kvs:List (Str × α)) (k:Str):Option α:=(kvs.find? λkv=>decide (kv.1=k)).map (·.2)
def mT (kvs:List (Str × α)) (k:Str) (v:α):List (Str × α):=if kvs.any (λkv=>decide (kv.1=k)) then kvs.map (λkv=>if kv.1=k then (kv.1,v) else kv) else kvs ++ [(k,v)]
def qr (kvs:List (Str × α)) (k:Str):List (Str × α):=kvs.filter λkv=>decide (kv.1≠k)
theorem mF (p:Str × α) (r:List (Str × α)) (k:Str):gP (p :: r) k=if p.1=k then some p.2 else gP r k:=by
 unfold gP
 rw [Z_]
 by_cases h:p.1=k <;> simp [h]
theorem Dp (kvs:List (Str × α)) (k:Str) (v:α):(mT kvs k v).length≤kvs.length + 1:=by
 unfold mT;split <;> simp
theorem CJ (kvs:List (Str × α)) (k:Str):(qr kvs k).length≤kvs.length:=WH _ _
abbrev kY (R:α→β→Prop):List (Str × α)→List (Str × β)→Prop:=Paired λp q=>p.1=q.1∧R p.2 q.2
variable {R:α→β→Prop}
theorem kY.va {kvs:List (Str × α)} {vs:List (Str × β)} (h:kY R kvs vs) (k:Str):(∀x,gP kvs k=some x→∃y,gP vs k=some y∧R x y)∧(gP kvs k).isSome=(gP vs k).isSome:=by
 induction h with
 | nil=>exact ⟨λx e=>by simp [gP] at e,rfl⟩
 | @cons p q kvs vs r _ ih =>
  rw [mF,mF,← r.1]
  by_cases e:p.1=k
  ·rw [if_pos e,if_pos e];exact ⟨λx z=>by cases z;exact ⟨_,rfl,r.2⟩,rfl⟩
  ·rw [if_neg e,if_neg e];exact ih
theorem kY.any {kvs:List (Str × α)} {vs:List (Str × β)} (h:kY R kvs vs) (k:Str):(kvs.any λkv=>decide (kv.1=k))=vs.any λkv=>decide (kv.1=k):=by
 induction h with
 | nil=>rfl
 | cons r _ ih=>rw [Xx,Xx,ih,r.1]
theorem kY.snoc {kvs:List (Str × α)} {vs:List (Str × β)} (h:kY R kvs vs) {k:Str} {x:α} {y:β} (r:R x y):kY R (kvs ++ [(k,x)]) (vs ++ [(k,y)]):=by
 induction h with
 | nil=>exact .cons ⟨rfl,r⟩ .nil
 | cons q _ ih=>exact .cons q ih
theorem kY.pu {kvs:List (Str × α)} {vs:List (Str × β)} (h:kY R kvs vs) {k:Str} {x:α} {y:β} (r:R x y):kY R (mT kvs k x) (mT vs k y):=by
 unfold mT
 rw [h.any k]
 split
 ·rename_i hany;clear hany
  induction h with
  | nil=>exact .nil
  | @cons p q kvs vs z _ ih =>
   rw [VR,VR]
   refine .cons ?_ ih
   by_cases e:p.1=k
   ·rw [if_pos e,if_pos (z.1 ▸ e)];exact ⟨z.1,r⟩
   ·rw [if_neg e,if_neg (z.1 ▸ e)];exact z
 ·exact h.snoc r
theorem kY.dr {kvs:List (Str × α)} {vs:List (Str × β)} (h:kY R kvs vs) (k:Str):kY R (qr kvs k) (qr vs k):=by
 unfold qr
 induction h with
 | nil=>exact .nil
 | @cons p q kvs vs z _ ih =>
  rw [Wu,Wu,z.1]
  split
  ·exact .cons z ih
  ·exact ih
theorem kY.len {kvs:List (Str × α)} {vs:List (Str × β)} (h:kY R kvs vs):kvs.length=vs.length:=Paired.length h
theorem kY.keys {kvs:List (Str × α)} {vs:List (Str × β)} (h:kY R kvs vs):kvs.map (·.1)=vs.map (·.1):=by
 induction h with
 | nil=>rfl
 | cons r _ ih=>rw [VR,VR,ih,r.1]
end
theorem rD (vs:List (Str × Value)) (k:Str):valueAt vs k=gP vs k:=rfl
variable {u:Value}
theorem str_is {k:Str} (r:RelV (.str k) u):(PySem.strKind P w).is k u=true:=by
 obtain ⟨t,rfl⟩:=r
 simp [PySem.strKind,Value.isStrOf]
theorem Gf {k:Str} (h:(PySem.strKind P w).is k u=true):RelV (.str k) u:=Value.isStrOf_shape h
variable {kvs:List (Str × L2.V)} {ep:Nat}
theorem gh (I:Inv X pins σ H s) (e:H a=some (.dE kvs ep)):kvs.length≤sizeLine∧(a == sysModules)=false∧∃vs,kY RelV kvs vs∧s.heap.DictAt (PySem.strKind X.prog X.w) a vs ep:=I.hok a _ e
theorem lz {t':Nat} {kvs':List (Str × V)} {vs':List (Str × Value)} (I:Inv X pins σ H s) (e:H a=some (.dE kvs ep)) (hs:YV a s.heap h') (hz:kvs'.length≤sizeLine) (hd:(a == sysModules)=false) (rel:kY RelV kvs' vs') (dd:h'.DictOf (PySem.strKind X.prog X.w) a vs') :
  ∃ep',Inv X pins σ (upd H a (.dE kvs' ep')) { s with heap:=h',toks:=t' }:=by
 obtain ⟨ep',da⟩:=dd.dictAt
 refine ⟨ep',I.write (x:=a) (e:=a) (by rw [e];exact True.intro) (.inl rfl) (λb q hb z=>(hs.2 b hb).trans z) (let ⟨q,_,_,hq,_⟩:=dd;⟨q,hq⟩) ⟨hz,hd,vs',rel,da⟩⟩
theorem Inv.MF (I:Inv X pins σ H s):sysModules < s.heap.objs.size:=by
 have h:mainGlobals < s.heap.objs.size:=(I.mod.glob.keeps I.bk).lt
 exact Y_ (by decide) h
theorem Eo {vs:List (Str × Value)} (rel:kY RelV kvs vs):∀{us:List Value},us.length=kvs.length→(∀(j:Nat) (v:Value),us[j]?=some v→∃k x,vs[j]?=some (k,x)∧(PySem.strKind P w).is k v=true)→Vals (kvs.map λkv=>V.str kv.1) us:=by
 induction rel with
 | nil =>
  intro us hlen _
  cases us with
  | nil=>exact .nil
  | cons _ _=>cases hlen
 | @cons p q kvs vs z _ ih =>
  intro us hlen hget
  cases us with
  | nil=>cases hlen
  | cons u us =>
   rw [VR]
   refine .cons ?_ (ih (by simpa using hlen) λj v e=>?_)
   ·obtain ⟨k,x,e1,e2⟩:=hget 0 u rfl
    rw [XS] at e1
    cases e1
    rw [z.1];exact Gf e2
   ·obtain ⟨k,x,e1,e2⟩:=hget (j + 1) v (by rw [Xk];exact e)
    rw [Xk] at e1
    exact ⟨k,x,e1,e2⟩
def T2:R2:=λx y H Q=>∃a kvs ep k v,x=.ref a∧y=.str k∧H a=some (.dE kvs ep)∧gP kvs k=some v∧Q v H
def NV (f:Bool→Bool):R2:=λx y H Q=>∃a kvs ep k,x=.str k∧y=.ref a∧H a=some (.dE kvs ep)∧Q (.bl (f (gP kvs k).isSome)) H
def Rb:List V→Hp→VK→Prop:=λxs H Q=>∃a kvs ep,xs=[.ref a]∧H a=some (.dE kvs ep)∧Q (.int kvs.length) H
def NW:List V→Hp→VK→Prop:=λxs H Q=>∃a kvs ep,xs=[.ref a]∧H a=some (.dE kvs ep)∧∀p,H p=none→Q (.ref p) (upd H p (.lst (kvs.map λkv=>.str kv.1)))
def Rk:V→List V→Hp→VK→Prop:=λx xs H Q=>∃a kvs ep k v,x=.ref a∧xs=[.str k]∧H a=some (.dE kvs ep)∧gP kvs k=some v∧∀ep',Q v (upd H a (.dE (qr kvs k) ep'))
def Rm:fI:=λo i v H Q=>∃a kvs ep k,o=.ref a∧i=.str k∧H a=some (.dE kvs ep)∧kvs.length < sizeLine∧∀ep',Q (upd H a (.dE (mT kvs k v) ep'))
def RX:TE:=λ_ H Q=>∀p,H p=none→∀ep,Q (.ref p) (upd H p (.dE [] ep))
theorem PH:mG X T2:=by
 intro value slice pins s σ H x y v u Q I rx ry q hs
 obtain ⟨a,kvs,ep,k,z,rfl,rfl,hp,hz,q⟩:=q
 cases rx
 obtain ⟨_,hd,vs,rel,da⟩:=gh I hp
 have hT:s.TypeIs (.ref a) "dict":=da.dictOf.typeIs
 obtain ⟨w',hw,rw'⟩:=(rel.va k).1 z hz
 unfold subscriptTail
 refine wpAny_bind ?_
 rw [getitemInPython_of_ne hT.not_modules]
 refine wpAny_bind (wpAny_specialOf hT PySem.F.slot_dict_getitem.lookup ?_)
 have fin:wpAny (model X.prog X.w) X.A (subscripted slice false (.ref a) u) (λr s₃=>wpAny (model X.prog X.w) X.A (letTemporaryGo value (.ref a) r >>= λ_=>pure r) (EP X pins σ Q) X.xe s₃) X.xe s:=by
  rw [hs]
  exact wpAny_operating (wpAny_getItem_of (str_is ry) da.dictOf.mapOf hw (wpAny_bind (wpAny_letTemporaryGo (wpAny_pure ⟨z,H,I.tok _,rw',q⟩))))
 first
  | exact wpAny_pure (wpAny_bind fin)
  | exact wpAny_bind (wpAny_pure (wpAny_bind fin))
  | exact wpAny_bind fin
theorem NA:eX X (compareOp .In) (NV id):=by
 intro pins s σ H x y v u Q I rx ry ⟨a,kvs,ep,k,ex,ey,hp,q⟩
 subst ex ey
 cases ry
 obtain ⟨_,hd,vs,rel,da⟩:=gh I hp
 refine wpAny_in_of (str_is rx) hd da.dictOf.mapOf ?_
 exact ⟨.bl _,H,I.tok _,by rw [rD,← (rel.va k).2];rfl,q⟩
theorem EW:eX X (compareOp .NotIn) (NV not):=by
 intro pins s σ H x y v u Q I rx ry ⟨a,kvs,ep,k,ex,ey,hp,q⟩
 subst ex ey
 cases ry
 obtain ⟨_,hd,vs,rel,da⟩:=gh I hp
 refine wpAny_notIn_of (str_is rx) hd da.dictOf.mapOf ?_
 exact ⟨.bl _,H,I.tok _,by rw [rD,← (rel.va k).2];rfl,q⟩
theorem Ba:bJ X (.builtin "len") Rb:=by
 intro pins s σ H xs us Q I r ⟨a,kvs,ep,ex,hp,q⟩
 subst ex
 obtain ⟨u,rfl,ru⟩:=vals1 r
 cases ru
 obtain ⟨hz,hd,vs,rel,da⟩:=gh I hp
 have hl:=rel.len
 refine call_len_dict hd da.dictOf (by rw [← hl];rw [sizeLine_eq] at hz;omega) ?_
 rw [← hl]
 exact ⟨.int _,H,(I.tok _),⟨_,rfl⟩,q⟩
theorem zx (hc:X.calm=true):bJ X (.type "list") NW:=by
 intro pins s σ H xs us Q I r ⟨a,kvs,ep,ex,hp,q⟩
 subst ex
 obtain ⟨u,rfl,ru⟩:=vals1 r
 cases ru
 obtain ⟨hz,hd,vs,rel,da⟩:=gh I hp
 have hl:=rel.len
 refine PySem.W.kdl_call (PySem.W.kdl_dict (knd:=PySem.strKind X.prog X.w) (kvs:=vs) (ep:=ep) hd) (I.ok.hd hc) da (by rw [← hl];exact hz) λh' tk acc c hk hS hacc=>?_
 have hkeys:Vals (kvs.map λkv=>V.str kv.1) acc.toList:=by
  have hlen:acc.toList.length=kvs.length:=by rw [Array.length_toList,hacc.1,hl]
  have hget:∀j v,acc.toList[j]?=some v→∃k x,vs[j]?=some (k,x)∧(PySem.strKind X.prog X.w).is k v=true:=λj v e=>hacc.2 j v (by rw [← Array.getElem?_toList];exact e)
  exact Eo rel hlen hget
 have I2:Inv X pins σ (upd H s.heap.objs.size (.lst (kvs.map λkv=>V.str kv.1))) { s with heap:=h',toks:=tk } :=
  I.laid (t':=tk) hk (VT _) (show fq X.prog X.w _ _ _ (.lst _) from ⟨by rw [VM];exact hz,acc.toList,c,hkeys,by rw [Array.toArray_toList];exact hS⟩)
 exact ⟨.ref s.heap.objs.size,_,I2,rfl,q _ (I.hok.fresh (VT _))⟩
theorem JG:lh X "dict.pop" Rk:=by
 intro pins s σ H x xs v us Q I rx r ⟨a,kvs,ep,k,z,ex,exs,hp,hv,q⟩
 subst ex exs
 cases rx
 obtain ⟨u,rfl,ru⟩:=vals1 r
 obtain ⟨hz,hd,vs,rel,da⟩:=gh I hp
 obtain ⟨w',hw,rw'⟩:=(rel.va k).1 z hv
 have hpart:(keyPart u).isSome=true:=by obtain ⟨t,q⟩:=(show ∃t,u=Value.str k t from ru);subst q;rfl
 refine call_meetsIn Y' da.dictOf.typeIs PySem.F.entry_dict_pop (PySem.F.args_dict_pop_2 _ _) (meets_dict_pop_there (PySem.strKind X.prog X.w) a (str_is ru) [] (.inl rfl) hpart)
  ⟨vs,w',da.dictOf,by rw [← rel.len];exact hz,hw,λh' dd' hs=>?_⟩
 obtain ⟨ep',I2⟩:=lz (t':=s.toks + 1) I hp hs (V6 (CJ kvs k) hz) hd (rel.dr k) dd'
 exact ⟨z,_,I2,rw',q ep'⟩
theorem Oa:fH X Rm:=by
 intro pins s σ H o i v ov iv u Q I ro ri rv ⟨a,kvs,ep,k,eo,ei,hp,hl,q⟩
 subst eo ei
 cases ro
 obtain ⟨hz,hd,vs,rel,da⟩:=gh I hp
 refine wpAny_setItem_pairs (hsz:=by rw [← rel.len];exact hz) (str_is ri) da.dictOf λh' dd' hs=>?_
 obtain ⟨ep',I2⟩:=lz (t':=s.toks + 1) I hp hs (show (mT kvs k v).length≤sizeLine from V6 (Dp kvs k v) hl) hd (rel.pu rv) dd'
 exact ⟨_,I2,q ep'⟩
theorem Kg:PE X (.Dict [] [] pos) RX:=λpins s σ H Q I h=>by
 have hd:(s.heap.push { cls:=.type "dict",data:=.dict #[] }).DictOf (PySem.strKind X.prog X.w) s.heap.objs.size []:=Heap.DictOf.new s.heap
 obtain ⟨ep,da⟩:=hd.dictAt
 exact wpAny_Dict_empty ⟨.ref s.heap.objs.size,_,I.laid (a:=s.heap.objs.size) (o:=.dE [] ep) (t':=s.toks) (λ_ _ q=>VW _ q) (VT _)
  ⟨Ww _,beq_eq_false_iff_ne.mpr (Ne.symm (Wf I.MF)),[],.nil,da⟩,rfl,h _ (I.hok.fresh (VT _)) ep⟩
def UM (a:Addr) (ks:List Str) (ep:Nat):It :=
 ⟨λi H=>(∃kvs,H a=some (.dE kvs ep)∧kvs.map (·.1)=ks)∧i < ks.length,
  λi H z H'=>H'=H∧∃k,ks[i]?=some k∧z=.str k,
  λi H=>(∃kvs,H a=some (.dE kvs ep)∧kvs.map (·.1)=ks)∧ks.length≤i⟩
theorem Fe (a it:Addr) (ks:List Str) (ep:Nat):Turn P w K tg (UM a ks ep) [it] it (λi h=>h.IsKeyIter it a i ks.length ep) where
 mem:=by simp
 obj:=λi h st b hb=>by
  have e:b=it:=by simpa using hb
  subst e
  obtain ⟨o,e,c,d⟩:=st
  exact ⟨o,e,λv z=>by rw [d] at z;cases z⟩
 keep:=λi h h' st k=>st.at λo e=>k it (by simp) o e
 item:=by
  intro X hP hw hK hc i pins s σ H E I hf st hg
  subst hP hw hK
  obtain ⟨⟨kvs,hp,hks⟩,hi⟩:=hg
  obtain ⟨hz,hd,vs,rel,da⟩:=gh I hp
  have hl:ks.length=vs.length:=by rw [← hks,VM];exact rel.len
  obtain ⟨f0,f1,f2,f3,f4,f5⟩:=hf it (by simp)
  obtain ⟨⟨k,x⟩,hx⟩:∃p,vs[i]?=some p:=⟨vs[i]'(by omega),VN (by omega)⟩
  have hk:ks[i]?=some k:=by rw [← hks,rel.keys,VS,hx];rfl
  refine wpAny_pyNext_dict_item (by rw [← hl];exact st) da hx λkey h' hkey st' sb=>?_
  rw [← hl] at st'
  have I1:Inv X pins σ H { s with heap:=h' }:=I.turned (t':=s.toks) (λb o hb e=>(sb.2 b hb).trans e) f0 f1 f3 f4 f5
  obtain ⟨o,e,c,d⟩:=id st'
  exact ⟨key,rfl,wK (s:={ s with heap:=h' }) e c d (by decide) ⟨.str k,H,I1,Gf hkey,⟨rfl,k,hk,rfl⟩,st',λb hb=>(hf b hb).1⟩⟩
 done:=by
  intro X hP hw hK hc i pins s σ H E I hf st hg
  subst hP hw hK
  obtain ⟨⟨kvs,hp,hks⟩,hi⟩:=hg
  obtain ⟨hz,hd,vs,rel,da⟩:=gh I hp
  have hl:ks.length=vs.length:=by rw [← hks,VM];exact rel.len
  obtain ⟨f0,f1,f2,f3,f4,f5⟩:=hf it (by simp)
  refine wpAny_pyNext_dict_end (I.ok.hd hc) (by rw [← hl];exact st) da (by rw [XF];omega) λh' hk=>⟨rfl,I.turned (t':=s.toks) (λb o hb e=>hk b o hb e) f0 f1 f3 f4 f5⟩
 self:=λ_ _ _ _ _ st h=>wpAny_pyIter_keyiter st h
def Pw (td:TE):TI:=λσ H R=>td σ H λx H1=>∃a kvs ep,x=.ref a∧H1 a=some (.dE kvs ep)∧R (UM a (kvs.map (·.1)) ep) H1
theorem Ki {tl:TE} (hl:PE X l tl):PI X tg l (Pw tl):=by
 intro pins s σ H R I h
 refine cn (hl pins s σ H _ I h) λv s1 ⟨x,H1,I1,r1,q1⟩=>?_
 obtain ⟨a,kvs,ep,e,hp,q⟩:=q1
 subst e
 cases r1
 obtain ⟨hz,hd,vs,rel,da⟩:=gh I1 hp
 refine wpAny_pyIter_dict hd da ?_
 refine ⟨s1.heap.objs.size,[s1.heap.objs.size],_,_,H1,rfl,I1.kept (t':=s1.toks) λb o e=>VW _ e,Fe a _ (kvs.map (·.1)) ep,⟨_,Wd _ rfl,rfl,by rw [VM,rel.len];rfl⟩,λb hb=>?_,q⟩
 have e:b=s1.heap.objs.size:=by simpa using hb
 subst e
 exact I1.Bl (VT _) (I1.hok.fresh (VT _))
variable {A:Around} {R:Result→Shared→Prop} {px:Pos} {iter kx vx:Expr} {prog:Program} {ifs:List Expr}
theorem Bu {sc:Scope} {it:Value} {D:Addr} {env:Env} (I:Nat→Shared→Prop)
  (turn:∀n s,I n s→wpAny (model prog w) A (pyNext it) (λr s₁=>match r with
   | none=>R (.ok .next) s₁
   | some v=>wpAny (model prog w) A (letOwnedTupleGo (.Name x px) it v) (λ_ s₂=>wpAny (model prog w) A (assign (.Name x px) env v) (λ_ s₃=>wpAny (model prog w) A (forIn ifs true λc r=>if r=true then do let ok ← isTrue c env (eval c env);pure (ForInStep.yield ok) else pure (ForInStep.yield r)) (λok s₃=>if ok=true then wpAny (model prog w) A (eval kx env) (λkv s₄ =>
     wpAny (model prog w) A (eval vx env) (λvv s₅=>wpAny (model prog w) A (dictSet D kv vv) (λ_ s₅=>∃m,m < n∧I m s₅) (λ_ _=>False) s₅) (λ_ _=>False) s₄) (λ_ _=>False) s₃ else ∃m,m < n∧I m s₃) (λ_ _=>False) s₃) (λ_ _=>False) s₂) (λ_ _=>False) s₁) (λ_ _=>False) s)
  (n:Nat) (h:I n s):codeAny (model prog w) A (.compLoop (.DictComp kx vx [⟨.Name x px,iter,ifs,0⟩] sc pos) 0 it (.ref D) env) R s:=by
 refine codeAny_loop rfl I (λn s hI=>?_) n h
 show wpAny _ _ ((compTurn (.DictComp kx vx [⟨.Name x px,iter,ifs,0⟩] sc pos) 0 it (.ref D) env).onRaise (λx=>do noteFrame x env;theTreesLotGoes x)) _ _ s
 refine wpAny_noted ?_
 rw [compTurn_dict]
 have no:∀(e:Value) (s':Shared),False→notedBy (model prog w) A env (λe s'=>R (.error e) s') e s':=λ_ _ z=>z.elim
 refine wpAny_bind (wpAny_standAt (wpAny_bind (wpAny_mono (turn n s hI) (λr s₁ h₁=>?_) no)))
 cases r with
 | none=>exact wpAny_pure h₁
 | some v =>
  refine wpAny_bind (wpAny_mono h₁ (λ_ s₂ h₂=>?_) no)
  refine wpAny_bind (wpAny_mono h₂ (λ_ s₃ h₃=>wpAny_bind (wpAny_mono h₃ (λok s₃' h₃'=>?_) no)) no)
  cases ok with
  | false=>exact wpAny_pure ⟨rfl,h₃'⟩
  | true =>
   exact wpAny_bind (wpAny_bind (wpAny_mono h₃' (λkv s₄ h₄=>wpAny_bind (wpAny_holding (wpAny_mono h₄ (λvv s₅ h₅=>wpAny_bind (wpAny_standAt (wpAny_holding (wpAny_mono h₅ (λ_ s₆ h₆=>wpAny_pure ⟨rfl,h₆⟩) no)))) no))) no))
def Ue (wi:TI) (ks:List (Str × Nat)) (tc:TT) (tk te:TE):TE:=λσ H Q=>wi σ H λJ H1=>∀D,H1 D=none→∀ep,∃W:Nat→Nat→Hp→Prop,(∃m,W 0 m (upd H1 D (.dE [] ep))) ∧
 ∀i m H2,W i m H2→(J.stop i H2∧Q (.ref D) H2)∨(J.go i H2∧∀v H3,J.yld i H2 v H3→tc (some v :: fW ks σ) H3 λb H4=>if b=true then tk (some v :: fW ks σ) H4 λy H5=>te (some v :: fW ks σ) H5 λz H6=>∃kvs ep k,y=.str k∧H6 D=some (.dE kvs ep)∧kvs.length < sizeLine∧∃m',m' < m∧∀ep',W (i + 1) m' (upd H6 D (.dE (mT kvs k z) ep')) else ∃m',m' < m∧W (i + 1) m' H4)
variable {ks:List (Str × Nat)}
theorem xg {sc:Scope} {tk te:TE} {tc:TT} {cl:List (Str × Addr)} {it:Addr} {fp:List Addr} {tn:Nat→Heap→Prop} {J:It} {Q:VK}
  {RR:Value→Addr→Result→Shared→Prop} {E:Value→Shared→Prop}
  (hc:X.calm=true) (ok:dy sc X.env.scope X.N x ks) (h1:∀y c,cl.lookup y=some c→X.env.cells.lookup y=some c) (h2:∀y∈sc.names,y.2=.free→∃c,cl.lookup y.1=some c)
  (hk:∀cl C s₀ H₀ fp pins,PE (gJ X sc cl C x ks s₀ H₀ fp pins) kx tk) (he:∀cl C s₀ H₀ fp pins,PE (gJ X sc cl C x ks s₀ H₀ fp pins) vx te) (hcn:∀cl C s₀ H₀ fp pins,IH (gJ X sc cl C x ks s₀ H₀ fp pins) ifs tc)
  (I:Inv X pins σ H s) (T:Turn X.prog X.w X.K (.Name x px) J fp it tn) (st:tn 0 s.heap) (f:∀b∈fp,n0 X pins H b)
  (hw:∀D,H D=none→∀ep,∃W:Nat→Nat→Hp→Prop,(∃m,W 0 m (upd H D (.dE [] ep)))∧∀i m H2,W i m H2→(J.stop i H2∧Q (.ref D) H2) ∨
   (J.go i H2∧∀v H3,J.yld i H2 v H3→tc (some v :: fW ks σ) H3 λb H4=>if b=true then tk (some v :: fW ks σ) H4 λy H5=>te (some v :: fW ks σ) H5 λz H6=>∃kvs ep k,y=.str k∧H6 D=some (.dE kvs ep)∧kvs.length < sizeLine∧∃m',m' < m∧∀ep',W (i + 1) m' (upd H6 D (.dE (mT kvs k z) ep')) else ∃m',m' < m∧W (i + 1) m' H4))
  (hR:∀(D C:Addr) (s':Shared) (H':Hp) (m:Str→Option Value),Inv X pins σ H' s'→Q (.ref D) H'→s'.heap.Ns C m→H' C=none→C≠X.env.locals→X.s₀.heap.objs.size≤C→(∀y c,X.env.cells.lookup y=some c→c≠C)→(∀p∈X.pn ++ pins,p.1≠C)→RR (.ref D) C (.ok .next) s') :
  wpAny (model X.prog X.w) X.A newDict (λacc s₃=>wpAny (model X.prog X.w) X.A (newFunctionEnv sc X.env.globals cl [] X.env.qual none .none (some X.env)) (λcenv s₄ =>
   codeAny (model X.prog X.w) X.A (.compStart (.DictComp kx vx [⟨.Name x px,iter,ifs,0⟩] sc pos) 0 (.ref it) acc { cenv with scope:=relabel sc X.env }) (RR acc cenv.locals) s₄) E s₃) E s:=by
 have okk:=ok
 obtain ⟨kd,nc,lx,ll,fr,kk,nd⟩:=okk
 have hD0:H s.heap.objs.size=none:=I.hok.fresh (VT _)
 have hdd:(s.heap.push { cls:=.type "dict",dict:=none,data:=.dict #[] }).DictOf (PySem.strKind X.prog X.w) s.heap.objs.size []:=Heap.DictOf.new s.heap
 obtain ⟨ep0,da⟩:=hdd.dictAt
 obtain ⟨W,⟨m0,w0⟩,turn⟩:=hw s.heap.objs.size hD0 ep0
 refine wpAny_newObj_type ?_
 have I3:Inv X pins σ (upd H s.heap.objs.size (.dE [] ep0)) { s with heap:=s.heap.push { cls:=.type "dict",dict:=none,data:=.dict #[] } } :=
  I.laid (t':=s.toks) (λb u e=>VW _ e) (VT _) ⟨Ww _,beq_eq_false_iff_ne.mpr (Ne.symm (Wf I.MF)),[],.nil,da⟩
 have st3:tn 0 (s.heap.push { cls:=.type "dict",dict:=none,data:=.dict #[] }):=T.keep 0 _ _ st λb hb o e=>VW _ e
 clear da hdd
 generalize hD:s.heap.objs.size=D at *
 generalize hH:upd H D (.dE [] ep0)=H3 at *
 generalize hs3:({ s with heap:=s.heap.push { cls:=.type "dict",dict:=none,data:=.dict #[] } }:Shared)=s3 at *
 have e3:s.heap.push { cls:=.type "dict",dict:=none,data:=.dict #[] }=s3.heap:=by rw [← hs3]
 rw [e3] at st3
 have fD:∀b∈fp,b≠D:=λb hb z=>by
  obtain ⟨o,ho,_⟩:=T.obj 0 _ st b hb
  have:=V4 ho
  rw [z,← hD] at this
  exact Xc _ this
 have f3:∀b∈fp,n0 X pins H3 b:=λb hb=>⟨by rw [← hH,aI (fD b hb)];exact (f b hb).1,(f b hb).2⟩
 have g3:∀b∈fp,∃o,s3.heap.get? b=some o:=λb hb=>by
  obtain ⟨o,ho,_⟩:=T.obj 0 _ st3 b hb
  exact ⟨o,ho⟩
 refine wpAny_newFunctionEnv nc (by intro y hy;simp at hy) (λh₁ hns hsb=>?_) kd
 have kp:∀b o,s3.heap.get? b=some o→h₁.get? b=some o:=λb o e=>hsb.extBut b o (Wf (V4 e)) (VW _ e)
 have J0:=zK (fp:=fp) (cl:=cl) (t':=s3.toks + ([]:List (Str × Value)).length) I3 ok h1 h2 (λb hb=>⟨f3 b hb,g3 b hb⟩) hns kp
 have st4:tn 0 h₁:=T.keep 0 _ _ st3 λb hb o e=>kp b o e
 have ltC:∀b o,s3.heap.get? b=some o→b≠s3.heap.objs.size:=λb o e=>Wf (V4 e)
 have cC:∀y c,X.env.cells.lookup y=some c→c≠s3.heap.objs.size:=λy c e=>by
  obtain ⟨v,o,ho,_⟩:=I3.cell y c e
  exact ltC c o ho
 have pC:∀p∈X.pn ++ pins,p.1≠s3.heap.objs.size:=λp hp=>ltC _ _ (I3.pin p hp).1
 have lC:s3.heap.objs.size≠X.env.locals:=Yn I3.lt
 have fX:∀{H':Hp},(∀b∈fp,H' b=none)→∀b∈fp,n0 (gJ X sc cl s3.heap.objs.size x ks s3 H3 fp pins) [] H' b:=λhn b hb=>by
  obtain ⟨o,ho⟩:=g3 b hb
  obtain ⟨_,q1,q2,q3,q4,q5⟩:=f b hb
  refine ⟨hn b hb,ltC b o ho,λz=>?_,.inl hb,λy c e=>q4 y c (h1 y c e),λp hp=>q5 p (by simpa [gJ] using hp)⟩
  rcases V2.mp (I3.rh b z) with e | e
  ·exact q1 e
  ·exact q2 e
 have back:∀{o:Option V} {H':Hp} {s':Shared},Inv (gJ X sc cl s3.heap.objs.size x ks s3 H3 fp pins) [] (o :: fW ks σ) H' s'→Inv X pins σ H' s':=λ{o H' s'} J=>by
  obtain ⟨hh,g,d,t,os'⟩:=s'
  obtain rfl:os'=s3.os:=J.os
  exact I3.call (h':=hh) (g':=g) (d':=d) (t':=t) (ch:=fp) J.base J.hok J.bare λb hb=>⟨(f b hb).2.2.2.1,(f b hb).2.1,(f b hb).2.2.2.2.1,(f b hb).2.2.2.2.2⟩
 have lookX:(relabel sc X.env).names.lookup x=some .local:=lookup_relabel_local lx
 have loop:∀s',(∃(i:Nat) (o:Option V) (H':Hp),Inv (gJ X sc cl s3.heap.objs.size x ks s3 H3 fp pins) [] (o :: fW ks σ) H' s'∧tn i s'.heap∧(∀b∈fp,H' b=none)∧W i m0 H') →
   codeAny (model X.prog X.w) X.A (.compLoop (.DictComp kx vx [⟨.Name x px,iter,ifs,0⟩] sc pos) 0 (.ref it) (.ref D) (compEnvC sc cl s3.heap.objs.size X.env)) (RR (.ref D) s3.heap.objs.size) s':=by
  intro s' hs'
  refine Bu (λn s'=>∃(i:Nat) (o:Option V) (H':Hp),Inv (gJ X sc cl s3.heap.objs.size x ks s3 H3 fp pins) [] (o :: fW ks σ) H' s'∧tn i s'.heap∧(∀b∈fp,H' b=none)∧W i n H') ?_ m0 hs'
  rintro n s5 ⟨i,o,H5,J5,t5,n5,w5⟩
  rcases turn i n H5 w5 with ⟨stop,hq⟩ | ⟨go,step⟩
  ·refine cn (T.done (gJ X sc cl s3.heap.objs.size x ks s3 H3 fp pins) rfl rfl rfl hc i [] s5 _ H5 _ J5 (fX n5) t5 stop) λr s6 ⟨hr,J6⟩=>?_
   subst hr
   obtain ⟨m,hm,_⟩:=J6.loc
   exact hR D _ s6 H5 m (back J6) hq hm J6.free lC I3.sz cC pC
  ·refine cn (T.item (gJ X sc cl s3.heap.objs.size x ks s3 H3 fp pins) rfl rfl rfl hc i [] s5 _ H5 _ J5 (fX n5) t5 go) λr s6 ⟨u,hr,h6⟩=>?_
   subst hr
   refine cn h6 λ_ s7 ⟨v,H7,J7,r7,y7,t7,n7⟩=>?_
   have J7':=J7.pinned (fX n7) (T.obj _ _ t7)
   refine wpAny_assign_Name (gr (X:=gJ X sc cl s3.heap.objs.size x ks s3 H3 fp pins) (i:=0) J7' nd rfl (.inl lookX) r7 (λs8 J8=>?_) (.inr lookX))
   refine cn (hcn cl s3.heap.objs.size s3 H3 fp pins _ s8 _ H7 _ J8 (step v H7 y7)) λok s8' ⟨H8,J8',q8⟩=>?_
   cases ok with
   | false =>
    simp only [We,if_false] at q8 ⊢
    obtain ⟨m',hm,w'⟩:=q8
    refine ⟨m',hm,i + 1,_,_,J8'.iC,?_,?_,w'⟩
    ·exact T.keep _ _ _ t7 λb hb o e=>(J8'.pin (b,o) (V1 _ (V1 _ (dg hb e)))).1
    ·intro b hb
     obtain ⟨o,e,d⟩:=T.obj _ _ t7 b hb
     exact (J8'.pin (b,o) (V1 _ (V1 _ (dg hb e)))).2.1
   | true =>
    simp only [if_true] at q8 ⊢
    refine cn (hk cl s3.heap.objs.size s3 H3 fp pins _ s8' _ H8 _ J8' q8) λky s8'' ⟨vk,H8',J8'',rk,q8'⟩=>?_
    refine cn (he cl s3.heap.objs.size s3 H3 fp pins _ s8'' _ H8' _ J8'' q8') λy s9 ⟨vy,H9,J9,r9,kvs,ep,k,ek,hys,hz,m',hm,w'⟩=>?_
    subst ek
    obtain ⟨hz',hd',vs,rel,da⟩:=gh J9 hys
    refine wpAny_dictSet_pairs (hsz:=by rw [← rel.len];exact hz') (str_is rk) da.dictOf λh' dd' hsb=>?_
    obtain ⟨ep',J10⟩:=lz (t':=s9.toks + 1) J9 hys hsb (show (mT kvs k vy).length≤sizeLine from V6 (Dp kvs k vy) hz) hd' (rel.pu r9) dd'
    refine ⟨m',hm,i + 1,_,_,J10.iC,?_,?_,w' ep'⟩
    ·exact T.keep _ _ _ t7 λb hb o e=>(J10.pin (b,o) (V1 _ (V1 _ (dg hb e)))).1
    ·intro b hb
     obtain ⟨o,e,d⟩:=T.obj _ _ t7 b hb
     exact (J10.pin (b,o) (V1 _ (V1 _ (dg hb e)))).2.1
 have l0:=loop _ ⟨0,none,H3,J0,st4,λb hb=>(f3 b hb).1,w0⟩
 exact codeAny_compStart_dict l0 (T.self _ 0 _ _ _ st4 l0)
theorem QH {sc:Scope} {wi:TI} {tk te:TE} {tc:TT} (osc:Scope) (N:List Str) (ks:List (Str × Nat)) (hc:X.calm=true) (ho:X.env.scope=osc) (hN:X.N=N) (hi:PI X (.Name x px) iter wi)
  (hk:∀cl C s₀ H₀ fp pins,PE (gJ X sc cl C x ks s₀ H₀ fp pins) kx tk) (he:∀cl C s₀ H₀ fp pins,PE (gJ X sc cl C x ks s₀ H₀ fp pins) vx te) (hcn:∀cl C s₀ H₀ fp pins,IH (gJ X sc cl C x ks s₀ H₀ fp pins) ifs tc) (ok:dy sc osc N x ks:=by decide +kernel) (hs:∀x,foldedSetIterable iter X.env x=pure x:=by intro _;rfl) :
  PE X (.DictComp kx vx [⟨.Name x px,iter,ifs,0⟩] sc pos) (Ue wi ks tc tk te):=by
 intro pins s σ H Q I hw
 obtain ⟨cl,hcl,h1,h2⟩:=gT (pz ok I ho)
 have ok':dy sc X.env.scope X.N x ks:=by rw [ho,hN];exact ok
 rw [arm_eval_DictComp]
 refine wpAny_comprehension_free (use:=none) rfl hs hcl ok.1 ok.2.2.2.1 (cn (hi pins s σ H _ I hw) λv s1 h3=>cn h3 λitv s2 h4=>?_)
 obtain ⟨it,fp,tn,J,H2,rfl,I2,T,st2,f2,hR⟩:=h4
 refine xg (RR:=λacc C=>compPost (model X.prog X.w) X.A X.xe none (EP X pins σ Q) acc C) hc ok' h1 h2 hk he hcn I2 T st2 f2 hR ?_
 intro D C s' H' m J' q hn hC cl' cs cc cp
 refine ⟨m,hn,λh' hsb=>⟨.ref D,H',?_,rfl,q⟩⟩
 exact J'.turned (t':=s'.toks) (it:=C) (λb o ne e=>hsb.extBut b o ne e) hC cl' (.inr cs) cc cp
theorem cA:∀{kvs:List (Str × PV)} {gs:List (Str × V)},nq K J H kvs gs→kY (cS K J H) kvs gs
 | [],[],_=>.nil
 | [],_ :: _,h=>by cases h.1
 | _ :: _,[],h=>by cases h.1
 | (k,y) :: fs,(k',w) :: gs,h=>by
  obtain ⟨h1,v',us,h2,h3,h4⟩:=h
  simp only [VR,List.cons.injEq] at h1 h2
  obtain ⟨rfl,h1⟩:=h1
  obtain ⟨rfl,rfl⟩:=h2
  exact .cons ⟨rfl,h3⟩ (cA ⟨h1,h4⟩)
theorem Aa:∀{kvs:List (Str × PV)} {gs:List (Str × V)},kY (cS K J H) kvs gs→nq K J H kvs gs
 | _,_,.nil=>⟨rfl,rfl⟩
 | _,_,.cons (a:=p) (b:=q) r t=>by
  obtain ⟨h1,h2⟩:=Aa t
  exact ⟨by rw [VR,VR,h1,r.1],q.2,_,rfl,r.2,h2⟩
variable {p:Addr}
theorem Ext.gH {kvs kvs':List (Str × PV)} {gs gs':List (Str × V)} {ep':Nat} (h:J p=some (.dct kvs ep)) (k:H p=some (.dE gs ep)):Ext K J H (put J p (.dct kvs' ep')) (upd H p (.dE gs' ep')):=by
 have sm:∀a u,a≠p→Rd H a u→Rd (upd H p (.dE gs' ep')) a u:=λa u ne z=>by
  rcases z with z | ⟨o,z⟩
  ·exact .inl (by rw [aI ne];exact z)
  ·exact .inr ⟨o,by rw [aI ne];exact z⟩
 refine ⟨λa vs' z=>?_,λa o z q _=>?_⟩
 ·rcases z with z | z
  ·have ne:a≠p:=by
    intro e;subst e
    rcases z with z | ⟨o,z⟩
    ·rw [k] at z;cases z
    ·rw [k] at z;cases z
   exact .inl (sm a _ ne z)
  ·exact .inr z
 ·have ne:a≠p:=by intro e;subst e;rw [h] at z;cases z
  exact ⟨by rw [ag ne];exact z,by rw [aI ne];exact q⟩
theorem Rep.gH {kvs kvs':List (Str × PV)} {gs gs':List (Str × V)} {ep':Nat} (r:Rep K J H) (h:J p=some (.dct kvs ep)) (k:H p=some (.dE gs ep)) (q:kY (cS K J H) kvs' gs'):Rep K (put J p (.dct kvs' ep')) (upd H p (.dE gs' ep')):=by
 have e:=Ext.gH (K:=K) (kvs':=kvs') (gs':=gs') (ep':=ep') h k
 refine r.Fj e p (λa ne=>ag ne) (λa o ne _ z=>by rw [aI ne];exact z) λu z=>?_
 rw [aj] at z;cases z
 exact ⟨gs',aL,e.Al (Aa q)⟩
theorem Rep.Gj (r:Rep K J H) (n:H p=none):Rep K (put J p (.dct [] ep)) (upd H p (.dE [] ep)):=by
 have e:=Ext.laid (K:=K) (J:=J) (o:=.dE [] ep) (u:=.dct [] ep) n
 refine r.Fj e p (λa ne=>ag ne) (λa o ne _ z=>by rw [aI ne];exact z) λu z=>?_
 rw [aj] at z;cases z
 exact ⟨[],aL,⟨rfl,rfl⟩⟩
def QU:n_:=λx y J Q=>BH x λa=>Fq y λk=>ES (J a) λkvs _=>yq (gP kvs k) λv=>Q v J
def Kt (f:Bool→Bool):n_:=λx y J Q=>Fq x λk=>BH y λa=>ES (J a) λkvs _=>Q (.bl (f (gP kvs k).isSome)) J
def LU:AO:=λxs J Q=>Dc xs λx=>BH x λa=>ES (J a) λkvs _=>Q (.int kvs.length) J
def Ho:AO:=λxs J Q=>Dc xs λx=>BH x λa=>ES (J a) λkvs _=>Q (.fl (kvs.map λkv=>.str kv.1)) J
def Hr:Cz:=λx xs J Q=>BH x λa=>Dc xs λy=>Fq y λk=>ES (J a) λkvs _=>yq (gP kvs k) λv=>∀ep',Q v (put J a (.dct (qr kvs k) ep'))
def LY:Eb:=λo i y J R=>BH o λa=>Fq i λk=>ES (J a) λkvs _=>kvs.length < sizeLine∧∀ep',R (put J a (.dct (mT kvs k y) ep'))
def L6:cT:=λ_ J Q=>∀p,J p=none→∀ep,Q (.ref p) (put J p (.dct [] ep))
def U2 (te:cT):tF:=λτ J R=>te τ J λx J1=>BH x λa=>ES (J1 a) λkvs ep=>R ⟨kvs.map λkv=>.str kv.1,λJ'=>J' a=some (.dct kvs ep)⟩ J1
theorem bO:Sg X QU:=⟨_,PH,λJ H x y v w Q2 Q rx ry r h kn=>by
 obtain ⟨a,ex,h⟩:=fP h;obtain ⟨k,ey,h⟩:=i_ h;obtain ⟨kvs,ep,ja,h⟩:=j' h;obtain ⟨z,hz,q⟩:=fw h
 subst ex ey
 cases rx;cases ry
 obtain ⟨gs,h1,h2⟩:=r _ _ ja
 obtain ⟨u,hu,ru⟩:=((cA h2).va k).1 z hz
 exact ⟨a,gs,ep,k,u,rfl,rfl,h1,hu,kn z J u H ru r .refl q⟩⟩
theorem Gq (f:Bool→Bool):LR X.K (NV f) (Kt f):=λJ H x y v w Q2 Q rx ry r h kn=>by
 obtain ⟨k,ex,h⟩:=i_ h;obtain ⟨a,ey,h⟩:=fP h;obtain ⟨kvs,ep,ja,q⟩:=j' h
 subst ex ey
 cases rx;cases ry
 obtain ⟨gs,h1,h2⟩:=r _ _ ja
 exact ⟨a,gs,ep,k,rfl,rfl,h1,by rw [← ((cA h2).va k).2];exact kn (.bl _) J _ H rfl r .refl q⟩
theorem GP:ni X (compareOp .In) (Kt id):=⟨_,NA,Gq id⟩
theorem JX:ni X (compareOp .NotIn) (Kt not):=⟨_,EW,Gq not⟩
theorem Jk:IG X (.builtin "len") LU:=⟨_,Ba,λJ H xs vs Q2 Q rs r h k=>by
 obtain ⟨x,ex,h⟩:=g7 h;obtain ⟨a,ea,h⟩:=fP h;obtain ⟨kvs,ep,ja,q⟩:=j' h;subst ea
 subst ex;obtain ⟨v,us,rfl,rv,e⟩:=rs;cases e;cases rv
 obtain ⟨gs,h1,h2⟩:=r _ _ ja
 exact ⟨a,gs,ep,rfl,h1,by rw [← (cA h2).len];exact k (.int _) J _ H rfl r .refl q⟩⟩
theorem xb {K:VL} {J:Hq} {H:Hp}:∀{ks:List Str},aP K J H (ks.map PV.str) (ks.map V.str)
 | []=>rfl
 | k :: ks=>⟨_,_,rfl,rfl,xb (ks:=ks)⟩
theorem FI (hc:X.calm=true):IG X (.type "list") Ho:=⟨_,zx hc,λJ H xs vs Q2 Q rs r h k=>by
 obtain ⟨x,ex,h⟩:=g7 h;obtain ⟨a,ea,h⟩:=fP h;obtain ⟨kvs,ep,ja,q⟩:=j' h;subst ea
 subst ex;obtain ⟨v,us,rfl,rv,e⟩:=rs;cases e;cases rv
 obtain ⟨gs,h1,h2⟩:=r _ _ ja
 refine ⟨a,gs,ep,rfl,h1,λp hp=>?_⟩
 have hk:aP X.K J H (kvs.map λkv=>PV.str kv.1) (gs.map λkv=>V.str kv.1):=by
  have:=(cA h2).keys
  rw [show (kvs.map λkv=>PV.str kv.1)=(kvs.map (·.1)).map PV.str by rw [VX];rfl,show (gs.map λkv=>V.str kv.1)=(gs.map (·.1)).map V.str by rw [VX];rfl,this]
  exact xb
 obtain ⟨x1,x2,x3⟩:=ot r hk hp
 exact k _ J _ _ x1 x2 x3 q⟩
theorem JE:Le X "dict" "dict.pop" Hr:=⟨_,JG,λJ H x xs v vs Q2 Q rx rs r h kn=>by
 obtain ⟨a,ex,h⟩:=fP h;obtain ⟨y,exs,h⟩:=g7 h;obtain ⟨k,ek,h⟩:=i_ h;obtain ⟨kvs,ep,ja,h⟩:=j' h;obtain ⟨z,hz,q⟩:=fw h;subst ek
 subst ex exs;cases rx
 obtain ⟨u,us,rfl,ru,e⟩:=rs;cases e;cases ru
 obtain ⟨gs,h1,h2⟩:=r _ _ ja
 have pk:=cA h2
 obtain ⟨y,hy,ry⟩:=(pk.va k).1 z hz
 refine ⟨a,gs,ep,k,y,rfl,rfl,h1,hy,λep'=>?_⟩
 have e2:=Ext.gH (K:=X.K) (kvs':=qr kvs k) (gs':=qr gs k) (ep':=ep') ja h1
 exact kn z _ y _ (e2.rep ry) (r.gH ja h1 (pk.dr k)) e2 (q ep')⟩
theorem m8:Sm X LY:=⟨_,Oa,λJ H o i y ov iv u R2 R ro ri ry r h kk=>by
 obtain ⟨a,eo,h⟩:=fP h;obtain ⟨k,ei,h⟩:=i_ h;obtain ⟨kvs,ep,ja,hl,q⟩:=j' h
 subst eo ei;cases ro;cases ri
 obtain ⟨gs,h1,h2⟩:=r _ _ ja
 have pk:=cA h2
 refine ⟨a,gs,ep,k,rfl,rfl,h1,by rw [← pk.len];exact hl,λep'=>?_⟩
 exact kk _ _ (r.gH ja h1 (pk.pu ry)) (Ext.gH (K:=X.K) ja h1) (q ep')⟩
theorem mY:RE X G (.Dict [] [] pos) L6:=⟨kZ Kg λσ H Q ⟨τ,J,Q2,a2,q,k⟩ p hp ep=>k (.ref p) _ _ _ rfl (a2.hp.Gj hp) (.laid hp) (q p (a2.hp.free hp) ep)⟩
theorem ki {tl:cT} (hl:RE X G l tl):RI X G tg l (U2 tl):=⟨LM (Ki hl.run) λσ H R ⟨τ,J,R2,a2,h,k⟩=>⟨τ,J,_,a2,h,λx J1 v H1 rx r1 e1 h=>by
 obtain ⟨a,ex,h⟩:=fP h;obtain ⟨kvs,ep,ja,q⟩:=j' h
 subst ex;cases rx
 obtain ⟨gs,h1,h2⟩:=r1 _ _ ja
 have pk:=cA h2
 have hl':=pk.len
 refine ⟨a,gs,ep,rfl,h1,k _ J1 _ H1 ?_ r1 e1 q⟩
 have hks:=pk.keys
 have key:∀J' H',Rep X.K J' H'→J' a=some (.dct kvs ep)→∃gs',H' a=some (.dE gs' ep)∧gs'.map (·.1)=gs.map (·.1):=λJ' H' r o=>by
  obtain ⟨gs',h1',h2'⟩:=r _ _ o
  exact ⟨gs',h1',by rw [← (cA h2').keys,hks]⟩
 exact {
  go:=λJ' H' e r o i hi=>⟨key J' H' r o,by rw [VM] at hi ⊢;omega⟩
  yl:=λJ' H' e r o i hi v H2 y=>by
   obtain ⟨rfl,k,hk,rfl⟩:=y
   rw [← hks,VS] at hk
   obtain ⟨kv,hkv,rfl⟩:=Xs.mp hk
   exact ⟨.str kv.1,by rw [VS,hkv];rfl,rfl,r,.refl⟩
  stop:=λJ' H' e r o=>⟨key J' H' r o,by rw [VM,VM];omega⟩ }⟩⟩
def OS (wi:tF) (ks:List (Str × Nat)) (tc:p8) (tk te:cT):cT:=λτ J Q=>wi τ J λit J1=>∀D,J1 D=none→∀ep,∃W:Nat→Hq→Prop,W 0 (put J1 D (.dct [] ep))∧(∀i J2,W i J2→it.ok J2) ∧
 (∀i x J2,it.xs[i]?=some x→W i J2→tc (some x :: uJ ks τ) J2 λb J3=>if b=true then tk (some x :: uJ ks τ) J3 λy J4=>te (some x :: uJ ks τ) J4 λz J5 =>
  ∃kvs ep k,y=.str k∧J5 D=some (.dct kvs ep)∧kvs.length < sizeLine∧∀ep',W (i + 1) (put J5 D (.dct (mT kvs k z) ep')) else W (i + 1) J3)∧∀J2,W it.xs.length J2→Q (.ref D) J2
variable {tk:cT} {wi:tF}
theorem CH {tc:p8}:∀σ H Q,LE X.K G (OS wi ks tc tk te) σ H Q→Ue (LI X.K G wi) ks (LT X.K G tc) (LE X.K G tk) (LE X.K G te) σ H Q:=λσ H Q ⟨τ,J,Q2,a2,h,k⟩ =>
 ⟨τ,J,_,a2,h,λit J1 I H1 ir r1 e1 w D hD ep=>by
  obtain ⟨W,w0,wok,step,fin⟩:=w D (r1.free hD) ep
  refine ⟨λi m H2=>m=it.xs.length - i∧i≤it.xs.length∧∃J2,Rep X.K J2 H2∧Ext X.K J1 H1 J2 H2∧W i J2,⟨_,rfl,Ww _,_,r1.Gj hD,.laid hD,w0⟩,?_⟩
  rintro i m H2 ⟨rfl,hi,J2,r2,e2,w2⟩
  by_cases hlt:i < it.xs.length
  ·refine .inr ⟨ir.go J2 H2 e2 r2 (wok i J2 w2) i hlt,λv H3 y=>?_⟩
   obtain ⟨x,ex,rx,r3,e3⟩:=ir.yl J2 H2 e2 r2 (wok i J2 w2) i hlt v H3 y
   have a3:xq X.K G (some x :: uJ ks τ) J2 (some v :: fW ks σ) H3:=⟨Dy (a2.sl.ext ((e1.trans e2).trans e3)) rx ks,r3,((a2.ext.trans e1).trans e2).trans e3⟩
   refine ⟨_,_,_,a3,step i x J2 ex w2,λb J4 H4 r4 e4 q=>?_⟩
   cases b with
   | false =>
    simp only [We,if_false] at q ⊢
    exact ⟨_,by omega,rfl,hlt,J4,r4,(e2.trans e3).trans e4,q⟩
   | true =>
    simp only [if_true] at q ⊢
    refine ⟨_,_,_,a3.go r4 e4,q,λyk J5 u H5 rk r5 e5 q5=>?_⟩
    refine ⟨_,_,_,(a3.go r4 e4).go r5 e5,q5,λz J6 vz H6 rz r6 e6 ⟨kvs,ep2,kk,ek,jD,hl,q6⟩=>?_⟩
    subst ek
    cases rk
    obtain ⟨gs,h1,h2⟩:=r6 _ _ jD
    have pk:=cA h2
    refine ⟨gs,ep2,kk,rfl,h1,by rw [← pk.len];exact hl,it.xs.length - (i + 1),by omega,λep'=>⟨rfl,hlt,_,r6.gH jD h1 (pk.pu rz),?_,q6 ep'⟩⟩
    exact ((((e2.trans e3).trans e4).trans e5).trans e6).trans (Ext.gH (K:=X.K) jD h1)
  ·have ei:i=it.xs.length:=by omega
   subst ei
   exact .inl ⟨ir.stop J2 H2 e2 r2 (wok _ J2 w2),k (.ref D) J2 _ H2 rfl r2 (e1.trans e2) (fin J2 w2)⟩⟩
theorem TQ {t t':TT} (h:IH X ifs t) (k:∀σ H Q,t' σ H Q→t σ H Q):IH X ifs t':=λpins s σ H Q I q=>h pins s σ H Q I (k _ _ _ q)
variable {aa':Scope}
theorem Mb (osc:Scope) (N:List Str) (ks:List (Str × Nat)) (hc:X.calm=true) (ho:X.env.scope=osc) (hN:X.N=N) (hi:RI X G (.Name x px) iter wi) (hk:∀cl C s₀ H₀ fp pins,RE (gJ X aa' cl C x ks s₀ H₀ fp pins) G kx tk) (he:∀cl C s₀ H₀ fp pins,RE (gJ X aa' cl C x ks s₀ H₀ fp pins) G vx te)
  (ok:dy aa' osc N x ks:=by decide +kernel) (hs:∀x,foldedSetIterable iter X.env x=pure x:=by intro _;rfl):RE X G (.DictComp kx vx [⟨.Name x px,iter,[],0⟩] aa' pos) (OS wi ks w_ tk te) :=
 ⟨kZ (QH osc N ks hc ho hN hi.run (λcl C s₀ H₀ fp pins=>(hk cl C s₀ H₀ fp pins).run) (λcl C s₀ H₀ fp pins=>(he cl C s₀ H₀ fp pins).run) (λcl C s₀ H₀ fp pins=>TQ yJ λσ H Q ⟨τ,J,Q2,a2,q,k⟩=>k true J H a2.hp .refl q) ok hs) CH⟩
def Ci (tabs:List Addr):cI:=λxs J Q _=>∃ns:List Int,xs=[.fl (ns.map .int)]∧ns.length≤63∧(∀T∈tabs,J T=some .tab)∧(∀a,a ∉ tabs→J a=none)∧∀J',(∀T∈tabs,J' T=some .tab)→Q (.bl true) J'
def HW (tabs:List Addr) (K:VL):Sp:=λvs H Q _=>∃(a:Addr) (ns:List Int),vs=[.ref a]∧dG K H a (ns.map V.int)∧ns.length≤63∧(∀T∈tabs,H T=some (.ext (eL T))) ∧
 (∀b,H b≠none→b=a∨b∈tabs)∧(∀u,H a=some u→∃o xs,u=.rH o (.lst xs))∧∀H',cb H H'→Q (.bl true) H'
theorem Es {ps:List Str} {tabs:List Addr} (F:aK P w K mg base (cq P w) k f fd ps (cP K (Ci tabs))) :
  aK P w K mg base OO k f fd ps (HW tabs K) :=
 F.Sd.imp λvs H Q E ⟨a,ns,e,hS,hl,hT,hA,hK,q⟩=>by
  subst e
  classical
  have na:∀u,H a=some u→a ∉ tabs:=λu hu hm=>by
   obtain ⟨o,xs,rfl⟩:=hK u hu
   rw [hT a hm] at hu;cases hu
  refine ⟨[.fl (ns.map .int)],λb=>if b∈tabs then some .tab else none,λx J'=>x=.bl true∧∀T∈tabs,J' T=some .tab,λ_ _=>False,⟨.ref a,[],rfl,⟨a,ns.map V.int,rfl,?_,xa ns⟩,rfl⟩,?_,⟨ns,rfl,hl,λT hT=>if_pos hT,λb hb=>if_neg hb,λJ' h=>⟨rfl,h⟩⟩,?_,?_⟩
  ·rcases hS with h | h
   ·refine .inl ⟨?_,h⟩
    have:a ∉ tabs:=by
     rcases h with h | ⟨o,h⟩
     ·exact na _ h
     ·exact na _ h
    exact if_neg this
   ·exact .inr h
  ·intro b o z
   by_cases hb:b∈tabs
   ·have z':=(if_pos hb).symm.trans z
    cases z'
    exact hT b hb
   ·have z':=(if_neg hb).symm.trans z
    cases z'
  ·rintro z J' u H' rz rr ee ⟨rfl,ht⟩
   cases rz
   refine q H' λb o hb=>?_
   rcases hA b (by rw [hb];simp) with rfl | hm
   ·obtain ⟨ob,xs,rfl⟩:=hK o hb
    exact (ee.ll b _ (if_neg (na _ hb)) hb (.inr ⟨_,_,rfl⟩)).2
   ·have:=hT b hm
    rw [hb] at this;cases this
    exact rr b _ (ht b hm)
  ·intro _ _ _ _ _ z;exact z.elim
def NQ:Cz:=λx xs J Q=>∃(a:Addr) (ss:List Str) (k:Str) (j:Nat),x=.ref a∧xs=[.str k]∧J a=some (.lst (ss.map .str))∧ss[j]?=some k∧(∀m:Nat,m < j→ss[m]?≠some k)∧Q (.int (j:Nat)) J
def Ku:Cz:=λx xs J Q=>∃(a:Addr) (ss:List Str) (k:Str) (j:Nat),x=.ref a∧xs=[.str k]∧J a=some (.lst (ss.map .str))∧ss[j]?=some k∧(∀m:Nat,m < j→ss[m]?≠some k)∧Q .non (put J a (.lst ((ss.eraseIdx j).map .str)))
def yN (q q':n_) (ta tb tc:cT):cT:=λτ J Q=>ta τ J λx J1=>tb τ J1 λy J2=>q x y J2 λz J3=>LK z λk=>(if k=true then tc τ J3 λw J4=>q' y w J4 Q else Q (.bl false) J3)
variable {ta tb tc:cT}
theorem Bb {r r':R2} {q q':n_} (lr:LR X.K r q) (lr':LR X.K r' q'):∀σ H Q,LE X.K G (yN q q' ta tb tc) σ H Q→Ig r r' (LE X.K G ta) (LE X.K G tb) (LE X.K G tc) σ H Q:=λσ H Q ⟨τ,J,Q2,a2,hh,k⟩=>⟨τ,J,_,a2,hh,λx J1 v H1 rx r1 e1 q1=>⟨τ,J1,_,a2.go r1 e1,q1,λy J2 w H2 ry r2 e2 q2 =>
  lr J2 H2 x y v w _ _ (e2.rep rx) ry r2 q2 λz J3 u H3 rz r3 e3 hz=>by
   obtain ⟨kk,ez,q3⟩:=uf hz
   subst ez;cases rz
   refine ⟨kk,rfl,?_⟩
   cases kk with
   | false=>simp only [We,if_false] at q3 ⊢;exact k (.bl false) J3 _ H3 rfl r3 ((e1.trans e2).trans e3) q3
   | true =>
    simp only [if_true] at q3 ⊢
    exact ⟨τ,J3,_,((a2.go r1 e1).go r2 e2).go r3 e3,q3,λw2 J4 u4 H4 r4 rr4 e4 q4=>lr' J4 H4 y w2 w u4 Q2 Q ((e3.trans e4).rep ry) r4 rr4 q4 λz' J' u' H' rz' rr' ee' qq=>k z' J' u' H' rz' rr' ((((e1.trans e2).trans e3).trans e4).trans ee') qq⟩⟩⟩
variable {a b c:Expr}
theorem HC {op op':CmpOp} {q q':n_} (ho:ni X (compareOp op) q) (ho':ni X (compareOp op') q') (ha:RE X G a ta) (hb:RE X G b tb) (hc:RE X G c tc) (hm:lastMarks [op,op'] [b,c]=false:=by with_unfolding_all rfl) :
  RE X G (.Compare a [op,op'] [b,c] pos) (yN q q' ta tb tc):=by
 obtain ⟨r,h,lr⟩:=ho
 obtain ⟨r',h',lr'⟩:=ho'
 exact ⟨kZ (G4 h h' ha.run hb.run hc.run hm) (Bb lr lr')⟩
def UN (K:VL) (a:Addr):It :=
 ⟨λi H=>∃xs x,dG K H a xs∧xs[i]?=some x,
  λi H z H'=>∃T x,H T=none∧z=.ref T∧H'=upd H T (.tup [.int (i:Nat),x])∧(∀xs,dG K H a xs→xs[i]?=some x),
  λi H=>∃xs,dG K H a xs∧xs.length≤i⟩
variable {elts:List Expr}
theorem Ff {x1} {e it l:Addr} (ne:e≠it) :
  Turn P w K (.Tuple elts x1 pos) (UN K l) [e,it] e (λi h=>(∃old,IsEnum h e it (i:Int) old)∧h.IsListIter it l i) where
 mem:=by simp
 obj:=λi h ⟨⟨old,he⟩,h1⟩ c hc=>by
  simp only [V2,WB,or_false] at hc
  rcases hc with rfl | rfl
  ·exact ⟨_,he,λv z=>by cases z⟩
  ·obtain ⟨o,e,c,d⟩:=h1;exact ⟨o,e,λv z=>by rw [d] at z;cases z⟩
 keep:=λi h h' ⟨⟨old,he⟩,h1⟩ k=>⟨⟨old,k e (by simp) _ he⟩,h1.at λo q=>k it (by simp) o q⟩
 item:=by
  intro X hP hw hK hc i pins s σ H E I hf st hg
  subst hP hw hK
  obtain ⟨⟨old,he⟩,h1⟩:=st
  obtain ⟨xs,x,hqx,hx⟩:=hg
  obtain ⟨its,rv,p,hzx⟩:=I.list hqx
  obtain ⟨u,hu,rx⟩:=rv.get hx
  refine wpAny_pyNext_enum_item he h1 p.isList (x:=u) (by simpa using hu) ne λh' a1 a3 a5 a6 hk=>?_
  refine ⟨_,rfl,wpAny_letOwnedTupleGo_enum a1 λh'' hz' hs'=>?_⟩
  have hT:H s.heap.objs.size=none:=I.hok.fresh (VT _)
  have lt:∀{c o},s.heap.get? c=some o→c≠s.heap.objs.size:=λe=>Wf (V4 e)
  have I0:Inv X pins σ (upd H s.heap.objs.size (.tup [.int (i:Nat),x])) { s with heap:=s.heap.push { cls:=.type "tuple",data:=.seq #[.int i s.toks,u] },toks:=s.toks + 1 }:=I.laid (t':=s.toks + 1) (λb u e=>VW _ e) (VT _) ⟨by simp [sizeLine],[.int i s.toks,u],.cons ⟨_,rfl⟩ (.cons rx .nil),⟨_,Wd _ rfl,rfl,_,rfl⟩⟩
  have fpn:∀b∈[e,it],b≠s.heap.objs.size:=λb hb=>by
   simp only [V2,WB,or_false] at hb
   rcases hb with rfl | rfl
   ·exact lt he
   ·obtain ⟨o,e,_⟩:=h1;exact lt e
  have fpu:∀b∈[e,it],n0 X pins (upd H s.heap.objs.size (.tup [.int (i:Nat),x])) b:=λb hb=>⟨by rw [aI (fpn b hb)];exact (hf b hb).1,(hf b hb).2⟩
  have I1:Inv X pins σ (upd H s.heap.objs.size (.tup [.int (i:Nat),x])) { s with heap:=h'',toks:=s.toks + 1 }:=Inv.DW (s:={ s with heap:=s.heap.push { cls:=.type "tuple",data:=.seq #[.int i s.toks,u] },toks:=s.toks + 1 }) (t':=s.toks + 1) (ch:=[e,it]) I0 (λb o hb eb=>by
   simp only [V2,WB,or_false,not_or] at hb
   rcases Heap.get?_push_cases eb with ⟨rfl,rfl⟩ | e'
   ·exact hs'.extBut _ _ hb.1 a5
   ·exact hs'.extBut _ _ hb.1 (hk b o hb.1 hb.2 e')) fpu
  refine ⟨.ref s.heap.objs.size,_,I1,rfl,⟨_,x,hT,rfl,rfl,λzs hq=>by rw [I.o9 hq hqx];exact hx⟩,⟨⟨_,by rw [Int.natCast_add];exact hz'⟩,a3.extBut hs'.extBut (Ne.symm ne)⟩,λb hb=>(fpu b hb).1⟩
 done:=by
  intro X hP hw hK hc i pins s σ H E I hf st hg
  subst hP hw hK
  obtain ⟨⟨old,he⟩,h1⟩:=st
  obtain ⟨xs,hqx,hl⟩:=hg
  obtain ⟨its,rv,p,hzx⟩:=I.list hqx
  have e1:=rv.length
  refine wpAny_pyNext_enum_end (I.ok.hd hc) he h1 p.isList (by rw [List.getElem?_toArray,XF];omega) λh' hk=>⟨rfl,I.DW (t':=s.toks) (ch:=[e,it]) (λb o hb e=>?_) hf⟩
  simp only [V2,WB,or_false,not_or] at hb
  exact hk b o hb.2 e
 self:=λ_ _ _ _ _ st h=>let ⟨⟨_,he⟩,_⟩:=st;wpAny_pyIter_enum he h
def Px (K:VL) (ta:TA):TI:=λσ H R=>ta σ H λvs H1=>∃a xs,vs=[.ref a]∧dG K H1 a xs∧R (UN K a) H1
theorem Kj {x1} {tp:Pos} {ta:TA} {p:Pos} (hg:Gl X "enumerate") (hm:X.mg "enumerate"=none) (ha:PA X [l] ta) (hs:starEach [l] X.env=(false,eval l X.env) :: starEach [] X.env:=by rfl) (hp:(backTo pos (starEach [] X.env)).any (·.1)=false:=by rfl):PI X (.Tuple elts x1 tp) (.Call (.Name "enumerate" p) [l] [] pos) (Px X.K ta):=by
 intro pins s σ H R I h
 refine Call_ (jW I hg hm PyProof.Rows.Boot.«enumerate» (PyProof.Rows.callWith_type1 (cn (ha pos pins s σ H _ I h) λus s1 ⟨vs,H1,I1,r1,q1⟩=>?_) hs hp))
 obtain ⟨a,xs,e,hqa,q⟩:=q1
 subst e
 cases r1 with
 | cons r rr =>
  cases rr
  cases r
  obtain ⟨its,rv,pl,hz⟩:=I1.list hqa
  refine call_enumerate_list pl.isList ?_
  intro h' b1 b2 b6 hk
  refine wpAny_pyIter_enum b1 ?_
  have ne:s1.heap.objs.size + 1≠s1.heap.objs.size:=Nat.succ_ne_self _
  refine ⟨_,_,_,_,H1,rfl,I1.kept (t':=s1.toks) hk,Ff ne,⟨⟨_,b1⟩,b2⟩,λc hc=>?_,q⟩
  have hc':s1.heap.objs.size≤c:=by
   simp only [V2,WB,or_false] at hc
   show @LE.le Nat _ _ _
   rcases hc with rfl | rfl
   ·exact Z2 _ _
   ·exact VT _
  exact I1.Bl hc' (I1.hok.fresh hc')
def zD (xs:List PV):List PV:=(WM xs.length).zipWith (λi x=>PV.tup [.int ((i:Nat):Int),x]) xs
theorem mM (xs:List PV):(zD xs).length=xs.length:=by unfold zD;simp
theorem wI (xs:List PV) (i:Nat) (x:PV) (h:xs[i]?=some x):(zD xs)[i]?=some (.tup [.int (i:Int),x]):=by
 unfold zD
 obtain ⟨hi,e⟩:=VO.mp h
 rw [List.getElem?_zipWith,Zz hi,h]
def U3 (ta:qm):tF:=λτ J R=>ta τ J λvs J1=>Dc vs λx=>yq (kK J1 x) λxs=>R ⟨zD xs,λJ'=>kK J' x=some xs⟩ J1
theorem KJ {x1} {tp:Pos} {ta:qm} {p:Pos} (hg:Gl X "enumerate") (hm:X.mg "enumerate"=none) (ha:RA X G [l] ta) (hs:starEach [l] X.env=(false,eval l X.env) :: starEach [] X.env:=by rfl) (hp:(backTo pos (starEach [] X.env)).any (·.1)=false:=by rfl) :
  RI X G (.Tuple elts x1 tp) (.Call (.Name "enumerate" p) [l] [] pos) (U3 ta):=⟨LM (Kj hg hm ha.run hs hp) λσ H R ⟨τ,J,R2,a2,h,k⟩=>⟨τ,J,_,a2,h,λvs J1 us H1 rs r1 e1 hh=>by
 obtain ⟨x,ev,hh⟩:=g7 hh;obtain ⟨xs,hx,q⟩:=fw hh
 subst ev
 obtain ⟨v,us',rfl,rv,e'⟩:=rs
 cases e'
 obtain ⟨a,ws,rfl,h1,h2⟩:=lL hx rv r1
 refine ⟨a,ws,rfl,h1,k _ J1 _ H1 ?_ r1 e1 q⟩
 have at_:∀J' H',Ext X.K J1 H1 J' H'→Rep X.K J' H'→kK J' x=some xs→∃vs,dG X.K H' a vs∧aP X.K J' H' xs vs:=λJ' H' e r o=>by
  obtain ⟨c,vs,eb,g1,g2⟩:=lL o (e.rep rv) r
  cases eb
  exact ⟨vs,g1,g2⟩
 exact {
  go:=λJ' H' e r o i hi=>by
   obtain ⟨vs,s,rs⟩:=at_ J' H' e r o
   rw [mM] at hi
   exact ⟨vs,vs[i]'(by rw [← rs.length];exact hi),s,by simp⟩
  yl:=λJ' H' e r o i hi v H2 y=>by
   obtain ⟨vs,s,rs⟩:=at_ J' H' e r o
   obtain ⟨T,z,hT,rfl,rfl,y1⟩:=y
   obtain ⟨c,ec,rc⟩:=rs.get' (y1 vs s)
   have sm:=cb.new hT (.tup [.int (i:Nat),z])
   have e2:=Ext.same (K:=X.K) (J:=J') sm
   refine ⟨.tup [.int (i:Int),c],wI _ _ _ ec,⟨T,[.int (i:Nat),z],rfl,.inl (.inl aL),e2.jN ⟨.int (i:Nat),_,rfl,rfl,z,_,rfl,rc,rfl⟩⟩,r.same sm,e2⟩
  stop:=λJ' H' e r o=>by
   obtain ⟨vs,s,rs⟩:=at_ J' H' e r o
   exact ⟨vs,s,by rw [mM,← rs.length];exact VT _⟩ }⟩⟩
theorem HF {v v':V} (h:RelV v u) (k:RelV v' u):v=v':=by
 cases v <;> cases v' <;> simp only [RelV] at h k <;> (first | (obtain ⟨t,rfl⟩:=h) | subst h) <;> (first | (obtain ⟨t',e⟩:=k;cases e;rfl) | (obtain ⟨t',e⟩:=k;cases e) | (cases k;rfl) | cases k)
open Classical in
def eT (K:VL) (H:Hp) (zs:List Py) (y:Py) (u:Value):Bool:=decide (∃z∈zs,∃v,RelV v u∧At K H z v∧gK z y=true)
theorem Pn (I:Inv X pins σ H s) {zs:List Py} {y z:Py} {v:V} (hz:z∈zs) (hc:∀z∈zs,∀z'∈zs,gK z z'=true→gK z y=gK z' y) (h:At X.K H z v) (r:RelV v u):eT X.K H zs y u=gK z y:=by
 unfold eT
 classical
 cases e:gK z y with
 | true=>exact decide_eq_true ⟨z,hz,v,r,h,e⟩
 | false =>
  refine decide_eq_false ?_
  rintro ⟨z',hz',v',r',h',e'⟩
  cases HF r r'
  have:=hc z' hz' z hz (At.one I h' h)
  rw [e',e] at this;cases this
theorem Bg (I:Inv X pins σ H s) {y:Py} {v':V} {u':Value} {A:Around} (k:At X.K H y v') (r':RelV v' u') (zs₀:List Py) (hc:∀z∈zs₀,∀z'∈zs₀,gK z z'=true→gK z y=gK z' y) :
  ∀{zs:List Py} {vs:List V} {us:List Value},(∀z∈zs,z∈zs₀)→sW X.K H zs vs→Vals vs us→(∀z∈zs,A.units + dep z < cLine)→(∀u∈us,SeqAt.EqAt A s u u' (eT X.K H zs₀ y u))∧us.any (eT X.K H zs₀ y)=zs.any λz=>gK z y
 | [],_,_,_,h,r,_=>by
  cases h
  cases r
  exact ⟨λu hu=>(by cases hu),rfl⟩
 | z :: zs,_,_,hs,⟨v,ws,e,h,hh⟩,r,hd=>by
  subst e
  cases r with
  | cons r1 r2 =>
   have ih:=Bg I k r' zs₀ hc (zs:=zs) (λz hz=>hs z (V5 _ hz)) hh r2 (λz hz=>hd z (V5 _ hz))
   have e1:=Pn I (hs z (by simp)) hc h r1
   refine ⟨λu hu=>?_,?_⟩
   ·rcases V2.mp hu with rfl | hu
    ·rw [e1];exact Pp I z y h k r1 r' (hd z (by simp))
    ·exact ih.1 u hu
   ·rw [Xx,Xx,e1,ih.2]
theorem mR:∀{xs:List PV} {z:Py},z∈dR xs→∃x∈xs,z=dw x
 | [],_,h=>by cases h
 | x :: xs,z,h=>by
  rcases V2.mp h with rfl | h
  ·exact ⟨x,by simp,rfl⟩
  ·obtain ⟨y,hy,e⟩:=mR h;exact ⟨y,V5 _ hy,e⟩
theorem wz (f:Py→Bool):∀xs:List PV,(dR xs).any f=xs.any λx=>f (dw x)
 | []=>rfl
 | x :: xs=>by show (f (dw x) || (dR xs).any f)=_;rw [wz f xs];rfl
structure ax where
 m:Rat
 h:Str
 f:Str
 deriving DecidableEq
def slt (a b:Str):Prop:=a.cps.toList < b.cps.toList
instance (a b:Str):Decidable (slt a b):=inferInstanceAs (Decidable (a.cps.toList < b.cps.toList))
def ax.lt (a b:ax):Bool:=if a.m=b.m then (if a.h=b.h then decide (slt a.f b.f) else decide (slt a.h b.h)) else decide (a.m < b.m)
theorem pV (a:Str):¬ slt a a:=List.lt_irrefl _
theorem qZ {a b c:Str} (h:slt a b) (k:slt b c):slt a c:=List.lt_trans h k
end
section
theorem Gz:∀(a b:List Nat),a≠b→a < b∨b < a
 | [],[],h=>absurd rfl h
 | [],_ :: _,_=>.inl (Z3 _ _)
 | _ :: _,[],_=>.inr (Z3 _ _)
 | x :: a,y :: b,h=>by
  rcases ZR x y with z | z | z
  ·exact .inl (Xv.mpr (.inl z))
  ·subst z
   rcases Gz a b (λe=>h (by rw [e])) with q | q
   ·exact .inl (Xv.mpr (.inr ⟨rfl,q⟩))
   ·exact .inr (Xv.mpr (.inr ⟨rfl,q⟩))
  ·exact .inr (Xv.mpr (.inl z))
theorem y8 {a b:Str} (h:a≠b):slt a b∨slt b a:=by
 have ne:a.cps.toList≠b.cps.toList:=λe=>h (by cases a;cases b;simp at e;rw [e])
 exact Gz _ _ ne
theorem Oc {a b:Str} (h:slt a b):a≠b:=λe=>by subst e;exact pV _ h
theorem ax.lt_iff (a b:ax):a.lt b=true↔a.m < b.m∨(a.m=b.m∧(slt a.h b.h∨(a.h=b.h∧slt a.f b.f))):=by
 unfold ax.lt
 by_cases e:a.m=b.m
 ·rw [if_pos e]
  have n:¬ a.m < b.m:=by rw [e];exact Xm
  by_cases k:a.h=b.h
  ·rw [if_pos k]
   have n2:¬ slt a.h b.h:=λz=>Oc z k
   simp [e,k,n,n2]
   try (intro z;first | exact absurd z Xm | exact absurd z (pV _))
  ·rw [if_neg k]
   simp [e,k]
   try (intro z;exact absurd z Xm)
 ·rw [if_neg e]
  simp [e]
theorem ax.Nk (a:ax):a.lt a=false:=by
 cases h:a.lt a with
 | false=>rfl
 | true =>
  rcases (ax.lt_iff a a).mp h with h | ⟨_,h | ⟨_,h⟩⟩
  ·exact absurd h Xm
  ·exact absurd h (pV _)
  ·exact absurd h (pV _)
theorem xf {a b c:Rat} (h:a < b) (k:b < c):a < c:=by grind
variable {b:ax}
theorem ax.lt_trans {a c:ax} (h:a.lt b=true) (k:b.lt c=true):a.lt c=true:=by
 rw [ax.lt_iff] at *
 rcases h with h | ⟨e,h⟩ <;> rcases k with k | ⟨e',k⟩
 ·exact .inl (xf h k)
 ·exact .inl (e' ▸ h)
 ·exact .inl (e ▸ k)
 ·refine .inr ⟨e.trans e',?_⟩
  rcases h with h | ⟨z,h⟩ <;> rcases k with k | ⟨z',k⟩
  ·exact .inl (qZ h k)
  ·exact .inl (z' ▸ h)
  ·exact .inl (z ▸ k)
  ·exact .inr ⟨z.trans z',qZ h k⟩
theorem ax.Gs {a:ax} (h:a≠b):a.lt b=true∨b.lt a=true:=by
 rw [ax.lt_iff,ax.lt_iff]
 by_cases e:a.m=b.m
 ·by_cases z:a.h=b.h
  ·have:a.f≠b.f:=λq=>h (by cases a;cases b;simp_all)
   rcases y8 this with q | q
   ·exact .inl (.inr ⟨e,.inr ⟨z,q⟩⟩)
   ·exact .inr (.inr ⟨e.symm,.inr ⟨z.symm,q⟩⟩)
  ·rcases y8 z with q | q
   ·exact .inl (.inr ⟨e,.inl q⟩)
   ·exact .inr (.inr ⟨e.symm,.inl q⟩)
 ·rcases (by grind:a.m < b.m∨b.m < a.m) with q | q
  ·exact .inl (.inl q)
  ·exact .inr (.inl q)
def iF (l:List ax):Prop:=l.Pairwise λa b=>a.lt b=true
def lH (b:ax) (l:List ax):List ax:=l.filter (λx=>x.lt b) ++ b :: l.filter (λx=>!x.lt b)
def xh (h f:Str) (x:ax):Bool:=decide (x.h=h∧x.f=f)
def dQ (h f:Str) (l:List ax):List ax:=l.filter λx=>!xh h f x
variable {l:List ax}
theorem wH {h f:Str} (s:iF l):iF (dQ h f l):=s.filter _
theorem zI (s:iF l) (n:∀x∈l,x≠b):iF (lH b l):=by
 unfold lH iF
 rw [XD]
 refine ⟨s.filter _,?_,?_⟩
 ·rw [XU]
  refine ⟨λy hy=>?_,s.filter _⟩
  rw [V8] at hy
  rcases ax.Gs (n y hy.1) with q | q
  ·simp [q] at hy
  ·exact q
 ·intro x hx y hy
  rw [V8] at hx
  rcases V2.mp hy with rfl | hy
  ·exact hx.2
  ·rw [V8] at hy
   rcases ax.Gs (n y hy.1) with q | q
   ·simp [q] at hy
   ·exact ax.lt_trans hx.2 q
theorem Jm {h f:Str} {m:Rat}:∀x∈dQ h f l,x≠⟨m,h,f⟩:=λx hx e=>by
 subst e
 unfold dQ at hx
 rw [V8] at hx
 simp [xh] at hx
theorem w9 (p:ax→Bool):∀{l:List ax} {i:Nat},i≤l.length→(∀(j:Nat) x,j < i→l[j]?=some x→p x=true)→(∀(j:Nat) x,i≤j→l[j]?=some x→p x=false)→l.take i ++ l.drop i=l∧l.filter p=l.take i∧l.filter (λx=>!p x)=l.drop i
 | l,0,_,_,h=>by
  refine ⟨by simp,?_,?_⟩
  ·rw [X4]
   apply YS.mpr
   intro x hx
   obtain ⟨j,hj⟩:=Wv.mp hx
   rw [h j x (Ww _) hj];simp
  ·rw [Yw]
   apply Wx.mpr
   intro x hx
   obtain ⟨j,hj⟩:=Wv.mp hx
   rw [h j x (Ww _) hj];rfl
 | [],i + 1,hi,_,_=>by simp at hi
 | x :: l,i + 1,hi,h1,h2=>by
  obtain ⟨a,b,c⟩:=w9 p (l:=l) (i:=i) (by simpa using hi) (λj y hj e=>h1 (j + 1) y (by omega) (by simpa using e)) (λj y hj e=>h2 (j + 1) y (by omega) (by simpa using e))
  have hx:p x=true:=h1 0 x (by omega) rfl
  refine ⟨by simp,?_,?_⟩
  ·rw [Wu,hx];simp [b]
  ·rw [Wu,hx];simp [c]
variable {i:Nat}
theorem CZ (hi:i≤l.length) (h1:∀(j:Nat) x,j < i→l[j]?=some x→x.lt b=true) (h2:∀(j:Nat) x,i≤j→l[j]?=some x→x.lt b=false):l.take i ++ b :: l.drop i=lH b l:=by
 obtain ⟨_,e1,e2⟩:=w9 (λx=>x.lt b) hi h1 h2
 unfold lH
 rw [e1,e2]
variable {x:ax}
theorem DU {y:ax} {j:Nat} (s:iF l) (hx:l[i]?=some x) (hy:l[j]?=some y) (h:j≤i) (k:x.lt b=true):y.lt b=true:=by
 rcases XW h with h | h
 ·obtain ⟨hi,ei⟩:=VO.mp hx
  obtain ⟨hj,ej⟩:=VO.mp hy
  have:=W3.mp s j i hj hi h
  rw [ei,ej] at this
  exact ax.lt_trans this k
 ·subst h;rw [hx] at hy;cases hy;exact k
theorem AE {y:ax} {j:Nat} (s:iF l) (hx:l[i]?=some x) (hy:l[j]?=some y) (h:i≤j) (k:x.lt b=false):y.lt b=false:=by
 cases q:y.lt b with
 | false=>rfl
 | true=>rw [DU s hy hx h q] at k;cases k
theorem F7 (h:x∈lH b l):x=b∨x∈l:=by
 unfold lH at h
 rcases VY.mp h with h | h
 ·exact .inr (V8.mp h).1
 ·rcases V2.mp h with h | h
  ·exact .inl h
  ·exact .inr (V8.mp h).1
theorem oY (p:ax→Bool):∀l:List ax,(l.filter p).length + (l.filter λx=>!p x).length=l.length
 | []=>rfl
 | x :: l=>by
  have:=oY p l
  cases h:p x <;> simp [h] <;> omega
theorem tS (b:ax) (l:List ax):(lH b l).length=l.length + 1:=by
 unfold lH
 rw [VZ,V_]
 have:=oY (λx=>x.lt b) l
 omega
theorem qv (h f:Str) (l:List ax):(dQ h f l).length≤l.length:=WH _ _
structure bQ where
 m:Rat
 p:Rat
 v:Int
 deriving DecidableEq
def bQ.at (l:bQ) (t:Rat):Rat:=l.p + (t - l.m) * l.v
def turned (rows:List bQ) (t:Rat) (v:Int):List bQ :=
 match rows.getLast? with
 | none=>[]
 | some l =>
  let rest:=if l.m=t then rows.dropLast else rows
  if rest.getLast?.map bQ.v=some v then rest else rest ++ [⟨t,l.at t,v⟩]
theorem mD (ls:List bQ) (l:bQ) (t:Rat) (v:Int):turned (ls ++ [l]) t v =
  if l.m=t then (if ls.getLast?.map bQ.v=some v then ls else ls ++ [⟨t,l.at t,v⟩]) else (if l.v=v then ls ++ [l] else ls ++ [l] ++ [⟨t,l.at t,v⟩]):=by
 unfold turned
 simp only [Wl,W0]
 split
 ·rfl
 ·simp only [Wl,Xu,Option.some.injEq]
variable {t:Rat} {rows:List bQ}
theorem OT {v:Int} (h:rows≠[]):turned rows t v≠[]:=by
 obtain ⟨ls,l,rfl⟩:∃ls l,rows=ls ++ [l]:=⟨rows.dropLast,rows.getLast h,(W7 h).symm⟩
 rw [mD]
 split
 ·split
  ·rename_i e
   intro z;subst z;cases e
  ·simp
 ·split <;> simp
theorem OA {v:Int} {x:bQ} (h:x∈turned rows t v):x∈rows∨∃l∈rows,x=⟨t,l.at t,v⟩:=by
 by_cases e:rows=[]
 ·subst e;cases h
 obtain ⟨ls,l,rfl⟩:∃ls l,rows=ls ++ [l]:=⟨rows.dropLast,rows.getLast e,(W7 e).symm⟩
 rw [mD] at h
 have key:∀{y:List bQ},(∀z∈y,z∈ls ++ [l])→x∈y ++ [⟨t,l.at t,v⟩]→x∈ls ++ [l]∨∃l'∈ls ++ [l],x=⟨t,l'.at t,v⟩:=λhy hx=>by
  rcases VY.mp hx with h | h
  ·exact .inl (hy _ h)
  ·exact .inr ⟨l,by simp,by simpa using h⟩
 split at h
 ·split at h
  ·exact .inl (VY.mpr (.inl h))
  ·exact key (λz hz=>VY.mpr (.inl hz)) h
 ·split at h
  ·exact .inl h
  ·exact key (λz hz=>hz) h
theorem Oz (rows:List bQ) (t:Rat) (v:Int):(turned rows t v).length≤rows.length + 1:=by
 by_cases e:rows=[]
 ·subst e;simp [turned]
 obtain ⟨ls,l,rfl⟩:∃ls l,rows=ls ++ [l]:=⟨rows.dropLast,rows.getLast e,(W7 e).symm⟩
 rw [mD]
 split <;> split <;> simp <;> omega
def gX (rows:List bQ) (t:Rat):Option bQ:=(rows.filter λl=>decide (l.m≤t)).getLast?
def lb (ms:List Rat) (t:Rat):Nat→Nat
 | 0=>0
 | k + 1=>if ms.getD k 0≤t then k + 1 else lb ms t k
theorem Lx (ms:List Rat) (t:Rat):∀k,lb ms t k≤k
 | 0=>VT _
 | k + 1=>by unfold lb;split;exact VT _;exact YE (Lx ms t k)
theorem Gk {ms:List Rat} {t:Rat} {j:Nat} (h:ms.getD j 0≤t):∀{k},j < k→0 < lb ms t k
 | 0,hk=>absurd hk (Ye _)
 | k + 1,hk=>by
  unfold lb
  split
  ·exact Nat.succ_pos _
  ·rename_i c
   exact Gk h (by rcases Nat.lt_succ_iff_lt_or_eq.mp hk with e | e;exact e;subst e;exact absurd h c)
theorem C7 (t:Rat) (rows:List bQ):∀k,k≤rows.length→((rows.take k).filter λl=>decide (l.m≤t)).getLast?=if lb (rows.map bQ.m) t k=0 then none else rows[lb (rows.map bQ.m) t k - 1]?
 | 0,_=>rfl
 | k + 1,hk=>by
  have hk':k < rows.length:=by omega
  have e:rows.take (k + 1)=rows.take k ++ [rows[k]]:=by rw [V',VN hk'];rfl
  have em:(rows.map bQ.m).getD k 0=rows[k].m:=by simp [List.getD,hk']
  rw [e,Ys]
  unfold lb
  rw [em]
  by_cases c:rows[k].m≤t
  ·rw [if_pos c,Wu,if_pos (decide_eq_true c),Y4,Wl,if_neg (Nat.succ_ne_zero _),Nat.add_sub_cancel,VN hk']
  ·rw [if_neg c,Wu,if_neg (by simp [c]),Y4,WX]
   exact C7 t rows k (by omega)
theorem Gp (rows:List bQ) (t:Rat):gX rows t=if lb (rows.map bQ.m) t rows.length=0 then none else rows[lb (rows.map bQ.m) t rows.length - 1]?:=by
 have:=C7 t rows rows.length (VT _)
 rw [Wg] at this
 exact this
def So (g:Option Rat) (t:Rat):Bool:=match g with | none=>true | some q=>decide (t < q)
def there (rows:List bQ) (g:Option Rat) (t:Rat):Bool :=
 match rows.head? with
 | none=>false
 | some l=>!decide (t < l.m) && So g t
theorem AH {g:Option Rat} (h:there rows g t=true):∃l,gX rows t=some l∧l∈rows∧l.m≤t∧0 < lb (rows.map bQ.m) t rows.length∧rows[lb (rows.map bQ.m) t rows.length - 1]?=some l:=by
 cases rows with
 | nil=>cases h
 | cons l0 ls =>
  have h0:l0.m≤t:=by
   unfold there at h
   simp only [Za,Wt,ZP,decide_eq_false_iff_not] at h
   exact Xq.mp h.1
  have hp:0 < lb ((l0 :: ls).map bQ.m) t (l0 :: ls).length:=Gk (j:=0) (by simpa using h0) (by simp)
  have hle:=Lx ((l0 :: ls).map bQ.m) t (l0 :: ls).length
  have hx:=Gp (l0 :: ls) t
  rw [if_neg (by omega)] at hx
  obtain ⟨l,hl⟩:∃l,(l0 :: ls)[lb ((l0 :: ls).map bQ.m) t (l0 :: ls).length - 1]?=some l:=⟨_,VN (by omega)⟩
  rw [hl] at hx
  have hm:=List.mem_of_getLast? hx
  rw [V8] at hm
  exact ⟨l,hx,hm.1,of_decide_eq_true hm.2,hp,hl⟩
def Sc (D A:Nat) (q:Rat):Prop:=∃a:Int,q * (D:Rat)=(a:Rat)∧a.natAbs≤A
variable {q:Rat}
theorem Sc.mono {D A B:Nat} (h:Sc D A q) (k:A≤B):Sc D B q:=let ⟨a,e,l⟩:=h;⟨a,e,V6 l k⟩
theorem Qg {D:Nat} (h:0 < D):(D:Rat)≠0:=by
 intro e
 have:D=0:=by exact_mod_cast e
 omega
theorem Sc.sz {D A n:Nat} (h:Sc D A q) (hD:0 < D) (h1:D < 2 ^ n) (h2:A < 2 ^ n):Sz n q:=by
 obtain ⟨a,e,l⟩:=h
 have nz:=Qg hD
 have:q=Wm a (D:Int):=by
  rw [WV,← e]
  have:((D:Int):Rat)=(D:Rat):=rfl
  rw [this]
  generalize (D:Rat)=d at nz ⊢
  grind
 rw [this]
 exact Sz.div ⟨Wn l h2⟩ ⟨by simpa using h1⟩ (by omega)
theorem Sc.scale {D A E:Nat} {p:Rat} (h:Sc D A p):Sc (E * D) (E * A) p:=by
 obtain ⟨a,e,l⟩:=h
 refine ⟨E * a,?_,?_⟩
 ·rw [Wk,← e]
  have h1:((E * D:Nat):Rat)=(E:Rat) * (D:Rat):=Z' ..
  have h2:((E:Int):Rat)=(E:Rat):=rfl
  rw [h1,h2]
  grind
 ·rw [Zp];exact Nat.mul_le_mul (by simp) l
theorem Sc.Nm {D A:Nat} {t:Int} {b:Nat} (hb:0 < b) (hd:b ∣ D) (hA:t.natAbs * (D / b)≤A):Sc D A (Wm t b):=by
 obtain ⟨c,rfl⟩:=hd
 rw [YK _ hb] at hA
 refine ⟨t * c,?_,by rw [Zp];simpa using hA⟩
 have nb:=Qg hb
 have e1:((b:Int):Rat)=(b:Rat):=rfl
 have e2:((c:Int):Rat)=(c:Rat):=rfl
 rw [WV,Wk,e1,e2,Z']
 generalize (b:Rat)=b at nb ⊢
 grind
def jv:Nat:=9690712164777231700912800
theorem U_:∀b:Nat,1≤b→b≤60→b ∣ jv:=by
 intro b h1 h2
 have:∀b:Fin 61,1≤b.val→b.val ∣ jv:=by decide
 exact this ⟨b,by omega⟩ h1
theorem x5:0 < jv:=by decide
def MM:Nat:=2097152 * jv
structure Vq (D k:Nat) (l:bQ):Prop where
 m:Sc jv MM l.m
 p:Sc (D * jv) (jv * 2 ^ 101 + k * (2000 * (D * MM))) l.p
 v:l.v.natAbs≤1000
theorem Qf:MM < 2 ^ 106:=by decide
theorem tY (h:Sc jv MM q):Sz 106 q:=h.sz x5 (by decide) Qf
structure Gd (D k:Nat) (rows:List bQ):Prop where
 ne:rows≠[]
 ok:∀l∈rows,Vq D k l
 len:rows.length≤k + 1
def Later (c q:Rat):Prop:=q=c∨∃u s:Nat,1≤u∧u≤60∧1≤s∧s≤500 * u∧q=Wm ((c.num * u).fdiv c.den + s) u
theorem Later.sc {c:Rat} {A:Nat} (h:Later c q) (k:Sc jv A c):Sc jv (A + 501 * jv) q:=by
 rcases h with rfl | ⟨u,s,h1,h2,h3,h4,rfl⟩
 ·exact k.mono (Z2 _ _)
 obtain ⟨a,e,l⟩:=k
 obtain ⟨w,hw⟩:=U_ u h1 h2
 refine Sc.Nm (by omega) ⟨w,hw⟩ ?_
 have ew:jv / u=w:=by rw [hw,YK _ (by omega)]
 rw [ew]
 have hf:((c.num * u).fdiv c.den) * c.den≤c.num * u∧c.num * u < ((c.num * u).fdiv c.den + 1) * c.den:=by
  rw [Wr _ (by omega)]
  have:=fu c
  constructor
  ·exact Int.ediv_mul_le _ (by omega)
  ·have:=X_ (c.num * u) this;exact this
 have ea:c.num * (jv:Int)=a * c.den:=by
  have h1:=cast_eq c
  have h2:=dU c
  have h3:((jv:Nat):Rat)=(((jv:Nat):Int):Rat):=rfl
  have:((c.num * (jv:Int):Int):Rat)=((a * c.den:Int):Rat):=by
   rw [Wk,Wk,h1,← e,h3]
   grind
  exact_mod_cast this
 have hL:(jv:Int)=u * w:=by rw [hw];simp
 have hw0:0 < w:=by
  rcases Nat.eq_zero_or_pos w with z | z
  ·rw [z,Nat.mul_zero] at hw;exact absurd hw (by decide)
  ·exact z
 rw [hL] at ea
 have hd:=fu c
 generalize hF:(c.num * u).fdiv c.den=F at hf ⊢
 generalize hN:c.num=N at *
 generalize hDD:(c.den:Int)=d at *
 have g1:F * w≤a:=by
  have:F * w * d≤a * d:=by
   rw [← ea]
   have:=Xh hf.1 (show (0:Int)≤w by omega)
   calc F * w * d=F * d * w:=by rw [ZK]
    _≤N * u * w:=this
    _=N * (u * w):=Int.mul_assoc ..
  exact Yj this hd
 have g2:a≤(F + 1) * w:=by
  have:a * d≤(F + 1) * w * d:=by
   rw [← ea]
   have:=Xh (Int.le_of_lt hf.2) (show (0:Int)≤w by omega)
   calc N * (u * w)=N * u * w:=(Int.mul_assoc ..).symm
    _≤(F + 1) * d * w:=this
    _=(F + 1) * w * d:=by rw [ZK]
  exact Yj this hd
 have hsw:s * w≤500 * (u * w):=by
  calc s * w≤500 * u * w:=Nat.mul_le_mul_right _ h4
   _=500 * (u * w):=Nat.mul_assoc ..
 have huw:w≤u * w:=Nat.le_mul_of_pos_left _ (by omega)
 rw [hw]
 have:(F + s).natAbs * w=((F + s) * w).natAbs:=by rw [Zp];simp
 rw [this,Int.add_mul]
 rw [Int.add_mul,Int.one_mul] at g2
 have hsw':(s:Int) * w≤500 * ((u * w:Nat):Int):=by exact_mod_cast hsw
 generalize F * (w:Int)=x at *
 have hs0:(0:Int)≤(s:Int) * w:=Int.mul_nonneg (by omega) (by omega)
 generalize (s:Int) * w=y at *
 generalize u * w=z at *
 omega
theorem Later.le {c:Rat} (h:Later c q):c≤q:=by
 rcases h with rfl | ⟨u,s,h1,h2,h3,h4,rfl⟩
 ·exact aaa
 have hf:c.num * u < ((c.num * u).fdiv c.den + 1) * c.den:=by
  rw [Wr _ (by omega)]
  exact X_ (c.num * u) (fu c)
 generalize (c.num * u).fdiv c.den=F at hf ⊢
 have h5:c.num * u≤(F + s) * c.den:=by
  have:(F + 1) * c.den≤(F + s) * c.den:=Xh (by omega) (by omega)
  omega
 have hu:(0:Rat) < (u:Rat):=by exact_mod_cast (show 0 < u by omega)
 have hd:(0:Rat) < ((c.den:Int):Rat):=by exact_mod_cast fu c
 refine Xq.mp λhlt=>?_
 rw [WV] at hlt
 have e1:((u:Int):Rat)=(u:Rat):=rfl
 rw [e1,Rat.div_lt_iff hu] at hlt
 have h6:=Rat.mul_lt_mul_of_pos_right hlt hd
 have e2:c * (u:Rat) * ((c.den:Int):Rat)=((c.num * u:Int):Rat):=by
  rw [Wk,cast_eq c,e1];grind
 rw [e2,← Wk] at h6
 have h7:(F + s) * c.den < c.num * u:=by exact_mod_cast h6
 omega
section
variable {α:Type} {lt:α→α→Bool}
def sf (lt:α→α→Bool) (b:α) (l:List α):List α:=l.filter (λx=>lt x b) ++ b :: l.filter (λx=>!lt x b)
def r8 (lt:α→α→Bool) (l:List α):Prop:=l.Pairwise λa b=>lt a b=true
theorem GZ (p:α→Bool):∀{l:List α} {i:Nat},i≤l.length→(∀(j:Nat) x,j < i→l[j]?=some x→p x=true)→(∀(j:Nat) x,i≤j→l[j]?=some x→p x=false)→l.filter p=l.take i∧l.filter (λx=>!p x)=l.drop i
 | l,0,_,_,h=>by
  refine ⟨?_,?_⟩
  ·rw [X4]
   apply YS.mpr
   intro x hx
   obtain ⟨j,hj⟩:=Wv.mp hx
   rw [h j x (Ww _) hj];simp
  ·rw [Yw]
   apply Wx.mpr
   intro x hx
   obtain ⟨j,hj⟩:=Wv.mp hx
   rw [h j x (Ww _) hj];rfl
 | [],i + 1,hi,_,_=>by simp at hi
 | x :: l,i + 1,hi,h1,h2=>by
  obtain ⟨b,c⟩:=GZ p (l:=l) (i:=i) (by simpa using hi) (λj y hj e=>h1 (j + 1) y (by omega) (by simpa using e)) (λj y hj e=>h2 (j + 1) y (by omega) (by simpa using e))
  have hx:p x=true:=h1 0 x (by omega) rfl
  refine ⟨?_,?_⟩
  ·rw [Wu,hx];simp [b]
  ·rw [Wu,hx];simp [c]
theorem C0 {b:α} {l:List α} {i:Nat} (hi:i≤l.length) (h1:∀(j:Nat) x,j < i→l[j]?=some x→lt x b=true) (h2:∀(j:Nat) x,i≤j→l[j]?=some x→lt x b=false):l.take i ++ b :: l.drop i=sf lt b l:=by
 obtain ⟨e1,e2⟩:=GZ (λx=>lt x b) hi h1 h2
 unfold sf
 rw [e1,e2]
theorem zJ {b x:α} {l:List α}:x∈sf lt b l↔x=b∨x∈l:=by
 unfold sf
 rw [VY,V2,V8,V8]
 constructor
 ·rintro (h | h | h)
  ·exact .inr h.1
  ·exact .inl h
  ·exact .inr h.1
 ·rintro (h | h)
  ·exact .inr (.inl h)
  ·cases e:lt x b
   ·exact .inr (.inr ⟨h,by simp⟩)
   ·exact .inl ⟨h,rfl⟩
theorem F8 (b:α) (l:List α):(sf lt b l).length=l.length + 1:=by
 unfold sf
 rw [VZ,V_]
 have:∀l:List α,(l.filter λx=>lt x b).length + (l.filter λx=>!lt x b).length=l.length:=by
  intro l
  induction l with
  | nil=>rfl
  | cons x l ih=>cases h:lt x b <;> simp [h] <;> omega
 have:=this l
 omega
theorem F9 (tr:∀{a b c},lt a b=true→lt b c=true→lt a c=true) {b:α} {l:List α} (s:r8 lt l) (R3:∀x∈l,lt x b=true∨lt b x=true):r8 lt (sf lt b l):=by
 unfold sf r8
 rw [XD]
 refine ⟨s.filter _,?_,?_⟩
 ·rw [XU]
  refine ⟨λy hy=>?_,s.filter _⟩
  rw [V8] at hy
  rcases R3 y hy.1 with q | q
  ·simp [q] at hy
  ·exact q
 ·intro x hx y hy
  rw [V8] at hx
  rcases V2.mp hy with rfl | hy
  ·exact hx.2
  ·rw [V8] at hy
   rcases R3 y hy.1 with q | q
   ·simp [q] at hy
   ·exact tr hx.2 q
theorem AD (tr:∀{a b c},lt a b=true→lt b c=true→lt a c=true) {l:List α} {b x y:α} {i j:Nat} (s:r8 lt l) (hx:l[i]?=some x) (hy:l[j]?=some y) (h:j≤i) (k:lt x b=true):lt y b=true:=by
 rcases XW h with h | h
 ·obtain ⟨hi,ei⟩:=VO.mp hx
  obtain ⟨hj,ej⟩:=VO.mp hy
  have:=W3.mp s j i hj hi h
  rw [ei,ej] at this
  exact tr this k
 ·subst h;rw [hx] at hy;cases hy;exact k
theorem Fb (tr:∀{a b c},lt a b=true→lt b c=true→lt a c=true) {l:List α} {b x y:α} {i j:Nat} (s:r8 lt l) (hx:l[i]?=some x) (hy:l[j]?=some y) (h:i≤j) (k:lt x b=false):lt y b=false:=by
 cases q:lt y b with
 | false=>rfl
 | true=>have:=AD (lt:=lt) (b:=b) tr s hy hx h q;rw [this] at k;cases k
theorem uV (Js:∀a,lt a a=false) (tr:∀{a b c},lt a b=true→lt b c=true→lt a c=true):∀{l k:List α},r8 lt l→r8 lt k→(∀x,x∈l↔x∈k)→l=k
 | [],[],_,_,_=>rfl
 | [],y :: k,_,_,h=>by have:=(h y).mpr V9;cases this
 | x :: l,[],_,_,h=>by have:=(h x).mp V9;cases this
 | x :: l,y :: k,hl,hk,h=>by
  obtain ⟨a1,a2⟩:=XU.mp hl
  obtain ⟨b1,b2⟩:=XU.mp hk
  have exy:x=y:=by
   rcases V2.mp ((h x).mp V9) with e | e
   ·exact e
   ·rcases V2.mp ((h y).mpr V9) with e' | e'
    ·exact e'.symm
    ·have:=tr (a1 y e') (b1 x e)
     rw [Js] at this;cases this
  subst exy
  rw [uV Js tr a2 b2 λz=>?_]
  constructor
  ·intro hz
   rcases V2.mp ((h z).mp (V5 _ hz)) with e | e
   ·have:=a1 z hz;rw [e,Js] at this;cases this
   ·exact e
  ·intro hz
   rcases V2.mp ((h z).mpr (V5 _ hz)) with e | e
   ·have:=b1 z hz;rw [e,Js] at this;cases this
   ·exact e
end
structure Ky where
 p:Rat
 v:Int
 n:Str
 deriving DecidableEq
def Ky.lt (a b:Ky):Bool:=if a.p=b.p then (if a.v=b.v then decide (slt a.n b.n) else decide (a.v < b.v)) else decide (a.p < b.p)
theorem Ky.lt_iff (a b:Ky):a.lt b=true↔a.p < b.p∨(a.p=b.p∧(a.v < b.v∨(a.v=b.v∧slt a.n b.n))):=by
 unfold Ky.lt
 by_cases e:a.p=b.p
 ·rw [if_pos e]
  have n:¬ a.p < b.p:=by rw [e];exact Xm
  by_cases k:a.v=b.v
  ·rw [if_pos k,decide_eq_true_eq]
   have n2:¬ a.v < b.v:=by omega
   exact ⟨λh=>.inr ⟨e,.inr ⟨k,h⟩⟩,λh=>by
    rcases h with h | ⟨_,h | h⟩
    ·exact absurd h n
    ·exact absurd h n2
    ·exact h.2⟩
  ·rw [if_neg k,decide_eq_true_eq]
   exact ⟨λh=>.inr ⟨e,.inl h⟩,λh=>by
    rcases h with h | ⟨_,h | h⟩
    ·exact absurd h n
    ·exact h
    ·exact absurd h.1 k⟩
 ·rw [if_neg e,decide_eq_true_eq]
  exact ⟨.inl,λh=>by
   rcases h with h | h
   ·exact h
   ·exact absurd h.1 e⟩
theorem Ky.Js (a:Ky):a.lt a=false:=by
 cases h:a.lt a with
 | false=>rfl
 | true =>
  rcases (Ky.lt_iff a a).mp h with h | ⟨_,h | ⟨_,h⟩⟩
  ·exact absurd h Xm
  ·omega
  ·exact absurd h (pV _)
theorem Ky.tr {a b c:Ky} (h:a.lt b=true) (k:b.lt c=true):a.lt c=true:=by
 rw [Ky.lt_iff] at *
 rcases h with h | ⟨e,h⟩ <;> rcases k with k | ⟨e',k⟩
 ·exact .inl (xf h k)
 ·exact .inl (e' ▸ h)
 ·exact .inl (e ▸ k)
 ·refine .inr ⟨e.trans e',?_⟩
  rcases h with h | ⟨z,h⟩ <;> rcases k with k | ⟨z',k⟩
  ·exact .inl (by omega)
  ·exact .inl (by omega)
  ·exact .inl (by omega)
  ·exact .inr ⟨z.trans z',qZ h k⟩
theorem Ky.R3 {a b:Ky} (h:a.n≠b.n):a.lt b=true∨b.lt a=true:=by
 rw [Ky.lt_iff,Ky.lt_iff]
 by_cases e:a.p=b.p
 ·by_cases z:a.v=b.v
  ·rcases y8 h with q | q
   ·exact .inl (.inr ⟨e,.inr ⟨z,q⟩⟩)
   ·exact .inr (.inr ⟨e.symm,.inr ⟨z.symm,q⟩⟩)
  ·rcases (by omega:a.v < b.v∨b.v < a.v) with q | q
   ·exact .inl (.inr ⟨e,.inl q⟩)
   ·exact .inr (.inr ⟨e.symm,.inl q⟩)
 ·rcases (by grind:a.p < b.p∨b.p < a.p) with q | q
  ·exact .inl (.inl q)
  ·exact .inr (.inl q)
theorem Ky.O_ {a b:Ky} (h:a.lt b=true):b.lt a=false:=by
 cases k:b.lt a with
 | false=>rfl
 | true=>have:=Ky.tr h k;rw [Ky.Js] at this;cases this
def fm (ks:List Ky):List Ky:=ks.foldl (λacc x=>sf Ky.lt x acc) []
theorem jG (ks:List Ky) (x:Ky):fm (ks ++ [x])=sf Ky.lt x (fm ks):=by unfold fm;rw [WN];rfl
theorem snoc_ind {α:Type} {p:List α→Prop} (h0:p []) (h1:∀l x,p l→p (l ++ [x])) (l:List α):p l:=by
 have:∀l:List α,p l.reverse:=by
  intro l
  induction l with
  | nil=>exact h0
  | cons x l ih=>rw [List.reverse_cons];exact h1 _ _ ih
 have:=this l.reverse
 rwa [List.reverse_reverse] at this
theorem e9 {α:Type} {l:List α} {x:α} (h:(l ++ [x]).Nodup):l.Nodup∧x ∉ l:=by
 rw [WC] at h
 exact ⟨h.1,λhm=>h.2.2 x hm x (by simp) rfl⟩
theorem cx:∀(ks:List Ky) (x:Ky),x∈fm ks↔x∈ks:=by
 intro ks
 refine snoc_ind (p:=λks=>∀x:Ky,x∈fm ks↔x∈ks) (λx=>by simp [fm]) (λks y ih x=>?_) ks
 rw [jG,zJ,ih,VY,VV]
 exact Or.comm
variable {ks:List Ky}
theorem g_ (h:(ks.map Ky.n).Nodup):r8 Ky.lt (fm ks):=by
 revert h
 refine snoc_ind (p:=λks=>(ks.map Ky.n).Nodup→r8 Ky.lt (fm ks)) (λ_=>List.Pairwise.nil) (λks y ih h=>?_) ks
 ·rw [VP,VR,Wj] at h
  obtain ⟨h1,h2⟩:=e9 h
  rw [jG]
  refine F9 (lt:=Ky.lt) Ky.tr (ih h1) λx hx=>Ky.R3 λe=>h2 ?_
  rw [← e]
  exact Yg ((cx ks x).mp hx)
theorem pw (ks:List Ky):(fm ks).length=ks.length:=by
 refine snoc_ind (p:=λks=>(fm ks).length=ks.length) rfl (λks y ih=>?_) ks
 rw [jG,F8,ih,VZ];rfl
theorem GV {js:List Ky} (h:(ks.map Ky.n).Nodup) (k:(js.map Ky.n).Nodup) (e:∀x,x∈ks↔x∈js):fm ks=fm js :=
 uV (lt:=Ky.lt) Ky.Js Ky.tr (g_ h) (g_ k) λx=>by rw [cx,cx];exact e x
def key (t:Rat) (x:Str × bQ):Ky:=⟨x.2.at t,x.2.v,x.1⟩
def bT (t:Rat) (fs:List (Str × bQ)):List Str:=(fm (fs.map (key t))).map Ky.n
theorem fh (t:Rat) (fs:List (Str × bQ)):(fs.map (key t)).map Ky.n=fs.map (·.1):=by rw [VX];rfl
variable {n:Str}
theorem z8 {fs:List (Str × bQ)}:n∈bT t fs↔n∈fs.map (·.1):=by
 rw [← fh t fs]
 unfold bT
 rw [VQ,VQ]
 exact ⟨λ⟨x,h,e⟩=>⟨x,(cx _ _).mp h,e⟩,λ⟨x,h,e⟩=>⟨x,(cx _ _).mpr h,e⟩⟩
theorem GX (t:Rat) (fs:List (Str × bQ)):(bT t fs).length=fs.length:=by unfold bT;rw [VM,pw,VM]
theorem xl {l:List Ky} (s:r8 Ky.lt l) (h:∀x∈l,∀y∈l,x.n=y.n→x=y):(l.map Ky.n).Nodup:=by
 refine List.pairwise_map.mpr (s.imp_of_mem λ{a b} ha hb hab e=>?_)
 have:=h a ha b hb e
 subst this
 rw [Ky.Js] at hab;cases hab
theorem ph (h:(ks.map Ky.n).Nodup):∀x∈ks,∀y∈ks,x.n=y.n→x=y:=by
 intro x hx y hy e
 obtain ⟨i,hi,rfl⟩:=Xl hx
 obtain ⟨j,hj,rfl⟩:=Xl hy
 have:=(Xn (xs:=ks.map Ky.n) (i:=i) (j:=j) (h₀:=by simpa using hi) (h₁:=by simpa using hj) h).mp (by rw [X6,X6];exact e)
 subst this;rfl
theorem ug {fs:List (Str × bQ)} (h:(fs.map (·.1)).Nodup):(bT t fs).Nodup:=by
 rw [← fh t fs] at h
 exact xl (g_ h) λx hx y hy e=>ph h x ((cx _ _).mp hx) y ((cx _ _).mp hy) e
theorem GW {fs gs:List (Str × bQ)} (h:(fs.map (·.1)).Nodup) (k:(gs.map (·.1)).Nodup) (e:∀x,x∈fs.map (key t)↔x∈gs.map (key t)):bT t fs=bT t gs:=by
 unfold bT
 rw [GV (by rw [fh];exact h) (by rw [fh];exact k) e]
theorem fZ {α β:Type} {fs:List (Str × α)} {f:α→β} (h:(fs.map (·.1)).Nodup) {l:α} (hm:(n,l)∈fs):gP (fs.map λx=>(x.1,f x.2)) n=some (f l):=by
 induction fs with
 | nil=>cases hm
 | cons x fs ih =>
  rw [VR,W5] at h
  rw [VR,mF]
  rcases V2.mp hm with e | e
  ·subst e;rw [if_pos rfl]
  ·have ne:x.1≠n:=λz=>h.1 (by rw [z];exact Yg (f:=λx:Str × α=>x.1) e)
   rw [if_neg ne];exact ih h.2 e
theorem K9 {α β:Type} {fs:List (Str × α)} {f:α→β} (h:(fs.map (·.1)).Nodup) (hm:n∈fs.map (·.1)):∃l,(n,l)∈fs∧gP (fs.map λx=>(x.1,f x.2)) n=some (f l):=by
 obtain ⟨⟨m,l⟩,hx,rfl⟩:=VQ.mp hm
 exact ⟨l,hx,fZ h hx⟩
theorem K8 {α β:Type} {fs:List (Str × α)} {f:α→β} (hm:n ∉ fs.map (·.1)):gP (fs.map λx=>(x.1,f x.2)) n=none:=by
 induction fs with
 | nil=>rfl
 | cons x fs ih =>
  rw [VR,mF]
  rw [VR,V2,not_or] at hm
  rw [if_neg (λe=>hm.1 e.symm)];exact ih hm.2
theorem Fl {α β:Type} {fs:List (Str × α)} {f:α→β} (h:(fs.map (·.1)).Nodup):(gP (fs.map λx=>(x.1,f x.2)) n).isSome=decide (n∈fs.map (·.1)):=by
 by_cases hm:n∈fs.map (·.1)
 ·obtain ⟨l,_,e⟩:=K9 (f:=f) h hm
  rw [e,decide_eq_true hm];rfl
 ·rw [K8 hm,decide_eq_false hm];rfl
theorem uv {α β:Type} {fs:List (Str × α)} {f:α→β} {l:α} (hm:n ∉ fs.map (·.1)):mT (fs.map λx=>(x.1,f x.2)) n (f l)=(fs ++ [(n,l)]).map λx=>(x.1,f x.2):=by
 unfold mT
 rw [if_neg,VP]
 ·rfl
 ·intro h
  rw [X7] at h
  obtain ⟨y,hy,e⟩:=h
  obtain ⟨x,hx,rfl⟩:=VQ.mp hy
  exact hm (by rw [← of_decide_eq_true e];exact Yg (f:=λx:Str × α=>x.1) hx)
def PP:Nat:=1000000 * jv + 1000 * MM
structure zk (l:bQ):Prop where
 m0:0≤l.m
 m:Sc jv MM l.m
 p:∃a:Int,l.p * (jv:Rat)=(a:Rat)
 b0:-(1000000 + 1000 * l.m)≤l.p
 b1:l.p≤1000000 + 1000 * l.m
 v:l.v.natAbs≤1000
theorem PN:(0:Rat) < (jv:Rat):=by
 have:((0:Nat):Rat) < ((jv:Nat):Rat):=Rat.natCast_lt_natCast.mpr x5
 simpa using this
theorem zk.sc {l:bQ} (h:zk l):Sc jv PP l.p:=by
 obtain ⟨a,ha⟩:=h.p
 obtain ⟨k,hk,hk1⟩:=h.m
 have hL:=PN
 have b0:=h.b0
 have b1:=h.b1
 have e1:(a:Rat)≤(((1000000 * jv + 1000 * k:Int)):Rat):=by
  rw [← ha,XR,Wk,Wk,← hk]
  have:l.p * (jv:Rat)≤(1000000 + 1000 * l.m) * (jv:Rat):=Xi b1 (Zb hL)
  have e:(((jv:Nat):Int):Rat)=(jv:Rat):=rfl
  rw [e]
  grind
 have e2:(((-(1000000 * jv + 1000 * k):Int)):Rat)≤(a:Rat):=by
  rw [← ha,Rat.intCast_neg,XR,Wk,Wk,← hk]
  have:-(1000000 + 1000 * l.m) * (jv:Rat)≤l.p * (jv:Rat):=Xi b0 (Zb hL)
  have e:(((jv:Nat):Int):Rat)=(jv:Rat):=rfl
  rw [e]
  grind
 have e1:=WQ.mp e1
 have e2:=WQ.mp e2
 refine ⟨a,ha,?_⟩
 unfold PP
 have:(k:Int)≤MM:=by omega
 have:-(MM:Int)≤k:=by omega
 omega
theorem QL:PP < 2 ^ 120:=by decide
theorem zk.TN {l:bQ} (h:zk l):Sz 120 l.p:=h.sc.sz x5 (by decide) QL
theorem zk.Va {l:bQ} (h:zk l):Sz 120 l.m:=(tY h.m).mono (by decide)
theorem zk.at {l:bQ} {v:Int} (h:zk l) (h0:l.m≤t) (ht:Sc jv MM t) (hv:v.natAbs≤1000):zk ⟨t,l.at t,v⟩:=by
 have hm:=h.m0
 have t0:0≤t:=ZU hm h0
 have d0:0≤t - l.m:=by grind
 have v1:(l.v:Rat)≤1000:=by
  have:((l.v:Int):Rat)≤((1000:Int):Rat):=WQ.mpr (by have:=h.v;omega)
  exact this
 have v2:-1000≤(l.v:Rat):=by
  have:((-1000:Int):Rat)≤((l.v:Int):Rat):=WQ.mpr (by have:=h.v;omega)
  exact this
 have m1:(t - l.m) * (l.v:Rat)≤(t - l.m) * 1000:=X8 v1 d0
 have m2:(t - l.m) * (-1000)≤(t - l.m) * (l.v:Rat):=X8 v2 d0
 have b0:=h.b0
 have b1:=h.b1
 refine ⟨t0,ht,?_,?_,?_,hv⟩
 ·obtain ⟨a,ha⟩:=h.p
  obtain ⟨k,hk,_⟩:=h.m
  obtain ⟨j,hj,_⟩:=ht
  refine ⟨a + (j - k) * l.v,?_⟩
  unfold bQ.at
  dsimp only
  rw [XR,Wk,Yd,← ha,← hk,← hj]
  grind
 ·show -(1000000 + 1000 * t)≤l.p + (t - l.m) * (l.v:Rat)
  grind
 ·show l.p + (t - l.m) * (l.v:Rat)≤1000000 + 1000 * t
  grind
theorem zk.new {p v:Int} (t0:0≤t) (ht:Sc jv MM t) (hp:p.natAbs≤1000000) (hv:v.natAbs≤1000):zk ⟨t,(p:Rat),v⟩:=by
 have p1:(p:Rat)≤1000000:=by
  have:((p:Int):Rat)≤((1000000:Int):Rat):=WQ.mpr (by omega)
  exact this
 have p2:-1000000≤(p:Rat):=by
  have:((-1000000:Int):Rat)≤((p:Int):Rat):=WQ.mpr (by omega)
  exact this
 refine ⟨t0,ht,⟨p * jv,by rw [Wk];rfl⟩,?_,?_,hv⟩
 ·show -(1000000 + 1000 * t)≤(p:Rat)
  grind
 ·show (p:Rat)≤1000000 + 1000 * t
  grind
def Ec (b:ax) (l:List ax):List ax:=if b∈l then l else lH b l
theorem wL:x∈lH b l↔x=b∨x∈l:=zJ (lt:=ax.lt)
theorem Fy:x∈Ec b l↔x=b∨x∈l:=by
 unfold Ec
 split
 ·rename_i h
  exact ⟨.inr,λz=>by rcases z with rfl | z;exact h;exact z⟩
 ·exact wL
theorem Fz (s:iF l):iF (Ec b l):=by
 unfold Ec
 split
 ·exact s
 ·rename_i h
  exact zI s λx hx e=>h (e ▸ hx)
def yt (bs:List ax):List ax:=bs.foldl (λacc b=>Ec b acc) []
theorem wZ (bs:List ax) (b:ax):yt (bs ++ [b])=Ec b (yt bs):=by unfold yt;rw [WN];rfl
theorem GS (bs:List ax) (x:ax):x∈yt bs↔x∈bs:=by
 refine snoc_ind (p:=λbs=>∀x:ax,x∈yt bs↔x∈bs) (λx=>by simp [yt]) (λbs y ih x=>?_) bs x
 rw [wZ,Fy,ih,VY,VV]
 exact Or.comm
theorem GU (bs:List ax):iF (yt bs):=by
 refine snoc_ind (p:=λbs=>iF (yt bs)) List.Pairwise.nil (λbs y ih=>?_) bs
 rw [wZ];exact Fz ih
theorem AF {k:List ax} (h:iF l) (h':iF k) (e:∀x,x∈l↔x∈k):l=k:=uV (lt:=ax.lt) ax.Nk ax.lt_trans h h' e
def dZ (t:Rat) (a b:Ky):Rat:=t + (b.p - a.p) / ((a.v - b.v:Int):Rat)
def kJ (t:Rat) (a b:Ky):ax:=⟨dZ t a b,a.n,b.n⟩
def hE (t:Rat) (ks:List Ky) (m:Rat):List ax:=yt (((ks.flatMap λa=>ks.map λb=>(a,b)).filter λp=>decide (p.2.v < p.1.v∧p.1.p < p.2.p∧dZ t p.1 p.2≤m)).map λp=>kJ t p.1 p.2)
theorem qE {m:Rat}:x∈hE t ks m↔∃a∈ks,∃b∈ks,b.v < a.v∧a.p < b.p∧dZ t a b≤m∧x=kJ t a b:=by
 unfold hE
 rw [GS,VQ]
 constructor
 ·rintro ⟨⟨a,b⟩,h,rfl⟩
  rw [V8,XI] at h
  obtain ⟨⟨c,hc,h1⟩,h2⟩:=h
  obtain ⟨d,hd,e⟩:=VQ.mp h1
  cases e
  have h2:=of_decide_eq_true h2
  exact ⟨_,hc,_,hd,h2.1,h2.2.1,h2.2.2,rfl⟩
 ·rintro ⟨a,ha,b,hb,h1,h2,h3,rfl⟩
  exact ⟨(a,b),V8.mpr ⟨XI.mpr ⟨a,ha,VQ.mpr ⟨b,hb,rfl⟩⟩,decide_eq_true ⟨h1,h2,h3⟩⟩,rfl⟩
theorem qF (t m:Rat) (ks:List Ky):iF (hE t ks m):=GU _
def pe (l l':bQ):Rat:=(l'.at 0 - l.at 0) / ((l.v - l'.v:Int):Rat)
theorem H_ {a b:Int} (h:a≠b):((a - b:Int):Rat)≠0:=by
 intro e
 have:(a - b:Int)=0:=by exact_mod_cast (show ((a - b:Int):Rat)=((0:Int):Rat) from e)
 omega
theorem sI {n':Str} {l l':bQ} (h:l.v≠l'.v):pe l l'=dZ t (key t (n,l)) (key t (n',l')):=by
 have k:=H_ h
 unfold pe dZ key bQ.at
 dsimp only
 rw [Yd] at *
 grind
theorem Ak {a b:Rat} (ha:0 < a) (hb:0 < b):0 < a / b:=by
 have e:a / b * b=a:=by grind
 rcases Rat.le_total (a:=a / b) (b:=0) with h | h
 ·have:=Xi h (Zb hb)
  rw [e,ZV] at this
  exact absurd ha (Xq.mpr this)
 ·rcases (by grind:a / b=0∨0 < a / b) with h | h
  ·rw [h,ZV] at e;rw [← e] at ha;exact absurd ha Xm
  ·exact h
def JA (t:Rat) (l l':bQ):Option Rat:=if l.v≠l'.v∧t < pe l l' then some (pe l l') else none
theorem JB {n':Str} {l l':bQ} (h:(key t (n,l)).lt (key t (n',l'))=true):(l.v≠l'.v∧t < pe l l')↔(l'.v < l.v∧l.at t < l'.at t):=by
 rw [Ky.lt_iff] at h
 unfold key at h
 dsimp only at h
 constructor
 ·rintro ⟨h1,h2⟩
  rw [sI (t:=t) (n:=n) (n':=n') h1] at h2
  unfold dZ key at h2
  dsimp only at h2
  have k:=H_ h1
  have h3:0 < (l'.at t - l.at t) / ((l.v - l'.v:Int):Rat):=by grind
  have hp:l.at t≠l'.at t:=by
   intro e
   rw [e] at h3
   have:(l'.at t - l'.at t) / ((l.v - l'.v:Int):Rat)=0:=by grind
   rw [this] at h3
   exact absurd h3 Xm
  have hlt:l.at t < l'.at t:=by
   rcases h with h | ⟨h,_⟩
   ·exact h
   ·exact absurd h hp
  refine ⟨?_,hlt⟩
  rcases (by omega:l'.v < l.v∨l.v < l'.v) with q | q
  ·exact q
  ·exfalso
   have hn:((l.v - l'.v:Int):Rat) < 0:=by
    have:((l.v - l'.v:Int):Rat) < ((0:Int):Rat):=YT.mpr (by omega)
    exact this
   have hd:0 < l'.at t - l.at t:=by grind
   have e:(l'.at t - l.at t) / ((l.v - l'.v:Int):Rat) * ((l.v - l'.v:Int):Rat)=l'.at t - l.at t:=by grind
   generalize (l'.at t - l.at t) / ((l.v - l'.v:Int):Rat)=z at h3 e
   have:z * ((l.v - l'.v:Int):Rat) < 0:=by
    have:=Rat.mul_lt_mul_of_pos_left hn h3
    rwa [Rat.mul_zero] at this
   grind
 ·rintro ⟨h1,h2⟩
  have hne:l.v≠l'.v:=by omega
  refine ⟨hne,?_⟩
  rw [sI (t:=t) (n:=n) (n':=n') hne]
  unfold dZ key
  dsimp only
  have hpos:0 < ((l.v - l'.v:Int):Rat):=by
   have:((0:Int):Rat) < ((l.v - l'.v:Int):Rat):=YT.mpr (by omega)
   exact this
  have hd:0 < l'.at t - l.at t:=by grind
  have:0 < (l'.at t - l.at t) / ((l.v - l'.v:Int):Rat):=Ak hd hpos
  grind
def nv (t:Rat) (c:Ky × Ky→Bool) (rows:List ax) (p:Ky × Ky):List ax:=if c p=true then lH (kJ t p.1 p.2) (dQ p.1.n p.2.n rows) else rows
def cj (t:Rat) (c:Ky × Ky→Bool) (ps:List (Ky × Ky)):List ax:=ps.foldl (nv t c) []
theorem fK (t:Rat) (c:Ky × Ky→Bool) (ps:List (Ky × Ky)) (p:Ky × Ky):cj t c (ps ++ [p])=nv t c (cj t c ps) p:=by unfold cj;rw [WN];rfl
theorem mP (t:Rat) (c:Ky × Ky→Bool) (ps:List (Ky × Ky)):iF (cj t c ps):=by
 refine snoc_ind (p:=λps=>iF (cj t c ps)) List.Pairwise.nil (λl x ih=>?_) ps
 rw [fK]
 unfold nv
 split
 ·exact zI (wH ih) Jm
 ·exact ih
theorem Eh (t:Rat) (c:Ky × Ky→Bool) (ps:List (Ky × Ky)):(cj t c ps).length≤ps.length:=by
 refine snoc_ind (p:=λps=>(cj t c ps).length≤ps.length) (VT _) (λl x ih=>?_) ps
 rw [fK,VZ]
 unfold nv
 split
 ·rw [tS]
  have:=qv x.1.n x.2.n (cj t c l)
  simp only [V_,W_];omega
 ·omega
variable {c:Ky × Ky→Bool}
theorem mQ (ps:List (Ky × Ky)):x∈cj t c ps→∃p∈ps,c p=true∧x=kJ t p.1 p.2:=by
 refine snoc_ind (p:=λps=>x∈cj t c ps→∃p∈ps,c p=true∧x=kJ t p.1 p.2) (λh=>by cases h) (λl y ih h=>?_) ps
 rw [fK] at h
 unfold nv at h
 split at h
 ·rename_i hc
  rcases F7 h with e | h
  ·exact ⟨y,by simp,hc,e⟩
  ·obtain ⟨p,hp,k⟩:=ih (V8.mp h).1
   exact ⟨p,VY.mpr (.inl hp),k⟩
 ·obtain ⟨p,hp,k⟩:=ih h
  exact ⟨p,VY.mpr (.inl hp),k⟩
def zq (ps:List (Ky × Ky)):Prop:=∀p∈ps,∀q∈ps,p.1.n=q.1.n→p.2.n=q.2.n→p=q
theorem wJ (ps:List (Ky × Ky)):zq ps→(x∈cj t c ps↔∃p∈ps,c p=true∧x=kJ t p.1 p.2):=by
 refine snoc_ind (p:=λps=>zq ps→(x∈cj t c ps↔∃p∈ps,c p=true∧x=kJ t p.1 p.2)) (λ_=>Iff.intro (λh=>nomatch h) (λh=>by obtain ⟨_,h,_⟩:=h;cases h)) (λl y ih inj=>?_) ps
 have ih:=ih λp hp q hq=>inj p (VY.mpr (.inl hp)) q (VY.mpr (.inl hq))
 refine ⟨mQ _,?_⟩
 rintro ⟨p,hp,hc,rfl⟩
 rw [fK]
 unfold nv
 have hold:p∈l→kJ t p.1 p.2∈cj t c l:=λh=>ih.mpr ⟨p,h,hc,rfl⟩
 split
 ·rename_i hy
  rw [wL]
  by_cases e:p=y
  ·left;rw [e]
  ·right
   have hl:p∈l:=by
    rcases VY.mp hp with h | h
    ·exact h
    ·exact absurd (by simpa using h) e
   refine V8.mpr ⟨hold hl,?_⟩
   unfold xh
   have:¬ ((kJ t p.1 p.2).h=y.1.n∧(kJ t p.1 p.2).f=y.2.n):=λz=>e (inj p hp y (by simp) z.1 z.2)
   rw [decide_eq_false this];rfl
 ·rename_i hy
  rcases VY.mp hp with h | h
  ·exact hold h
  ·have:p=y:=by simpa using h
   subst this;exact absurd hc hy
variable {ps:List (Ky × Ky)}
theorem Ei {p:Ky × Ky} (inj:zq (ps ++ [p])) (h:p ∉ ps):dQ p.1.n p.2.n (cj t c ps)=cj t c ps:=by
 unfold dQ
 refine Wx.mpr λx hx=>?_
 obtain ⟨q,hq,_,rfl⟩:=mQ _ hx
 unfold xh
 have:¬ ((kJ t q.1 q.2).h=p.1.n∧(kJ t q.1 q.2).f=p.2.n):=λz=>by
  have:=inj q (VY.mpr (.inl hq)) p (by simp) z.1 z.2
  subst this;exact h hq
 rw [decide_eq_false this];rfl
theorem zq.of (h:(ks.map Ky.n).Nodup) (hp:∀p∈ps,p.1∈ks∧p.2∈ks):zq ps:=λp h1 q h2 e1 e2=>by
 have a:=ph h p.1 (hp p h1).1 q.1 (hp q h2).1 e1
 have b:=ph h p.2 (hp p h1).2 q.2 (hp q h2).2 e2
 cases p;cases q;simp only at a b;rw [a,b]
def AQ (ks:List Ky):Nat→List (Ky × Ky)
 | 0=>[]
 | i + 1=>AQ ks i ++ (match ks[i]? with | some a=>(ks.drop (i + 1)).map λb=>(a,b) | none=>[])
theorem p7 {ks:List Ky} {p:Ky × Ky}:∀{i:Nat},p∈AQ ks i↔∃i' j,i' < i∧i' < j∧ks[i']?=some p.1∧ks[j]?=some p.2
 | 0=>⟨λh=>(by cases h),λ⟨_,_,h,_⟩=>by omega⟩
 | i + 1=>by
  unfold AQ
  rw [VY,p7 (i:=i)]
  constructor
  ·rintro (⟨i',j,h1,h⟩ | h)
   ·exact ⟨i',j,by omega,h⟩
   ·cases e:ks[i]? with
    | none=>rw [e] at h;cases h
    | some a =>
     rw [e] at h
     obtain ⟨b,hb,rfl⟩:=VQ.mp h
     obtain ⟨j,hj⟩:=Wv.mp hb
     rw [Yt] at hj
     exact ⟨i,_,by omega,by omega,e,hj⟩
  ·rintro ⟨i',j,h1,h2,h3,h4⟩
   by_cases e:i' < i
   ·exact .inl ⟨i',j,e,h2,h3,h4⟩
   ·have:i'=i:=by omega
    subst this
    right
    rw [h3]
    refine VQ.mpr ⟨p.2,Wv.mpr ⟨j - (i' + 1),?_⟩,rfl⟩
    rw [Yt,show i' + 1 + (j - (i' + 1))=j by omega];exact h4
def b9 (t m:Rat) (p:Ky × Ky):Bool:=decide (p.2.v < p.1.v∧p.1.p < p.2.p∧dZ t p.1 p.2≤m)
theorem K7 {m:Rat} (h:(ks.map Ky.n).Nodup):cj t (b9 t m) (AQ (fm ks) (fm ks).length)=hE t ks m:=by
 have hs:=g_ h
 have hn:((fm ks).map Ky.n).Nodup:=xl hs (λx hx y hy e=>ph h x ((cx _ _).mp hx) y ((cx _ _).mp hy) e)
 refine AF (mP _ _ _) (qF _ _ _) λx=>?_
 rw [wJ _ (zq.of hn λp hp=>by
  obtain ⟨i,j,_,_,h3,h4⟩:=p7.mp hp
  exact ⟨V0 h3,V0 h4⟩),qE]
 constructor
 ·rintro ⟨p,hp,hc,rfl⟩
  obtain ⟨i,j,_,_,h3,h4⟩:=p7.mp hp
  have hc:=of_decide_eq_true hc
  exact ⟨p.1,(cx _ _).mp (V0 h3),p.2,(cx _ _).mp (V0 h4),hc.1,hc.2.1,hc.2.2,rfl⟩
 ·rintro ⟨a,ha,b,hb,h1,h2,h3,rfl⟩
  obtain ⟨i,hi⟩:=Wv.mp ((cx _ _).mpr ha)
  obtain ⟨j,hj⟩:=Wv.mp ((cx _ _).mpr hb)
  have hab:a.lt b=true:=(Ky.lt_iff a b).mpr (.inl h2)
  have hij:i < j:=by
   obtain ⟨hil,ei⟩:=VO.mp hi
   obtain ⟨hjl,ej⟩:=VO.mp hj
   rcases ZR i j with z | z | z
   ·exact z
   ·subst z;rw [ei] at ej;subst ej;rw [Ky.Js] at hab;cases hab
   ·have:=W3.mp hs j i hjl hil z
    rw [ei,ej] at this
    rw [Ky.O_ this] at hab;cases hab
  exact ⟨(a,b),p7.mpr ⟨i,j,(VO.mp hi).1,hij,hi,hj⟩,decide_eq_true ⟨h1,h2,h3⟩,rfl⟩
theorem zu {m:Rat} (h:(ks.map Ky.n).Nodup):cj t (b9 t m) (ks.flatMap λa=>ks.map λb=>(a,b))=hE t ks m:=by
 have hm:∀p:Ky × Ky,p∈(ks.flatMap λa=>ks.map λb=>(a,b))↔p.1∈ks∧p.2∈ks:=λp=>by
  rw [XI]
  constructor
  ·rintro ⟨a,ha,hb⟩
   obtain ⟨b,hb',rfl⟩:=VQ.mp hb
   exact ⟨ha,hb'⟩
  ·rintro ⟨ha,hb⟩
   exact ⟨p.1,ha,VQ.mpr ⟨p.2,hb,rfl⟩⟩
 refine AF (mP _ _ _) (qF _ _ _) λx=>?_
 rw [wJ _ (zq.of h λp hp=>(hm p).mp hp),qE]
 constructor
 ·rintro ⟨p,hp,hc,rfl⟩
  have hc:=of_decide_eq_true hc
  exact ⟨p.1,((hm p).mp hp).1,p.2,((hm p).mp hp).2,hc.1,hc.2.1,hc.2.2,rfl⟩
 ·rintro ⟨a,ha,b,hb,h1,h2,h3,rfl⟩
  exact ⟨(a,b),(hm _).mpr ⟨ha,hb⟩,decide_eq_true ⟨h1,h2,h3⟩,rfl⟩
structure bz where
 m:Rat
 l:Option Str
 deriving DecidableEq
def aQ (gs os:List Str):Option Str:=os.reverse.find? λx=>decide (x∈gs)
theorem i7 (gs os:List Str) (x:Str):aQ gs (os ++ [x])=if x∈gs then some x else aQ gs os:=by
 unfold aQ
 rw [List.reverse_append]
 show ((x :: os.reverse).find? _)=_
 rw [Z_]
 by_cases h:x∈gs
 ·simp [h]
 ·simp [h]
def eR (rows:List bz) (t:Rat):List bz:=if rows.getLast?.map bz.m=some t then rows.dropLast else rows
def vD (rest:List bz) (t:Rat) (l:Option Str):List bz:=if rest.getLast?.map bz.l=some l then rest else rest ++ [⟨t,l⟩]
def cu (rows:List bz) (t:Rat) (l:Option Str):List bz:=vD (eR rows t) t l
theorem GC {rows:List bz} {l:Option Str}:cu rows t l≠[]:=by
 unfold cu vD
 generalize eR rows t=rest
 by_cases h:rest.getLast?.map bz.l=some l
 ·rw [if_pos h];intro e;rw [e] at h;cases h
 ·rw [if_neg h];simp
theorem qo (rows:List bz) (t:Rat):(eR rows t).length≤rows.length:=by
 unfold eR
 split
 ·rw [Zj];omega
 ·exact VT _
theorem wY (rows:List bz) (t:Rat) (l:Option Str):(cu rows t l).length≤rows.length + 1:=by
 have h:=qo rows t
 unfold cu vD
 generalize eR rows t=rest at h
 by_cases c:rest.getLast?.map bz.l=some l
 ·rw [if_pos c];omega
 ·rw [if_neg c,VZ];simp only [V_,W_];omega
section
open PySem.Builtin PySem.Builtin.Str
end
def LV:AO:=λxs J Q=>Dc xs λx=>Fq x λy=>y.length≤sizeLine∧Q (.int y.length) J
variable {X:Cx}
theorem CD:IG X (.builtin "len") LV:=⟨_,xN,λJ H xs vs Q2 Q rs r h k=>by
 obtain ⟨x,ex,h⟩:=g7 h;obtain ⟨y,ey,hl,q⟩:=i_ h
 subst ex ey;obtain ⟨v,us,rfl,rv,e⟩:=rs;cases e;cases rv
 exact ⟨y,rfl,hl,k (.int _) J _ H rfl r .refl q⟩⟩
def Ht (P:Addr) (tx:Str) (ti:cT):cT:=λτ J Q=>ti τ J λx J1=>Fq x λy=>J1 P=some .tab∧Q (.bl (y.cps.toList.all (fG tx))) J1
variable {x:Str} {c:Addr} {k:Nat} {px p p2:Pos} {iter:Expr} {scope:Scope} {G:G2}
theorem Hz {P:Addr} {g:Str} {p1 p3 gpos cpos:Pos} {ti:cT} {tx:Str} {tt:Tok} (hcalm:X.calm=true) (Bm:BMain X.mg X.base) (hcode:X.env.code=.ref c) (Z:k9 X.K c P) (hr:bF k X.A)
  (hgl:Gl X "all") (hma:X.mg "all"=none) (hsg:X.mg g=some (.str tx tt)) (hi:RE X G iter ti) (sck:scope.kind=.function:=by rfl) (hco:scope.isCoroutine=false:=by rfl) (hclos:closureFor scope X.env=pure []:=by rfl) (hcell:∀y∈scope.names,y.2≠.cell:=by decide)
  (h0:scope.names.lookup (".0":Str)=some NameKind.local:=by rfl) (hx:scope.names.lookup x=some .local:=by rfl) (hsc:scope.names.lookup g=some .globalImplicit:=by rfl) (hmk:behindInMarks .In (.Name g p2)=false:=by with_unfolding_all rfl) (hs:∀x,genFold iter X.env x=pure x:=by intro _;rfl)
  (hst:starEach [.GeneratorExp (.Compare (.Name x p1) [.In] [.Name g p2] p3) [⟨.Name x px,iter,[],0⟩] scope gpos] X.env=[(false,eval (.GeneratorExp (.Compare (.Name x p1) [.In] [.Name g p2] p3) [⟨.Name x px,iter,[],0⟩] scope gpos) X.env)]:=by rfl)
  (hdx:(x == ("__debug__":Str))=false:=by decide) (hdg:(g == ("__debug__":Str))=false:=by decide) :
  RE X G (.Call (.Name "all" p) [.GeneratorExp (.Compare (.Name x p1) [.In] [.Name g p2] p3) [⟨.Name x px,iter,[],0⟩] scope gpos] [] cpos) (Ht P tx ti) :=
 ⟨kZ (EY hcalm Bm hcode Z (by have:=hr.dp;omega) hgl hma hsg hi.run sck hco hclos hcell h0 hx hsc hmk hs hst hdx hdg) λσ H Q ⟨τ,J,Q2,a2,h,k⟩=>⟨τ,J,_,a2,h,λx J1 v H1 rx r1 e1 hh=>by
  obtain ⟨y,ex,hP,q⟩:=i_ hh
  subst ex;cases rx
  exact ⟨y,rfl,r1 _ _ hP,k (.bl _) J1 _ H1 rfl r1 e1 q⟩⟩⟩
variable {P:Program} {w:World} {K:VL} {st:Stmt} {mg:Str→Option Value} {base:Heap} {ps:List Str} {sp:cI} {T:Addr}
theorem TB {f:Addr} {fd:FuncData} {N:List Str} (F:IZ K mg x st T f fd c) (S:av N ps (aq st)) (len:∀xs J Q E,sp xs J Q E→xs.length=ps.length)
  (hbody:∀(A:Around) (outer:List Env) (s:Shared) (H:Hp) (E:XK) (G:G2) (xs:List PV) (J:Hq) (Q:PV→Hq→Prop) (E2:Addr→Hq→Prop),bF k (A.deeper (envOfC x (aq st) s.heap.objs.size f (.ref c)))→sp xs J Q E2 →
   AN (wG P w K mg base N x (aq st) f (.ref c) A outer s H E) G E2 E →
   ∃t,RB (wG P w K mg base N x (aq st) f (.ref c) A outer s H E) G (bX st) t∧t { nx:=λ_ J'=>Q .non J',rt:=Q } (rp N xs) J):aK P w K mg base (cq P w) (k + 1) f fd ps (cP K sp):=by
 obtain ⟨oc,od,kV,doc,pm,an,cdv,ct,osl,rfl,lk,hcd⟩:=F.fn.ex
 obtain rfl:cdv=.ref c:=F.code
 refine CP lk hcd S (λvs H Q E ⟨xs,J,Q2,E2,a,_,b,_⟩=>by rw [← a.length];exact len _ _ _ _ b) λA outer s H vs Q E hr ⟨xs,J,Q2,E2,rs,rr,hs,kn,ke⟩=>?_
 obtain ⟨t,hb,q⟩:=hbody A outer s H E (J,H) xs J Q2 E2 hr hs ⟨oi,ke⟩
 refine ⟨_,hb.run,rp N xs,J,_,⟨uX rs,rr,.refl⟩,q,?_⟩
 exact { nx:=λτ J' σ H' _ r e q=>kn .non J' .non H' rfl r e q,rt:=λx J' v H' rx r e q=>kn x J' v H' rx r e q,bk:=λ_ _ _ _ _ _ _ q=>q.elim,ct:=λ_ _ _ _ _ _ _ q=>q.elim }
theorem AY.eK (D:AY K mg x st T)
  (h:∀f fd c,IZ K mg x st T f fd c→aK P w K mg base (cq P w) k f fd ps (cP K sp))
  (hb:∀(kV doc pm:Value) (an:Option Addr) (cdv ct:Value) (us:List Value),us.length=ps.length→bindArgs (WD x x (dC st) (bX st) (aq st) .none kV doc pm an cdv ct) ⟨us,[]⟩=pure (ps.zip us)) :
  b7 P w K mg base k x ps sp:=by
 obtain ⟨f,fd,c,F⟩:=D
 exact ⟨f,fd,h f fd c F,F.fn.binds hb,F.fn.kp,F.mg⟩
variable {pos py spos:Pos} {y:Str} {kx vx:Expr}
theorem QM {ifs:List Expr} {sc:Scope} {wi:TI} {tk te:TE} {tc:TT} (osc:Scope) (N:List Str) (ks:List (Str × Nat)) (hc:X.calm=true) (ho:X.env.scope=osc) (hN:X.N=N) (hnd:X.N.Nodup) (hy:X.N[i]?=some y) (hl:Loc X.env.scope y) (hi:PI X (.Name x px) iter wi)
  (hk:∀cl C s₀ H₀ fp pins,PE (gJ X sc cl C x ks s₀ H₀ fp pins) kx tk) (he:∀cl C s₀ H₀ fp pins,PE (gJ X sc cl C x ks s₀ H₀ fp pins) vx te) (hcn:∀cl C s₀ H₀ fp pins,IH (gJ X sc cl C x ks s₀ H₀ fp pins) ifs tc) (ok:dy sc osc N x ks:=by decide +kernel) (hs:∀x,foldedSetIterable iter X.env x=pure x:=by intro _;rfl)
  (hsw:swapsWith (.DictComp kx vx [⟨.Name x px,iter,ifs,0⟩] sc pos) (some (.Name y py)) spos.line X.env=pure true:=by rfl) (hf:X.fn y=true∨X.env.scope.names.lookup y=some .local:=by first | exact .inl rfl | exact .inr rfl | assumption) :
  PS X (.Assign [.Name y py] (.DictComp kx vx [⟨.Name x px,iter,ifs,0⟩] sc pos) spos) (λD σ H=>Ue wi ks tc tk te σ H λv H1=>D.nx (σ.set i (some v)) H1):=by
 intro pins s σ H Dn I hw
 obtain ⟨cl,hcl,h1,h2⟩:=gT (pz ok I ho)
 have ok':dy sc X.env.scope X.N x ks:=by rw [ho,hN];exact ok
 rw [exec_Assign_Name_used _ _ _ _ hsw]
 refine wpAny_bind (wpAny_standAt (wpAny_bind ?_))
 show wpAny _ X.A (do let _ ← comprehension (.DictComp kx vx [⟨.Name x px,iter,ifs,0⟩] sc pos) sc X.env _ newDict false (eval iter X.env) (some (assign (.Name y py) X.env))) _ _ s
 refine wpAny_bind (wpAny_mono (wpAny_comprehension_free (use:=some (assign (.Name y py) X.env)) (Q:=λ_ s'=>SP X pins Dn .next s') rfl hs hcl ok.1 ok.2.2.2.1
  (cn (hi pins s σ H _ I hw) λv s1 h3=>cn h3 λitv s2 h4=>?_)) (λ_ s' hq=>wpAny_pure (wpAny_pure hq)) λ_ _ e=>e)
 obtain ⟨it,fp,tn,J,H2,rfl,I2,T,st2,f2,hR⟩:=h4
 refine xg (Q:=λv H1=>Dn.nx (σ.set i (some v)) H1) (RR:=λacc C=>compPost (model X.prog X.w) X.A X.xe (some (assign (.Name y py) X.env)) (λ_ s'=>SP X pins Dn .next s') acc C) hc ok' h1 h2 hk he hcn I2 T st2 f2 hR ?_
 intro D C s' H' m J' q hn hC cl' cs cc cp
 show wpAny _ X.A (assign (.Name y py) X.env (.ref D)) _ _ _
 refine wpAny_assign_Name (rj J' hnd hy hl (v:=.ref D) rfl (λs'' J'' ⟨a,hsb,ha⟩=>?_) hf)
 refine ⟨m,hn.sameBut hsb (λz=>?_),λh' hsb'=>⟨_,H',?_,q⟩⟩
 ·rcases ha with e | e
  ·exact cl' (z.trans e)
  ·exact cc _ _ e z.symm
 ·exact J''.turned (t':=s''.toks) (it:=C) (λb o ne e=>hsb'.extBut b o ne e) hC cl' (.inr cs) cc cp
variable {te tk:cT} {tc:p8} {wi:tF} {cnd:Expr} {aba:Scope}
theorem N3 (osc:Scope) (N:List Str) (ks:List (Str × Nat)) (hc:X.calm=true) (ho:X.env.scope=osc) (hN:X.N=N) (hnd:X.N.Nodup) (hy:X.N[i]?=some y) (hl:Loc X.env.scope y) (hi:RI X G (.Name x px) iter wi) (hk:∀cl C s₀ H₀ fp pins,RE (gJ X aba cl C x ks s₀ H₀ fp pins) G kx tk) (he:∀cl C s₀ H₀ fp pins,RE (gJ X aba cl C x ks s₀ H₀ fp pins) G vx te)
  (hcn:∀cl C s₀ H₀ fp pins,RT (gJ X aba cl C x ks s₀ H₀ fp pins) G cnd tc) (ok:dy aba osc N x ks:=by decide +kernel) (hs:∀x,foldedSetIterable iter X.env x=pure x:=by intro _;rfl) (hsw:swapsWith (.DictComp kx vx [⟨.Name x px,iter,[cnd],0⟩] aba pos) (some (.Name y py)) spos.line X.env=pure true:=by rfl)
  (hf:X.fn y=true∨X.env.scope.names.lookup y=some .local:=by first | exact .inl rfl | exact .inr rfl | assumption):RS X G (.Assign [.Name y py] (.DictComp kx vx [⟨.Name x px,iter,[cnd],0⟩] aba pos) spos) (yM (OS wi ks tc tk te) (Lm i)) :=
 ⟨Ab (QM osc N ks hc ho hN hnd hy hl hi.run (λcl C s₀ H₀ fp pins=>(hk cl C s₀ H₀ fp pins).run) (λcl C s₀ H₀ fp pins=>(he cl C s₀ H₀ fp pins).run) (λcl C s₀ H₀ fp pins=>Dm (hcn cl C s₀ H₀ fp pins).run) ok hs hsw hf) (tX CH)⟩
section
open PySem.W PySem.Calls
end
theorem Hd {α β:Type} {R:α→β→Prop} {kvs:List (Str × α)} {vs:List (Str × β)} (h:kY R kvs vs):vs.map (·.1)=kvs.map (·.1):=by
 induction h with
 | nil=>rfl
 | cons r _ ih=>rw [VR,VR,ih,r.1]
def NR:n_:=λx y J Q=>Fq x λz=>ET y λi=>yq (c_ z.cps.toList i) λc=>z.length≤sizeLine∧Q (.str (sgn c)) J
theorem F_:Sg X NR:=⟨_,M1,λJ H x y v w Q2 Q rx ry r h k=>by
 obtain ⟨z,ex,h⟩:=i_ h;obtain ⟨i,ey,h⟩:=fO h;obtain ⟨c,ec,hl,q⟩:=fw h
 subst ex ey;cases rx;cases ry
 exact ⟨z,i,c,rfl,rfl,hl,ec,k (.str _) J _ H rfl r .refl q⟩⟩
theorem xZ {h h':Heap} {it d:Addr} {n ep:Nat} (x:h.IsValIter it d i n ep) (e:∀o,h.get? it=some o→h'.get? it=some o):h'.IsValIter it d i n ep:=let ⟨o,ho,r⟩:=x;⟨o,e _ ho,r⟩
theorem w4 {α β:Type} {R:Str × α→Str × β→Prop} {kvs:List (Str × α)} {vs:List (Str × β)} (h:Paired R kvs vs):∀{i:Nat} {y},vs[i]?=some y→∃x,kvs[i]?=some x∧R x y:=by
 induction h with
 | nil=>intro i y e;cases e
 | cons r t ih =>
  intro i y e
  cases i with
  | zero=>cases e;exact ⟨_,rfl,r⟩
  | succ i=>exact ih e
def UQ (a:Addr) (n ep:Nat):It :=
 ⟨λi H=>∃kvs,H a=some (.dE kvs ep)∧kvs.length=n∧i < n,
  λi H z H'=>H'=H∧∃kvs kv,H a=some (.dE kvs ep)∧kvs[i]?=some kv∧z=kv.2,
  λi H=>∃kvs,H a=some (.dE kvs ep)∧kvs.length=n∧n≤i⟩
theorem Fi {tg:Expr} (a it:Addr) (n ep:Nat):Turn P w K tg (UQ a n ep) [it] it (λi h=>h.IsValIter it a i n ep) where
 mem:=by simp
 obj:=λi h st b hb=>by
  have e:b=it:=by simpa using hb
  subst e
  obtain ⟨o,e,c,d⟩:=st
  exact ⟨o,e,λv z=>by rw [d] at z;cases z⟩
 keep:=λi h h' st k=>xZ st λo e=>k it (by simp) o e
 item:=by
  intro X hP hw hK hc i pins s σ H E I hf st hg
  subst hP hw hK
  obtain ⟨kvs,hp,hn,hi⟩:=hg
  subst hn
  obtain ⟨hz,hd,vs,rel,da⟩:=gh I hp
  have hl:kvs.length=vs.length:=rel.len
  obtain ⟨f0,f1,f2,f3,f4,f5⟩:=hf it (by simp)
  obtain ⟨⟨k,x⟩,hx⟩:∃p,vs[i]?=some p:=⟨vs[i]'(by omega),VN (by omega)⟩
  obtain ⟨kv,hkv,hr⟩:∃kv,kvs[i]?=some kv∧RelV kv.2 x:=by
   obtain ⟨kv,e1,e2⟩:=w4 rel hx
   exact ⟨kv,e1,e2.2⟩
  refine wpAny_pyNext_values_item (by rw [← hl];exact st) da hx λh' st' sb=>?_
  rw [← hl] at st'
  have I1:Inv X pins σ H { s with heap:=h' }:=I.turned (t':=s.toks) (λb o hb e=>(sb.2 b hb).trans e) f0 f1 f3 f4 f5
  obtain ⟨o,e,c,d⟩:=id st'
  exact ⟨x,rfl,wK (s:={ s with heap:=h' }) e c d (by decide) ⟨kv.2,H,I1,hr,⟨rfl,kvs,kv,hp,hkv,rfl⟩,st',λb hb=>(hf b hb).1⟩⟩
 done:=by
  intro X hP hw hK hc i pins s σ H E I hf st hg
  subst hP hw hK
  obtain ⟨kvs,hp,hn,hi⟩:=hg
  subst hn
  obtain ⟨hz,hd,vs,rel,da⟩:=gh I hp
  have hl:kvs.length=vs.length:=rel.len
  obtain ⟨f0,f1,f2,f3,f4,f5⟩:=hf it (by simp)
  refine wpAny_pyNext_values_end (I.ok.hd hc) (by rw [← hl];exact st) da (by rw [XF];omega) λh' hk=>⟨rfl,I.turned (t':=s.toks) (λb o hb e=>hk b o hb e) f0 f1 f3 f4 f5⟩
 self:=λ_ _ _ _ _ st h=>wpAny_pyIter_valiter st h
def Pz (td:TE):TI:=λσ H R=>td σ H λx H1=>∃a kvs ep,x=.ref a∧H1 a=some (.dE kvs ep)∧R (UQ a kvs.length ep) H1
theorem Kk {tg l:Expr} {tl:TE} {apos cpos:Pos} (hl:PE X l tl) (hbase:attributeBase l "values" X.env (eval l X.env)=eval l X.env:=by rfl) (hline:(apos.endLine == cpos.line)=true:=by rfl):PI X tg (.Call (.Attribute l "values" apos) [] [] cpos) (Pz tl):=by
 intro pins s σ H R I h
 refine wpAny_Call_method0_late hbase hline (cn (hl pins s σ H _ I h) λv s1 ⟨x,H1,I1,r1,q1⟩=>?_)
 obtain ⟨a,kvs,ep,e,hp,q⟩:=q1
 subst e
 cases r1
 obtain ⟨hz,hd,vs,rel,da⟩:=gh I1 hp
 refine ⟨"dict","dict.values",YL,YF,PySem.F.type_dict_values,da.dictOf.typeIs,da.dictOf.mapOf.noDict,Calls.callWith_builtin rfl (PySem.evalArgs_none ?_)⟩
 refine call_meetsIn YF da.dictOf.typeIs PySem.F.entry_dict_values (PySem.F.args_dict_values_1 _) (meets_dict_values (strKind X.prog X.w) a hd) ⟨⟨vs,da.dictOf⟩,?_⟩
 have I2:=I1.kept (t':=s1.toks) (h':=s1.heap.push { cls:=.type "dict_values",data:=.fields #[.ref a] }) λb o e=>VW _ e
 obtain ⟨_,_,vs2,rel2,da2⟩:=gh I2 hp
 refine wpAny_pyIter_values (knd:=strKind X.prog X.w) ⟨_,Wd _ rfl,rfl,rfl⟩ da2 ?_
 refine ⟨_,[_],_,_,H1,rfl,I2.kept (t':=s1.toks) λb o e=>VW _ e,Fi a _ kvs.length ep,⟨_,Wd _ rfl,rfl,by rw [rel2.len];rfl⟩,λb hb=>?_,q⟩
 have e:=VV.mp hb
 subst e
 exact I2.Bl (VT _) (I2.hok.fresh (VT _))
theorem ED (l:Addr) (items:Array Value) (n:Nat) (b:Addr) (items2:Array Value) (o2:Obj) (n2:Nat) (hc:o2.cls=.type "list") (hd:o2.data=.seq items2 n2) (hc0:¬(!items.isEmpty && Builtin.List.listTooLong (items.size + items2.size))=true) (hc1:items.size≤sizeLine) (hs2:items.size + items2.size≤sizeLine + 1) :
  Meets (Builtin.«list.extend» ⟨[.ref l,.ref b],[]⟩) (λ_ R s=>s.heap.get? l=some { cls:=.type "list",dict:=none,data:=.seq items n,slots:=#[] }∧s.heap.get? b=some o2∧R (.ok (.ret Value.none)) { s with heap:=s.heap.update l (Obj.mapSeq λx=>x ++ items2),toks:=s.toks }) :=
 .of_wp λprog w A R s h=>by
  obtain ⟨hp,g,d,tk,os⟩:=s
  obtain ⟨hl,hb,h⟩:=h
  obtain ⟨c,di,da,sl⟩:=o2
  subst hc hd
  have f1:=PySem.AutoSeq1.idx_int
  have f2:=PySem.AutoSeq1.sub_tuple_tuple
  have f3:=PySem.AutoSeq1.sub_list_list
  have f4:=PySem.AutoSeq1.sub_tuple_list
  have f5:=PySem.AutoSeq1.sub_list_tuple
  have hz':(items ++ items2).size≤sizeLine + 1:=by rw [Array.size_append];exact hs2
  wp_walk using (wpAny_updateSeq hl rfl (hz:=hc1) (_hz':=hz')),PySem.AutoSeq1.wpAny_loadPart' hl,PySem.AutoSeq1.wpAny_loadPart' hb
  exact ⟨_,rfl,h⟩
theorem Bz:lh X "list.extend" (λx vs H Q=>∃l xs zs b,x=.ref l∧vs=[.ref b]∧H l=some (.lst xs)∧dG X.K H b zs∧xs.length + zs.length≤sizeLine∧Q .non (upd H l (.lst (xs ++ zs)))):=by
 intro pins s σ H x vs v us Q I rx rv h
 obtain ⟨l,xs,zs,b,rfl,rfl,hH,hB,hz,q⟩:=h
 cases rx
 obtain ⟨u,rfl,ru⟩:=rv.one
 cases ru
 obtain ⟨z,its,n,r,hl,e⟩:=I.Jy hH
 obtain ⟨its2,r2,⟨o2,n2,h1,h2,h3,h4⟩,_⟩:=I.list hB
 have hl2:=r2.length
 have hl1:=r.length
 have hsz:its.toArray.size + its2.toArray.size≤sizeLine:=by rw [VU,VU];omega
 have hlong:¬ (!its.toArray.isEmpty && Builtin.List.listTooLong (its.toArray.size + its2.toArray.size))=true:=by
  rw [GB hsz,XE]
  exact Wz
 refine call_meets XN ⟨_,e,rfl⟩ PySem.F.entry_list_extend (PySem.F.args_list_extend_2 _ _)
  (ED l its.toArray n b its2.toArray o2 n2 h2 h4 hlong (by rw [VU];omega) (by omega)) ⟨e,h1,?_⟩
 refine ⟨.non,_,I.Jx (its':=its ++ its2) hH e (by simp) (r.append r2) ?_,rfl,q⟩
 rw [VZ]
 omega
def U9 (te:cT):tF:=λτ J R=>te τ J λx J1=>BH x λa=>ES (J1 a) λkvs ep=>R ⟨kvs.map (·.2),λJ'=>J' a=some (.dct kvs ep)⟩ J1
theorem KL {tg l:Expr} {tl:cT} {apos cpos:Pos} (hl:RE X G l tl) (hbase:attributeBase l "values" X.env (eval l X.env)=eval l X.env:=by rfl) (hline:(apos.endLine == cpos.line)=true:=by rfl):RI X G tg (.Call (.Attribute l "values" apos) [] [] cpos) (U9 tl):=⟨LM (Kk hl.run hbase hline) λσ H R ⟨τ,J,R2,a2,h,k⟩=>⟨τ,J,_,a2,h,λx J1 v H1 rx r1 e1 h=>by
 obtain ⟨a,ex,h⟩:=fP h;obtain ⟨kvs,ep,ja,q⟩:=j' h
 subst ex;cases rx
 obtain ⟨gs,h1,h2⟩:=r1 _ _ ja
 have pk:=cA h2
 have hl':=pk.len
 refine ⟨a,gs,ep,rfl,h1,k _ J1 _ H1 ?_ r1 e1 q⟩
 have key:∀J' H',Rep X.K J' H'→J' a=some (.dct kvs ep)→∃gs',H' a=some (.dE gs' ep)∧gs'.length=gs.length∧kY (cS X.K J' H') kvs gs':=λJ' H' r o=>by
  obtain ⟨gs',h1',h2'⟩:=r _ _ o
  exact ⟨gs',h1',by rw [← (cA h2').len,hl'],cA h2'⟩
 exact {
  go:=λJ' H' e r o i hi=>by
   obtain ⟨gs',k1,k2,_⟩:=key J' H' r o
   exact ⟨gs',k1,k2,by rw [VM] at hi;omega⟩
  yl:=λJ' H' e r o i hi v H2 y=>by
   obtain ⟨rfl,gs2,kv,e2,e3,rfl⟩:=y
   obtain ⟨gs',k1,k2,k3⟩:=key J' H2 r o
   rw [k1] at e2;cases e2
   obtain ⟨x,hx,_,rx⟩:=w4 k3 e3
   exact ⟨x.2,by rw [VS,hx];rfl,rx,r,.refl⟩
  stop:=λJ' H' e r o=>by
   obtain ⟨gs',k1,k2,_⟩:=key J' H' r o
   exact ⟨gs',k1,k2,by rw [VM];omega⟩ }⟩⟩
def Ds:Cz:=λx xs J Q=>∃a ys zs,x=.ref a∧xs=[.fl zs]∧J a=some (.lst ys)∧ys.length + zs.length≤sizeLine∧Q .non (put J a (.lst (ys ++ zs)))
theorem wW:Le X "list" "list.extend" Ds:=⟨λx vs H Q=>∃l xs zs b,x=.ref l∧vs=[.ref b]∧H l=some (.lst xs)∧dG X.K H b zs∧xs.length + zs.length≤sizeLine∧Q .non (upd H l (.lst (xs ++ zs))),Bz,λJ H x xs v vs Q2 Q rx rs r ⟨a,ys,zs,ex,exs,ja,hl,q⟩ k=>by
 subst ex exs;cases rx
 obtain ⟨w,us,rfl,⟨b,ws,rfl,hb,hr⟩,e⟩:=rs;cases e
 obtain ⟨vs,h1,h2⟩:=r _ _ ja
 exact ⟨a,vs,ws,b,rfl,rfl,h1,hb.sq,by rw [← h2.length,← hr.length];exact hl,k .non _ _ _ rfl (r.wrote (ys:=ys ++ zs) ja h1 (h2.append hr)) (.wrote ja h1) q⟩⟩
variable {H:Hp} {σ:St}
theorem ML {pins:List (Addr × Obj)} {s:Shared} {a:Addr} {kvs:List (Str × V)} {ep:Nat} {k:Str} {u:Value} {Q:Unit→Shared→Prop} (I:Inv X pins σ H s) (hp:H a=some (.dE kvs ep)) (ru:RelV (.str k) u) (hl:(gP kvs k).isSome=true)
  (h:∀s' ep',Inv X pins σ (upd H a (.dE (qr kvs k) ep')) s'→Q () s'):wpAny (model X.prog X.w) X.A (delItem (.ref a) u) Q X.xe s:=by
 obtain ⟨hz,hd,vs,rel,da⟩:=gh I hp
 unfold delItem
 try with_reducible refine wpAny_holding ?_
 refine wpAny_bind (wpAny_sequenceKey da.dictOf.typeIs (by decide) ?_)
 refine wpAny_bind (wpAny_callSpecial?_slot (name:=Str.ofString "__delitem__") da.dictOf.typeIs Yy
  (call_meetsIn Yy da.dictOf.typeIs PySem.F.entry_dict_delitem (PySem.F.args_dict_delitem_2 _ _) (meets_dict_delitem_pairs (PySem.strKind X.prog X.w) a (str_is ru)) ⟨vs,da.dictOf,by rw [← rel.len];exact hz,by rw [rD,← (rel.va k).2];exact hl,λh' dd' hs=>?_⟩))
 obtain ⟨ep',I2⟩:=lz (t':=s.toks + 1) I hp hs (V6 (CJ kvs k) hz) hd (rel.dr k) dd'
 exact wpAny_pure (h _ ep' I2)
def Ug (to ti:TE):TS:=λD σ H=>to σ H λx H1=>ti σ H1 λy H2=>∃a kvs ep k,x=.ref a∧y=.str k∧H2 a=some (.dE kvs ep)∧(gP kvs k).isSome=true∧∀ep',D.nx σ (upd H2 a (.dE (qr kvs k) ep'))
theorem NM {o i:Expr} {to ti:TE} (ho:PE X o to) (hi:PE X i ti):PS X (.Delete [.Subscript o i p] pos) (Ug to ti):=by
 intro pins s σ H D I h
 refine wpAny_Delete (wpAny_deleteEach_cons (wpAny_delete_Subscript (bin ho hi I h λv u s2 x y H2 I2 rx ry ⟨a,kvs,ep,k,ex,ey,hp,hl,q⟩=>?_)))
 subst ex ey
 cases rx
 exact ML I2 hp ry hl λs' ep' I3=>wpAny_deleteEach_nil ⟨σ,_,I3,q ep'⟩
def Q7 (to ti:cT):kH:=λD τ J=>to τ J λx J1=>ti τ J1 λy J2=>BH x λa=>Fq y λk=>ES (J2 a) λkvs _=>(gP kvs k).isSome=true∧∀ep',D.nx τ (put J2 a (.dct (qr kvs k) ep'))
theorem N4 {o i:Expr} {to ti:cT} (ho:RE X G o to) (hi:RE X G i ti):RS X G (.Delete [.Subscript o i p] pos) (Q7 to ti):=⟨Ab (NM ho.run hi.run) λD σ H ⟨τ,J,D2,a2,h,g⟩ =>
 ⟨τ,J,_,a2,h,λx J1 v H1 rx r1 e1 h1=>⟨τ,J1,_,a2.go r1 e1,h1,λy J2 u H2 ry r2 e2 h2=>by
  obtain ⟨a,ex,h2⟩:=fP h2;obtain ⟨k,ey,h2⟩:=i_ h2;obtain ⟨kvs,ep,ja,hl,q⟩:=j' h2
  subst ex ey
  have rx:=e2.rep rx
  cases rx;cases ry
  obtain ⟨gs,g1,g2⟩:=r2 _ _ ja
  have pk:=cA g2
  refine ⟨a,gs,ep,k,rfl,rfl,g1,by rw [← (pk.va k).2];exact hl,λep'=>?_⟩
  have e3:=Ext.gH (K:=X.K) (kvs':=qr kvs k) (gs':=qr gs k) (ep':=ep') ja g1
  exact g.nx τ _ σ _ (((a2.sl.ext e1).ext e2).ext e3) (r2.gH ja g1 (pk.dr k)) ((e1.trans e2).trans e3) (q ep')⟩⟩⟩
theorem K_ {xs:List V} {us:List Value} (h:Vals xs us):∀{i:Nat} {u:Value},us[i]?=some u→∃x,xs[i]?=some x∧RelV x u:=by
 induction h with
 | nil=>intro i u e;cases e
 | cons r t ih =>
  intro i u e
  cases i with
  | zero=>cases e;exact ⟨_,rfl,r⟩
  | succ i=>exact ih e
variable {ks:List Str}
theorem E5 {prog:Program} {env:Env} {g:Str} {ns:List Str} {cl:List (Str × Addr)} {cg l:Addr} {its:List Value} {C:Addr} {code:Value} {bi:Addr} {fp wr:List Addr} {href:Heap} {D U:Nat} {p1 p3:Pos} (sck:scope.kind=.function) (hx:scope.names.lookup x=some .local) (hg:scope.names.lookup g=some .free)
  (hcl:cl.lookup g=some cg) (ic:href.IsCell cg (some (.ref l))) (il:PlainL href l its.toArray) (r:Vals (ks.map V.str) its) {it1:Array Value} (r1:Vals (ns.map V.str) it1.toList) (c1:cg∈fp) (c2:cg ∉ wr) (l1:l∈fp) (l2:l ∉ wr) (hmk:behindInMarks .In (.Name g p2)=false) (hdx:(x == ("__debug__":Str))=false) (hdg:(g == ("__debug__":Str))=false) (hng:(g == ("__classdict__":Str))=false) :
  QuietGenD prog w (genEnv scope cl C code bi env) x [] (.Compare (.Name x p1) [.In] [.Name g p2] p3) fp wr (λi v=>it1[i]?=some v) (λ_=>true) (λi v=>∃n,ns[i]?=some n∧v=.bool (decide (n∈ks))) href D U where
 tests:=λA' E' i v s₂ m₂ _ _ _ _ _ _ _=>wpAny_pure ⟨rfl,_,_,rfl,λ_ _ e=>e⟩
 elt:=λA' E' i v s₂ m₂ _ _ _ hP _ hn hmx hk=>by
  obtain ⟨n,u,hch,rfl⟩:∃n t,ns[i]?=some n∧v=.str n t:=by
   obtain ⟨z,hz,rz⟩:=K_ r1 (show it1.toList[i]?=some v by simpa using hP)
   rw [VS] at hz
   obtain ⟨n,hn,rfl⟩:=Xs.mp hz
   obtain ⟨t,rfl⟩:=rz
   exact ⟨n,t,hn,rfl⟩
  refine wpAny_Compare1 (wpAny_Name (wpAny_loadName_local (show (genEnv scope cl C code bi env).scope.kind=.function from sck) (show (genEnv scope cl C code bi env).kindOf x=some .local from hx) hn hmx ?_) hdx) hmk
  refine wpAny_Name (wpAny_loadName_free (show (genEnv scope cl C code bi env).scope.kind=.function from sck) (show (genEnv scope cl C code bi env).kindOf g=some .free from hg) (show (genEnv scope cl C code bi env).cells.lookup g=some cg from hcl) (let ⟨o,ho,hd⟩:=ic;⟨o,hk _ c1 c2 o ho,hd⟩) ?_ hng) hdg
  obtain ⟨o,nn,e1,e2,e3,e4⟩:=il
  have il2:PlainL s₂.heap l its.toArray:=⟨o,nn,hk _ l1 l2 o e1,e2,e3,e4⟩
  refine SeqAt.in_listAt (zj (.str n)) il2.isList (λw hw=>jF (x:=.str n) ⟨u,rfl⟩ rfl r (mO ks) w (by simpa using hw)) ⟨⟨n,hch,?_⟩,_,_,rfl,λ_ _ e=>e⟩
  rw [show its.toArray.any (zj (.str n))=its.any (zj (.str n)) by simp,mJ r (mO ks)]
  exact congrArg Value.bool (xW n ks)
def K0 (P:Addr) (i:Nat) (ti:TE):TE:=λσ H Q=>ti σ H λv H1=>∃(p l:Addr) (ns ks:List Str),v=.ref p∧fo X.K H1 p (ns.map .str)∧σ[i]?=some (some (.ref l))∧dG X.K H1 l (ks.map .str)∧H1 P=some (.ext (eL P))∧Q (.bl (ns.all λn=>decide (n∈ks))) H1
variable {P:Addr}
theorem EX {g:Str} {p1 p3 gpos cpos:Pos} {ti:TE} (hcalm:X.calm=true) (Bm:BMain X.mg X.base) (hcode:X.env.code=.ref c) (Z:k9 X.K c P) (hdep:X.A.depth < recursionLimit)
  (hgl:Gl X "all") (hma:X.mg "all"=none) (hi:PE X iter ti) (hN:X.N[i]?=some g) (hgc:X.env.kindOf g=some .cell) (hv:og X.env.scope g) (sck:scope.kind=.function) (hco:scope.isCoroutine=false) (hcell:∀y∈scope.names,y.2≠.cell) (hfree:∀y∈scope.names,y.2=.free→y.1=g) (hgm:(g,NameKind.free)∈scope.names)
  (h0:scope.names.lookup (".0":Str)=some NameKind.local) (hx:scope.names.lookup x=some .local) (hsc:scope.names.lookup g=some .free) (hmk:behindInMarks .In (.Name g p2)=false) (hs:∀x,genFold iter X.env x=pure x)
  (hst:starEach [.GeneratorExp (.Compare (.Name x p1) [.In] [.Name g p2] p3) [⟨.Name x px,iter,[],0⟩] scope gpos] X.env=[(false,eval (.GeneratorExp (.Compare (.Name x p1) [.In] [.Name g p2] p3) [⟨.Name x px,iter,[],0⟩] scope gpos) X.env)])
  (hdx:(x == ("__debug__":Str))=false) (hdg:(g == ("__debug__":Str))=false) (hng:(g == ("__classdict__":Str))=false) :
  PE X (.Call (.Name "all" p) [.GeneratorExp (.Compare (.Name x p1) [.In] [.Name g p2] p3) [⟨.Name x px,iter,[],0⟩] scope gpos] [] cpos) (K0 (X:=X) P i ti):=by
 intro pins s σ H Q I h
 obtain ⟨cl,hcl,hc1,hc2⟩:=gT (sc:=scope) (env:=X.env) λy hy e=>I.ok.has y.1 (.inl (by rw [hfree y hy e];exact hgc))
 obtain ⟨cg,hcg⟩:=hc2 _ hgm rfl
 have hcg':=hc1 _ _ hcg
 refine wpAny_Call_Name_kw (jW I hgl hma PyProof.Rows.Boot.«all» ?_)
 refine PyProof.Rows.callWith_builtin1 ?_ hst rfl
 rw [hst]
 show wpAny _ _ (spliced ((false,eval (.GeneratorExp (.Compare (.Name x p1) [.In] [.Name g p2] p3) [⟨.Name x px,iter,[],0⟩] scope gpos) X.env) :: [])) _ _ s
 refine Calls.spliced_cons ?_
 refine wpAny_GeneratorExp_walksQD (I.ok.hd hcalm) hco hcl hcell h0 hx sck hdep ?_ hs
 refine cn (hi pins s σ H _ I h) λxv s1 ⟨v,H1,I1,r1,pt,l,ns,ks,ev,hpt,hσ,hl,hP,q⟩=>?_
 subst ev
 cases r1
 have t1:eL P s1.heap:=(I1.hok P _ hP).1
 have ltP:P < s1.heap.objs.size:=I1.hok.lt hP
 obtain ⟨itT,rT,tT,zT⟩:=I1.tuple hpt
 obtain ⟨itL,rL,pL,zL⟩:=I1.list hl
 have ltT:pt < s1.heap.objs.size:=let ⟨o,ho,_⟩:=tT;V4 ho
 have icell:s1.heap.IsCell cg (some (.ref l)):=by
  obtain ⟨m,hm,hloc⟩:=I1.loc
  obtain ⟨u,ru,lk⟩:=hloc i g (.ref l) hN hσ hv
  cases ru
  rcases lk with ⟨z,_⟩ | ⟨_,c',hc',ho⟩
  ·rw [hgc] at z;cases z
  ·rw [hcg'] at hc';cases hc';exact ho
 refine wpAny_pyIter_tuple (items:=itT.toArray) tT ?_
 have k1:∀b ob,s1.heap.get? b=some ob→(s1.heap.push { cls:=.type "tuple_iterator",data:=.fields #[.ref pt,.int 0 0] }).get? b=some ob:=λb ob e=>VW _ e
 have st0:(s1.heap.push { cls:=.type "tuple_iterator",data:=.fields #[.ref pt,.int 0 0] }).IsTupleIter s1.heap.objs.size pt 0:=⟨_,Wd _ rfl,rfl,rfl⟩
 generalize hpush:s1.heap.push { cls:=.type "tuple_iterator",data:=.fields #[.ref pt,.int 0 0] }=hp2 at k1 st0 ⊢
 refine ⟨I1.nolimit.keeps k1,?_⟩
 have t2:eL P hp2:=let ⟨ps,hp,tr⟩:=t1;⟨ps,k1 _ _ hp,tr⟩
 refine zG (X:=X) (s:={ s1 with heap:=hp2 }) hcode Z (I1.wQ.keeps k1) t2 λcode h' tk k sz t'=>?_
 have kk:∀b ob,b≠P→s1.heap.get? b=some ob→h'.get? b=some ob:=λb ob nb e=>k b ob nb (k1 b ob e)
 have nsP:∀(b:Addr) (m:Str→Option Value),s1.heap.Ns b m→b≠P:=λb m hn z=>by
  obtain ⟨ob,es,ep,ho,hd,_⟩:=hn
  obtain ⟨ps,hp,_⟩:=t1
  rw [z,hp] at ho;cases ho;cases hd
 have nsK:∀(b:Addr) (m:Str→Option Value),s1.heap.Ns b m→h'.Ns b m:=λb m hn=>hn.at' λob e=>kk b ob (nsP b m hn) e
 have nsG:s1.heap.Ns X.env.globals X.mg:=by rw [I1.ok.glob];exact I1.mod.glob.keeps I1.bk
 have nl:h'.NoLimit:=let ⟨mc,h1,h2⟩:=I1.nolimit;⟨mc,nsK _ _ h1,h2⟩
 have ltC:cStatics < s1.heap.objs.size:=let ⟨mc,h1,_⟩:=I1.nolimit;h1.lt
 have szI:s1.heap.objs.size < h'.objs.size:=V7 (by rw [← hpush,Yv];exact Xo _) sz
 obtain ⟨bm,ob,b1,b2,b3,b4,b5,b6⟩:=Bm
 have b3':=I1.bk _ _ b3
 have nbm:bm≠P:=λz=>by
  obtain ⟨ps,hp,_⟩:=t1
  rw [z,hp] at b3'
  rw [← Option.some.inj b3'] at b6;cases b6
 refine wpAny_builtinsFor (nsK _ _ nsG) b1 b2 (kk _ _ nbm b3') b4 b5 b6 ?_
 have ntP:pt≠P:=λz=>by
  obtain ⟨ps,hp,_⟩:=t1
  obtain ⟨o,ho,hc,_⟩:=tT
  rw [z,hp] at ho;cases ho;cases hc
 have nlP:l≠P:=λz=>by
  obtain ⟨ps,hp,_⟩:=t1
  obtain ⟨o,n,ho,hc,_⟩:=pL
  rw [z,hp] at ho;cases ho;cases hc
 have ncP:cg≠P:=λz=>by
  obtain ⟨ps,hp,_⟩:=t1
  obtain ⟨o,ho,hd⟩:=icell
  rw [z,hp] at ho;cases ho;cases hd
 have ltL:l < s1.heap.objs.size:=let ⟨o,n,ho,_⟩:=pL;V4 ho
 have ltc:cg < s1.heap.objs.size:=let ⟨o,ho,_⟩:=icell;V4 ho
 have tT':h'.IsTuple pt itT.toArray:=let ⟨o,ho,r⟩:=tT;⟨o,kk _ _ ntP ho,r⟩
 have pL':PlainL h' l itL.toArray:=let ⟨o,n,ho,r⟩:=pL;⟨o,n,kk _ _ nlP ho,r⟩
 have ic':h'.IsCell cg (some (.ref l)):=let ⟨o,ho,r⟩:=icell;⟨o,kk _ _ ncP ho,r⟩
 have W:∀A':Around,A'.handled=none→Walks X.prog X.w A' s1.heap.objs.size [s1.heap.objs.size,pt] [s1.heap.objs.size] itT.toArray.size (λi v=>itT.toArray[i]?=some v) (λi h=>h.IsTupleIter s1.heap.objs.size pt i∧h.IsTuple pt itT.toArray):=λA' hh=>Walks.tuple hh _ pt (Wf ltT) _
 have nit:s1.heap.objs.size≠P:=Yn ltP
 refine ⟨s1.heap.objs.size,[s1.heap.objs.size,pt],[s1.heap.objs.size],itT.toArray.size,λi v=>itT.toArray[i]?=some v,λi h=>h.IsTupleIter s1.heap.objs.size pt i∧h.IsTuple pt itT.toArray,λ_=>true,λi v=>∃n,ns[i]?=some n∧v=.bool (decide (n∈ks)),rfl,W,
  ⟨let ⟨o,ho,r⟩:=st0;⟨o,k _ _ nit ho,r⟩,tT'⟩,λb hb=>?_,nl,
  λhb=>Wf ltC (VV.mp hb),λhref kh=>E5 sck hx hsc hcg (let ⟨o,ho,r⟩:=ic';⟨o,kh _ _ ho,r⟩) (let ⟨o,n,ho,r⟩:=pL';⟨o,n,kh _ _ ho,r⟩) rL (by simpa using rT) (W8.mpr (Y_ ltc szI)) (λhb=>Wf ltc (VV.mp hb)) (W8.mpr (Y_ ltL szI)) (λhb=>Wf ltL (VV.mp hb)) hmk hdx hdg hng,λa h5 tk5 gs hgs ltA szA k5 WS G=>?_⟩
 ·rcases V2.mp hb with rfl | hb
  ·exact szI
  ·rw [VV.mp hb];exact Y_ ltT szI
 refine Calls.spliced_nil ?_
 have hlen:itT.toArray.size=ns.length:=by have:=rT.length;rw [VM] at this;simp [this]
 have pall:passing (λ_=>true) itT.toArray.size 0=WM itT.toArray.size:=by simp [passing]
 have WS:=WS.in4_1
 refine call_all_walkS (WS.self 0 _ _ _ G ⟨a,_,_,_,_,_,_,(λj=>(ns[j]?).elim true λn=>decide (n∈ks)),rfl,WS,G,λj v s Q E hv hQ=>?_,λs' hm=>?_⟩)
 ·obtain ⟨i,hi,n,hn,rfl⟩:=hv
  rw [pall] at hi
  have hji:i=j:=by
   obtain ⟨hj,e⟩:=VO.mp hi
   simpa using e.symm
  subst hji
  simp only [hn,Option.elim] at hQ
  exact wpAny_truthy_bool hQ
 ·have nwr:∀b,b < s1.heap.objs.size→b ∉ h'.objs.size :: [s1.heap.objs.size]:=λb hb hm=>by
   rcases V2.mp hm with z | z
   ·omega
   ·have:=VV.mp z
    omega
  refine ⟨.bl _,H1,C1 I1 hP hm.os ((I1.bare.push hgs).movedS hm) (λb o' nb e=>hm.heap b o' (nwr b (V4 e)) (k5 b o' (kk b o' nb e))) ?_,rfl,?_⟩
  ·obtain ⟨ps,hp,tr⟩:=t'
   exact ⟨ps,hm.heap P _ (nwr P ltP) (k5 P _ hp),tr⟩
  ·rw [pall]
   have z:=zt ns λn=>decide (n∈ks)
   rw [X1,hlen,z]
   exact q
theorem qM {K:VL} {J:Hq} {H:Hp}:∀{ks:List Str} {vs:List V},aP K J H (ks.map PV.str) vs→vs=ks.map V.str
 | [],vs,h=>h
 | k :: ks,vs,⟨v,us,e,h1,h2⟩=>by rw [e,qM h2,h1];rfl
def Du (P:Addr) (i:Nat) (ti:cT):cT:=λτ J Q=>ti τ J λx J1=>∃ns ks:List Str,x=.tup (ns.map .str)∧τ[i]?=some (some (.fl (ks.map .str)))∧J1 P=some .tab∧Q (.bl (ns.all λn=>decide (n∈ks))) J1
theorem E6 {g:Str} {p1 p3 gpos cpos:Pos} {ti:cT} (hcalm:X.calm=true) (Bm:BMain X.mg X.base) (hcode:X.env.code=.ref c) (Z:k9 X.K c P) (hr:bF k X.A)
  (hgl:Gl X "all") (hma:X.mg "all"=none) (hi:RE X G iter ti) (hN:X.N[i]?=some g:=by rfl) (hgc:X.env.kindOf g=some .cell:=by rfl) (hv:og X.env.scope g:=by first | exact .inl rfl | exact .inr rfl | exact .inr (.inl rfl) | exact .inr (.inr rfl)) (sck:scope.kind=.function:=by rfl) (hco:scope.isCoroutine=false:=by rfl) (hcell:∀y∈scope.names,y.2≠.cell:=by decide) (hfree:∀y∈scope.names,y.2=.free→y.1=g:=by decide +kernel) (hgm:(g,NameKind.free)∈scope.names:=by decide +kernel)
  (h0:scope.names.lookup (".0":Str)=some NameKind.local:=by rfl) (hx:scope.names.lookup x=some .local:=by rfl) (hsc:scope.names.lookup g=some .free:=by rfl) (hmk:behindInMarks .In (.Name g p2)=false:=by with_unfolding_all rfl) (hs:∀x,genFold iter X.env x=pure x:=by intro _;rfl)
  (hst:starEach [.GeneratorExp (.Compare (.Name x p1) [.In] [.Name g p2] p3) [⟨.Name x px,iter,[],0⟩] scope gpos] X.env=[(false,eval (.GeneratorExp (.Compare (.Name x p1) [.In] [.Name g p2] p3) [⟨.Name x px,iter,[],0⟩] scope gpos) X.env)]:=by rfl)
  (hdx:(x == ("__debug__":Str))=false:=by decide) (hdg:(g == ("__debug__":Str))=false:=by decide) (hng:(g == ("__classdict__":Str))=false:=by decide) :
  RE X G (.Call (.Name "all" p) [.GeneratorExp (.Compare (.Name x p1) [.In] [.Name g p2] p3) [⟨.Name x px,iter,[],0⟩] scope gpos] [] cpos) (Du P i ti) :=
 ⟨kZ (EX hcalm Bm hcode Z (by have:=hr.dp;omega) hgl hma hi.run hN hgc hv sck hco hcell hfree hgm h0 hx hsc hmk hs hst hdx hdg hng) λσ H Q ⟨τ,J,Q2,a2,h,k⟩=>⟨τ,J,_,a2,h,λx J1 v H1 rx r1 e1 hh=>by
  obtain ⟨ns,ks,ex,hτ,hP,q⟩:=hh
  subst ex
  obtain ⟨a,vs,ev,sq,rs⟩:=rx
  obtain ⟨w,hw,rw'⟩:=a2.sl.get i _ hτ
  obtain ⟨b,us,eb,fl,ru⟩:=e1.rep rw'
  subst ev eb
  rw [qM rs] at sq
  rw [qM ru] at fl
  exact ⟨a,b,ns,ks,rfl,sq,hw,fl.sq,r1 _ _ hP,k (.bl _) J1 _ H1 rfl r1 e1 q⟩⟩⟩
structure Cs (K:VL) (x q:Str) (st:Stmt) (P f:Addr) (fd:FuncData) (c:Addr):Prop where
 fn:bZ K x q st f fd
 code:fd.code=.ref c
 tab:k9 K c P
 out:K.lookup P=none
variable {P:Program}
theorem Qi {q:Str} {f:Addr} {fd:FuncData} {N:List Str} (F:Cs K x q st T f fd c) (S:av N ps (aq st)) (len:∀xs J Q E,sp xs J Q E→xs.length=ps.length)
  (hbody:∀(A:Around) (outer:List Env) (s:Shared) (H:Hp) (E:XK) (G:G2) (xs:List PV) (J:Hq) (Q:PV→Hq→Prop) (E2:Addr→Hq→Prop),bF k (A.deeper (envOfC q (aq st) s.heap.objs.size f (.ref c)))→sp xs J Q E2 →
   AN (wG P w K mg base N q (aq st) f (.ref c) A outer s H E) G E2 E →
   ∃t,RB (wG P w K mg base N q (aq st) f (.ref c) A outer s H E) G (bX st) t∧t { nx:=λ_ J'=>Q .non J',rt:=Q } (rp N xs) J):aK P w K mg base (cq P w) (k + 1) f fd ps (cP K sp):=by
 obtain ⟨oc,od,kV,doc,pm,an,cdv,ct,osl,rfl,lk,hcd⟩:=F.fn.ex
 obtain rfl:cdv=.ref c:=F.code
 refine CP lk hcd S (λvs H Q E ⟨xs,J,Q2,E2,a,_,b,_⟩=>by rw [← a.length];exact len _ _ _ _ b) λA outer s H vs Q E hr ⟨xs,J,Q2,E2,rs,rr,hs,kn,ke⟩=>?_
 obtain ⟨t,hb,q⟩:=hbody A outer s H E (J,H) xs J Q2 E2 hr hs ⟨oi,ke⟩
 refine ⟨_,hb.run,rp N xs,J,_,⟨uX rs,rr,.refl⟩,q,?_⟩
 exact { nx:=λτ J' σ H' _ r e q=>kn .non J' .non H' rfl r e q,rt:=λx J' v H' rx r e q=>kn x J' v H' rx r e q,bk:=λ_ _ _ _ _ _ _ q=>q.elim,ct:=λ_ _ _ _ _ _ _ q=>q.elim }
abbrev TD:=St→Hp→(List (Str × V)→Hp→Prop)→Prop
def R1:TD:=λ_ H Q=>Q [] H
def Ox (k:Str) (ta:TE) (tr:TD):TD:=λσ H Q=>ta σ H λx H1=>tr σ H1 λxs H2=>Q ((k,x) :: xs) H2
def PD (X:Cx) (keys:List (Option Expr)) (values:List Expr) (ks:List Str) (t:TD):Prop:=∀pos pins s σ H Q,Inv X pins σ H s→t σ H Q →
 wpAny (model X.prog X.w) X.A (evalPairs (pairTrees keys values X.env pos)) (λvs s'=>∃xs H',Inv X pins σ H' s'∧allStrKeys vs=true∧kY RelV xs (strPairs vs)∧xs.map (·.1)=ks∧Q xs H') X.xe s
theorem NG:PD X [] [] [] R1:=λpos pins s σ H Q I h=>pairTrees_nil_walk ⟨[],H,I,rfl,.nil,rfl,h⟩
variable {values:List Expr}
theorem Kb {k:Str} {j:Nat} {v:Expr} {keys:List (Option Expr)} {te:TE} {tr:TD} (he:PE X v te) (hr:PD X keys values ks tr):PD X (some (.Constant (.str k) j p) :: keys) (v :: values) (k :: ks) (Ox k te tr):=λpos pins s σ H Q I h=>by
 refine pairTrees_cons_walk (cn (uk pins s σ H (λx H'=>x=.str k∧H'=H) I ⟨rfl,rfl⟩) λkv s1 ⟨x,H1,I1,r1,ex,eH⟩=>?_)
 subst ex
 rw [eH] at I1
 refine cn (he pins s1 σ H _ I1 h) λvv s2 ⟨y,H2,I2,r2,q⟩=>?_
 obtain ⟨t,rfl⟩:=r1
 exact wpAny_mono (hr pos pins s2 σ H2 _ I2 q) (λvs s3 ⟨xs,H3,I3,ha,hk,e,q⟩=>⟨(k,y) :: xs,H3,I3,ha,.cons ⟨rfl,r2⟩ hk,congrArg (k :: ·) e,q⟩) λ_ _ z=>z
theorem G5 {keys:List (Option Expr)} {t:TD} (h:PD X keys values ks t) (hall:keys.all (·.isSome)=true) (hlen:keys.length=values.length) (hn:ks.Nodup) (h0:keys≠[]) (hl:ks.length≤15) (hv:values.length≤15) :
  PE X (.Dict keys values pos) (λσ H Q=>∀p,H p=none→∀ep,t σ (upd H p (.dE [] ep)) λxs H'=>H' p=some (.dE [] ep)∧∀ep',Q (.ref p) (upd H' p (.dE xs ep'))):=by
 intro pins s σ H Q I q
 refine wpAny_Dict_walk (knd:=PySem.strKind X.prog X.w) hall (by omega) (λz=>h0 (List.eq_nil_of_length_eq_zero (by rw [z];rfl))) (by omega) ?_
 have hd:(s.heap.push { cls:=.type "dict",data:=.dict #[] }).DictOf (PySem.strKind X.prog X.w) s.heap.objs.size []:=Heap.DictOf.new s.heap
 obtain ⟨ep,da⟩:=hd.dictAt
 have hsys:(s.heap.objs.size == sysModules)=false:=beq_eq_false_iff_ne.mpr (Ne.symm (Wf I.MF))
 have I0:Inv X pins σ (upd H s.heap.objs.size (.dE [] ep)) { s with heap:=s.heap.push { cls:=.type "dict",data:=.dict #[] } }:=I.laid (a:=s.heap.objs.size) (o:=.dE [] ep) (t':=s.toks) (λ_ _ q=>VW _ q) (VT _) ⟨Ww _,hsys,[],.nil,da⟩
 refine wpAny_mono (h pos pins _ σ _ _ I0 (q _ (I.hok.fresh (VT _)) ep)) (λvs s1 ⟨xs,H',I1,ha,hr,e,hp,q⟩=>?_) λ_ _ z=>z
 obtain ⟨_,_,vs0,rel0,da0⟩:=gh I1 hp
 cases rel0
 refine display_done_str ha (by rw [Hd hr,e];exact hn) da0.dictOf λh' dd hs=>?_
 obtain ⟨ep',I2⟩:=lz (t':=s1.toks + vs.length) I1 hp hs (by have:=congrArg Xj e;rw [VM] at this;exact V6 (ZS this) (V6 hl (by decide))) hsys hr dd
 exact ⟨.ref s.heap.objs.size,_,I2,rfl,q ep'⟩
abbrev Lg:=Sr→Hq→(List (Str × PV)→Hq→Prop)→Prop
def Ma:Lg:=λ_ J Q=>Q [] J
def Hy (k:Str) (ta:cT) (tr:Lg):Lg:=λτ J Q=>ta τ J λx J1=>tr τ J1 λxs J2=>Q ((k,x) :: xs) J2
def LD (K:VL) (G:G2) (t:Lg):TD:=λσ H Q=>∃τ J Q2,xq K G τ J σ H∧t τ J Q2∧∀xs J' vs H',nq K J' H' xs vs→Rep K J' H'→Ext K J H J' H'→Q2 xs J'→Q vs H'
structure RD (X:Cx) (G:G2) (keys:List (Option Expr)) (values:List Expr) (ks:List Str) (t:Lg):Prop where
 run:PD X keys values ks (LD X.K G t)
def Hu (t:Lg):cT:=λτ J Q=>∀p,J p=none→∀ep,t τ (put J p (.dct [] ep)) λxs J'=>J' p=some (.dct [] ep)∧∀ep',Q (.ref p) (put J' p (.dct xs ep'))
theorem Ve {keys:List (Option Expr)} {t t':TD} (h:PD X keys values ks t) (k:∀σ H Q,t' σ H Q→t σ H Q):PD X keys values ks t':=λpos pins s σ H Q I q=>h pos pins s σ H Q I (k _ _ _ q)
theorem NX:RD X G [] [] [] Ma:=⟨Ve NG λσ H Q ⟨τ,J,Q2,a2,h,k⟩=>k [] J [] H ⟨rfl,rfl⟩ a2.hp .refl h⟩
theorem kg {k:Str} {j:Nat} {v:Expr} {keys:List (Option Expr)} {tr:Lg} (he:RE X G v te) (hr:RD X G keys values ks tr):RD X G (some (.Constant (.str k) j p) :: keys) (v :: values) (k :: ks) (Hy k te tr) :=
 ⟨Ve (Kb he.run hr.run) λσ H Q ⟨τ,J,Q2,a2,h,kk⟩=>⟨τ,J,_,a2,h,λx J' v H' rx rr ee q=>⟨τ,J',_,a2.go rr ee,q,λxs J2 vs H2 rs r2 e2 q2=>kk ((k,x) :: xs) J2 ((k,v) :: vs) H2 ⟨congrArg (k :: ·) rs.1,v,_,rfl,e2.rep rx,rs.2⟩ r2 (ee.trans e2) q2⟩⟩⟩
theorem HD {keys:List (Option Expr)} {t:Lg} (h:RD X G keys values ks t) (hall:keys.all (·.isSome)=true:=by rfl) (hlen:keys.length=values.length:=by rfl) (hn:ks.Nodup:=by decide +kernel) (h0:keys≠[]:=by simp) (hl:ks.length≤15:=by decide) (hv:values.length≤15:=by decide):RE X G (.Dict keys values pos) (Hu t) :=
 ⟨kZ (G5 h.run hall hlen hn h0 hl hv) λσ H Q ⟨τ,J,Q2,a2,q,k⟩ p hp ep =>
  have e0:Ext X.K J H (put J p (.dct [] ep)) (upd H p (.dE [] ep)):=.laid hp
  ⟨τ,put J p (.dct [] ep),_,a2.go (a2.hp.Gj hp) e0,q p (a2.hp.free hp) ep,λxs J' vs H' rs rr ee ⟨hj,q'⟩=>by
   obtain ⟨gs,h1,h2⟩:=rr _ _ hj
   have pk:=cA h2
   cases pk
   exact ⟨h1,λep'=>k (.ref p) _ _ _ rfl (rr.gH hj h1 (cA rs)) (e0.trans (ee.trans (Ext.gH hj h1))) (q' ep')⟩⟩⟩
def Rf (K:VL):R2:=λv v' H Q=>∃(p:Addr) (vs:List V) (zs:List Py) (y:Py),v'=.ref p∧(dG K H p vs∨fo K H p vs)∧sW K H zs vs∧At K H y v∧(∀z∈zs,dep z≤60)∧(∀z∈zs,∀z'∈zs,gK z z'=true→gK z y=gK z' y)∧Q (.bl (!(zs.any λz=>gK z y))) H
theorem JU (hu:X.A.units + 61 < cLine):eX X (compareOp .NotIn) (Rf X.K):=by
 intro pins s σ H x y v u Q I rx ry h
 obtain ⟨p,vs,zs,py,rfl,hq,ha,hy,hd,hc,q⟩:=h
 cases ry
 rcases hq with hq | hq
 ·obtain ⟨its,r,pl,hz⟩:=I.list hq
  obtain ⟨h1,h2⟩:=Bg (A:=X.A.in1) I hy rx zs hc (λ_ h=>h) ha r (λz hz=>by have:=hd z hz;show X.A.units + 1 + dep z < cLine;omega)
  refine SeqAt.notIn_listAt (eT X.K H zs py) pl.isList (λw hw=>h1 w (by simpa using hw)) ⟨.bl _,H,I,rfl,?_⟩
  rw [show its.toArray.any (eT X.K H zs py)=its.any (eT X.K H zs py) by simp,h2]
  exact q
 ·obtain ⟨its,r,pl,hz⟩:=I.tuple hq
  obtain ⟨h1,h2⟩:=Bg (A:=X.A.in1) I hy rx zs hc (λ_ h=>h) ha r (λz hz=>by have:=hd z hz;show X.A.units + 1 + dep z < cLine;omega)
  refine SeqAt.notIn_tupleAt (eT X.K H zs py) pl (λw hw=>h1 w (by simpa using hw)) ⟨.bl _,H,I,rfl,?_⟩
  rw [show its.toArray.any (eT X.K H zs py)=its.any (eT X.K H zs py) by simp,h2]
  exact q
def LX:n_:=λx y J Q=>jw x=true∧∃ys,Mg J y=some ys∧iG ys=true∧(∀z∈ys,dep (dw z)≤60)∧(∀z∈ys,∀z'∈ys,eqQ z z'=true→eqQ z x=eqQ z' x)∧Q (.bl (!(ys.any λz=>eqQ z x))) J
theorem JY (hu:X.A.units + 61 < cLine):ni X (compareOp .NotIn) LX:=⟨_,JU hu,λJ H x y v w Q2 Q rx ry r ⟨px,ys,hy,pys,hd,hc,q⟩ k=>by
 obtain ⟨p,vs,rfl,hq,h2⟩:=Cj hy ry r
 refine ⟨p,vs,dR ys,dw x,rfl,hq,jy pys h2,sG px rx,λz hz=>?_,λz hz z' hz'=>?_,k (.bl _) J _ H ?_ r .refl q⟩
 ·obtain ⟨a,ha,rfl⟩:=mR hz;exact hd a ha
 ·obtain ⟨a,ha,rfl⟩:=mR hz;obtain ⟨b,hb,rfl⟩:=mR hz';exact hc a ha b hb
 ·rw [wz];rfl⟩
variable {vs:Array Value}
theorem zA {od':Option Addr} {sl':Array (Option Value)} (t:K.lookup c=some ⟨.type "code",od',.fields vs,sl'⟩) (p:vs[11]?=some (.ref T)) (b:codeB vs=true) (ne:c≠T):k9 K c T:=by
 refine ⟨ne,?_⟩
 simp only [codeB,Wt] at b
 obtain ⟨⟨⟨b1,b2⟩,b3⟩,b4⟩:=b
 cases e1:vs.getD 18 .none with
 | str file tf =>
  cases e2:vs.getD 7 .none with
  | int fl tg =>
   cases e3:vs.getD 9 .none with
   | bool inF =>
    cases e4:vs.getD 10 .none with
    | int text tt=>exact ⟨_,vs,file,tf,fl,tg,inF,text,tt,t,rfl,rfl,p,e1,e2,e3,e4⟩
    | _=>rw [e4] at b4;cases b4
   | _=>rw [e3] at b3;cases b3
  | _=>rw [e2] at b2;cases b2
 | _=>rw [e1] at b1;cases b1
theorem FL {h:Heap} (X:K.In h) (G:h.Ns mainGlobals mg) {f:Addr} {od an od':Option Addr} {sl sl':Array (Option Value)} {oc kV dc pm ct:Value}
  (a:WA K mainGlobals x=some (some (.ref f))) (l:K.lookup f=some ⟨oc,od,.func (WD x x (dC st) (bX st) (aq st) .none kV dc pm an (.ref c) ct),sl⟩) (cc:Xp K (.ref c) x=true) (k:WL K (.ref f)=true)
  (t:K.lookup c=some ⟨.type "code",od',.fields vs,sl'⟩) (p:vs[11]?=some (.ref T)) (b:codeB vs=true) (ne:c≠T) (out:K.lookup T=none):AY K mg x st T :=
 ⟨f,_,c,xT l cc k,Wy X G a,rfl,zA t p b ne,out⟩
def wx (K:VL) (C:Addr) (m q:Str) (st:Stmt) (T:Addr):Prop:=∃f fd c,Meth K C m f∧Cs K m q st T f fd c
theorem Gv {C f:Addr} {m q:Str} {od an od':Option Addr} {sl sl':Array (Option Value)} {oc kV dc pm ct:Value} (a:WK K (.ref C) m=some (some (.ref f))) (i:Yo K (.ref f)=true)
  (l:K.lookup f=some ⟨oc,od,.func (WD m q (dC st) (bX st) (aq st) .none kV dc pm an (.ref c) ct),sl⟩) (cc:Xp K (.ref c) q=true) (k:WL K (.ref f)=true)
  (t:K.lookup c=some ⟨.type "code",od',.fields vs,sl'⟩) (p:vs[11]?=some (.ref T)) (b:codeB vs=true) (ne:c≠T) (out:K.lookup T=none):wx K C m q st T :=
 ⟨f,_,c,⟨a,i,k⟩,xT l cc k,rfl,zA t p b ne,out⟩
theorem wx.kL {C:Addr} {m q:Str} (D:wx K C m q st T) (cl:kR K C) (h:∀f fd c,Cs K m q st T f fd c→aK P w K mg base (cq P w) k f fd ps (cP K sp))
  (hb:∀(kV doc pm:Value) (an:Option Addr) (cdv ct:Value) (us:List Value),us.length=ps.length→bindArgs (WD m q (dC st) (bX st) (aq st) .none kV doc pm an cdv ct) ⟨us,[]⟩=pure (ps.zip us)):bU P w K mg base C k m ps sp:=by
 obtain ⟨f,fd,c,hm,F⟩:=D
 exact ⟨cl,f,fd,hm,h f fd c F,F.fn.binds hb⟩
def xJ (K:VL) (T:Addr):Prop:=(∃c,k9 K c T)∧K.lookup T=none
theorem AY.tabs (D:AY K mg x st T):xJ K T:=let ⟨_,_,c,F⟩:=D;⟨⟨c,F.tab⟩,F.out⟩
theorem wx.tabs {C:Addr} {m q:Str} (D:wx K C m q st T):xJ K T:=let ⟨_,_,c,_,F⟩:=D;⟨⟨c,F.tab⟩,F.out⟩
theorem Iy {l:PySem.W.OpenLaw} {n:Nat} {q:Program} {loose:List Str} {XP:(Str→Option Value)→Heap→Prop} {YP:World→Heap→Prop} {d:DefRec} {K:Params→VL} {sp:List Addr→VL→Sp} (tabs:List Addr)
  (hn:l.most=some n) (hn2:n≤sizeLine) (hdf:d.params.defaults=[]) (hr:bF k callerA) (hY:∀(w:World) (h:Heap),YP w h→(K w.params).In h∧∀T∈tabs,h.get? T=some { cls:=.none,data:=.fields #[] })
  (F:∀(w:World) (mg:Str→Option Value) (fa:Addr) (h:Heap),(K w.params).In h→h.Ns mainGlobals mg→mg d.name=some (.ref fa) →
   ∃fd:FuncData,(∀(s:Shared) (u:Value),BindsTo s fd ⟨[u],[]⟩ [(x,u)]) ∧
    ∀base:Heap,(K w.params).In base→base.Ns mainGlobals mg→BMain mg base→(∀T∈tabs,xJ (K w.params) T)∧aK l.prog w (K w.params) mg base OO k fa fd [x] (sp tabs (K w.params)))
  (hsp:∀(tabs:List Addr) (K:VL) (H:Hp) (a:Addr) (ns:List Int),ns.length≤n→(∀T∈tabs,H T=some (.ext (eL T)))→dG K H a (ns.map V.int)→(∀b,H b≠none→b=a∨b∈tabs)→(∀u,H a=some u→∃o xs,u=.rH o (.lst xs))→sp tabs K [.ref a] H (λv H'=>v=.bl true∧cb H H') λ_ _ _=>False) :
  PySem.W.WalkO q loose XP YP l.row.toRowW d [] (λf vs=>PySem.call f vs):=by
 refine Att.zw hn hdf λw s₀ s₁ mg mb fa o pm cd doc a vs ns G Y ho hd hcd hmg hobj hints hlen hg=>?_
 obtain ⟨KX,hT⟩:=hY w _ Y
 obtain ⟨fd,hb,hF⟩:=F w mg fa _ KX G.T.g hmg
 refine Ep KX G.T.g G.T.b G.T.builtins G.T.nolimit hg hobj hints (V6 hlen hn2) hr G.T.bmain (λT h=>?_) (λb h1 h2 h3=>(hF b h1 h2 h3).2) hb (λH hT hS hA hK=>hsp tabs _ H a ns hlen hT hS hA hK)
 obtain ⟨⟨c,Z⟩,out⟩:=(hF _ KX G.T.g G.T.bmain).1 T h
 have e:=hT T h
 exact ⟨(Z.at KX e trivial).2.isCodeTable,e,out⟩
theorem xo {xs:List V} {us:List Value} (h:Vals xs us):∀is:List Nat,Vals (is.filterMap (xs[·]?)) (is.filterMap (us[·]?))
 | []=>.nil
 | i :: is=>by
  have ih:=xo h is
  have key:(xs[i]?=none∧us[i]?=none)∨∃x u,xs[i]?=some x∧us[i]?=some u∧RelV x u:=by
   clear ih
   induction h generalizing i with
   | nil=>exact .inl ⟨rfl,rfl⟩
   | cons r t ih =>
    cases i with
    | zero=>exact .inr ⟨_,_,rfl,rfl,r⟩
    | succ i=>exact ih i
  rcases key with ⟨e1,e2⟩ | ⟨x,u,e1,e2,r⟩
  ·rw [Wh,Wh,e1,e2];exact ih
  ·rw [Wh,Wh,e1,e2];exact .cons r ih
def RZ (K:VL) (te:TE) (tl ts:TO):TE:=λσ H Q=>te σ H λx H1=>tl σ H1 λ_ H2=>ts σ H2 λo H3=>o≠some 0∧∃a xs,x=.ref a∧dG K H3 a xs∧∀is:List Nat,(is.filterMap (xs[·]?)).length≤xs.length→∀p,H3 p=none→Q (.ref p) (upd H3 p (.lst (is.filterMap (xs[·]?))))
variable {e st lo:Expr} {te:TE} {tl ts:TO}
theorem Kh (he:PE X e te) (hl:PO X (some lo) tl) (hs:PO X (some st) ts):PE X (.Subscript e (.Slice (some lo) none (some st) p2) pos) (RZ X.K te tl ts):=by
 intro pins s σ H Q I h
 refine Subscript_ (cn (he pins s σ H _ I h) λv s1 ⟨x,H1,I1,r1,q1⟩=>?_)
 refine wpAny_Slice ?_
 refine cn (hl pins s1 σ H1 _ I1 q1) λvl s2 ⟨o1,H2,I2,pl,q2⟩=>?_
 rw [evalPart_none]
 refine wpAny_pure ?_
 refine cn (hs pins s2 σ H2 _ I2 q2) λvs s3 ⟨o,H3,I3,ps,q3⟩=>?_
 obtain ⟨h0,a,xs,rfl,hx,q⟩:=q3
 have I4:Inv X pins σ H3 { s3 with heap:=s3.heap.push { cls:=.type "slice",data:=.fields #[vl,.none,vs] } }:=I3.kept (t':=s3.toks) λb ob q=>VW _ q
 cases r1
 obtain ⟨its,r,ht,hz⟩:=I4.list hx
 have hlen:=r.length
 show wpAny (model X.prog X.w) X.A (subscriptTail e (.Slice (some lo) none (some st) p2) (.ref a) (.ref s3.heap.objs.size)) (EP X pins σ Q) X.xe { s3 with heap:=s3.heap.push { cls:=.type "slice",data:=.fields #[vl,.none,vs] } }
 refine tail_any (ops:=[.ref a,.ref s3.heap.objs.size]) ht.isList.typeIs slot_list_getitem.lookup ?_ (by with_unfolding_all rfl)
 refine wpAny_getItem_list_slice ht.isList (Heap.IsSliceOf.new ..) pl .none ps h0 ?_ (by rw [VU] <;> omega)
 have hv:=xo r (sliceRange (sliceBounds o1 none o its.toArray.size).1 (sliceBounds o1 none o its.toArray.size).2.1 (sliceBounds o1 none o its.toArray.size).2.2)
 have hn:=slicePick_size_le its.toArray o1 none o
 unfold slicePick at hn ⊢
 have ef:∀is:List Nat,is.filterMap (its.toArray[·]?)=is.filterMap (its[·]?):=λis=>by congr 1;funext i;simp
 rw [ef] at hn ⊢
 generalize sliceRange (sliceBounds o1 none o its.toArray.size).1 (sliceBounds o1 none o its.toArray.size).2.1 (sliceBounds o1 none o its.toArray.size).2.2=is at hv hn ⊢
 have hl2:(is.filterMap (xs[·]?)).length≤xs.length:=by
  rw [VU,VU] at hn
  rw [hv.length,hlen];exact hn
 refine ⟨.ref _,_,I4.laid (o:=.lst (is.filterMap (xs[·]?))) (λb ob q=>VW _ q) (VT _) ?_,rfl,q is hl2 _ (I4.hok.fresh (VT _))⟩
 exact ⟨V6 hl2 hz,_,0,hv,Wd _ rfl⟩
theorem aP.pick {K:VL} {J:Hq} {H:Hp} {xs:List PV} {vs:List V} (h:aP K J H xs vs):∀is:List Nat,aP K J H (is.filterMap (xs[·]?)) (is.filterMap (vs[·]?))
 | []=>rfl
 | i :: is=>by
  have ih:=aP.pick h is
  have key:∀(xs:List PV) (vs:List V) (i:Nat),aP K J H xs vs→(xs[i]?=none∧vs[i]?=none)∨∃x v,xs[i]?=some x∧vs[i]?=some v∧cS K J H x v:=by
   intro xs
   induction xs with
   | nil=>intro vs i h;cases h;exact .inl ⟨rfl,rfl⟩
   | cons x xs ih =>
    intro vs i h
    obtain ⟨v,us,rfl,h1,h2⟩:=h
    cases i with
    | zero=>exact .inr ⟨_,_,rfl,rfl,h1⟩
    | succ i=>exact ih us i h2
  rcases key xs vs i h with ⟨e1,e2⟩ | ⟨x,u,e1,e2,r⟩
  ·rw [Wh,Wh,e1,e2];exact ih
  ·rw [Wh,Wh,e1,e2];exact ⟨_,_,rfl,r,ih⟩
def L_ (te:cT) (tl ts:Jf):cT:=λτ J Q=>te τ J λx J1=>tl τ J1 λ_ J2=>ts τ J2 λo J3=>o≠some 0∧yq (kK J3 x) λxs=>∀is:List Nat,(is.filterMap (xs[·]?)).length≤xs.length→Q (.fl (is.filterMap (xs[·]?))) J3
variable {e st lo:PySem.Expr} {te:cT} {tl ts:Jf}
theorem KI (he:RE X G e te) (hl:RO X G (some lo) tl) (hs:RO X G (some st) ts):RE X G (.Subscript e (.Slice (some lo) none (some st) p2) pos) (L_ te tl ts):=⟨kZ (Kh he.run hl.run hs.run) λσ H Q ⟨τ,J,Q2,a2,h,k⟩=>⟨τ,J,_,a2,h,λx J' v H' rx rr ee q1=>⟨τ,J',_,a2.go rr ee,q1,λo J2 H2 r2 e2 q2=>⟨τ,J2,_,(a2.go rr ee).go r2 e2,q2,λo3 J3 H3 r3 e3 ⟨h0,q3⟩=>by
 obtain ⟨xs,ex,q⟩:=fw q3
 obtain ⟨a,vs,rfl,h1,h2⟩:=iP (e3.rep (e2.rep rx)) r3 ex
 refine ⟨h0,a,vs,rfl,h1,λis hl p hp=>?_⟩
 have hp2:=aP.pick h2 is
 have ll:=q is (by rw [hp2.length,h2.length];exact hl)
 obtain ⟨x1,x2,x3⟩:=ot r3 hp2 hp
 exact k _ _ _ _ x1 x2 (((ee.trans e2).trans e3).trans x3) ll⟩⟩⟩⟩
theorem NY {E2:Addr→Hq→Prop} {E:XK} {k':Nat} (C:b7 X.prog X.w X.K X.mg X.base k x ps sp) (B:AN X G E2 E) (hr:bF k' X.A) (hk:k≤k':=by decide) (hg:Gl X x:=by rfl)
  (hdb:(x == ("__debug__":Str))=false:=by decide):RE X G (.Call (.Name x p) [] [] pos) (Dv sp E2 Ah):=by
 obtain ⟨f,fd,F,b,kp,m⟩:=C
 refine ⟨kZ (G3 F (hr.mono hk) hg m kp b .nil B.pass hdb) λσ H Q ⟨τ,J,Q2,a2,h,k⟩=>?_⟩
 exact ⟨[],J,Q2,E2,rfl,a2.hp,h,λz J' u H' rz rr ee qq=>k z J' u H' rz rr ee qq,B.kn.ext a2.ext⟩
end
set_option maxHeartbeats 4000000
section
def top (i:Nat):Stmt:=PySem.Challenge.pw_overhaul_k46_watches_full_and_anew.main.body.getD i (.Pass ⟨0,0,0,0⟩)
end
set_option compiler.extract_closed false
set_option hygiene false
local macro_rules | `(tactic| simp_arith [$t:term])=>`(tactic| refine Nn F $t (fun xs J Q E h=>?_) (fun cdv A outer s H E G xs J Q E2 hr h B=>?_))
local macro_rules | `(tactic| simp_arith [$t:term,$r:term])=>`(tactic| refine VA F $t (fun xs J Q E h=>?_) (fun cdv A outer s H E G E2 hr B=>$r) (fun xs J Q E2 h X hX=>?_))
local macro_rules | `(tactic| simp_arith [$t:term,$r:term,$u:term])=>`(tactic| refine Tz F $t (fun xs J Q E h=>?_) (fun cdv A outer s H E G E2 hr B=>$r) (fun xs J Q E2 h X hX=>?_))
local macro_rules | `(tactic| simp_arith! [$ls,*])=>`(tactic| simp only [Kx,Rp,S0,LZ,Q4,Ai,rC,KG,Vn,rB,Ro,Kv,T6,Rg,L3,Ri,Rh,Vk,Ah,Ag,Rq,Rc,Vj,Dw,L8,Vm,Q6,Vi,Q5,Dv,Q8,KD,KC,L7,L4,Rl,L9,Q_,Lm,U0,UZ,U1,yM,Rj,L5,iH,w_,U4,U8,U5,U6,TY,TZ,Hl,qI,qU,QV,Vh,Hn,TV,Q1,QY,QZ,QQ,NS,TU,Hj,Hk,TX,Dr,QX,NP,Dt,LP,Ta,S_,PM,Tu,Gr,PU,PR,Ly,Uu,R',Ut,Uw,Ux,Us,Uv,R6,Mi,R5,R8,R4,R7,S8,S9,PC,S2,S4,S6,S7,S3,S5,Up,Ur,Uq,SE,MH,FG,Pk,FF,Pm,Dq,mU,B3,Kr,qL,eq_int,eq_str,Pq,CL,MY,MZ,Sa,M_,xY,MQ,rp,OM,ON,OK,OL,Nat.reduceAdd,Nat.reduceSub,Nat.reduceLeDiff,UG,UH,OI,OJ,List.append_nil,Uz,UA,UI,UJ,Option.some.injEq,exists_eq_left',exists_eq_left,exists_and_left,exists_eq,exists_eq',PV.int.injEq,PV.bl.injEq,PV.ref.injEq,PV.str.injEq,PV.ty.injEq,PV.tup.injEq,PV.fl.injEq,HQ.lst.injEq,HQ.ins.injEq,HQ.dct.injEq,decide_eq_true_eq,true_and,and_true,List.cons.injEq,reduceCtorEq,Bool.not_eq_true',decide_eq_false_iff_not,and_assoc,ite_not,if_true,if_false,Bool.false_eq_true,decide_true,decide_false,false_and,and_false,exists_false,false_or,or_false,id,eQ,iJ,rF,Pa,Pb,Pc,Pd,Pe,Pf,Pg,MC,MD,VD,UC,UB,UE,aj,Bool.and_true,UK,Bool.and_false,Uy,PX,PY,PZ,P0,P1,P2,P4,P5,P6,P7,M',Na,Nc,Sb,OB,K5,OC,OD,K6,String.reduceEq,Se,Sf,uJ,UD,List.not_mem_nil,exists_const,Qt,Ql,Qo,Qm,Qu,Qs,Qv,Qj,Qp,Qn,LL,Qq,Nv,Qr,Qw,QU,Kt,LU,Ho,Hr,LY,L6,U2,NQ,Ku,yN,U3,$ls,*])
local macro_rules | `(tactic| simp_all! [$ls,*])=>`(tactic| repeat (first | (with_reducible refine hNq _ _ ?_;clear hNq Nq) | with_reducible refine N_ fun Nq hNq=>?_ | simp_arith! [$ls,*]))
section
def m5:cI:=λxs J Q _=>∃a b:Int,xs=[.int a,.int b]∧Q (.int (WE a b:Nat)) J
abbrev uC:Stmt:=(top 14)
abbrev qK:List Str:=["one","two"]
theorem qX:av ["one","two"] ["one","two"] (aq uC):=dO
variable {P:Program} {w:World} {K:VL} {f:Addr} {mg:Str→Option Value} {base:Heap} {fd:FuncData}
theorem BE (F:bZ K "shared" "shared" uC f fd) (Z:bE mg):aK P w K mg base (cq P w) 1 f fd qK (cP K m5):=by
 simp_arith [qX,(ak (yQ (i:=0) (j:=1) rfl qX.nd rfl rfl (by decide) rfl rfl (af (bG tK rfl Z.abs boot_abs (af (rv 0) ah)) (af (bG tK rfl Z.abs boot_abs (af (rv 1) ah)) ah)) rfl)
   (ak (ik bA (aG (g8 hr.aM) (rv 1) ai) (ar (yQ (i:=0) (j:=1) rfl qX.nd rfl rfl (by decide) rfl rfl (af (rv 1) (af (aJ jb (rv 0) (rv 1)) ah)) rfl)))
   (ar (aB (rv 0)))))]
 ·obtain ⟨a,b,rfl,_⟩:=h;rfl
 obtain ⟨a,b,rfl,q⟩:=h
 refine hX ?_
 simp_all! []
 refine ⟨λm τ' J'=>∃x y:Int,τ'=[some (.int x),some (.int y)]∧J'=J∧0≤x∧0≤y∧WE x y=WE a b∧m=y.toNat,⟨_,_,_,rfl,rfl,by split <;> omega,by split <;> omega,Jq a b,rfl⟩,?_⟩
 rintro m τ' J' ⟨x,y,rfl,rfl,hx,hy,hg,rfl⟩
 simp_arith! [cy]
 by_cases y0:y=0
 ·subst y0
  rw [if_pos rfl]
  refine hNq _ _ ?_
  simp_arith! [cy]
  rw [← hg,CV hx] at q
  exact q
 ·rw [if_neg y0]
  have h1:=WZ x (show 0 < y by omega)
  have h2:=W' x y0
  exact ⟨_,λ_ _ h=>h,by omega,(x % y).toNat,by omega,_,_,rfl,rfl,hy,h2,(zF y0).trans hg,rfl⟩
variable {n:Nat}
theorem FY {t b:Int} (h:b≠0) (hb:Bd n b):Bd n ((WE t b:Nat):Int):=hb.le (by have:=MV (t:=t) h;omega)
abbrev oC:Stmt:=(top 15)
abbrev gi:List Str:=["top","bottom"]
theorem mr:av ["top","bottom","divisor"] ["top","bottom"] (aq oC):=dO
def gq:cI:=λxs J Q _=>∃t b:Int,xs=[.int t,.int b]∧b≠0∧Bd 9000 b∧Q (fr (Wm t b)) J
theorem yn {eM:Addr} (F:bZ K "fraction" "fraction" oC f fd) (Z:bE mg) (fg:Own K mg "BadMoment" eM) (sZ:b7 P w K mg base 1 "shared" qK m5):aK P w K mg base (cq P w) 2 f fd gi (cP K gq):=by
 simp_arith [mr,(ak (aY (aG (dh hr.aM) (rv 1) ai) (ar (cE fg rfl bH B.kn rfl (af aS ah))) aR)
   (ak (aD (i:=2) mr.nd (aU sZ B hr (af (rv 0) (af (rv 1) ah))))
   (f9 (aY (aG lU (rv 1) ai) (ar (aD (i:=2) mr.nd (ux oJ (rv 2)))) aR)
   (ar (aB (bP (af (aJ iQ (rv 0) (rv 2)) (af (aJ iQ (rv 1) (rv 2)) ah))))))))]
 ·obtain ⟨t,b,rfl,_⟩:=h;rfl
 obtain ⟨t,b,rfl,hb,bb,q⟩:=h
 have hg:=CY (t:=t) hb
 have gb:=FY (t:=t) hb bb
 refine hX ?_
 simp_all! []
 rw [if_neg hb]
 refine hNq _ _ ?_
 clear hNq Nq
 simp_all! []
 refine ⟨t,b,rfl,?_⟩
 refine hNq _ _ ?_
 clear hNq Nq
 simp_all! []
 obtain ⟨M,hM⟩:∃M:Sr→Hq→Prop,∀τ' J',M τ' J'↔∃d:Int,τ'=[some (.int t),some (.int b),some (.int d)]∧J'=J∧d≠0∧Bd 9000 d∧t.fdiv d=(Wm t b).num∧b.fdiv d=(Wm t b).den:=⟨_,λ_ _=>Iff.rfl⟩
 refine ⟨M,?_,?_⟩
 ·simp_all! []
  by_cases c:b < 0
  ·rw [if_pos c]
   exact (hM _ _).mpr ⟨_,rfl,rfl,by omega,gb.neg,C_ c,Jl c⟩
  ·rw [if_neg c]
   exact (hM _ _).mpr ⟨_,rfl,rfl,by omega,gb,x_ (by omega),den_pos (by omega)⟩
 intro τ' J' hm
 obtain ⟨d,rfl,rfl,hd,bd,e1,e2⟩:=(hM _ _).mp hm
 simp_arith! [cy,e1,e2]
 exact ⟨⟨hd,bd⟩,⟨hd,bd⟩,q⟩
def uQ:cI:=λxs J Q _=>∃t b:Int,xs=[.int t,.int b]∧0 < b∧Bd 9000 b∧Q (fr (Wm t b)) J
abbrev HM:Stmt:=(top 53)
abbrev lX:List Str:=["_law_top","_law_bottom"]
theorem y4:av ["_law_top","_law_bottom","_law_one","_law_two"] ["_law_top","_law_bottom"] (aq HM):=dO
theorem JO (F:bZ K "_law_low" "_law_low" HM f fd) (Z:bE mg):aK P w K mg base (cq P w) 1 f fd lX (cP K uQ):=by
 simp_arith [y4,(ak (aD (i:=2) y4.nd (bG tK rfl Z.abs boot_abs (af (rv 0) ah)))
   (ak (aD (i:=3) y4.nd (rv 1))
   (ak (ik bA (aG (g8 hr.aM) (rv 3) ai) (ar (yQ (i:=2) (j:=3) rfl y4.nd rfl rfl (by decide) rfl rfl (af (rv 3) (af (aJ jb (rv 2) (rv 3)) ah)) rfl)))
   (ar (aB (bP (af (aJ iQ (rv 0) (rv 2)) (af (aJ iQ (rv 1) (rv 2)) ah))))))))]
 ·obtain ⟨t,b,rfl,_⟩:=h;rfl
 obtain ⟨t,b,rfl,hb,bb,q⟩:=h
 have hg:=CY (t:=t) (show b≠0 by omega)
 have gb:=FY (t:=t) (show b≠0 by omega) bb
 refine hX ?_
 simp_all! []
 refine ⟨λm τ' J'=>∃x y:Int,τ'=[some (.int t),some (.int b),some (.int x),some (.int y)]∧J'=J∧0≤x∧0≤y∧WE x y=WE t b∧m=y.toNat,⟨_,_,_,rfl,rfl,by split <;> omega,by omega,FX t b,rfl⟩,?_⟩
 rintro m τ' J' ⟨x,y,rfl,rfl,hx,hy,hg',rfl⟩
 simp_arith! [cy]
 by_cases y0:y=0
 ·subst y0
  rw [if_pos rfl]
  refine hNq _ _ ?_
  have ex:x=((WE t b:Nat):Int):=by rw [← hg',CV hx]
  subst ex
  simp_arith! [cy]
  refine ⟨⟨by omega,gb⟩,⟨by omega,gb⟩,?_⟩
  rw [x_ hb,den_pos hb]
  exact q
 ·rw [if_neg y0]
  have h1:=WZ x (show 0 < y by omega)
  have h2:=W' x y0
  exact ⟨_,λ_ _ h=>h,by omega,(x % y).toNat,by omega,_,_,rfl,rfl,hy,h2,(zF y0).trans hg',rfl⟩
def dj:cI:=λxs J Q _=>∃p q:Rat,xs=[fr p,fr q]∧Sz 9000 p∧Sz 9000 q∧Q (.bl (decide (p < q))) J
theorem Ju (p q:Rat):decide (p.num * q.den < q.num * p.den)=decide (p < q):=decide_eq_decide.mpr (Rat.lt_iff p q).symm
abbrev B_:Stmt:=(top 19)
abbrev gL:List Str:=["one","two"]
theorem KR:av ["one","two"] ["one","two"] (aq B_):=dO
theorem GF (F:bZ K "less" "less" B_ f fd) (Z:bE mg):aK P w K mg base (cq P w) 1 f fd gL (cP K dj):=by
 simp_arith [KR,(ar (aB (fA lU (aJ bB (au aw (rv 0) ai) (au aw (rv 1) ai)) (aJ bB (au aw (rv 1) ai) (au aw (rv 0) ai)))))]
 ·obtain ⟨p,q,rfl,_⟩:=h;rfl
 obtain ⟨p,q,rfl,sp,sq,k⟩:=h
 refine hX ?_
 simp_arith! [cy,Ju]
 exact ⟨.of sp.num sq.den,.of sq.num sp.den,k⟩
theorem Ic {m:Nat} {t b:Int} (hb:b≠0) (h1:Bd m t) (h2:Bd n b) (k:Nat) (hm:m≤k) (hn:n≤k):Sz k (Wm t b) :=
 ⟨(h1.le (C9 t b)).mono hm,(h2.le (CI hb)).mono hn⟩
theorem x9 (p q:Rat):(p.den:Int) * (q.den:Int)≠0:=Zc (gw p) (gw q)
theorem Sz.add {m k:Nat} {p q:Rat} (h:Sz m p) (g:Sz n q) (hk:m + n + 1≤k:=by decide):Sz k (p + q):=by
 rw [← add_eq]
 exact Ic (x9 p q) (.add (.mul h.num g.den (VT _)) (.mul g.num h.den (VT _)) (VT _)) (.mul h.den g.den (VT _)) k (by omega) (by omega)
theorem Sz.sub {m k:Nat} {p q:Rat} (h:Sz m p) (g:Sz n q) (hk:m + n + 1≤k:=by decide):Sz k (p - q):=by
 rw [← sub_eq]
 exact Ic (x9 p q) (.sub (.mul h.num g.den (VT _)) (.mul g.num h.den (VT _)) (VT _)) (.mul h.den g.den (VT _)) k (by omega) (by omega)
theorem Sz.mul {m k:Nat} {p:Rat} {i:Int} (h:Sz m p) (g:Bd n i) (hk:m + n≤k:=by decide):Sz k (p * i):=by
 rw [← mul_eq]
 exact Ic (gw p) (.mul h.num g (VT _)) h.den k hk (by omega)
def E_ (g:Rat→Rat→Rat):cI:=λxs J Q _=>∃p q:Rat,xs=[fr p,fr q]∧Sz 4000 p∧Sz 4000 q∧Q (fr (g p q)) J
def uU:cI:=λxs J Q _=>∃(p:Rat) (m:Int),xs=[fr p,.int m]∧Sz 9000 p∧Bd 9000 m∧Q (fr (p * m)) J
abbrev B':Stmt:=(top 16)
abbrev Dl:List Str:=["one","two"]
theorem KS:av ["one","two"] ["one","two"] (aq B'):=dO
theorem GG (F:bZ K "plus" "plus" B' f fd) (Z:bE mg) (e8:b7 P w K mg base 2 "fraction" gi gq):aK P w K mg base (cq P w) 3 f fd Dl (cP K (E_ λp q=>p + q)):=by
 simp_arith [KS,(ar (aB (aU e8 B hr (af (aJ cU (aJ bB (au aw (rv 0) ai) (au aw (rv 1) ai)) (aJ bB (au aw (rv 1) ai) (au aw (rv 0) ai))) (af (aJ bB (au aw (rv 0) ai) (au aw (rv 1) ai)) ah)))))]
 ·obtain ⟨p,q,rfl,_⟩:=h;rfl
 obtain ⟨p,q,rfl,sp,sq,k⟩:=h
 refine hX ?_
 simp_arith! [cy]
 refine ⟨.of sp.num sq.den,.of sq.num sp.den,.of sp.den sq.den,_,_,rfl,x9 p q,.mul sp.den sq.den,?_⟩
 rw [add_eq]
 exact k
abbrev yS:Stmt:=(top 17)
abbrev ur:List Str:=["one","two"]
theorem HP:av ["one","two"] ["one","two"] (aq yS):=dO
theorem EL (F:bZ K "minus" "minus" yS f fd) (Z:bE mg) (e8:b7 P w K mg base 2 "fraction" gi gq):aK P w K mg base (cq P w) 3 f fd ur (cP K (E_ λp q=>p - q)):=by
 simp_arith [HP,(ar (aB (aU e8 B hr (af (aJ g9 (aJ bB (au aw (rv 0) ai) (au aw (rv 1) ai)) (aJ bB (au aw (rv 1) ai) (au aw (rv 0) ai))) (af (aJ bB (au aw (rv 0) ai) (au aw (rv 1) ai)) ah)))))]
 ·obtain ⟨p,q,rfl,_⟩:=h;rfl
 obtain ⟨p,q,rfl,sp,sq,k⟩:=h
 refine hX ?_
 simp_arith! [cy]
 refine ⟨.of sp.num sq.den,.of sq.num sp.den,.of sp.den sq.den,_,_,rfl,x9 p q,.mul sp.den sq.den,?_⟩
 rw [sub_eq]
 exact k
abbrev yU:Stmt:=(top 18)
abbrev Ac:List Str:=["one","many"]
theorem HR:av ["one","many"] ["one","many"] (aq yU):=dO
theorem ER (F:bZ K "times" "times" yU f fd) (Z:bE mg) (e8:b7 P w K mg base 2 "fraction" gi gq):aK P w K mg base (cq P w) 3 f fd Ac (cP K uU):=by
 simp_arith [HR,(ar (aB (aU e8 B hr (af (aJ bB (au aw (rv 0) ai) (rv 1)) (af (au aw (rv 0) ai) ah)))))]
 ·obtain ⟨p,m,rfl,_⟩:=h;rfl
 obtain ⟨p,m,rfl,sp,bm,k⟩:=h
 refine hX ?_
 simp_arith! [cy]
 refine ⟨.of sp.num bm,_,_,rfl,gw p,sp.den,?_⟩
 rw [mul_eq]
 exact k
def Dig:List Int→List Int→Prop
 | [],[]=>True
 | d :: ds,s :: ss=>(0≤d∧d < s)∧Dig ds ss
 | _,_=>False
theorem Dig.snoc:∀{ds ss:List Int} {d s:Int},Dig ds ss→0≤d→d < s→Dig (ds ++ [d]) (ss ++ [s])
 | [],[],_,_,_,h0,h1=>⟨⟨h0,h1⟩,trivial⟩
 | _ :: _,_ :: _,_,_,h,h0,h1=>⟨h.1,Dig.snoc h.2 h0 h1⟩
 | [],_ :: _,_,_,h,_,_=>h.elim
 | _ :: _,[],_,_,h,_,_=>h.elim
theorem Dig.cons:∀{ds ss:List Int} {s:Int},Dig ds (s :: ss)→∃d r,ds=d :: r∧0≤d∧d < s∧Dig r ss
 | [],_,_,h=>h.elim
 | d :: r,_,_,h=>⟨d,r,rfl,h.1.1,h.1.2,h.2⟩
theorem Dig.nil:∀{ds:List Int},Dig ds []→ds=[]
 | [],_=>rfl
 | _ :: _,h=>h.elim
theorem Dig.len:∀{ds ss:List Int},Dig ds ss→ds.length=ss.length
 | [],[],_=>rfl
 | _ :: _,_ :: _,h=>congrArg Nat.succ (Dig.len h.2)
 | [],_ :: _,h=>h.elim
 | _ :: _,[],h=>h.elim
variable {o:HQ} {J:Hq}
theorem Ex {l:Addr} (h:J l=none):jx J (put J l o):=λa=>by
 by_cases e:a=l
 ·subst e;exact .inr h
 ·rw [ag e];exact .inl rfl
def Cg:cI:=λxs J Q _=>∃(c:Int) (ss:List Int),xs=[.int c,.fl (ss.map .int)]∧(∀s∈ss,0 < s∧Bd 9000 s)∧ss.length≤1000∧∀ds,Dig ds ss→Q (.fl (ds.map .int)) J
abbrev uB:Stmt:=(top 52)
abbrev ia:List Str:=["_law_cell_here","_law_sizes"]
theorem eJ:av ["_law_cell_here","_law_sizes","_law_out","_law_rest","_law_size","_law_one","_law_k","_law_two"] ["_law_cell_here","_law_sizes"] (aq uB):=dO
theorem BD (F:bZ K "_law_digits" "_law_digits" uB f fd) (Z:bE mg):aK P w K mg base (cq P w) 1 f fd ia (cP K Cg):=by
 simp_arith [eJ,(ak (aD (i:=2) eJ.nd (fb ah))
   (ak (aY (aG z6 (rv 0) (aJ BL ai ai)) (ak (aD (i:=3) eJ.nd (aJ g9 (rv 0) (aJ BL ai ai)))
   (ak (cV bA rfl (dS (rv 1)) (bq (i:=4) eJ.nd) (ak (aV (eV V3 Wb Wc cK (rv 2) (af (aJ jb (rv 3) (rv 4)) ah)))
   (ar (aD (i:=3) eJ.nd (aJ iQ (rv 3) (rv 4))))))
   (ar (aB (rv 2))))) aR)
   (ak (aD (i:=5) eJ.nd (aJ jb (rv 0) ai))
   (ak (cV bA rfl (jP rfl Z.range (af (bG ft rfl Z.len boot_len (af (rv 1) ah)) ah)) (bq (i:=6) eJ.nd) (ak (aD (i:=5) eJ.nd (aJ jb (aJ cU (aJ bB (rv 5) ai) (aJ bB ai (aJ cU (rv 6) ai))) ai))
   (ak (aD (i:=7) eJ.nd (aJ jb (aJ cU (aJ cU (aJ bB (rv 5) (rv 5)) (aJ bB ai (rv 5))) (rv 6)) ai))
   (ar (aV (eV V3 Wb Wc cK (rv 2) (af (aJ jb (aJ iQ (rv 7) ai) (au aw (rv 1) (rv 6))) ah)))))))
   (ar (aB (rv 2))))))),F]
 ·obtain ⟨c,ss,rfl,_⟩:=h;rfl
 obtain ⟨c,ss,rfl,hs,hl,q⟩:=h
 refine hX ?_
 simp_all! []
 intro r hr'
 refine hNq _ _ ?_
 clear hNq Nq
 simp_all! []
 have cp:Mm 10 18:=⟨by decide,by decide,by decide⟩
 refine ⟨cp,?_⟩
 have take1:∀{i:Nat} {z:Int},ss[i]?=some z→ss.take (i + 1)=ss.take i ++ [z]:=λh=>by rw [V',h];rfl
 have fin:∀ds:List Int,Dig ds ss→Fg Q (.ref r) (put J r (.lst (ds.map .int))):=λds hD=>Fg.rH (Ex hr') aj hr' (q ds hD)
 by_cases cc:(10:Int) ^ YG 18≤c
 ·rw [if_pos cc]
  simp_all! []
  refine ⟨cp,hNq _ _ ?_⟩
  clear hNq Nq
  simp_all! []
  obtain ⟨Inv,hInv⟩:∃Inv:Nat→Sr→Hq→Prop,∀i τ J',Inv i τ J'↔∃(ds:List Int) (rest:Int) (u:Option PV),τ=[some (.int c),some (.fl (ss.map .int)),some (.ref r),some (.int rest),u,none,none,none]∧J'=put J r (.lst (ds.map .int))∧Dig ds (ss.take i):=⟨_,λ_ _ _=>Iff.rfl⟩
  refine dW Inv ((hInv _ _ _).mpr ⟨[],_,none,rfl,rfl,trivial⟩) (λ_ _ _ _=>trivial) ?_ ?_
  ·intro i x τ J' hx hv
   obtain ⟨ds,rest,u,rfl,rfl,hD⟩:=(hInv _ _ _).mp hv
   rw [VS] at hx
   obtain ⟨z,hz,rfl⟩:=Xs.mp hx
   obtain ⟨z0,zb⟩:=hs z (V0 hz)
   have dl:=hD.len
   rw [Wa] at dl
   simp_arith! [cy,aj,VM]
   refine ⟨z0,ba (by omega),⟨by omega,zb⟩,(hInv _ _ _).mpr ⟨ds ++ [rest % z],_,_,rfl,?_,?_⟩⟩
   ·rw [bI,VP];rfl
   ·rw [take1 hz];exact hD.snoc (W' _ (by omega)) (WZ _ z0)
  ·intro τ J' hv
   obtain ⟨ds,rest,u,rfl,rfl,hD⟩:=(hInv _ _ _).mp hv
   rw [VM,Wg] at hD
   refine hNq _ _ ?_
   simp_arith! [cy]
   exact fin ds hD
 ·rw [if_neg cc]
  refine hNq _ _ ?_
  clear hNq Nq
  simp_all! []
  refine ⟨by decide,hNq _ _ ?_⟩
  clear hNq Nq
  simp_all! [VM]
  refine ⟨by omega,by omega,?_⟩
  obtain ⟨Inv,hInv⟩:∃Inv:Nat→Sr→Hq→Prop,∀i τ J',Inv i τ J'↔∃(ds:List Int) (one:Int) (u v:Option PV),τ=[some (.int c),some (.fl (ss.map .int)),some (.ref r),none,none,some (.int one),u,v]∧J'=put J r (.lst (ds.map .int))∧0≤one∧one < 2147483647∧Dig ds (ss.take i):=⟨_,λ_ _ _=>Iff.rfl⟩
  refine oZ Inv ((hInv _ _ _).mpr ⟨[],_,none,none,rfl,rfl,W' _ (by decide),WZ _ (by decide),trivial⟩) ?_ ?_
  ·intro i τ J' hi hv
   obtain ⟨ds,one,u,v,rfl,rfl,o0,o1,hD⟩:=(hInv _ _ _).mp hv
   have hz:ss[i]?=some ss[i]:=VN (by omega)
   obtain ⟨z0,zb⟩:=hs ss[i] (Wi (by omega))
   have dl:=hD.len
   rw [Wa] at dl
   have e1:c_ (ss.map PV.int) (0 + (i:Int))=some (.int ss[i]):=by
    rw [XO]
    exact bM (by rw [VS,hz];rfl)
   have small:∀x:Int,0≤x→x < 2147483648→Bd 64 x:=λx h1 h2=>Bd.small (by omega) (by omega)
   have A0:0≤(one * 48271 + 10007 * (0 + (i:Int) + 1)) % 2147483629:=W' _ (by decide)
   have A1:(one * 48271 + 10007 * (0 + (i:Int) + 1)) % 2147483629 < 2147483629:=WZ _ (by decide)
   simp_arith! [cy,aj,e1,VM]
   generalize (one * 48271 + 10007 * (0 + (i:Int) + 1)) % 2147483629=A at A0 A1 ⊢
   refine ⟨.of (small _ o0 (by omega)) (small _ (by decide) (by decide)),.of (small _ (by decide) (by decide)) (small _ (by omega) (by omega)),by decide,.of (small _ A0 (by omega)) (small _ A0 (by omega)),.of (small _ (by decide) (by decide)) (small _ A0 (by omega)),by decide,⟨by decide,(small _ (by decide) (by decide)).mono (by decide)⟩,z0,ba (by omega),?_⟩
   generalize ((A * A + 69621 * A + (0 + (i:Int))) % 2147483563).fdiv 11=B
   refine (hInv _ _ _).mpr ⟨ds ++ [B % ss[i]],A,_,_,rfl,?_,A0,by omega,?_⟩
   ·rw [bI,VP];rfl
   ·rw [take1 hz];exact hD.snoc (W' _ (by omega)) (WZ _ z0)
  ·intro τ J' hv
   obtain ⟨ds,one,u,v,rfl,rfl,o0,o1,hD⟩:=(hInv _ _ _).mp hv
   rw [Xf,Wg] at hD
   refine hNq _ _ ?_
   simp_arith! [cy]
   exact fin ds hD
def bQ.V (l:bQ):PV:=.tup [fr l.m,fr l.p,.int l.v]
theorem R_ (m p:Rat) (v:Int):PV.tup [fr m,fr p,.int v]=(bQ.mk m p v).V:=rfl
theorem Gh (J:Hq) (l:bQ):iD J l.V (.int 0)=some (fr l.m):=eQ _ _
theorem PL (J:Hq) (l:bQ):iD J l.V (.int 1)=some (fr l.p):=iJ _ _ _
theorem wN (J:Hq) (l:bQ):iD J l.V (.int 2)=some (.int l.v):=rF _ _ _ _
def xj:cI:=λxs J Q _=>∃(l:bQ) (t:Rat),xs=[l.V,fr t]∧Sz 900 l.m∧Sz 900 l.p∧Sz 900 t∧Bd 64 l.v∧Q (fr (l.at t)) J
abbrev oF:Stmt:=(top 29)
abbrev l7:List Str:=["leg","moment"]
theorem i4:av ["leg","moment","begun","place","pace"] ["leg","moment"] (aq oF):=dO
theorem yp (F:bZ K "place_on" "place_on" oF f fd) (Z:bE mg) (Mn:b7 P w K mg base 3 "plus" Dl (E_ λp q=>p + q)) (xt:b7 P w K mg base 3 "minus" ur (E_ λp q=>p - q)) (IQ:b7 P w K mg base 3 "times" Ac uU) :
  aK P w K mg base (cq P w) 4 f fd l7 (cP K xj):=by
 simp_arith [i4,(ak (uz (rv 0) (qN (n:=3) rfl (cY (bq (i:=2) i4.nd) (cY (bq (i:=3) i4.nd) (cY (bq (i:=4) i4.nd) mZ)))))
   (ar (aB (aU Mn B hr (af (rv 3) (af (aU IQ B hr (af (aU xt B hr (af (rv 1) (af (rv 2) ah))) (af (rv 4) ah))) ah))))))]
 ·obtain ⟨l,t,rfl,_⟩:=h;rfl
 obtain ⟨l,t,rfl,sb,sp,sm,bv,q⟩:=h
 have s1:Sz 1801 (t - l.m):=sm.sub sb
 have s2:Sz 1900 ((t - l.m) * (l.v:Rat)):=s1.mul bv
 refine hX ?_
 simp_arith! [cy,bQ.V,E_,uU]
 exact ⟨sm.mono (by decide),sb.mono (by decide),s1.mono (by decide),bv.mono (by decide),sp.mono (by decide),s2.mono (by decide),q⟩
theorem mL (p q:Rat):p.num * (q.den:Int)=q.num * (p.den:Int)↔p=q:=by
 have a:=cast_eq p
 have b:=cast_eq q
 have c:=dU p
 have d:=dU q
 constructor
 ·intro h
  have h':((p.num * (q.den:Int):Int):Rat)=((q.num * (p.den:Int):Int):Rat):=by rw [h]
  rw [Wk,Wk,a,b] at h'
  grind
 ·intro h;rw [h]
def gv:Option Rat→PV
 | none=>.non
 | some q=>fr q
structure Cu (cL:Addr) (J:Hq) (p r:Addr) (rows:List bQ) (g:Option Rat):Prop where
 o:J p=some (.ins cL [("rows",.ref r),("gone",gv g)])
 l:J r=some (.lst (rows.map bQ.V))
variable {p cL:Addr} {rows:List bQ}
theorem Cu.ne {r:Addr} {g:Option Rat} (h:Cu cL J p r rows g):r≠p:=by
 intro e;subst e;have:=h.o;rw [h.l] at this;cases this
structure oO (n:Nat) (l:bQ):Prop where
 m:Sz n l.m
 p:Sz n l.p
 v:Bd 64 l.v
variable {l:bQ}
theorem oO.mono {k:Nat} (h:oO n l) (e:n≤k):oO k l:=⟨h.m.mono e,h.p.mono e,h.v⟩
theorem Qb (a b:PV):([("rows",a),("gone",b)]:List (Str × PV)).lookup ("rows":Str)=some a:=rfl
theorem U' (a b:PV):([("rows",a),("gone",b)]:List (Str × PV)).lookup ("gone":Str)=some b:=rfl
variable {m:Str}
theorem Nf (a b:PV) (h:(m == ("rows":Str))=false) (k:(m == ("gone":Str))=false):([("rows",a),("gone",b)]:List (Str × PV)).lookup m=none:=by rw [Wo,h];simp only;rw [Wo,k];rfl
theorem P' (a b:PV):([("rows",a),("gone",b)]:List (Str × PV)).lookup ("there":Str)=none:=Nf a b (by decide +kernel) (by decide +kernel)
theorem Qa (a b:PV):([("rows",a),("gone",b)]:List (Str × PV)).lookup ("leg_at":Str)=none:=Nf a b (by decide +kernel) (by decide +kernel)
theorem Ts (a b:PV):([("rows",a),("gone",b)]:List (Str × PV)).lookup ("twin":Str)=none:=Nf a b (by decide +kernel) (by decide +kernel)
theorem LH:(("rows":Str)=("gone":Str))=False:=eq_false (by decide +kernel)
theorem fv {l:Addr} (h:J l=none):jx J (put J l o):=λa=>by
 by_cases e:a=l
 ·subst e;exact .inr h
 ·rw [ag e];exact .inl rfl
theorem Kp (x z:PV):iH ("gone":Str) z (iH ("rows":Str) x [])=([("rows",x),("gone",z)]:List (Str × PV)):=by simp only [iH,LH,if_false]
abbrev iw:Stmt:=(inClass (top 33) 0)
abbrev gC:List Str:=["self","moment","place","pace"]
theorem sF:av ["self","moment","place","pace"] ["self","moment","place","pace"] (aq iw):=dO
def zc (cL:Addr):cI:=λxs J Q _=>∃(p:Addr) (l:bQ),xs=[.ref p,fr l.m,fr l.p,.int l.v]∧J p=some (.ins cL [])∧∀r,J r=none→Q .non (put (put J r (.lst [l.V])) p (.ins cL [("rows",.ref r),("gone",.non)]))
theorem zW (F:bZ K "__init__" "Log.__init__" iw f fd) (cG:cR K mg "Log" cL) (bC:ay K cL "rows") (cf:ay K cL "gone"):aK P w K mg base (cq P w) 1 f fd gC (cP K (zc cL)):=by
 simp_arith [sF,(ak (dt cG.cl bC (rv 0) (fb (af (bP (af (rv 1) (af (rv 2) (af (rv 3) ah)))) ah)))
   (ar (dt cG.cl cf (rv 0) l9)))]
 ·obtain ⟨p,l,rfl,_⟩:=h;rfl
 obtain ⟨p,l,rfl,hp,q⟩:=h
 refine hX ?_
 simp_arith! [cy,R_]
 intro r hr'
 have ne:p≠r:=by intro e;subst e;rw [hp] at hr';cases hr'
 refine dP (by rw [ag ne];exact hp) ⟨by decide,dP aj ⟨by show (1:Nat) < 1000;decide,?_⟩⟩
 rw [bI,Kp]
 exact q r hr'
variable {i:Nat}
theorem Vs {b:bQ} (h:rows[i]?=some b):c_ (rows.map bQ.V) (i:Int)=some b.V:=bM (by rw [VS,h];rfl)
abbrev qP:Stmt:=(top 21)
abbrev uo:List Str:=["rows","moment"]
theorem oH:av ["rows","moment","at"] ["rows","moment"] (aq qP):=dO
def Aw:cI:=λxs J Q _=>∃(x:PV) (t:Rat) (ys:List PV) (ms:List Rat),xs=[x,fr t]∧kK J x=some ys∧ys.length=ms.length∧ms.length≤900∧(∀(i:Nat) y m,ys[i]?=some y→ms[i]?=some m→iD J y (.int 0)=some (fr m))∧Sz 9000 t∧(∀m∈ms,Sz 9000 m)∧Q (.int ((lb ms t ms.length:Int) - 1)) J
theorem zY (F:bZ K "last_by" "last_by" qP f fd) (Z:bE mg) (dM:b7 P w K mg base 1 "less" gL dj):aK P w K mg base (cq P w) 2 f fd uo (cP K Aw):=by
 simp_arith [oH,(ak (aD (i:=2) oH.nd (aJ g9 (bG ft rfl Z.len boot_len (af (rv 0) ah)) ai))
   (ak (ik bA (fj (jg (aG z6 (rv 2) ai) (f' (cm (aU dM B hr (af (rv 1) (af (au aw (au aw (rv 0) (rv 2)) ai) ah))))))) (ar (HG (i:=2) oH.nd ai F')))
   (ar (aB (rv 2)))))]
 ·obtain ⟨x,t,ys,ms,rfl,_⟩:=h;rfl
 obtain ⟨x,t,ys,ms,rfl,hx,hlen,hl,h0,st,sm,q⟩:=h
 refine hX ?_
 simp_arith! [cy,Nh hx,hlen]
 refine ⟨λk τ J'=>∃j:Nat,τ=[some x,some (fr t),some (.int ((j:Int) - 1))]∧J'=J∧j≤ms.length∧k=j∧lb ms t ms.length=lb ms t j,⟨_,ms.length,rfl,rfl,VT _,rfl,rfl⟩,?_⟩
 rintro k τ J' ⟨j,rfl,rfl,hj,rfl,hb⟩
 simp_arith! [cy,Qc hx,dj]
 cases k with
 | zero =>
  rw [if_neg (by omega)]
  rw [hb] at q
  exact q
 | succ k =>
  rw [if_pos (by omega)]
  obtain ⟨y,hy⟩:∃y,ys[k]?=some y:=⟨_,VN (by omega)⟩
  obtain ⟨m,hm⟩:∃m,ms[k]?=some m:=⟨_,VN (by omega)⟩
  have ha:c_ ys (((k + 1:Nat):Int) - 1)=some y:=by
   have:((k + 1:Nat):Int) - 1=(k:Int):=by omega
   rw [this];exact bM hy
  have em:ms.getD k 0=m:=by simp [List.getD,hm]
  have hu:lb ms t (k + 1)=if m≤t then k + 1 else lb ms t k:=by
   show (if ms.getD k 0≤t then k + 1 else lb ms t k)=_
   rw [em]
  refine gB ha (gB (h0 k y m hy hm) ?_)
  simp_arith! [cy]
  refine ⟨st,sm m (V0 hm),?_⟩
  by_cases c:t < m
  ·rw [if_pos c]
   have hn:¬ m≤t:=Rat.not_le.mpr c
   rw [if_neg hn] at hu
   refine ⟨λτ J''=>τ=[some x,some (fr t),some (.int ((k:Int) - 1))]∧J''=J',λτ' J'' ⟨e1,e2⟩=>⟨k,Xo _,k,e1,e2,by omega,rfl,by rw [hb,hu]⟩,?_⟩
   simp_arith! [cy]
   have:((k + 1:Nat):Int) - 1 - 1=(k:Int) - 1:=by omega
   exact this
  ·rw [if_neg c]
   rw [if_pos (Xq.mp c)] at hu
   rw [hb,hu] at q
   exact q
abbrev mn:Stmt:=(inClass (top 33) 5)
abbrev ka:List Str:=["self","moment"]
theorem pT:av ["self","moment","joined"] ["self","moment"] (aq mn):=dO
def uP (cL:Addr):cI:=λxs J Q _=>∃p r rows g t,xs=[.ref p,fr t]∧Cu cL J p r rows g∧rows≠[]∧Sz 900 t∧(∀l∈rows,oO 900 l)∧(∀q,g=some q→Sz 900 q)∧Q (.bl (there rows g t)) J
theorem yj (F:bZ K "there" "Log.there" mn f fd) (Z:bE mg) (cG:cR K mg "Log" cL) (bC:ay K cL "rows") (cf:ay K cL "gone") (dM:b7 P w K mg base 1 "less" gL dj):aK P w K mg base (cq P w) 2 f fd ka (cP K (uP cL)):=by
 simp_arith [pT,(ak (aD (i:=2) pT.nd (au aw (au aw (aH cG.cl bC (rv 0)) ai) ai))
   (ak (aY (cm (aU dM B hr (af (rv 1) (af (rv 2) ah)))) (ar (aB ig)) aR)
   (ar (aB (Rt (fA QF (aH cG.cl cf (rv 0)) l9) (B8 (aU dM B hr (af (rv 1) (af (aH cG.cl cf (rv 0)) ah)))))))))]
 ·obtain ⟨p,r,rows,g,t,rfl,_⟩:=h;rfl
 obtain ⟨p,r,rows,g,t,rfl,b,hne,st,sl,sg,q⟩:=h
 have bo:=b.o
 have bl:=b.l
 obtain ⟨l,ls,rfl⟩:∃l ls,rows=l :: ls:=XB hne
 have sl':=(sl l (by simp)).m
 refine hX ?_
 simp_arith! [cy,bo,bl,Qb,U',Gh,dj]
 refine ⟨st.mono (by decide),sl'.mono (by decide),?_⟩
 unfold there at q
 simp only [Za] at q
 by_cases c:t < l.m
 ·rw [if_pos c]
  rw [decide_eq_true c] at q
  exact q
 ·rw [if_neg c]
  rw [decide_eq_false c] at q
  cases g with
  | none=>simpa [gv,PC,Mi,So] using q
  | some u =>
   simp only [gv,xY,We,if_false]
   simp only [So] at q
   refine ⟨u,rfl,st.mono (by decide),(sg u rfl).mono (by decide),?_⟩
   simpa using q
abbrev kE:Stmt:=(inClass (top 33) 6)
abbrev je:List Str:=["self","moment"]
theorem wj:av ["self","moment"] ["self","moment"] (aq kE):=dO
def uO (cL eN:Addr):cI:=λxs J Q E=>∃p r rows g t,xs=[.ref p,fr t]∧Cu cL J p r rows g∧rows≠[]∧rows.length≤900∧Sz 900 t∧(∀l∈rows,oO 900 l)∧(∀q,g=some q→Sz 900 q)∧(there rows g t=true→∀l,gX rows t=some l→Q l.V J)∧(there rows g t=false→E eN J)
theorem vX {eN:Addr} (F:bZ K "leg_at" "Log.leg_at" kE f fd) (Z:bE mg) (cG:cR K mg "Log" cL) (bC:ay K cL "rows") (dz:Own K mg "NotThere" eN) (fi:bU P w K mg base cL 2 "there" ka (uP cL))
  (D0:b7 P w K mg base 2 "last_by" uo Aw):aK P w K mg base (cq P w) 3 f fd je (cP K (uO cL eN)):=by
 simp_arith [wj,(ak (aY (fC (cm (a_ (pl:=_) fi B hr (rv 0) (af (rv 1) ah)))) (ar (cE dz rfl bH B.kn rfl (af aS ah))) aR)
   (ar (aB (au aw (aH cG.cl bC (rv 0)) (aU D0 B hr (af (aH cG.cl bC (rv 0)) (af (rv 1) ah)))))))]
 ·obtain ⟨p,r,rows,g,t,rfl,_⟩:=h;rfl
 obtain ⟨p,r,rows,g,t,rfl,b,hne,hl,st,sl,sg,q,qe⟩:=h
 have bo:=b.o
 have bl:=b.l
 refine hX ?_
 simp_arith! [cy,bo,bl,Qb]
 refine ⟨P' _ _,p,r,rows,g,t,rfl,b,hne,st,sl,sg,?_⟩
 simp_arith! [cy,d8,bo,bl,Qb]
 cases hc:there rows g t with
 | false=>rw [if_pos rfl];exact qe hc
 | true =>
  rw [if_neg (by decide)]
  obtain ⟨l,h1,h2,h3,h4,h5⟩:=AH hc
  refine ⟨_,t,rows.map bQ.V,rows.map bQ.m,rfl,by simp_arith! [cy,bl],by simp,by simpa using hl,?_,st.mono (by decide),?_,?_⟩
  ·intro i y m hy hm
   rw [VS] at hy hm
   cases e:rows[i]? with
   | none=>rw [e] at hy;cases hy
   | some z=>rw [e] at hy hm;cases hy;cases hm;exact Gh _ _
  ·intro m hm
   obtain ⟨z,hz,rfl⟩:=VQ.mp hm
   exact (sl z hz).m.mono (by decide)
  ·rw [VM]
   simp_arith! [cy,bl]
   refine gB (x:=l.V) ?_ (q hc l h1)
   have:((lb (rows.map bQ.m) t rows.length:Nat):Int) - 1=((lb (rows.map bQ.m) t rows.length - 1:Nat):Int):=by omega
   rw [this]
   exact Vs h5
theorem Ko (a b z:PV):iH ("gone":Str) z ([("rows",a),("gone",b)]:List (Str × PV))=([("rows",a),("gone",z)]:List (Str × PV)):=by simp only [iH,LH,if_false,if_true]
theorem Dj (a b z:PV):iH ("rows":Str) z ([("rows",a),("gone",b)]:List (Str × PV))=([("rows",z),("gone",b)]:List (Str × PV)):=by simp only [iH,if_true]
variable {t:Rat}
theorem lq (h:oO 900 l) (sm:Sz 900 t):Sz 3000 (l.at t):=by
 have s1:Sz 1801 (t - l.m):=sm.sub h.m
 have s2:Sz 1900 ((t - l.m) * (l.v:Rat)):=s1.mul h.v
 exact h.p.add s2
abbrev jq:Stmt:=(top 31)
abbrev l5:List Str:=["name","leg","other_name","other_leg","moment"]
theorem iz:av ["name","leg","other_name","other_leg","moment","place","other_place"] ["name","leg","other_name","other_leg","moment"] (aq jq):=dO
def HX:cI:=λxs J Q _=>∃(n n':Str) (l l':bQ) (t:Rat),xs=[.str n,l.V,.str n',l'.V,fr t]∧oO 900 l∧oO 900 l'∧Sz 900 t∧Q (.bl ((key t (n,l)).lt (key t (n',l')))) J
theorem su (F:bZ K "lies_behind" "lies_behind" jq f fd) (Z:bE mg) (gS:b7 P w K mg base 4 "place_on" l7 xj) (dM:b7 P w K mg base 1 "less" gL dj):aK P w K mg base (cq P w) 5 f fd l5 (cP K HX):=by
 simp_arith [iz,(ak (aD (i:=5) iz.nd (aU gS B hr (af (rv 1) (af (rv 4) ah))))
   (ak (aD (i:=6) iz.nd (aU gS B hr (af (rv 3) (af (rv 4) ah))))
   (ak (aY (aG (g8 hr.aM) (rv 5) (rv 6)) (ar (aB (aU dM B hr (af (rv 5) (af (rv 6) ah))))) aR)
   (ak (aY (aG (g8 hr.aM) (au aw (rv 1) ai) (au aw (rv 3) ai)) (ar (aB (fA lU (au aw (rv 1) ai) (au aw (rv 3) ai)))) aR)
   (ar (aB (fA BK (rv 0) (rv 2))))))))]
 ·obtain ⟨n,n',l,l',t,rfl,_⟩:=h;rfl
 obtain ⟨n,n',l,l',t,rfl,sl,sl',st,q⟩:=h
 refine hX ?_
 simp_all! []
 refine ⟨l,t,rfl,sl.m,sl.p,st,sl.v,?_⟩
 simp_all! []
 refine ⟨l',t,rfl,sl'.m,sl'.p,st,sl'.v,?_⟩
 have a1:=lq sl st
 have a2:=lq sl' st
 simp_all! []
 unfold Ky.lt key at q
 dsimp only at q
 by_cases e:l.at t=l'.at t
 ·rw [if_pos e] at q
  rw [if_pos e]
  simp_all! [wN]
  by_cases e2:l.v=l'.v
  ·rw [if_pos e2] at q
   rw [if_pos e2]
   simp_all! []
   exact q
  ·rw [if_neg e2] at q
   rw [if_neg e2]
   simp_all! [wN]
   exact q
 ·rw [if_neg e] at q
  rw [if_neg e]
  simp_all! [dj]
  exact ⟨a1.mono (by decide),a2.mono (by decide),q⟩
abbrev oE:Stmt:=(top 45)
abbrev lZ:List Str:=["legs","moment"]
theorem gm:av ["legs","moment","names","name","at"] ["legs","moment"] (aq oE):=dO
def fL (fs:List (Str × bQ)):List (Str × PV):=fs.map λx=>(x.1,x.2.V)
def q_:cI:=λxs J Q _=>∃(D:Addr) (fs:List (Str × bQ)) (ep:Nat) (t:Rat),xs=[.ref D,fr t]∧J D=some (.dct (fL fs) ep)∧(fs.map (·.1)).Nodup∧fs.length≤100∧Sz 900 t∧(∀x∈fs,oO 900 x.2)∧∀p,J p=none→Q (.ref p) (put J p (.lst ((bT t fs).map .str)))
theorem yo (F:bZ K "in_order" "in_order" oE f fd) (Z:bE mg) (u0:b7 P w K mg base 5 "lies_behind" l5 HX):aK P w K mg base (cq P w) 6 f fd lZ (cP K q_):=by
 simp_arith [gm,(ak (aD (i:=2) gm.nd (fb ah))
   (ak (cV bA rfl (ki (rv 0)) (bq (i:=3) gm.nd) (ak (aD (i:=4) gm.nd (bG ft rfl Z.len boot_len (af (rv 2) ah)))
   (ak (ik bA (fj (jg (aG rM (rv 4) ai) (f' (cm (aU u0 B hr (af (rv 3) (af (au bO (rv 0) (rv 3)) (af (au aw (rv 2) (aJ g9 (rv 4) ai)) (af (au bO (rv 0) (au aw (rv 2) (aJ g9 (rv 4) ai))) (af (rv 1) ah)))))))))) (ar (HG (i:=4) gm.nd ai F')))
   (ar (aV (eV V3 W6 Xg mS (rv 2) (af (rv 4) (af (rv 3) ah))))))))
   (ar (aB (rv 2)))))]
 ·obtain ⟨D,fs,ep,t,rfl,_⟩:=h;rfl
 obtain ⟨D,fs,ep,t,rfl,hD,hnd,hlen,st,sl,q⟩:=h
 refine hX ?_
 simp_all! []
 intro r hr'
 have nDr:D≠r:=by intro e;subst e;rw [hD] at hr';cases hr'
 simp_all! [ag nDr,hD]
 have hkv:(fL fs).map (λkv=>PV.str kv.1)=fs.map λx=>PV.str x.1:=by unfold fL;rw [VX];rfl
 rw [hkv]
 obtain ⟨Inv,hInv⟩:∃Inv:Nat→Sr→Hq→Prop,∀i τ J',Inv i τ J'↔∃(u3 u4:Option PV),τ=[some (.ref D),some (fr t),some (.ref r),u3,u4]∧J'=put J r (.lst ((bT t (fs.take i)).map .str)):=⟨_,λ_ _ _=>Iff.rfl⟩
 refine dW Inv ((hInv _ _ _).mpr ⟨_,_,rfl,rfl⟩) (λi τ J' h=>?_) ?_ ?_
 ·obtain ⟨_,_,_,rfl⟩:=(hInv _ _ _).mp h
  rw [ag nDr];exact hD
 ·intro i x τ J' hx hv
  obtain ⟨u3,u4,rfl,rfl⟩:=(hInv _ _ _).mp hv
  clear hv
  have hi:i < fs.length:=by have:=(VO.mp hx).1;simpa using this
  rw [VS,VN hi] at hx
  cases hx
  rcases hfi:fs[i] with ⟨n,l⟩
  have hmem:(n,l)∈fs:=by rw [← hfi];exact Wi hi
  have et:fs.take (i + 1)=fs.take i ++ [(n,l)]:=by rw [V',VN hi,hfi];rfl
  have hndt:((fs.take (i + 1)).map (·.1)).Nodup:=by rw [W4];exact hnd.sublist (WU _ _)
  rw [et,VP,VR,Wj] at hndt
  obtain ⟨hnd1,hnew⟩:=e9 hndt
  obtain ⟨ys,hys⟩:∃ys,fm ((fs.take i).map (key t))=ys:=⟨_,rfl⟩
  have srt:r8 Ky.lt ys:=by rw [← hys];exact g_ (by rw [fh];exact hnd1)
  have hyl:ys.length=i:=by rw [← hys,pw,VM,Wa];omega
  have hym:∀y∈ys,∃l',(y.n,l')∈fs∧y=key t (y.n,l')∧y.n≠n:=λy hy=>by
   rw [← hys,cx,VQ] at hy
   obtain ⟨x',hx',rfl⟩:=hy
   exact ⟨x'.2,W2 hx',rfl,λe=>hnew (VQ.mpr ⟨x',hx',e⟩)⟩
  have eo:(bT t (fs.take i)).map PV.str=ys.map λy=>PV.str y.n:=by unfold bT;rw [hys,VX];rfl
  have en:(bT t (fs.take (i + 1))).map PV.str=(sf Ky.lt (key t (n,l)) ys).map λy=>PV.str y.n:=by
   unfold bT;rw [et,VP,VR,Wj,jG,hys,VX];rfl
  rw [eo]
  have hvn:gP (fL fs) n=some l.V:=fZ (f:=bQ.V) hnd hmem
  have sll:=sl _ hmem
  simp_all! [aj,VM]
  refine ⟨λm τ' J'=>m≤ys.length∧τ'=[some (.ref D),some (fr t),some (.ref r),some (.str n),some (.int (m:Nat))]∧J'=put J r (.lst (ys.map λy=>PV.str y.n))∧∀(j:Nat) y,m≤j→ys[j]?=some y→(key t (n,l)).lt y=true,⟨ys.length,VT _,rfl,rfl,λj y hj e=>by rw [WG hj] at e;cases e⟩,?_⟩
  rintro m τ' J' ⟨hm,rfl,rfl,hall⟩
  have fin:(∀(j:Nat) y,j < m→ys[j]?=some y→y.lt (key t (n,l))=true)→Inv (i + 1) [some (.ref D),some (fr t),some (.ref r),some (.str n),some (.int (m:Nat))] (put J r (.lst ((ys.map λy=>PV.str y.n).take m ++ .str n :: (ys.map λy=>PV.str y.n).drop m))):=λhlow=>by
   refine (hInv _ _ _).mpr ⟨_,_,rfl,?_⟩
   rw [en,← C0 hm hlow λj y hj e=>Ky.O_ (hall j y hj e),VP,VR,W4,XX]
   rfl
  simp_all! [aj,ag nDr,hD,hvn]
  by_cases c0:0 < m
  ·rw [if_pos (by omega)]
   obtain ⟨m',rfl⟩:∃m',m=m' + 1:=⟨m - 1,by omega⟩
   obtain ⟨y,hy⟩:∃y,ys[m']?=some y:=⟨_,VN (by omega)⟩
   obtain ⟨l',hl',ey,ny⟩:=hym y (V0 hy)
   have ha:c_ (ys.map λy=>PV.str y.n) (((m' + 1:Nat):Int) - 1)=some (.str y.n):=by
    rw [show ((m' + 1:Nat):Int) - 1=((m':Nat):Int) by omega]
    exact bM (by rw [VS,hy];rfl)
   have hvy:gP (fL fs) y.n=some l'.V:=fZ (f:=bQ.V) hnd hl'
   simp_all! [ha,aj,ag nDr,hD,hvn,hvy]
   refine ⟨n,y.n,l,l',t,rfl,sll,sl _ hl',st,?_⟩
   rw [← ey]
   cases hc:(key t (n,l)).lt y with
   | true =>
    simp_all! []
    refine ⟨_,λτ'' J'' h=>⟨m',Xo _,h⟩,⟨by omega,?_,rfl,λj z hj e=>?_⟩⟩
    ·rw [show ((m' + 1:Nat):Int) - 1=((m':Nat):Int) by omega]
    ·rcases XW hj with h | h
     ·exact hall j z (by omega) e
     ·subst h;rw [hy] at e;cases e;exact hc
   | false =>
    simp_all! [aj]
    refine ⟨_,m' + 1,rfl,rfl,by rw [VM];omega,ba (by rw [VM];omega),by omega,?_⟩
    rw [bI]
    refine fin λj z hj e=>?_
    have hyx:y.lt (key t (n,l))=true:=by
     rcases Ky.R3 (a:=y) (b:=key t (n,l)) ny with h | h
     ·exact h
     ·rw [hc] at h;cases h
    exact AD (lt:=Ky.lt) Ky.tr srt hy e (by omega) hyx
  ·rw [if_neg (by omega)]
   simp_all! [aj]
   refine ⟨_,m,rfl,rfl,by rw [VM];omega,ba (by rw [VM];omega),by omega,?_⟩
   rw [bI]
   exact fin λj z hj e=>by omega
 ·intro τ J' hv
  obtain ⟨u3,u4,rfl,rfl⟩:=(hInv _ _ _).mp hv
  rw [VM,Wg]
  simp_all! []
  exact q r hr'
def qj (K:VL) (mg:Str→Option Value):Prop:=∃a:Addr,mg "NOUGHT"=some (.ref a)∧∀H:Hp,fo K H a [.int 0,.int 1]
variable {a:Addr}
theorem EH {h:Heap} (X:K.In h) (G:h.Ns mainGlobals mg) {od:Option Addr} {sl:Array (Option Value)} {t u:Tok}
  (e:WA K mainGlobals "NOUGHT"=some (some (.ref a))) (l:K.lookup a=some ⟨.type "tuple",od,.seq #[.int 0 t,.int 1 u] n,sl⟩):qj K mg :=
 ⟨a,Wy X G e,λ_=>.inr ⟨_,_,_,l,rfl,rfl,(by show 2≤sizeLine;decide),.cons ⟨t,rfl⟩ (.cons ⟨u,rfl⟩ .nil)⟩⟩
structure Cf where
 n:Str
 a:Addr
 r:Addr
 w:List bQ
 g:Option Rat
structure Ln where
 t:Rat
 d:Addr
 e:Nat
 o:Addr
 cs:List Cf
 row:List Str
def Cf.cur (c:Cf):bQ:=c.w.getLast?.getD ⟨0,0,0⟩
def Ln.E3 (L:Ln):List Cf:=L.cs.filter λc=>c.g.isNone
def Ln.fs (L:Ln):List (Str × bQ):=L.E3.map λc=>(c.n,c.cur)
structure bV (cN cL:Addr) (J:Hq) (p:Addr) (L:Ln):Prop where
 ob:J p=some (.ins cN [("now",fr L.t),("logs",.ref L.d),("row",.ref L.o)])
 dc:J L.d=some (.dct (L.cs.map λc=>(c.n,PV.ref c.a)) L.e)
 rw:J L.o=some (.lst (L.row.map .str))
 lg:∀c∈L.cs,Cu cL J c.a c.r c.w c.g
 ap:(L.cs.map Cf.r).Nodup
 ao:∀c∈L.cs,c.r≠L.o
structure bW (L:Ln):Prop where
 nd:(L.cs.map Cf.n).Nodup
 ne:∀c∈L.cs,c.w≠[]
 le:∀c∈L.cs,∀l∈c.w,l.m≤L.t
 ck:∀c∈L.cs,∀l∈c.w,zk l
 len:∀c∈L.cs,c.w.length≤200
 gz:∀c∈L.cs,∀q,c.g=some q→Sc jv MM q∧q≤L.t
 t0:0≤L.t
 ts:Sc jv MM L.t
 many:L.cs.length≤100
 rm:∀n,n∈L.row↔n∈L.fs.map (·.1)
 rn:L.row.Nodup
 rl:L.row.length≤12
structure eg (L:Ln):Prop extends bW L where
 row:L.row=bT L.t L.fs
def Ln.own (L:Ln) (p a:Addr):Prop:=a=p∨a=L.d∨a=L.o∨∃c∈L.cs,a=c.a∨a=c.r
structure Mv (J J':Hq) (S S':Addr→Prop):Prop where
 keep:∀a o,J a=some o→¬ S a→J' a=some o
 own:∀a,S' a→S a∨J a=none
 mono:∀a,J' a=none→J a=none
theorem Mv.refl (J:Hq) (S:Addr→Prop):Mv J J S S:=⟨λ_ _ h _=>h,λ_ h=>.inl h,λ_ h=>h⟩
variable {J':Hq} {S:Addr→Prop}
theorem Mv.trans {J'':Hq} {S' S'':Addr→Prop} (h:Mv J J' S S') (k:Mv J' J'' S' S''):Mv J J'' S S'':=by
 refine ⟨λa o e n=>k.keep a o (h.keep a o e n) λz=>?_,λa z=>?_,λa z=>h.mono a (k.mono a z)⟩
 ·rcases h.own a z with q | q
  ·exact n q
  ·rw [q] at e;cases e
 ·rcases k.own a z with q | q
  ·exact h.own a q
  ·exact .inr (h.mono a q)
variable {x:Addr}
theorem Mv.new (h:J x=none):Mv J (put J x o) S S:=by
 refine ⟨λa u e _=>?_,λ_ z=>.inl z,λa z=>?_⟩
 ·rw [ag (λq=>by subst q;rw [h] at e;cases e)];exact e
 ·by_cases q:a=x
  ·subst q;rw [aj] at z;cases z
  ·rw [ag q] at z;exact z
theorem Mv.BA (h:J x=none):Mv J (put J x o) S (λa=>S a∨a=x) :=
 ⟨(Mv.new (S:=S) h).keep,λa z=>z.elim .inl λe=>.inr (by rw [e];exact h),(Mv.new (S:=S) h).mono⟩
variable {cN:Addr} {L:Ln}
theorem bV.keep (h:bV cN cL J p L) (k:∀a o,L.own p a→J a=some o→J' a=some o):bV cN cL J' p L :=
 ⟨k _ _ (.inl rfl) h.ob,k _ _ (.inr (.inl rfl)) h.dc,k _ _ (.inr (.inr (.inl rfl))) h.rw,λc hc=>⟨k _ _ (.inr (.inr (.inr ⟨c,hc,.inl rfl⟩))) (h.lg c hc).o,k _ _ (.inr (.inr (.inr ⟨c,hc,.inr rfl⟩))) (h.lg c hc).l⟩,h.ap,h.ao⟩
theorem bV.some (h:bV cN cL J p L) (o:L.own p a):J a≠none:=by
 rcases o with rfl | rfl | rfl | ⟨c,hc,rfl | rfl⟩
 ·rw [h.ob];exact λz=>nomatch z
 ·rw [h.dc];exact λz=>nomatch z
 ·rw [h.rw];exact λz=>nomatch z
 ·rw [(h.lg c hc).o];exact λz=>nomatch z
 ·rw [(h.lg c hc).l];exact λz=>nomatch z
theorem bV.fresh (h:bV cN cL J p L) (hx:J x=none):bV cN cL (put J x o) p L :=
 h.keep λa u ow e=>by rw [ag (λq=>by subst q;rw [hx] at e;cases e)];exact e
theorem Bo {b C C':Addr} {fs gs:List (Str × PV)} (h:J a=Ws (.ins C fs)) (k:J b=Ws (.ins C' gs)) (n:fs.map (·.1)≠gs.map (·.1)):a≠b:=by
 intro e;subst e;rw [h] at k
 have:=HQ.ins.inj (Option.some.inj k)
 exact n (by rw [this.2])
theorem bV.C8 (h:bV cN cL J p L):L.d≠p:=by intro e;have:=h.ob;rw [← e,h.dc] at this;cases this
theorem bV.LJ (h:bV cN cL J p L):L.o≠p:=by intro e;have:=h.ob;rw [← e,h.rw] at this;cases this
theorem bV.Vc (h:bV cN cL J p L):L.d≠L.o:=by intro e;have:=h.rw;rw [← e,h.dc] at this;cases this
theorem tZ:([("rows":Str),("gone":Str)]:List Str)≠[("now":Str),("logs":Str),("row":Str)]:=by decide +kernel
variable {c:Cf}
theorem bV.Vb (h:bV cN cL J p L) (hc:c∈L.cs):c.a≠p:=Bo (h.lg c hc).o h.ob tZ
theorem bV.t8 (h:bV cN cL J p L) (hc:c∈L.cs):c.r≠p:=by intro e;have:=h.ob;rw [← e,(h.lg c hc).l] at this;cases this
theorem bV.Vw (h:bV cN cL J p L) (hc:c∈L.cs):c.a≠L.d:=by intro e;have:=h.dc;rw [← e,(h.lg c hc).o] at this;cases this
theorem bV.Vy (h:bV cN cL J p L) (hc:c∈L.cs):c.r≠L.d:=by intro e;have:=h.dc;rw [← e,(h.lg c hc).l] at this;cases this
theorem bV.Vx (h:bV cN cL J p L) (hc:c∈L.cs):c.a≠L.o:=by intro e;have:=h.rw;rw [← e,(h.lg c hc).o] at this;cases this
theorem bV.N' {o':Addr} {row:List Str} (h:bV cN cL J p L) (ho:J o'=Ws (.lst (row.map .str))) (nc:∀c∈L.cs,c.r≠o'):bV cN cL (put J p (.ins cN [("now",fr L.t),("logs",.ref L.d),("row",.ref o')])) p { L with o:=o',row:=row } :=
 ⟨aj,by show put J p _ L.d=_;rw [ag h.C8];exact h.dc,by show put J p _ o'=_;rw [ag (λe=>by rw [e,h.ob] at ho;cases ho)];exact ho,
  λc hc=>⟨by rw [ag (h.Vb hc)];exact (h.lg c hc).o,by rw [ag (h.t8 hc)];exact (h.lg c hc).l⟩,h.ap,nc⟩
theorem lT {S':Addr→Prop} (hx:S x) (hS:∀a,S' a→S a∨J a=none):Mv J (put J x o) S S':=by
 refine ⟨λa u e n=>?_,hS,λa z=>?_⟩
 ·rw [ag (λq=>by subst q;exact n hx)];exact e
 ·by_cases q:a=x
  ·subst q;rw [aj] at z;cases z
  ·rw [ag q] at z;exact z
theorem bW.Fd (h:bW L):Sz 900 L.t:=(tY h.ts).mono (by decide)
theorem zk.Fp (h:zk l):oO 900 l:=⟨h.Va.mono (by decide),h.TN.mono (by decide),.small (by have:=h.v;omega) (by have:=h.v;omega)⟩
theorem Cf.iK (h:c.w≠[]):c.w.getLast?=Ws c.cur∧c.cur∈c.w:=by
 unfold Cf.cur
 rw [List.getLast?_eq_some_getLast h]
 exact ⟨rfl,List.getLast_mem h⟩
theorem bW.Vv (h:bW L) (hc:c∈L.cs):gX c.w L.t=Ws c.cur:=by
 unfold gX
 rw [Wx.mpr λl hl=>decide_eq_true (h.le c hc l hl)]
 exact (Cf.iK (h.ne c hc)).1
theorem bW.there (h:bW L) (hc:c∈L.cs) (hg:c.g=none):there c.w c.g L.t=true:=by
 obtain ⟨l,ls,e⟩:=XB (h.ne c hc)
 have:=h.le c hc l (by rw [e];simp)
 rw [hg,e]
 unfold L2.there
 simp only [Za,So,Xy]
 rw [decide_eq_false (Xq.mpr this)];rfl
theorem Ln.eE:c∈L.E3↔c∈L.cs∧c.g=none:=by
 unfold Ln.E3
 rw [V8]
 cases c.g <;> simp
theorem lE (L:Ln):L.fs.map (·.1)=L.E3.map Cf.n:=by unfold Ln.fs;rw [VX];rfl
theorem bW.CS (h:bW L):(L.fs.map (·.1)).Nodup:=by
 rw [lE]
 unfold Ln.E3
 exact h.nd.sublist (List.Sublist.map _ Yh)
theorem bW.found (h:bW L) {n:Str} (hn:n∈L.row):∃c∈L.cs,c.n=n∧c.g=none:=by
 have:=(h.rm n).mp hn
 rw [lE,VQ] at this
 obtain ⟨c,hc,e⟩:=this
 exact ⟨c,(Ln.eE.mp hc).1,e,(Ln.eE.mp hc).2⟩
theorem bW.va (h:bW L) (hc:c∈L.cs):gP (L.cs.map λc=>(c.n,PV.ref c.a)) c.n=Ws (.ref c.a):=by
 have e:(L.cs.map λc=>(c.n,PV.ref c.a))=((L.cs.map λc=>(c.n,c.a)).map λx=>(x.1,PV.ref x.2)):=by rw [VX];rfl
 rw [e]
 exact fZ (f:=PV.ref) (by rw [VX];exact h.nd) (VQ.mpr ⟨c,hc,rfl⟩)
theorem bW.VH (h:bW L) {n:Str}:(gP (L.cs.map λc=>(c.n,PV.ref c.a)) n).isSome=decide (n∈L.cs.map Cf.n):=by
 have e:(L.cs.map λc=>(c.n,PV.ref c.a))=((L.cs.map λc=>(c.n,c.a)).map λx=>(x.1,PV.ref x.2)):=by rw [VX];rfl
 rw [e,Fl (f:=PV.ref) (by rw [VX];exact h.nd)]
 rw [VX];rfl
theorem bW.uniq (h:bW L) {c':Cf} (hc:c∈L.cs) (hc':c'∈L.cs) (e:c.n=c'.n):c=c':=by
 obtain ⟨i,hi,rfl⟩:=Xl hc
 obtain ⟨j,hj,rfl⟩:=Xl hc'
 have:=(Xn (xs:=L.cs.map Cf.n) (i:=i) (j:=j) (h₀:=by simpa using hi) (h₁:=by simpa using hj) h.nd).mp (by rw [X6,X6];exact e)
 subst this;rfl
theorem zN (a b c:PV):([("now",a),("logs",b),("row",c)]:List (Str × PV)).lookup ("now":Str)=Ws a:=rfl
theorem zO (a b c:PV):([("now",a),("logs",b),("row",c)]:List (Str × PV)).lookup ("logs":Str)=Ws b:=rfl
theorem zP (a b c:PV):([("now",a),("logs",b),("row",c)]:List (Str × PV)).lookup ("row":Str)=Ws c:=rfl
theorem kU {a b c:PV} (h:(m == ("now":Str))=false:=by decide +kernel) (k:(m == ("logs":Str))=false:=by decide +kernel) (l:(m == ("row":Str))=false:=by decide +kernel):([("now",a),("logs",b),("row",c)]:List (Str × PV)).lookup m=none:=by
 rw [Wo,h];simp only;rw [Wo,k];simp only;rw [Wo,l];rfl
theorem LC:(("now":Str)=("logs":Str))=False:=eq_false (by decide +kernel)
theorem LF:(("now":Str)=("row":Str))=False:=eq_false (by decide +kernel)
theorem LB:(("logs":Str)=("row":Str))=False:=eq_false (by decide +kernel)
theorem Di (a b c z:PV):iH ("row":Str) z ([("now",a),("logs",b),("row",c)]:List (Str × PV))=([("now",a),("logs",b),("row",z)]:List (Str × PV)):=by simp only [iH,LF,LB,if_false,if_true]
variable {xs:List PV}
theorem Od (h:J a=Ws (.lst xs)):Mg J (.ref a)=Ws xs:=by unfold Mg;simp only [h]
abbrev gF:Stmt:=(inClass (top 46) 0)
abbrev fQ:List Str:=["self"]
theorem qV:av ["self"] ["self"] (aq gF):=dO
def zd (cN cL:Addr):cI:=λxs J Q _=>∃p,xs=[.ref p]∧J p=some (.ins cN [])∧∀J' d e o,bV cN cL J' p ⟨0,d,e,o,[],[]⟩→Mv J J' (λa=>a=p) (Ln.own ⟨0,d,e,o,[],[]⟩ p)→Q .non J'
theorem yf (F:bZ K "__init__" "Lane.__init__" gF f fd) (N:qj K mg) (az:cR K mg "Lane" cN) (aE:ay K cN "now") (aW:ay K cN "logs") (aO:ay K cN "row"):aK P w K mg base (cq P w) 1 f fd fQ (cP K (zd cN cL)):=by
 simp_arith [qV]
 ·obtain ⟨p,rfl,_⟩:=h;rfl
 obtain ⟨p,rfl,hp,q⟩:=h
 obtain ⟨aN,gN,sN⟩:=N
 have rN:∀(J:Hq) (H:Hp),cS K J H (fr 0) (.ref aN):=λJ H=>⟨aN,_,rfl,sN H,⟨_,_,rfl,rfl,_,_,rfl,rfl,rfl⟩⟩
 refine ⟨_,(ak (dt az.cl aE (rv 0) (fB (v:=.ref aN) (fr 0) rfl gN rfl rN))
   (ak (dt az.cl aW (rv 0) mY)
   (ar (dt az.cl aO (rv 0) (fb ah))))),?_⟩
 simp_all! [hp]
 refine ⟨by decide,?_⟩
 simp_all! []
 intro d hd ep
 have C8:d≠p:=by intro e;subst e;rw [aj] at hd;cases hd
 simp_all! [ag (Ne.symm C8),aj]
 simp only [LC,if_false]
 refine ⟨by decide,?_⟩
 simp_all! []
 intro o ho
 have jd:J d=none:=by rw [ag C8] at hd;exact hd
 have LJ:o≠p:=by intro e;subst e;rw [aj] at ho;cases ho
 have nod:o≠d:=by intro e;subst e;rw [ag LJ,aj] at ho;cases ho
 have jo:J o=none:=by rw [ag LJ,ag nod,ag LJ] at ho;exact ho
 refine dP (by rw [ag (Ne.symm LJ)];exact aj) ⟨by show (2:Nat) < 1000;decide,?_⟩
 have pr:iH ("row":Str) (PV.ref o) ([("now",fr 0),("logs",.ref d)]:List (Str × PV))=([("now",fr 0),("logs",.ref d),("row",.ref o)]:List (Str × PV)):=by simp only [iH,LF,LB,if_false]
 rw [pr]
 refine q _ d ep o ⟨aj,by rw [ag C8,ag (Ne.symm nod),ag C8];exact aj,by rw [ag LJ];exact aj,(by simp),(by simp),(by simp)⟩ ⟨λa u e na=>?_,λa ow=>?_,λa z=>?_⟩
 ·have na1:a≠d:=λz=>by subst z;rw [jd] at e;cases e
  have na2:a≠o:=λz=>by subst z;rw [jo] at e;cases e
  rw [ag na,ag na2,ag na,ag na1,ag na];exact e
 ·rcases ow with rfl | rfl | rfl | ⟨c,hc,_⟩
  ·exact .inl rfl
  ·exact .inr jd
  ·exact .inr jo
  ·cases hc
 ·by_cases z1:a=p
  ·subst z1;rw [aj] at z;cases z
  by_cases z2:a=o
  ·subst z2;exact jo
  by_cases z3:a=d
  ·subst z3;exact jd
  rw [ag z1,ag z2,ag z1,ag z3,ag z1] at z;exact z
abbrev d9:Stmt:=(inClass (top 46) 22)
abbrev fJ:List Str:=["self","name"]
theorem kX:av ["self","name"] ["self","name"] (aq d9):=dO
def DS (cN cL eC:Addr):cI:=λxs J Q E=>∃p L n,xs=[.ref p,.str n]∧bV cN cL J p L∧(n∈L.row→Q .non J)∧(n ∉ L.row→E eC J)
variable {eC:Addr}
theorem kW (F:bZ K "must_be_there" "Lane.must_be_there" d9 f fd) (Z:bE mg) (az:cR K mg "Lane" cN) (aO:ay K cN "row") (gR:Own K mg "NoCraft" eC):aK P w K mg base (cq P w) 1 f fd fJ (cP K (DS cN cL eC)):=by
 simp_arith [kX,(ar (aY (aG JZ (rv 1) (aH az.cl aO (rv 0))) (ar (cE gR rfl bH B.kn rfl (af aS ah))) aR))]
 ·obtain ⟨p,L,n,rfl,_⟩:=h;rfl
 obtain ⟨p,L,n,rfl,b,q,qe⟩:=h
 have bo:=b.ob
 refine hX ?_
 simp_all! [bo,zP,Hm,Od b.rw]
 refine ⟨L.row,rfl,?_⟩
 by_cases c:n∈L.row
 ·rw [if_pos (by simp [c])]
  exact q c
 ·rw [if_neg (by simp [c])]
  simp_all! [d8]
  exact qe c
abbrev jl:Stmt:=(inClass (top 46) 23)
abbrev hV:List Str:=["self","name"]
theorem uG:av ["self","name"] ["self","name"] (aq jl):=dO
def uR (cN cL eC:Addr):cI:=λxs J Q E=>∃p L n,xs=[.ref p,.str n]∧bV cN cL J p L∧bW L∧(∀c∈L.cs,c.n=n→c.g=none→Q c.cur.V J)∧(n ∉ L.row→E eC J)
theorem ud {eN:Addr} (F:bZ K "leg_of" "Lane.leg_of" jl f fd) (Z:bE mg) (az:cR K mg "Lane" cN) (aW:ay K cN "logs") (aE:ay K cN "now") (dY:bU P w K mg base cN 1 "must_be_there" fJ (DS cN cL eC)) (eA:bU P w K mg base cL 3 "leg_at" je (uO cL eN)) :
  aK P w K mg base (cq P w) 4 f fd hV (cP K (uR cN cL eC)):=by
 simp_arith [uG,(ak (aV (a_ (pl:=_) dY B hr (rv 0) (af (rv 1) ah)))
   (ar (aB (a_ (pl:=_) eA B hr (au bO (aH az.cl aW (rv 0)) (rv 1)) (af (aH az.cl aE (rv 0)) ah)))))]
 ·obtain ⟨p,L,n,rfl,_⟩:=h;rfl
 obtain ⟨p,L,n,rfl,b,ok,q,qe⟩:=h
 have bo:=b.ob
 have bd:=b.dc
 refine hX ?_
 simp_all! [bo]
 refine ⟨kU,p,L,n,rfl,b,λhn=>?_,qe⟩
 obtain ⟨c,hc,rfl,hg⟩:=ok.found hn
 have lo:=(b.lg c hc).o
 simp_all! [bo,zO,bd,ok.va hc,lo]
 refine ⟨Qa _ _,?_⟩
 simp_all! [bo,zN]
 refine ⟨c.a,c.r,c.w,c.g,L.t,rfl,b.lg c hc,ok.ne c hc,V6 (ok.len c hc) (by decide),ok.Fd,λl hl=>(ok.ck c hc l hl).Fp,λq' hq=>(tY (ok.gz c hc q' hq).1).mono (by decide),λ_ l hl=>?_,λz=>?_⟩
 ·rw [ok.Vv hc] at hl;cases hl
  exact q c hc rfl hg
 ·rw [ok.there hc hg] at z;cases z
abbrev gf:Stmt:=(inClass (top 46) 24)
abbrev hZ:List Str:=["self"]
theorem uH:av ["self"] ["self"] (aq gf):=dO
theorem GY (ok:bW L) {f:Str→bQ} (hf:∀c∈L.cs,c.g=none→f c.n=c.cur):bT L.t (L.row.map λn=>(n,f n))=bT L.t L.fs:=by
 refine GW (by rw [VX];show (L.row.map λn=>n).Nodup;rw [List.map_id'];exact ok.rn) ok.CS λx=>?_
 rw [VQ,VQ]
 constructor
 ·rintro ⟨y,hy,rfl⟩
  obtain ⟨n,hn,rfl⟩:=VQ.mp hy
  obtain ⟨c,hc,rfl,hg⟩:=ok.found hn
  exact ⟨(c.n,c.cur),VQ.mpr ⟨c,Ln.eE.mpr ⟨hc,hg⟩,rfl⟩,by rw [hf c hc hg]⟩
 ·rintro ⟨y,hy,rfl⟩
  obtain ⟨c,hc,rfl⟩:=VQ.mp hy
  obtain ⟨hc,hg⟩:=Ln.eE.mp hc
  refine ⟨(c.n,f c.n),VQ.mpr ⟨c.n,(ok.rm c.n).mpr ?_,rfl⟩,by rw [hf c hc hg]⟩
  rw [lE];exact VQ.mpr ⟨c,Ln.eE.mpr ⟨hc,hg⟩,rfl⟩
def Ln.x8 (L:Ln) (n:Str):bQ:=((L.cs.find? λc=>decide (c.n=n)).map Cf.cur).getD ⟨0,0,0⟩
theorem bW.x8 (ok:bW L) (hc:c∈L.cs):L.x8 c.n=c.cur:=by
 unfold Ln.x8
 cases h:L.cs.find? λd=>decide (d.n=c.n) with
 | none=>have:=List.find?_eq_none.mp h c hc;simp at this
 | some d =>
  have h1:=List.mem_of_find?_eq_some h
  have h2:d.n=c.n:=by simpa using List.find?_some h
  rw [ok.uniq h1 hc h2];rfl
def rg (cN cL:Addr):cI:=λxs J Q E=>∃p L,xs=[.ref p]∧bV cN cL J p L∧bW L∧∀J' o',bV cN cL J' p { L with o:=o',row:=bT L.t L.fs }→Mv J J' (L.own p) (Ln.own { L with o:=o',row:=bT L.t L.fs } p)→Q .non J'
theorem ue (F:bZ K "settle" "Lane.settle" gf f fd) (Z:bE mg) (az:cR K mg "Lane" cN) (aO:ay K cN "row") (aE:ay K cN "now") (df:bU P w K mg base cN 4 "leg_of" hV (uR cN cL eC)) (nZ:b7 P w K mg base 6 "in_order" lZ q_) :
  aK P w K mg base (cq P w) 7 f fd hZ (cP K (rg cN cL)):=by
 simp_arith [uH,(ar (dt az.cl aO (rv 0) (aU nZ B hr (af (Mb (aq gf) ["self"] [("self",0)] rfl rfl rfl (dS (aH az.cl aO (rv 0))) (λ_ _ _ _ _ _=>(rv 0)) (λ_ _ _ _ _ _=>(a_ (pl:=_) df FO hr (rv 1) (af (rv 0) ah)))) (af (aH az.cl aE (rv 0)) ah)))))]
 ·obtain ⟨p,L,rfl,_⟩:=h;rfl
 obtain ⟨p,L,rfl,b,ok,q⟩:=h
 have bo:=b.ob
 have br:=b.rw
 refine hX ?_
 simp_all! [OS,bo,zP,br]
 intro D hD ep
 have bf:∀e2 kvs,bV cN cL (put J D (.dct kvs e2)) p L:=λe2 kvs=>b.fresh hD
 have hrl:=ok.rl
 refine ⟨λi J2=>∃e2,J2=put J D (.dct (fL ((L.row.take i).map λn=>(n,L.x8 n))) e2),⟨ep,rfl⟩,?_,?_,?_⟩
 ·rintro i J2 ⟨e2,rfl⟩;exact (bf e2 _).rw
 ·rintro i x J2 hx ⟨e2,rfl⟩
  have hi:i < L.row.length:=by have:=(VO.mp hx).1;simpa using this
  rw [VS,VN hi] at hx
  cases hx
  have hn:L.row[i]∈L.row:=Wi hi
  refine dP (bf e2 _).ob ⟨kU,p,L,L.row[i],rfl,bf e2 _,ok,λc hc e hg=>?_,λz=>absurd hn z⟩
  refine ⟨_,e2,L.row[i],rfl,aj,ba (by simp only [fL,VM,Wa];omega),λep'=>⟨ep',?_⟩⟩
  rw [bI]
  congr 2
  have et:L.row.take (i + 1)=L.row.take i ++ [L.row[i]]:=by rw [V',VN hi];rfl
  rw [et,VP,VR,Wj,← e,ok.x8 hc]
  refine uv (f:=bQ.V) (l:=c.cur) λz=>?_
  rw [VX] at z
  obtain ⟨m,hm,e3⟩:=VQ.mp z
  have hnd:(L.row.take (i + 1)).Nodup:=ok.rn.sublist (WU _ _)
  rw [et] at hnd
  exact (e9 hnd).2 (by rw [← e,← e3];exact hm)
 ·rintro J2 ⟨e2,rfl⟩
  rw [VM,Wg]
  refine dP (bf e2 _).ob (gB (zN _ _ _) ⟨D,_,e2,L.t,rfl,aj,?_,by rw [VM];omega,ok.Fd,?_,λo' ho'=>?_⟩)
  ·rw [VX];show (L.row.map λn=>n).Nodup;rw [List.map_id'];exact ok.rn
  ·intro x hx
   obtain ⟨n,hn,rfl⟩:=VQ.mp hx
   obtain ⟨c,hc,rfl,hg⟩:=ok.found hn
   show oO 900 (L.x8 c.n)
   rw [ok.x8 hc]
   exact (ok.ck c hc _ (Cf.iK (ok.ne c hc)).2).Fp
  ·rw [GY ok λc hc _=>ok.x8 hc]
   have b2:bV cN cL (put (put J D (.dct (fL (L.row.map λn=>(n,L.x8 n))) e2)) o' (.lst ((bT L.t L.fs).map .str))) p L:=(bf e2 _).fresh ho'
   have jo:J o'=none:=by
    by_cases z:o'=D
    ·subst z;exact hD
    ·rw [ag z] at ho';exact ho'
   refine dP b2.ob ⟨by show (3:Nat) < 1000;decide,?_⟩
   rw [Di]
   refine q _ o' (b2.N' aj λc hc e=>?_) ?_
   ·have:=(b.lg c hc).l;rw [e,jo] at this;cases this
   ·refine ((Mv.new hD).trans (Mv.BA ho')).trans (lT (.inl (.inl rfl)) λa ow=>.inl ?_)
    rcases ow with h | h | h | h
    ·exact .inl (.inl h)
    ·exact .inl (.inr (.inl h))
    ·exact .inr h
    ·exact .inl (.inr (.inr (.inr h)))
def dT:Str:="abcdefghijklmnopqrstuvwxyz0123456789"
def good (y:Str):Bool:=decide (1≤y.cps.size) && decide (y.cps.size≤8) && y.cps.toList.all (fG dT)
def za (T:Addr):cI:=λxs J Q _=>∃y:Str,xs=[.str y]∧y.length≤sizeLine∧J T=some .tab∧Q (.bl (good y)) J
abbrev iW:Stmt:=(top 37)
abbrev kb:List Str:=["text"]
theorem y3:av ["text"] ["text"] (aq iW):=dO
variable {T:Addr}
theorem vY {c:Addr} (F:IZ K mg "good_name" iW T f fd c) (Z:bE mg) (Bm:BMain mg base) {m_ sV:Tok} (jC:mg "LONGEST"=some (.int 8 m_)) (o4:mg "SIGNS"=some (.str "abcdefghijklmnopqrstuvwxyz0123456789" sV)) :
  aK P w K mg base (cq P w) 1 f fd kb (cP K (za T)):=by
 refine TB F y3 (λxs J Q E h=>?_) (λA outer s H E G xs J Q E2 hr h B=>?_)
 ·obtain ⟨y,rfl,_⟩:=h;rfl
 obtain ⟨y,rfl,hz,hT,q⟩:=h
 refine ⟨_,(ak (aY (fj (nT (aG lU (bG CD rfl Z.len boot_len (af (rv 0) ah)) ai) (jh (aG rM (bG CD rfl Z.len boot_len (af (rv 0) ah)) (fB (v:=.int 8) (.int 8) rfl jC ⟨_,rfl⟩ (λ_ _=>rfl)))))) (ar (aB ig)) aR)
   (ar (aB (Hz rfl Bm rfl F.tab hr rfl Z.all o4 (rv 0))))),?_⟩
 have el:y.cps.size=y.length:=rfl
 unfold good at q
 rw [el] at q
 simp_all! [LV]
 refine ⟨hz,?_⟩
 by_cases h1:1≤y.length
 rotate_left
 ·rw [if_pos (by omega)]
  rw [decide_eq_false h1,X3,X3] at q
  exact q
 rw [if_neg (by omega)]
 refine ⟨hz,?_⟩
 by_cases h2:y.length≤8
 rotate_left
 ·rw [if_pos (by omega)]
  rw [decide_eq_false h2,XE,X3] at q
  exact q
 rw [if_neg (by omega)]
 refine hNq _ _ ?_
 rw [decide_eq_true h1,decide_eq_true h2,ZL,ZL] at q
 simp_arith! [cy,Ht,hT]
 exact q
theorem CU (L:Ln) {L':Ln} (h:L'.cs=L.cs ++ [c]) (hg:c.g=none):L'.fs=L.fs ++ [(c.n,c.cur)]:=by
 unfold Ln.fs Ln.E3
 rw [h,Ys,VP]
 simp [hg]
def Ln.joined (L:Ln) (n:Str) (x v:Int) (L':Ln):Prop:=∃a r,L'.cs=L.cs ++ [⟨n,a,r,[⟨L.t,(x:Rat),v⟩],none⟩]∧L'.t=L.t
def El (x v:Int):Prop:=x.natAbs≤1000000∧v.natAbs≤1000
def DR (cN cL T eB eF eT eU:Addr):cI:=λxs J Q E=>∃p L n x v,xs=[.ref p,.str n,.int x,.int v]∧bV cN cL J p L∧eg L∧J T=some .tab∧n.length≤sizeLine∧L.cs.length < 100∧(good n=false→E eB J)∧(good n=true→¬ El x v→E eF J) ∧
 (good n=true→El x v→n∈L.cs.map Cf.n→E eT J)∧(good n=true→El x v→n ∉ L.cs.map Cf.n→12≤L.row.length→E eU J) ∧
 (good n=true→El x v→n ∉ L.cs.map Cf.n→L.row.length < 12→∀J' L',bV cN cL J' p L'→eg L'→L.joined n x v L'→Mv J J' (L.own p) (L'.own p)→Q .non J')
abbrev mi:Stmt:=(inClass (top 46) 1)
abbrev pG:List Str:=["self","name","place","pace"]
theorem yY:av ["self","name","place","pace"] ["self","name","place","pace"] (aq mi):=dO
theorem bV.add {ep:Nat} (h:bV cN cL J p L) (hc:Cu cL J c.a c.r c.w c.g) (h1:c.r ∉ L.cs.map Cf.r) (h2:c.r≠L.o) :
  bV cN cL (put (put J L.d (.dct ((L.cs ++ [c]).map λc=>(c.n,PV.ref c.a)) ep)) L.o (.lst ((L.row ++ [c.n]).map .str))) p ⟨L.t,L.d,ep,L.o,L.cs ++ [c],L.row ++ [c.n]⟩:=by
 have n1:c.a≠L.d:=by intro e;have:=h.dc;rw [← e,hc.o] at this;cases this
 have n2:c.a≠L.o:=by intro e;have:=h.rw;rw [← e,hc.o] at this;cases this
 have n3:c.r≠L.d:=by intro e;have:=h.dc;rw [← e,hc.l] at this;cases this
 refine ⟨?_,?_,aj,λx hx=>?_,?_,λx hx=>?_⟩
 ·rw [ag (Ne.symm h.LJ),ag (Ne.symm h.C8)];exact h.ob
 ·show put (put J L.d _) L.o _ L.d=_
  rw [ag h.Vc];exact aj
 ·rcases VY.mp hx with hx | hx
  ·exact ⟨by rw [ag (h.Vx hx),ag (h.Vw hx)];exact (h.lg x hx).o,by rw [ag (h.ao x hx),ag (h.Vy hx)];exact (h.lg x hx).l⟩
  ·rw [VV] at hx;subst hx
   exact ⟨by rw [ag n2,ag n1];exact hc.o,by rw [ag h2,ag n3];exact hc.l⟩
 ·show ((L.cs ++ [c]).map Cf.r).Nodup
  rw [VP,VR,Wj,WC]
  exact ⟨h.ap,by simp,λx hx y hy e=>by rw [VV] at hy;subst hy;subst e;exact h1 hx⟩
 ·show x.r≠L.o
  rcases VY.mp hx with hx | hx
  ·exact h.ao x hx
  ·rw [VV] at hx;subst hx;exact h2
theorem bW.add (h:bW L) {ep:Nat} (hw:c.w=[l]) (hg:c.g=none) (hl:zk l) (hm:l.m=L.t) (hn:c.n ∉ L.cs.map Cf.n) (hr:L.row.length < 12) (hs:L.cs.length < 100):bW ⟨L.t,L.d,ep,L.o,L.cs ++ [c],L.row ++ [c.n]⟩:=by
 have hf:Ln.fs ⟨L.t,L.d,ep,L.o,L.cs ++ [c],L.row ++ [c.n]⟩=L.fs ++ [(c.n,c.cur)]:=CU L rfl hg
 have all:∀{P:Cf→Prop},(∀x∈L.cs,P x)→P c→∀x∈L.cs ++ [c],P x:=λh1 h2 x hx=>by
  rcases VY.mp hx with hx | hx
  ·exact h1 x hx
  ·rw [VV] at hx;subst hx;exact h2
 refine ⟨?_,all h.ne (by rw [hw];simp),all h.le (by rw [hw];simp [hm]),all h.ck (by rw [hw];simpa using hl),all h.len (by rw [hw];show (1:Nat)≤200;decide),all h.gz (by rw [hg];intro q e;cases e),h.t0,h.ts,by show (L.cs ++ [c]).length≤100;rw [VZ];simp;omega,λn=>?_,?_,by show (L.row ++ [c.n]).length≤12;rw [VZ];simp;omega⟩
 ·show ((L.cs ++ [c]).map Cf.n).Nodup
  rw [VP,VR,Wj,WC]
  exact ⟨h.nd,by simp,λx hx y hy e=>by rw [VV] at hy;subst hy;subst e;exact hn hx⟩
 ·rw [hf,VP,VY,VY,h.rm n];simp
 ·show (L.row ++ [c.n]).Nodup
  rw [WC]
  refine ⟨h.rn,by simp,λx hx y hy e=>?_⟩
  rw [VV] at hy
  rw [e,hy] at hx
  have:=(h.rm _).mp hx
  rw [lE,VQ] at this
  obtain ⟨d,hd,e⟩:=this
  exact hn (VQ.mpr ⟨d,(Ln.eE.mp hd).1,e⟩)
theorem eg.settled (h:bW L) (o':Addr):eg { L with o:=o',row:=bT L.t L.fs }:=by
 have hl:(bT L.t L.fs).length≤12:=by
  have h1:(bT L.t L.fs).Perm L.row:=(List.perm_ext_iff_of_nodup (ug h.CS) h.rn).mpr λn=>by rw [z8];exact (h.rm n).symm
  rw [h1.length_eq];exact h.rl
 exact ⟨⟨h.nd,h.ne,h.le,h.ck,h.len,h.gz,h.t0,h.ts,h.many,λn=>z8,ug h.CS,hl⟩,rfl⟩
variable {eB eU:Addr}
theorem yg {eF eT:Addr} (F:bZ K "join" "Lane.join" mi f fd) (Z:bE mg) (az:cR K mg "Lane" cN) (aO:ay K cN "row") (aE:ay K cN "now") (aW:ay K cN "logs") {kG m9 zh:Tok} (gU:mg "FARTHEST"=some (.int 1000000 kG)) (jB:mg "FASTEST"=some (.int 1000 m9)) (tP:mg "MOST"=some (.int 12 zh))
  (gQ:Own K mg "BadName" eB) (tE:Own K mg "TooFar" eF) (mH:Own K mg "Taken" eT) (qk:Own K mg "Full" eU) (k8:b7 P w K mg base 1 "good_name" kb (za T)) (wy:vB P w K mg base cL 1 "Log" gC (zc cL)) (dJ:bU P w K mg base cN 7 "settle" hZ (rg cN cL)) :
  aK P w K mg base (cq P w) 8 f fd pG (cP K (DR cN cL T eB eF eT eU)):=by
 simp_arith [yY,(ak (aY (fC (cm (aU k8 B hr (af (rv 1) ah)))) (ar (cE gQ rfl bH B.kn rfl (af aS ah))) aR)
   (ak (aY (fj (nT (aG rM (bG tK rfl Z.abs boot_abs (af (rv 2) ah)) (fB (v:=.int 1000000) (.int 1000000) rfl gU ⟨_,rfl⟩ (λ_ _=>rfl))) (jh (aG rM (bG tK rfl Z.abs boot_abs (af (rv 3) ah)) (fB (v:=.int 1000) (.int 1000) rfl jB ⟨_,rfl⟩ (λ_ _=>rfl)))))) (ar (cE tE rfl bH B.kn rfl (af aS ah))) aR)
   (ak (aY (aG GP (rv 1) (aH az.cl aW (rv 0))) (ar (cE mH rfl bH B.kn rfl (af aS ah))) aR)
   (ak (aY (aG z6 (bG ft rfl Z.len boot_len (af (aH az.cl aO (rv 0)) ah)) (fB (v:=.int 12) (.int 12) rfl tP ⟨_,rfl⟩ (λ_ _=>rfl))) (ar (cE qk rfl bH B.kn rfl (af aS ah))) aR)
   (ak (oz m8 (aH az.cl aW (rv 0)) (rv 1) (yP wy B hr (af (aH az.cl aE (rv 0)) (af (bP (af (rv 2) (af ai ah))) (af (rv 3) ah)))))
   (ak (aV (eV V3 Wb Wc cK (aH az.cl aO (rv 0)) (af (rv 1) ah)))
   (ar (aV (b8 (pl:=_) dJ B hr (rv 0))))))))))]
 ·obtain ⟨p,L,n,x,v,rfl,_⟩:=h;rfl
 obtain ⟨p,L,n,x,v,rfl,b,ok,hT,hnl,hcs,qb,qf,qt,qu,q⟩:=h
 have bo:=b.ob
 have bd:=b.dc
 have br:=b.rw
 refine hX ?_
 simp_all! []
 refine ⟨n,rfl,hnl,hT,?_⟩
 cases hg:good n with
 | false =>
  simp_all! [d8]
  exact qb hg
 | true =>
 simp_all! []
 by_cases hB:El x v
 ·obtain ⟨hx,hv⟩:=id hB
  rw [if_neg (by split <;> omega),if_neg (by split <;> omega)]
  simp_all! [bo,zO,bd,ok.VH]
  by_cases hm:n∈L.cs.map Cf.n
  ·rw [if_pos hm]
   simp_all! [d8]
   exact qt hg hB hm
  rw [if_neg hm]
  simp_all! [bo,zP,br,VM]
  by_cases hr12:12≤L.row.length
  ·rw [if_pos (by omega)]
   simp_all! [d8]
   exact qu hg hB hm hr12
  rw [if_neg (by omega)]
  simp_all! [bo,zN]
  intro a ha
  refine ⟨a,⟨L.t,(x:Rat),v⟩,rfl,aj,λr hr'=>?_⟩
  have nra:r≠a:=by intro e;subst e;rw [aj] at hr';cases hr'
  have jr:J r=none:=by rw [ag nra] at hr';exact hr'
  have b1:bV cN cL (put (put (put J a (.ins cL [])) r (.lst [(bQ.mk L.t (x:Rat) v).V])) a (.ins cL [("rows",.ref r),("gone",.non)])) p L:=b.keep λc u ow e=>by
   have n1:c≠a:=λz=>by subst z;rw [ha] at e;cases e
   have n2:c≠r:=λz=>by subst z;rw [jr] at e;cases e
   rw [ag n1,ag n2,ag n1];exact e
  have l1:Cu cL (put (put (put J a (.ins cL [])) r (.lst [(bQ.mk L.t (x:Rat) v).V])) a (.ins cL [("rows",.ref r),("gone",.non)])) a r [⟨L.t,(x:Rat),v⟩] none:=⟨aj,by rw [ag nra];exact aj⟩
  have mv1:Mv J (put (put (put J a (.ins cL [])) r (.lst [(bQ.mk L.t (x:Rat) v).V])) a (.ins cL [("rows",.ref r),("gone",.non)])) (L.own p) (λc=>(L.own p c∨c=a)∨c=r) :=
   ((Mv.BA ha).trans (Mv.BA hr')).trans (lT (.inl (.inr rfl)) λc h=>.inl h)
  generalize (put (put (put J a (.ins cL [])) r (.lst [(bQ.mk L.t (x:Rat) v).V])) a (.ins cL [("rows",.ref r),("gone",.non)]))=J1 at b1 l1 mv1 ⊢
  have bo1:=b1.ob
  have bd1:=b1.dc
  simp_all! [bo1,zO,bd1]
  refine ⟨ba (by rw [VM];omega),λep'=>?_⟩
  have epu:mT (L.cs.map λc=>(c.n,PV.ref c.a)) n (PV.ref a)=(L.cs ++ [Cf.mk n a r [⟨L.t,(x:Rat),v⟩] none]).map λc=>(c.n,PV.ref c.a):=by
   have e:(L.cs.map λc=>(c.n,PV.ref c.a))=((L.cs.map λc=>(c.n,c.a)).map λx=>(x.1,PV.ref x.2)):=by rw [VX];rfl
   rw [e,uv (f:=PV.ref) (l:=a) (by rw [VX];exact hm),VP,VP,VX];rfl
  rw [epu]
  have hrs:r ∉ L.cs.map Cf.r:=λh=>by
   obtain ⟨c,hc,e⟩:=VQ.mp h
   have:=(b.lg c hc).l;rw [e,jr] at this;cases this
  have hro:r≠L.o:=λe=>by have:=b.rw;rw [← e,jr] at this;cases this
  have b2:=b1.add (c:=Cf.mk n a r [⟨L.t,(x:Rat),v⟩] none) (ep:=ep') l1 hrs hro
  have ok2:bW ⟨L.t,L.d,ep',L.o,L.cs ++ [Cf.mk n a r [⟨L.t,(x:Rat),v⟩] none],L.row ++ [n]⟩:=ok.tobW.add (c:=Cf.mk n a r [⟨L.t,(x:Rat),v⟩] none) rfl rfl (zk.new ok.t0 ok.ts hx hv) rfl hm (by omega) hcs
  have bo2:(put J1 L.d (HQ.dct ((L.cs ++ [Cf.mk n a r [⟨L.t,(x:Rat),v⟩] none]).map λc=>(c.n,PV.ref c.a)) ep')) p=some (.ins cN [("now",fr L.t),("logs",.ref L.d),("row",.ref L.o)]):=by rw [ag (Ne.symm b1.C8)];exact b1.ob
  have br2:(put J1 L.d (HQ.dct ((L.cs ++ [Cf.mk n a r [⟨L.t,(x:Rat),v⟩] none]).map λc=>(c.n,PV.ref c.a)) ep')) L.o=some (.lst (L.row.map .str)):=by rw [ag (Ne.symm b1.Vc)];exact b1.rw
  have mv2:Mv J1 (put (put J1 L.d (HQ.dct ((L.cs ++ [Cf.mk n a r [⟨L.t,(x:Rat),v⟩] none]).map λc=>(c.n,PV.ref c.a)) ep')) L.o (.lst ((L.row ++ [n]).map .str))) (λc=>(L.own p c∨c=a)∨c=r) (Ln.own ⟨L.t,L.d,ep',L.o,L.cs ++ [Cf.mk n a r [⟨L.t,(x:Rat),v⟩] none],L.row ++ [n]⟩ p):=by
   refine (lT (S':=λc=>(L.own p c∨c=a)∨c=r) (.inl (.inl (.inr (.inl rfl)))) λc h=>.inl h).trans (lT (.inl (.inl (.inr (.inr (.inl rfl))))) λc h=>.inl ?_)
   rcases h with h | h | h | ⟨d,hd,h⟩
   ·exact .inl (.inl (.inl h))
   ·exact .inl (.inl (.inr (.inl h)))
   ·exact .inl (.inl (.inr (.inr (.inl h))))
   ·rcases VY.mp hd with hd | hd
    ·exact .inl (.inl (.inr (.inr (.inr ⟨d,hd,h⟩))))
    ·rw [VV] at hd;subst hd
     rcases h with h | h
     ·exact .inl (.inr h)
     ·exact .inr h
  have mv3:=mv1.trans mv2
  simp_all! [bo2,zP,br2]
  refine ⟨ba (by rw [VM];omega),?_⟩
  rw [show L.row.map PV.str ++ [PV.str n]=(L.row ++ [n]).map .str by rw [VP];rfl]
  have bo3:=b2.ob
  generalize (put (put J1 L.d (HQ.dct ((L.cs ++ [Cf.mk n a r [⟨L.t,(x:Rat),v⟩] none]).map λc=>(c.n,PV.ref c.a)) ep')) L.o (.lst ((L.row ++ [n]).map .str)))=J2 at b2 mv3 bo3 ⊢
  simp_all! [bo3]
  refine ⟨kU,p,_,rfl,b2,ok2,λJ' o' b' mv'=>?_⟩
  exact q hg hB hm (by omega) J' _ b' (eg.settled ok2 o') ⟨a,r,rfl,rfl⟩ (mv3.trans mv')
 ·have hf:=qf hg hB
  by_cases h1:x.natAbs≤1000000
  ·have h2:¬ v.natAbs≤1000:=λh=>hB ⟨h1,h⟩
   rw [if_neg (by split <;> omega),if_pos (by split <;> omega)]
   simp_all! [d8]
   exact hf
  ·rw [if_pos (by split <;> omega)]
   simp_all! [d8]
   exact hf
abbrev ku:Stmt:=(inClass (top 46) 7)
abbrev eS:List Str:=["self"]
theorem wb:av ["self"] ["self"] (aq ku):=dO
def mx (cN cL:Addr):cI:=λxs J Q _=>∃p L,xs=[.ref p]∧bV cN cL J p L∧Q (fr L.t) J
theorem vS (F:bZ K "clock" "Lane.clock" ku f fd) (Z:bE mg) (az:cR K mg "Lane" cN) (aE:ay K cN "now"):aK P w K mg base (cq P w) 1 f fd eS (cP K (mx cN cL)):=by
 simp_arith [wb,(ar (aB (aH az.cl aE (rv 0))))]
 ·obtain ⟨p,L,rfl,_⟩:=h;rfl
 obtain ⟨p,L,rfl,b,q⟩:=h
 have bo:=b.ob
 refine hX ?_
 simp_all! [bo,zN]
 exact q
abbrev kD:Stmt:=(inClass (top 46) 8)
abbrev f7:List Str:=["self"]
theorem wg:av ["self"] ["self"] (aq kD):=dO
def pW (cN cL:Addr):cI:=λxs J Q _=>∃p L,xs=[.ref p]∧bV cN cL J p L∧(Q (.fl (L.row.map .str)) J∨∀l,J l=none→Q (.ref l) (put J l (.lst (L.row.map .str))))
theorem vW (F:bZ K "order" "Lane.order" kD f fd) (Z:bE mg) (az:cR K mg "Lane" cN) (aO:ay K cN "row"):aK P w K mg base (cq P w) 1 f fd f7 (cP K (pW cN cL)):=by
 simp_arith [wg,(ar (aB (dq jA rfl Z.list boot_list (af (aH az.cl aO (rv 0)) ah)))),F]
 ·obtain ⟨p,L,rfl,_⟩:=h;rfl
 obtain ⟨p,L,rfl,b,q⟩:=h
 have bo:=b.ob
 have br:=b.rw
 refine hX ?_
 simp_all! [bo,br,zP]
 intro l hl
 rcases q with q | q
 ·exact Fg.rH (fv hl) aj hl q
 ·exact Fg.same (q l hl)
def ax.v (b:ax):PV:=.tup [fr b.m,.str b.h,.str b.f]
theorem Gg (J:Hq) (b:ax):iD J b.v (.int 0)=some (fr b.m):=eQ _ _
theorem Lp (J:Hq) (b:ax):iD J b.v (.int 1)=some (.str b.h):=iJ _ _ _
theorem Lq (J:Hq) (b:ax):iD J b.v (.int 2)=some (.str b.f):=rF _ _ _ _
theorem QP (b:ax):jw b.v=true:=by simp [ax.v,mV,eG,ie,qL,mU]
theorem Mj (a:Rat) (h f:Str):PV.tup [fr a,.str h,.str f]=(ax.mk a h f).v:=rfl
theorem FJ (J:Hq) (b:ax):∃xs,b.v=.tup xs∧¬ (HT.fk xs.length 0 (some 1)=0∧HT.fk xs.length xs.length none=xs.length)∧ly xs (some 1) none=[b.h,b.f].map .str:=⟨_,rfl,λh=>absurd h.1 (show HT.fk 3 0 (some 1)≠0 by decide),rfl⟩
abbrev jt:Stmt:=(top 25)
abbrev l8:List Str:=["one","other"]
theorem uI:av ["one","other"] ["one","other"] (aq jt):=dO
def y9:cI:=λxs J Q _=>∃a b:ax,xs=[a.v,b.v]∧Sz 9000 a.m∧Sz 9000 b.m∧Q (.bl (a.lt b)) J
theorem Te (a b c d:Str):om [a,b] [c,d]=if a=c then decide (slt b d) else decide (slt a c):=by
 rw [qz]
 by_cases h:a=c
 ·rw [if_pos h,if_pos h,qz]
  by_cases k:b=d
  ·rw [if_pos k,o8];subst k;exact (decide_eq_false (by unfold slt;exact List.lt_irrefl _)).symm
  ·rw [if_neg k];rfl
 ·rw [if_neg h,if_neg h];rfl
theorem sy (F:bZ K "rings_ahead" "rings_ahead" jt f fd) (Z:bE mg) (dM:b7 P w K mg base 1 "less" gL dj):aK P w K mg base (cq P w) 2 f fd l8 (cP K y9):=by
 simp_arith [uI,(ak (aY (aG (g8 hr.aM) (au aw (rv 0) ai) (au aw (rv 1) ai)) (ar (aB (aU dM B hr (af (au aw (rv 0) ai) (af (au aw (rv 1) ai) ah))))) aR)
   (ar (aB (fA (JW hr.OF) (ij Ck (rv 0) (f_ ai) m3) (ij Ck (rv 1) (f_ ai) m3)))))]
 ·obtain ⟨a,b,rfl,_⟩:=h;rfl
 obtain ⟨a,b,rfl,sa,sb,q⟩:=h
 refine hX ?_
 simp_arith! [cy,Gg,Lp,Lq,dj,LW]
 unfold ax.lt at q
 by_cases e:a.m=b.m
 ·rw [if_pos e] at q ⊢
  obtain ⟨xs,h1,h2,h3⟩:=FJ J a
  obtain ⟨ys,h4,h5,h6⟩:=FJ J b
  refine BJ h1 ⟨h2,?_⟩
  refine BJ h4 ⟨h5,?_⟩
  exact ⟨[a.h,a.f],[b.h,b.f],congrArg PV.tup h3,congrArg PV.tup h6,by rw [Te];exact q⟩
 ·rw [if_neg e] at q ⊢
  exact ⟨sa,sb,q⟩
theorem P8 (v:PV):([("rows",v)]:List (Str × PV)).lookup ("rows":Str)=some v:=rfl
theorem Nd (v:PV) (h:(m == ("rows":Str))=false):([("rows",v)]:List (Str × PV)).lookup m=none:=by rw [Wo,h];rfl
theorem Tf (v:PV):([("rows",v)]:List (Str × PV)).lookup ("drop":Str)=none:=Nd v (by decide +kernel)
theorem Th (v:PV):([("rows",v)]:List (Str × PV)).lookup ("put":Str)=none:=Nd v (by decide +kernel)
theorem Ti (v:PV):([("rows",v)]:List (Str × PV)).lookup ("told":Str)=none:=Nd v (by decide +kernel)
theorem Ks {r:Addr} {a b c:HQ} (h:r≠p):put (put (put J r a) p b) r c=put (put J r c) p b:=by
 rw [Af (Ne.symm h),bI]
structure Ml (cB:Addr) (J:Hq) (p r:Addr) (rows:List ax):Prop where
 o:J p=some (.ins cB [("rows",.ref r)])
 l:J r=some (.lst (rows.map ax.v))
abbrev fR:Stmt:=(inClass (top 26) 0)
abbrev iS:List Str:=["self"]
theorem pQ:av ["self"] ["self"] (aq fR):=dO
def DB (cB:Addr):cI:=λxs J Q _=>∃p,xs=[.ref p]∧J p=some (.ins cB [])∧∀r,J r=none→Q .non (put (put J r (.lst [])) p (.ins cB [("rows",.ref r)]))
theorem vK {cB:Addr} (F:bZ K "__init__" "Bells.__init__" fR f fd) (bR:cR K mg "Bells" cB) (bc:ay K cB "rows"):aK P w K mg base (cq P w) 1 f fd iS (cP K (DB cB)):=by
 simp_arith [pQ,(ar (dt bR.cl bc (rv 0) (fb ah)))]
 ·obtain ⟨p,rfl,_⟩:=h;rfl
 obtain ⟨p,rfl,hp,q⟩:=h
 refine hX ?_
 simp_arith! [cy]
 intro r hr'
 have ne:p≠r:=by intro e;subst e;rw [hp] at hr';cases hr'
 exact dP (x:=[]) (by rw [ag ne];exact hp) ⟨by decide,q r hr'⟩
abbrev gO:Stmt:=(inClass (top 26) 2)
abbrev nE:List Str:=["self","hind","fore"]
theorem ju:av ["self","hind","fore","kept","found"] ["self","hind","fore"] (aq gO):=dO
def DA (cB:Addr):cI:=λxs J Q _=>∃p r rows h f,xs=[.ref p,.str h,.str f]∧Ml cB J p r rows∧rows.length≤900∧∀r',J r'=none→Q (.bl (decide ((dQ h f rows).length < rows.length))) (put (put J r' (.lst ((dQ h f rows).map ax.v))) p (.ins cB [("rows",.ref r')]))
def tail3:PV→PV
 | .tup xs=>.tup (ly xs (some 1) none)
 | _=>.non
def C5 (h f:Str) (x:PV):Bool:=!eqQ (tail3 x) (.tup [.str h,.str f])
theorem M4 (h f:Str) (b:ax):C5 h f b.v=!xh h f b:=by
 show (!eqQ (.tup [.str b.h,.str b.f]) (.tup [.str h,.str f]))=_
 rw [FR,oX,oX,CN,eq_str,eq_str,Xy,← Z9]
 rfl
theorem FT (h f:Str):∀rows:List ax,((rows.map ax.v).filter (C5 h f)).map (λx=>x)=(dQ h f rows).map ax.v
 | []=>rfl
 | b :: rows=>by
  have ih:=FT h f rows
  unfold dQ at ih ⊢
  rw [VR,Wu,Wu,M4]
  cases xh h f b <;> simp at ih ⊢ <;> exact ih
theorem vJ {cB:Addr} (F:bZ K "drop" "Bells.drop" gO f fd) (Z:bE mg) (bR:cR K mg "Bells" cB) (bc:ay K cB "rows"):aK P w K mg base (cq P w) 1 f fd nE (cP K (DA cB)):=by
 simp_arith [ju,(ak (KN (i:=3) (aq gO) ["self","hind","fore","kept","found"] [("hind",1),("fore",2)] rfl rfl rfl ju.nd rfl (Or.inl rfl) (dS (aH bR.cl bc (rv 0))) (λ_ _ _ _ _ _=>(rv 0)) (λ_ _ _ _ _ _=>(aG (g8 hr.aM) (ij Ck (rv 0) (f_ ai) m3) (bP (af (rv 1) (af (rv 2) ah))))))
   (ak (aD (i:=4) ju.nd (fA lU (bG ft rfl Z.len boot_len (af (rv 3) ah)) (bG ft rfl Z.len boot_len (af (aH bR.cl bc (rv 0)) ah))))
   (ak (dt bR.cl bc (rv 0) (rv 3))
   (ar (aB (rv 4))))))]
 ·obtain ⟨p,r,rows,h,f,rfl,_⟩:=h;rfl
 obtain ⟨p,r,rows,h,f,rfl,b,hl,q⟩:=h
 have bo:=b.o
 have bl:=b.l
 refine hX ?_
 simp_arith! [cy,B7,bo,bl,P8]
 refine ⟨C5 h f,λx=>x,⟨by rw [VM];exact ba (by omega),λJ' sub=>⟨sub _ _ bl,λx hx=>?_⟩⟩,λr' hr'=>?_⟩
 ·obtain ⟨b,_,rfl⟩:=VQ.mp hx
  obtain ⟨xs,h1,h2,h3⟩:=FJ J' b
  have hk:C5 h f b.v=!eqQ (.tup (ly xs (some 1) none)) (.tup [.str h,.str f]):=by rw [h1];rfl
  simp_arith! [cy]
  refine ⟨BJ h1 ⟨h2,?_⟩,λ_=>trivial⟩
  simp_arith! [cy]
  rw [hk,h3]
  refine ⟨⟨by simp [jw,iG],by simp [dw,dR,dep,dN]⟩,by simp [jw,iG],rfl⟩
 ·have ne:p≠r':=by intro e;subst e;rw [bo] at hr';cases hr'
  have nr:r≠r':=by intro e;subst e;rw [bl] at hr';cases hr'
  simp_arith! [cy,ag ne,ag nr,bo,bl,P8,FT,VM,X5]
  exact ⟨by decide,q r' hr'⟩
abbrev ma:Stmt:=(inClass (top 26) 1)
abbrev pB:List Str:=["self","moment","hind","fore"]
theorem eI:av ["self","moment","hind","fore","bell","low","high","middle"] ["self","moment","hind","fore"] (aq ma):=dO
def HU (cB:Addr):cI:=λxs J Q _=>∃p r rows m h f,xs=[.ref p,fr m,.str h,.str f]∧Ml cB J p r rows∧iF rows∧rows.length≤800∧Sz 9000 m∧(∀x∈rows,Sz 9000 x.m) ∧
 ∀r',J r'=none→Q .non (put (put J r' (.lst ((lH ⟨m,h,f⟩ (dQ h f rows)).map ax.v))) p (.ins cB [("rows",.ref r')]))
theorem Lk (a b:Nat):((a:Int) + (b:Int)).fdiv 2=(((a + b) / 2:Nat):Int):=by rw [Wr _ (by decide)];omega
theorem UY (a:Int):CQ a 2=True:=eq_true ⟨by decide,Bd.mono (Bd.small (by decide) (by decide)) (by decide)⟩
theorem ME {rows:List ax} {b:ax} (h:rows[i]?=some b):c_ (rows.map ax.v) (i:Int)=some b.v:=bM (by rw [VS,h];rfl)
theorem ya {cB:Addr} (F:bZ K "put" "Bells.put" ma f fd) (Z:bE mg) (bR:cR K mg "Bells" cB) (bc:ay K cB "rows") (jZ:bU P w K mg base cB 1 "drop" nE (DA cB))
  (u_:b7 P w K mg base 2 "rings_ahead" l8 y9):aK P w K mg base (cq P w) 3 f fd pB (cP K (HU cB)):=by
 simp_arith [eI,(ak (aV (a_ (pl:=_) jZ B hr (rv 0) (af (rv 2) (af (rv 3) ah))))
   (ak (aD (i:=4) eI.nd (bP (af (rv 1) (af (rv 2) (af (rv 3) ah)))))
   (ak (yQ (i:=5) (j:=6) rfl eI.nd rfl rfl (by decide) rfl rfl (af ai (af (bG ft rfl Z.len boot_len (af (aH bR.cl bc (rv 0)) ah)) ah)) rfl)
   (ak (ik bA (aG lU (rv 5) (rv 6)) (ak (aD (i:=7) eI.nd (aJ iQ (aJ cU (rv 5) (rv 6)) ai))
   (ar (aY (cm (aU u_ B hr (af (au aw (aH bR.cl bc (rv 0)) (rv 7)) (af (rv 4) ah)))) (ar (aD (i:=5) eI.nd (aJ cU (rv 7) ai))) (ar (aD (i:=6) eI.nd (rv 7)))))))
   (ar (aV (eV V3 W6 Xg mS (aH bR.cl bc (rv 0)) (af (rv 5) (af (rv 4) ah)))))))))]
 ·obtain ⟨p,r,rows,m,h,f,rfl,_⟩:=h;rfl
 obtain ⟨p,r,rows,m,h,f,rfl,b,srt,hl,sm,sr,q⟩:=h
 have bo:=b.o
 refine hX ?_
 simp_arith! [cy,bo,Tf]
 refine ⟨p,r,rows,h,f,rfl,b,by omega,λr' hr'=>?_⟩
 have t8:r'≠p:=by intro e;subst e;rw [bo] at hr';cases hr'
 have b1:Ml cB (put (put J r' (.lst ((dQ h f rows).map ax.v))) p (.ins cB [("rows",.ref r')])) p r' (dQ h f rows):=⟨aj,by rw [ag t8];exact aj⟩
 have kl:(dQ h f rows).length≤800:=V6 (qv _ _ _) hl
 have ks:iF (dQ h f rows):=wH srt
 have kz:∀x∈dQ h f rows,Sz 9000 x.m:=λx hx=>sr x (V8.mp hx).1
 have q:=q r' hr'
 generalize hJ:put (put J r' (.lst ((dQ h f rows).map ax.v))) p (.ins cB [("rows",.ref r')])=J1 at b1 ⊢
 have hq:put J1 r' (.lst ((lH ⟨m,h,f⟩ (dQ h f rows)).map ax.v))=put (put J r' (.lst ((lH ⟨m,h,f⟩ (dQ h f rows)).map ax.v))) p (.ins cB [("rows",.ref r')]):=by rw [← hJ,Ks t8]
 rw [← hq] at q
 clear hq hJ hr'
 have bo:=b1.o
 have bl:=b1.l
 generalize dQ h f rows=ks' at *
 simp_arith! [cy,bo,bl,P8,Mj,VM]
 refine ⟨λk τ J'=>∃(lo hi:Nat) (u:Option PV),τ=[some (.ref p),some (fr m),some (.str h),some (.str f),some (ax.mk m h f).v,some (.int lo),some (.int hi),u]∧J'=J1∧k=hi - lo∧lo≤hi∧hi≤ks'.length ∧
  (∀(j:Nat) x,j < lo→ks'[j]?=some x→x.lt ⟨m,h,f⟩=true)∧(∀(j:Nat) x,hi≤j→ks'[j]?=some x→x.lt ⟨m,h,f⟩=false),⟨_,0,ks'.length,none,rfl,rfl,rfl,Ww _,VT _,λj x hj=>absurd hj (Ye _),λj x hj e=>by rw [WG hj] at e;cases e⟩,?_⟩
 rintro k τ J' ⟨lo,hi,u,rfl,rfl,rfl,h1,h2,hlo,hhi⟩
 simp_arith! [cy,bo,bl,P8,UY,Lk,X5,y9]
 by_cases hlt:lo < hi
 ·rw [if_pos hlt]
  have hm:(lo + hi) / 2 < ks'.length:=by omega
  obtain ⟨x,hx⟩:∃x,ks'[(lo + hi) / 2]?=some x:=⟨_,VN hm⟩
  obtain ⟨N,hN⟩:∃N:Sr→Hq→Prop,∀τ' J'',N τ' J''↔∃(lo' hi':Nat) (u:Option PV),τ'=[some (.ref p),some (fr m),some (.str h),some (.str f),some (ax.mk m h f).v,some (.int lo'),some (.int hi'),u]∧J''=J'∧lo'≤hi'∧hi'≤ks'.length∧hi' - lo' < hi - lo ∧
   (∀(j:Nat) x,j < lo'→ks'[j]?=some x→x.lt ⟨m,h,f⟩=true)∧(∀(j:Nat) x,hi'≤j→ks'[j]?=some x→x.lt ⟨m,h,f⟩=false):=⟨_,λ_ _=>Iff.rfl⟩
  refine ⟨N,λτ' J'' hn=>by obtain ⟨lo',hi',u,e1,e2,e3,e4,e5,e6,e7⟩:=(hN _ _).mp hn;exact ⟨_,e5,lo',hi',u,e1,e2,rfl,e3,e4,e6,e7⟩,gB (ME hx) ⟨x,⟨m,h,f⟩,rfl,kz x (V0 hx),sm,?_⟩⟩
  simp_arith! [cy,UY,Lk,X5]
  cases hc:x.lt ⟨m,h,f⟩ with
  | true =>
   rw [if_pos rfl]
   exact (hN _ _).mpr ⟨(lo + hi) / 2 + 1,hi,_,rfl,rfl,by omega,h2,by omega,λj y hj e=>DU ks hx e (by omega) hc,hhi⟩
  | false =>
   rw [if_neg Wz]
   exact (hN _ _).mpr ⟨lo,(lo + hi) / 2,_,rfl,rfl,by omega,by omega,by omega,hlo,λj y hj e=>AE ks hx e hj hc⟩
 ·rw [if_neg hlt]
  have e:lo=hi:=by omega
  subst e
  refine ⟨_,lo,rfl,rfl,by rw [VM];exact h2,by rw [VM];exact ba (by omega),Wn h2 (Wn kl (by decide)),?_⟩
  rw [← CZ h2 hlo hhi,VP,VR,W4,XX] at q
  exact q
abbrev kj:Stmt:=(inClass (top 26) 5)
abbrev nF:List Str:=["self"]
theorem vZ:av ["self"] ["self"] (aq kj):=dO
def DC (cB:Addr):cI:=λxs J Q _=>∃p r rows,xs=[.ref p]∧Ml cB J p r rows∧(Q (.fl (rows.map ax.v)) J∨∀l,J l=none→Q (.ref l) (put J l (.lst (rows.map ax.v))))
theorem vL {cB:Addr} (F:bZ K "told" "Bells.told" kj f fd) (Z:bE mg) (bR:cR K mg "Bells" cB) (bc:ay K cB "rows"):aK P w K mg base (cq P w) 1 f fd nF (cP K (DC cB)):=by
 simp_arith [vZ,(ar (aB (dq jA rfl Z.list boot_list (af (aH bR.cl bc (rv 0)) ah)))),F]
 ·obtain ⟨p,r,rows,rfl,_⟩:=h;rfl
 obtain ⟨p,r,rows,rfl,b,q⟩:=h
 have bo:=b.o
 have bl:=b.l
 refine hX ?_
 simp_arith! [cy,bo,bl,P8]
 intro l hl
 rcases q with q | q
 ·exact Fg.rH (fv hl) aj hl q
 ·exact Fg.same (q l hl)
theorem zS (l l':bQ) (h:l.v≠l'.v):Wm ((l'.at 0 - l.at 0).num) (((l'.at 0 - l.at 0).den:Int) * (l.v - l'.v))=pe l l':=by
 rw [NU _ _ (by omega)];rfl
abbrev qQ:Stmt:=(top 30)
abbrev uq:List Str:=["one","other"]
theorem oI:av ["one","other","gain","gap"] ["one","other"] (aq qQ):=dO
def DP:cI:=λxs J Q _=>∃l l':bQ,xs=[l.V,l'.V]∧oO 900 l∧oO 900 l'∧(l.v=l'.v→Q .non J)∧(l.v≠l'.v→Q (fr (pe l l')) J)
theorem zZ (F:bZ K "meeting" "meeting" qQ f fd) (Z:bE mg) (N:qj K mg) (gS:b7 P w K mg base 4 "place_on" l7 xj) (xt:b7 P w K mg base 3 "minus" ur (E_ λp q=>p - q)) (e8:b7 P w K mg base 2 "fraction" gi gq) :
  aK P w K mg base (cq P w) 5 f fd uq (cP K DP):=by
 obtain ⟨aN,gN,sN⟩:=N
 have rN:∀(J:Hq) (H:Hp),cS K J H (fr 0) (.ref aN):=λJ H=>⟨aN,_,rfl,sN H,⟨_,_,rfl,rfl,_,_,rfl,rfl,rfl⟩⟩
 simp_arith [oI,(ak (aD (i:=2) oI.nd (aJ g9 (au aw (rv 0) ai) (au aw (rv 1) ai)))
   (ak (aY (aG (dh hr.aM) (rv 2) ai) (ar (aB l9)) aR)
   (ak (aD (i:=3) oI.nd (aU xt B hr (af (aU gS B hr (af (rv 1) (af (fB (v:=.ref aN) (fr 0) rfl gN rfl rN) ah))) (af (aU gS B hr (af (rv 0) (af (fB (v:=.ref aN) (fr 0) rfl gN rfl rN) ah))) ah))))
   (ar (aB (aU e8 B hr (af (au aw (rv 3) ai) (af (aJ bB (au aw (rv 3) ai) (rv 2)) ah))))))))]
 ·obtain ⟨l,l',rfl,_⟩:=h;rfl
 obtain ⟨l,l',rfl,sl,sl',q0,q1⟩:=h
 refine hX ?_
 have z1:Sz 900 (0:Rat):=⟨⟨by decide⟩,⟨by decide⟩⟩
 have s3:=lq sl z1
 have s3':=lq sl' z1
 have s4:Sz 6001 (l'.at 0 - l.at 0):=s3'.sub s3
 have bg:Bd 65 (l.v - l'.v):=sl.v.sub sl'.v
 simp_all! [wN]
 split
 ·rename_i e;simp_all! [];exact q0 (by omega)
 rename_i e
 have hv:l.v≠l'.v:=by omega
 simp_all! []
 refine ⟨l',0,rfl,sl'.m,sl'.p,z1,sl'.v,l,0,rfl,sl.m,sl.p,z1,sl.v,l'.at 0,l.at 0,rfl,s3'.mono (by decide),s3.mono (by decide),?_⟩
 simp_all! []
 refine ⟨.of s4.den bg,_,_,rfl,Zc (gw _) e,(Bd.mul s4.den bg (k:=6100)).mono (by decide),?_⟩
 rw [zS l l' hv]
 exact q1 hv
theorem zU {l':bQ} (sl:oO 900 l) (sl':oO 900 l') (h:l.v≠l'.v):Sz 8000 (pe l l'):=by
 rw [← zS l l' h]
 have z1:Sz 900 (0:Rat):=⟨⟨by decide⟩,⟨by decide⟩⟩
 have s4:Sz 6001 (l'.at 0 - l.at 0):=(lq sl' z1).sub (lq sl z1)
 have bg:Bd 65 (l.v - l'.v):=sl.v.sub sl'.v
 exact Sz.div (s4.num.mono (by decide)) ((Bd.mul s4.den bg (k:=6100)).mono (by decide)) (Zc (gw _) (by omega))
theorem bW.Ss (h:bW L) (hc:c∈L.cs):oO 900 c.cur:=(h.ck c hc _ (Cf.iK (h.ne c hc)).2).Fp
abbrev kC:Stmt:=(inClass (top 46) 13)
abbrev nL:List Str:=["self","name","other"]
theorem nY:av ["self","name","other","met"] ["self","name","other"] (aq kC):=dO
def Ay (cN cL eC:Addr):cI:=λxs J Q E=>∃p L n n',xs=[.ref p,.str n,.str n']∧bV cN cL J p L∧bW L∧(∀c∈L.cs,∀c'∈L.cs,c.n=n→c'.n=n'→c.g=none→c'.g=none→Q (gv (JA L.t c.cur c'.cur)) J)∧(n ∉ L.row∨n' ∉ L.row→E eC J)
theorem vV (F:bZ K "meets" "Lane.meets" kC f fd) (Z:bE mg) (az:cR K mg "Lane" cN) (aE:ay K cN "now") (df:bU P w K mg base cN 4 "leg_of" hV (uR cN cL eC)) (D1:b7 P w K mg base 5 "meeting" uq DP) (dM:b7 P w K mg base 1 "less" gL dj):aK P w K mg base (cq P w) 6 f fd nL (cP K (Ay cN cL eC)):=by
 simp_arith [nY,(ak (aD (i:=3) nY.nd (aU D1 B hr (af (a_ (pl:=_) df B hr (rv 0) (af (rv 1) ah)) (af (a_ (pl:=_) df B hr (rv 0) (af (rv 2) ah)) ah))))
   (ar (aB (Rr (fj (jg (aG z7 (rv 3) l9) (f' (cm (aU dM B hr (af (aH az.cl aE (rv 0)) (af (rv 3) ah))))))) (rv 3) l9))))]
 ·obtain ⟨p,L,n,n',rfl,_⟩:=h;rfl
 obtain ⟨p,L,n,n',rfl,b,ok,q,qe⟩:=h
 have bo:=b.ob
 refine hX ?_
 simp_all! [bo]
 refine ⟨kU,p,L,n,rfl,b,ok,λc hc e hg=>?_,λz=>qe (.inl z)⟩
 simp_all! [bo]
 refine ⟨kU,p,L,n',rfl,b,ok,λc' hc' e' hg'=>?_,λz=>qe (.inr z)⟩
 have q:=q c hc c' hc' e e' hg hg'
 have sl:=ok.Ss hc
 have sl':=ok.Ss hc'
 unfold JA at q
 refine ⟨c.cur,c'.cur,rfl,sl,sl',λhv=>?_,λhv=>?_⟩
 ·rw [if_neg (λz=>z.1 hv)] at q
  simp_all! []
  exact q
 ·simp_all! [xY,bo,zN,dj]
  refine ⟨ok.Fd.mono (by decide),(zU sl sl' hv).mono (by decide),?_⟩
  split
  ·rename_i c1
   rw [if_pos ⟨hv,c1⟩] at q
   simp_all! []
   exact q
  ·rename_i c1
   rw [if_neg (λz=>c1 z.2)] at q
   exact q
theorem VC (A:Nat):Sc jv A 0:=⟨0,by rw [ZV];rfl,Ww _⟩
theorem bV.Tx (h:bV cN cL J p L) (hT:J T=Ws .tab):¬ L.own p T:=by
 rintro (rfl | rfl | rfl | ⟨c,hc,rfl | rfl⟩)
 ·rw [h.ob] at hT;cases hT
 ·rw [h.dc] at hT;cases hT
 ·rw [h.rw] at hT;cases hT
 ·rw [(h.lg c hc).o] at hT;cases hT
 ·rw [(h.lg c hc).l] at hT;cases hT
theorem bW.FV (h:bW L):∀x∈L.fs,oO 900 x.2:=λx hx=>by
 obtain ⟨c,hc,rfl⟩:=VQ.mp hx
 have hc:=(Ln.eE.mp hc).1
 exact (h.ck c hc _ (Cf.iK (h.ne c hc)).2).Fp
theorem Pt {n:Str} (h:(n,l)∈L.fs):∃c∈L.cs,c.n=n∧c.g=none∧c.cur=l:=by
 obtain ⟨c,hc,e⟩:=VQ.mp h
 have:=Ln.eE.mp hc
 cases e
 exact ⟨c,this.1,rfl,this.2,rfl⟩
abbrev fE:Stmt:=(top 20)
abbrev ib:List Str:=["pair"]
theorem oG:av ["pair"] ["pair"] (aq fE):=dO
def Ax:cI:=λxs J Q _=>∃a b:Int,xs=[.tup [.int a,.int b]]∧Q (.bl (decide (1≤b∧WE a b=1))) J
theorem nu (F:bZ K "in_lowest_terms" "in_lowest_terms" fE f fd) (Z:bE mg) (sZ:b7 P w K mg base 1 "shared" qK m5):aK P w K mg base (cq P w) 2 f fd ib (cP K Ax):=by
 simp_arith [oG,(ar (aB (HA (fA z6 (au aw (rv 0) ai) ai) (B8 (fA (dh hr.aM) (aU sZ B hr (af (au aw (rv 0) ai) (af (au aw (rv 0) ai) ah))) ai)))))]
 ·obtain ⟨a,b,rfl,_⟩:=h;rfl
 obtain ⟨a,b,rfl,q⟩:=h
 refine hX ?_
 simp_all! []
 by_cases c:1≤b
 ·simp only [c,decide_true,true_and,if_true] at q ⊢
  simp_all! [m5]
  have:decide (((WE a b:Nat):Int)=1)=decide (WE a b=1):=decide_eq_decide.mpr (by omega)
  rw [this];exact q
 ·simp only [c,decide_false,false_and] at q ⊢
  rw [if_neg (λz=>z)]
  exact q
abbrev jm:Stmt:=(top 44)
abbrev lY:List Str:=["moment"]
theorem iy:av ["moment","top","bottom"] ["moment"] (aq jm):=dO
def gW (a b:Int):Bool:=decide (b≤60∧1≤b∧WE a b=1∧0≤a∧a≤1000000 * b)
def DN:cI:=λxs J Q _=>∃a b:Int,xs=[.tup [.int a,.int b]]∧Q (.bl (gW a b)) J
theorem so (F:bZ K "good_moment" "good_moment" jm f fd) (Z:bE mg) {pX pY:Tok} (lF:mg "FINEST"=some (.int 60 pX)) (lG:mg "LATEST"=some (.int 1000000 pY)) (oM:b7 P w K mg base 2 "in_lowest_terms" ib Ax):aK P w K mg base (cq P w) 3 f fd lY (cP K DN):=by
 simp_arith [iy,(ak (uz (rv 0) (qN (n:=2) rfl (cY (bq (i:=1) iy.nd) (cY (bq (i:=2) iy.nd) mZ))))
   (ak (aY (fj (nT (aG rM (rv 2) (fB (v:=.int 60) (.int 60) rfl lF ⟨_,rfl⟩ (λ_ _=>rfl))) (jh (fC (cm (aU oM B hr (af (rv 0) ah))))))) (ar (aB ig)) aR)
   (ar (aB (HC De De ai (rv 1) (aJ bB (fB (v:=.int 1000000) (.int 1000000) rfl lG ⟨_,rfl⟩ (λ_ _=>rfl)) (rv 2)))))))]
 ·obtain ⟨a,b,rfl,_⟩:=h;rfl
 obtain ⟨a,b,rfl,q⟩:=h
 refine hX ?_
 unfold gW at q
 simp_all! []
 simp_all! []
 by_cases c1:60 < b
 ·rw [if_pos c1]
  rw [decide_eq_false (λz=>by omega)] at q
  exact q
 rw [if_neg c1]
 simp_all! []
 refine ⟨a,b,rfl,?_⟩
 by_cases c2:1≤b∧WE a b=1
 ·rw [decide_eq_true c2]
  simp_all! [yN]
  by_cases c3:0≤a
  ·simp only [c3,decide_true,if_true]
   refine ⟨.of (.small (x:=1000000) (by decide) (by decide)) (.small (x:=b) (by omega) (by omega)),?_⟩
   have:decide (a≤1000000 * b)=decide (b≤60∧1≤b∧WE a b=1∧0≤a∧a≤1000000 * b):=decide_eq_decide.mpr ⟨λz=>⟨by omega,c2.1,c2.2,c3,z⟩,λz=>z.2.2.2.2⟩
   rw [this];exact q
  ·rw [decide_eq_false (λz=>c3 z.2.2.2.1)] at q
   simp only [c3,decide_false]
   rw [if_neg (λz=>z)]
   exact q
 ·rw [decide_eq_false c2]
  rw [decide_eq_false (λz=>c2 ⟨z.2.1,z.2.2.1⟩)] at q
  simp_all! []
  exact q
theorem bV.less (h:bV cN cL J p L) (l:jx J J'):bV cN cL J' p L:=h.keep λa o _ e=>by
 rcases l a with z | z
 ·rw [← z];exact e
 ·rw [z] at e;cases e
theorem wR {r:Addr} {x y:HQ} (l:jx J J') (hp:J p=none) (hr:J' r=none):jx J (put (put J' r x) p y):=λa=>by
 by_cases e:a=p
 ·exact .inr (by rw [e];exact hp)
 by_cases e2:a=r
 ·rcases l a with z | z
  ·right;rw [z,e2];exact hr
  ·exact .inr z
 ·rw [ag e,ag e2];exact l a
theorem Ew {r:Addr} {x y z:HQ} (hp:J p=none) (hr:put J p x r=none):jx J (put (put (put J p x) r y) p z):=wR (fv hp) hp hr
theorem FK (xs:List PV) (k:Nat) (h:k≤xs.length):ly xs (some (k:Int)) none=xs.drop k:=by
 unfold ly HT.fk
 simp only [Xf]
 rw [if_neg (by omega),Nat.min_eq_left h]
 rw [Xr (by rw [Xa];exact VT _)]
theorem eg.keys (ok:eg L):L.row.map PV.str=(fm (L.fs.map (key L.t))).map λk=>PV.str k.n:=by rw [ok.row];unfold bT;rw [VX];rfl
theorem x4 (ok:bW L) {a:Ky} (ha:a∈fm (L.fs.map (key L.t))) (hc:c∈L.cs) (hg:c.g=none) (e:c.n=a.n):a=key L.t (c.n,c.cur):=by
 obtain ⟨x,hx,rfl⟩:=VQ.mp ((cx _ _).mp ha)
 obtain ⟨c0,hc0,h1,h2,h3⟩:=Pt (n:=x.1) (l:=x.2) hx
 have:c0=c:=ok.uniq hc0 hc (h1.trans e.symm)
 subst this
 show key L.t (x.1,x.2)=_
 rw [← h3,← h1]
theorem sP (ok:eg L) {a:Ky} (ha:a∈fm (L.fs.map (key L.t))):a.n∈L.row:=by
 rw [ok.row];unfold bT;exact VQ.mpr ⟨a,ha,rfl⟩
theorem zR (ok:eg L) {a b:Ky} (ha:a∈fm (L.fs.map (key L.t))) (hb:b∈fm (L.fs.map (key L.t))) (h:b.v < a.v):Sz 9000 (dZ L.t a b):=by
 obtain ⟨c,hc,hcn,hcg⟩:=ok.found (sP ok ha)
 obtain ⟨c',hc',hcn',hcg'⟩:=ok.found (sP ok hb)
 have ea:=x4 ok.tobW ha hc hcg hcn
 have eb:=x4 ok.tobW hb hc' hcg' hcn'
 have hv:c.cur.v≠c'.cur.v:=by rw [ea,eb] at h;exact λz=>by have:c'.cur.v < c.cur.v:=h;omega
 rw [ea,eb,← sI hv]
 exact (zU (ok.Ss hc) (ok.Ss hc') hv).mono (by decide)
theorem eg.knd (ok:eg L):((L.fs.map (key L.t)).map Ky.n).Nodup:=by rw [fh];exact ok.CS
theorem eg.Tc (ok:eg L):(fm (L.fs.map (key L.t))).length≤12:=by
 have h1:=ok.rl
 have h2:=congrArg Xj ok.keys
 rw [VM,VM] at h2
 omega
theorem Gx (ok:eg L) {j:Nat} {a b:Ky} (ha:(fm (L.fs.map (key L.t)))[i]?=some a) (hb:(fm (L.fs.map (key L.t)))[j]?=some b) (hij:i < j) {c':Cf} (hc:c∈L.cs) (hc':c'∈L.cs) (hg:c.g=none) (hg':c'.g=none) (e:c.n=a.n) (e':c'.n=b.n) :
  JA L.t c.cur c'.cur=if b.v < a.v∧a.p < b.p then some (dZ L.t a b) else none:=by
 have ea:=x4 ok.tobW (V0 ha) hc hg e
 have eb:=x4 ok.tobW (V0 hb) hc' hg' e'
 have hlt:a.lt b=true:=by
  obtain ⟨hil,ei⟩:=VO.mp ha
  obtain ⟨hjl,ej⟩:=VO.mp hb
  have:=W3.mp (g_ ok.knd) i j hil hjl hij
  rw [ei,ej] at this;exact this
 rw [ea,eb] at hlt ⊢
 have key:=JB hlt
 unfold JA
 by_cases z:c.cur.v≠c'.cur.v∧L.t < pe c.cur c'.cur
 ·rw [if_pos z,if_pos (show (L2.key L.t (c'.n,c'.cur)).v < (L2.key L.t (c.n,c.cur)).v∧(L2.key L.t (c.n,c.cur)).p < (L2.key L.t (c'.n,c'.cur)).p from key.mp z),sI z.1]
 ·rw [if_neg z,if_neg (show ¬ ((L2.key L.t (c'.n,c'.cur)).v < (L2.key L.t (c.n,c.cur)).v∧(L2.key L.t (c.n,c.cur)).p < (L2.key L.t (c'.n,c'.cur)).p) from λy=>z (key.mpr y))]
abbrev gG:Stmt:=(inClass (top 46) 6)
abbrev jJ:List Str:=["self","moment"]
theorem cM:av ["self","moment","passings","at","hind","fore","met"] ["self","moment"] (aq gG):=dO
theorem wU {l:Addr} (h:jx J J'):jx (put J l o) (put J' l o):=λa=>by
 by_cases e:a=l
 ·subst e;rw [aj,aj];exact .inl rfl
 ·rw [ag e,ag e];exact h a
def DQ (cN cL eM eP:Addr):cI:=λxs J Q E=>∃p L a b,xs=[.ref p,.tup [.int a,.int b]]∧bV cN cL J p L∧eg L∧(gW a b=false→E eM J)∧(∀m:Rat,m.num=a→(m.den:Int)=b→gW a b=true→(m < L.t→E eP J)∧(L.t≤m→Q (.fl ((hE L.t (L.fs.map (key L.t)) m).map ax.v)) J∨∀l,J l=none→Q (.ref l) (put J l (.lst ((hE L.t (L.fs.map (key L.t)) m).map ax.v)))))
theorem qC {cB eM eP:Addr} (F:bZ K "foretold" "Lane.foretold" gG f fd) (Z:bE mg) (az:cR K mg "Lane" cN) (aE:ay K cN "now") (aO:ay K cN "row") (fg:Own K mg "BadMoment" eM) (A6:Own K mg "Past" eP) (uZ:b7 P w K mg base 3 "good_moment" lY DN) (dM:b7 P w K mg base 1 "less" gL dj) (xG:vB P w K mg base cB 1 "Bells" iS (DB cB)) (j_:bU P w K mg base cN 6 "meets" nL (Ay cN cL eC)) (lM:bU P w K mg base cB 3 "put" pB (HU cB)) (j0:bU P w K mg base cB 1 "told" nF (DC cB)):aK P w K mg base (cq P w) 7 f fd jJ (cP K (DQ cN cL eM eP)):=by
 simp_arith [cM,(ak (aY (fC (cm (aU uZ B hr (af (rv 1) ah)))) (ar (cE fg rfl bH B.kn rfl (af aS ah))) aR)
   (ak (aY (cm (aU dM B hr (af (rv 1) (af (aH az.cl aE (rv 0)) ah)))) (ar (cE A6 rfl bH B.kn rfl (af aS ah))) aR)
   (ak (aD (i:=2) cM.nd (pO xG B hr))
   (ak (cV bA rfl (KJ rfl Z.enumerate (af (aH az.cl aO (rv 0)) ah)) (qN (n:=2) rfl (cY (bq (i:=3) cM.nd) (cY (bq (i:=4) cM.nd) mZ))) (ar (cV bA rfl (dS (ij H0 (aH az.cl aO (rv 0)) (f_ (aJ cU (rv 3) ai)) m3)) (bq (i:=5) cM.nd) (ak (aD (i:=6) cM.nd (a_ (pl:=_) j_ B hr (rv 0) (af (rv 4) (af (rv 5) ah))))
   (ar (aY (fj (jg (aG z7 (rv 6) l9) (f' (fC (cm (aU dM B hr (af (rv 1) (af (rv 6) ah)))))))) (ar (aV (a_ (pl:=_) lM B hr (rv 2) (af (rv 6) (af (rv 4) (af (rv 5) ah)))))) aR))))))
   (ar (aB (b8 (pl:=_) j0 B hr (rv 2)))))))),F]
 ·obtain ⟨p,L,a,b,rfl,_⟩:=h;rfl
 obtain ⟨p,L,a,bb,rfl,b,ok,qe,q⟩:=h
 have bo:=b.ob
 refine hX ?_
 simp_all! []
 refine ⟨a,bb,rfl,?_⟩
 cases hg:gW a bb with
 | false =>
  simp_all! [d8]
  exact qe hg
 | true =>
  have hgm:=of_decide_eq_true hg
  obtain ⟨m,hm1,hm2⟩:∃m:Rat,m.num=a∧(m.den:Int)=bb:=⟨⟨a,bb.toNat,by omega,by
   have:=hgm.2.2.1
   unfold WE at this
   show Nat.gcd a.natAbs bb.toNat=1
   rw [show bb.toNat=bb.natAbs by omega];exact this⟩,rfl,by show ((bb.toNat:Nat):Int)=bb;omega⟩
  obtain ⟨q1,q2⟩:=q m hm1 hm2 hg
  have ef:PV.tup [.int a,.int bb]=fr m:=by rw [← hm1,← hm2];rfl
  have sm:Sz 900 m:=⟨(Bd.small (x:=m.num) (by omega) (by omega)).mono (by decide),(Bd.small (x:=(m.den:Int)) (by omega) (by omega)).mono (by decide)⟩
  simp_all! [bo,zN,ef]
  refine ⟨_,_,rfl,sm.mono (by decide),ok.Fd.mono (by decide),?_⟩
  by_cases c1:m < L.t
  ·rw [decide_eq_true c1]
   simp_all! [d8]
   exact q1 c1
  rw [decide_eq_false c1]
  have q:=q2 (by grind)
  simp_all! []
  intro pb hpb
  refine ⟨pb,rfl,aj,λr0 hr0=>⟨rfl,?_⟩⟩
  have l0:=Ew (y:=.lst []) (z:=.ins cB [("rows",.ref r0)]) hpb hr0
  have nr0:r0≠pb:=by intro e;subst e;rw [aj] at hr0;cases hr0
  have b0:Ml cB (put (put (put J pb (.ins cB [])) r0 (.lst [])) pb (.ins cB [("rows",.ref r0)])) pb r0 []:=⟨aj,by rw [ag nr0];exact aj⟩
  generalize put (put (put J pb (.ins cB [])) r0 (.lst [])) pb (.ins cB [("rows",.ref r0)])=J0 at l0 b0 ⊢
  simp_all! [(b.less l0).ob,(b.less l0).rw,zP]
  obtain ⟨ks,hks⟩:∃ks,fm (L.fs.map (key L.t))=ks:=⟨_,rfl⟩
  have hrow:L.row.map PV.str=ks.map λk=>PV.str k.n:=by rw [← hks];exact ok.keys
  have hkl:ks.length≤12:=by rw [← hks];exact ok.Tc
  have hup:∀{ps:List (Ky × Ky)},(∀p∈ps,p.1∈ks∧p.2∈ks)→∀x∈cj L.t (b9 L.t m) ps,Sz 9000 x.m:=λhp x hx=>by
   obtain ⟨p,hp',hc,rfl⟩:=mQ _ hx
   have:=of_decide_eq_true hc
   exact zR ok (by rw [hks];exact (hp p hp').1) (by rw [hks];exact (hp p hp').2) this.1
  rw [hrow]
  obtain ⟨Inv,hInv⟩:∃Inv:Nat→Sr→Hq→Prop,∀i τ J',Inv i τ J'↔∃(r:Addr) (u3 u4 u5 u6:Option PV),τ=[some (.ref p),some (fr m),some (.ref pb),u3,u4,u5,u6]∧jx J J'∧Ml cB J' pb r (cj L.t (b9 L.t m) (AQ ks i))∧(cj L.t (b9 L.t m) (AQ ks i)).length≤12 * i:=⟨_,λ_ _ _=>Iff.rfl⟩
  refine dW Inv ((hInv _ _ _).mpr ⟨r0,_,_,_,_,rfl,l0,b0,VT _⟩) (λi τ J' h=>?_) ?_ ?_
  ·obtain ⟨r,_,_,_,_,_,l',_⟩:=(hInv _ _ _).mp h
   rw [(b.less l').rw,hrow]
  ·intro i x τ J' hx hv
   obtain ⟨r,u3,u4,u5,u6,rfl,l',bb,hle⟩:=(hInv _ _ _).mp hv
   clear hv
   have hi:i < ks.length:=by have:=(VO.mp hx).1;rw [mM,VM] at this;exact this
   have ha:ks[i]?=some ks[i]:=VN hi
   rw [wI _ i (.str (ks[i]).n) (by rw [VS,ha];rfl)] at hx
   cases hx
   generalize ks[i]=a at ha ⊢
   simp_all! [(b.less l').ob,(b.less l').rw,zP]
   rw [hrow,show (i:Int) + 1=((i + 1:Nat):Int) by omega,FK _ _ (by rw [VM];omega),← XX]
   have eup:AQ ks (i + 1)=AQ ks i ++ (ks.drop (i + 1)).map λb=>(a,b):=by show AQ ks i ++ _=_;rw [ha]
   have mup:∀j,∀p∈AQ ks i ++ ((ks.drop (i + 1)).take j).map (λb=>(a,b)),p.1∈ks∧p.2∈ks:=λj p hp=>by
    rcases VY.mp hp with hp | hp
    ·obtain ⟨_,_,_,_,h3,h4⟩:=p7.mp hp
     exact ⟨V0 h3,V0 h4⟩
    ·obtain ⟨y,hy,rfl⟩:=VQ.mp hp
     exact ⟨V0 ha,Zk (W2 hy)⟩
   obtain ⟨In2,hIn2⟩:∃In2:Nat→Sr→Hq→Prop,∀j τ J',In2 j τ J'↔∃(r:Addr) (u5 u6:Option PV),τ=[some (.ref p),some (fr m),some (.ref pb),some (.int (i:Int)),some (.str a.n),u5,u6]∧jx J J'∧Ml cB J' pb r (cj L.t (b9 L.t m) (AQ ks i ++ ((ks.drop (i + 1)).take j).map λb=>(a,b)))∧(cj L.t (b9 L.t m) (AQ ks i ++ ((ks.drop (i + 1)).take j).map λb=>(a,b))).length≤12 * i + j:=⟨_,λ_ _ _=>Iff.rfl⟩
   refine dW In2 ((hIn2 _ _ _).mpr ⟨r,_,_,rfl,l',by simpa using bb,by simpa using hle⟩) (λ_ _ _ _=>trivial) ?_ ?_
   ·intro j x τ J2 hx hv
    obtain ⟨r2,u5,u6,rfl,l2,bb2,hle2⟩:=(hIn2 _ _ _).mp hv
    clear hv
    have hj:j < (ks.drop (i + 1)).length:=by have:=(VO.mp hx).1;rw [VM] at this;exact this
    have hb:(ks.drop (i + 1))[j]?=some (ks.drop (i + 1))[j]:=VN hj
    rw [VS,hb] at hx
    cases hx
    generalize (ks.drop (i + 1))[j]=y at hb ⊢
    have hb':ks[i + 1 + j]?=some y:=by rw [Yt] at hb;exact hb
    have hjl:j < 12:=by rw [Xa] at hj;omega
    have ej:(ks.drop (i + 1)).take (j + 1)=(ks.drop (i + 1)).take j ++ [y]:=by rw [V',hb];rfl
    have ef2:cj L.t (b9 L.t m) (AQ ks i ++ ((ks.drop (i + 1)).take (j + 1)).map λb=>(a,b))=nv L.t (b9 L.t m) (cj L.t (b9 L.t m) (AQ ks i ++ ((ks.drop (i + 1)).take j).map λb=>(a,b))) (a,y):=by
     rw [ej,VP,← X2];exact fK _ _ _ _
    have srt:=mP L.t (b9 L.t m) (AQ ks i ++ ((ks.drop (i + 1)).take j).map λb=>(a,b))
    have szs:=hup (mup j)
    generalize cj L.t (b9 L.t m) (AQ ks i ++ ((ks.drop (i + 1)).take j).map λb=>(a,b))=rows at bb2 hle2 ef2 srt szs
    have my:b9 L.t m (a,y)=false→∀{v5 v6},In2 (j + 1) [some (.ref p),some (fr m),some (.ref pb),some (.int (i:Int)),some (.str a.n),v5,v6] J2:=λhc v5 v6=>by
     have e:nv L.t (b9 L.t m) rows (a,y)=rows:=by unfold nv;rw [if_neg (by rw [hc];decide)]
     exact (hIn2 _ _ _).mpr ⟨r2,_,_,rfl,l2,by rw [ef2,e];exact bb2,by rw [ef2,e];omega⟩
    have b2:=b.less l2
    simp_all! [b2.ob]
    refine ⟨kU,p,L,a.n,y.n,rfl,b2,ok.tobW,λc hc c' hc' e e' hg hg'=>?_,λz=>?_⟩
    ·have hmet:=Gx ok (by rw [hks];exact ha) (by rw [hks];exact hb') (by omega) hc hc' hg hg' e e'
     rw [hmet]
     by_cases c2:y.v < a.v∧a.p < y.p
     ·rw [if_pos c2]
      have smk:=zR ok (by rw [hks];exact V0 ha) (by rw [hks];exact V0 hb') c2.1
      simp_all! [gv,xY,dj]
      refine ⟨sm.mono (by decide),smk,?_⟩
      by_cases c3:m < dZ L.t a y
      ·rw [if_pos c3]
       exact my (decide_eq_false (λz=>by have:=z.2.2;grind))
      ·rw [if_neg c3]
       have hcp:b9 L.t m (a,y)=true:=decide_eq_true ⟨c2.1,c2.2,by grind⟩
       have e:nv L.t (b9 L.t m) rows (a,y)=lH ⟨dZ L.t a y,a.n,y.n⟩ (dQ a.n y.n rows):=by unfold nv;rw [if_pos hcp];rfl
       simp_all! [bb2.o]
       refine ⟨Th _,pb,r2,rows,dZ L.t a y,a.n,y.n,rfl,bb2,srt,by omega,smk,szs,λr' hr'=>?_⟩
       have nr:r'≠pb:=by intro z;subst z;rw [bb2.o] at hr';cases hr'
       refine (hIn2 _ _ _).mpr ⟨r',_,_,rfl,wR l2 hpb hr',⟨aj,by rw [ag nr,aj,ef2,e]⟩,?_⟩
       rw [ef2,e,tS]
       have:=qv a.n y.n rows
       omega
     ·rw [if_neg c2]
      simp_all! [gv]
      exact my (decide_eq_false (λz=>c2 ⟨z.1,z.2.1⟩))
    ·rcases z with z | z
     ·exact absurd (sP ok (by rw [hks];exact V0 ha)) z
     ·exact absurd (sP ok (by rw [hks];exact V0 hb')) z
   ·intro τ J2 hv
    obtain ⟨r2,u5,u6,rfl,l2,bb2,hle2⟩:=(hIn2 _ _ _).mp hv
    rw [VM,Wg,← eup] at bb2 hle2
    rw [Xa] at hle2
    exact (hInv _ _ _).mpr ⟨r2,_,_,_,_,rfl,l2,bb2,by omega⟩
  ·intro τ J' hv
   obtain ⟨r,u3,u4,u5,u6,rfl,l',bb,hle⟩:=(hInv _ _ _).mp hv
   rw [mM,VM,← hks,K7 ok.knd] at bb
   simp_all! [bb.o]
   exact ⟨Ti _,pb,r,_,rfl,bb,q.imp (λq=>Fg.less l' q) λq l hl=>Fg.less (wU l') (q l ((l' l).elim (λe=>e.trans hl) id))⟩
theorem tR {m:Rat} (h:gW m.num m.den=true):Sc jv MM m∧0≤m:=by
 have h:=of_decide_eq_true h
 have hd:m.den≤60:=by omega
 constructor
 ·have h1:Sc m.den m.num.natAbs m:=⟨m.num,by have:=cast_eq m;rw [this];rfl,VT _⟩
  obtain ⟨k,hk⟩:=U_ m.den m.den_pos hd
  have h2:=h1.scale (E:=k)
  rw [show k * m.den=jv by rw [hk,Nat.mul_comm]] at h2
  refine h2.mono ?_
  have h3:m.num.natAbs≤1000000 * m.den:=by omega
  have h4:k * m.num.natAbs≤k * (1000000 * m.den):=Nat.mul_le_mul_left _ h3
  have h5:k * (1000000 * m.den)=1000000 * jv:=by rw [hk];rw [Nat.mul_left_comm,Nat.mul_comm k]
  unfold MM
  omega
 ·exact Rat.num_nonneg.mp h.2.2.2.1
theorem bW.Pu (h:bW L) {m:Rat} (hm:L.t≤m) (hg:gW m.num m.den=true):bW { L with t:=m } :=
 ⟨h.nd,h.ne,λc hc l hl=>ZU (h.le c hc l hl) hm,h.ck,h.len,λc hc q e=>⟨(h.gz c hc q e).1,ZU (h.gz c hc q e).2 hm⟩,(tR hg).2,(tR hg).1,h.many,h.rm,h.rn,h.rl⟩
abbrev kA:Stmt:=(inClass (top 46) 5)
abbrev nJ:List Str:=["self","moment"]
theorem nX:av ["self","moment","passings"] ["self","moment"] (aq kA):=dO
def Mf (cN cL eM eP:Addr):cI:=λxs J Q E=>∃p L a b,xs=[.ref p,.tup [.int a,.int b]]∧bV cN cL J p L∧eg L∧(gW a b=false→E eM J)∧(∀m:Rat,m.num=a→(m.den:Int)=b→gW a b=true→(m < L.t→E eP J)∧(L.t≤m→∀J' o',bV cN cL J' p { L with t:=m,o:=o',row:=bT m L.fs }→eg { L with t:=m,o:=o',row:=bT m L.fs }→Mv J J' (L.own p) (Ln.own { L with t:=m,o:=o',row:=bT m L.fs } p)→Q (.fl ((hE L.t (L.fs.map (key L.t)) m).map ax.v)) J'))
theorem vT {eM eP:Addr} (F:bZ K "go_to" "Lane.go_to" kA f fd) (Z:bE mg) (az:cR K mg "Lane" cN) (aE:ay K cN "now") (gy:bU P w K mg base cN 7 "foretold" jJ (DQ cN cL eM eP)) (dJ:bU P w K mg base cN 7 "settle" hZ (rg cN cL)):aK P w K mg base (cq P w) 8 f fd nJ (cP K (Mf cN cL eM eP)):=by
 simp_arith [nX,(ak (aD (i:=2) nX.nd (a_ (pl:=_) gy B hr (rv 0) (af (rv 1) ah)))
   (ak (dt az.cl aE (rv 0) (rv 1))
   (ak (aV (b8 (pl:=_) dJ B hr (rv 0)))
   (ar (aB (rv 2))))))]
 ·obtain ⟨p,L,a,b,rfl,_⟩:=h;rfl
 obtain ⟨p,L,a,bb,rfl,b,ok,qe,q⟩:=h
 have bo:=b.ob
 refine hX ?_
 simp_all! [bo]
 refine ⟨kU,p,L,a,bb,rfl,b,ok,qe,λm h1 h2 hg=>⟨(q m h1 h2 hg).1,λhm=>.inl ?_⟩⟩
 have q:=(q m h1 h2 hg).2 hm
 have ef:PV.tup [.int a,.int bb]=fr m:=by rw [← h1,← h2];rfl
 have hgm:gW m.num m.den=true:=by rw [h1,h2];exact hg
 have ok1:=ok.tobW.Pu hm hgm
 simp_all! [bo,ef]
 refine ⟨by show (3:Nat) < 1000;decide,?_⟩
 have b1:bV cN cL (put J p (.ins cN [("now",fr m),("logs",.ref L.d),("row",.ref L.o)])) p { L with t:=m } :=
  ⟨aj,by show put J p _ L.d=_;rw [ag b.C8];exact b.dc,by show put J p _ L.o=_;rw [ag b.LJ];exact b.rw,λc hc=>⟨by rw [ag (b.Vb hc)];exact (b.lg c hc).o,by rw [ag (b.t8 hc)];exact (b.lg c hc).l⟩,b.ap,b.ao⟩
 have mv1:Mv J (put J p (.ins cN [("now",fr m),("logs",.ref L.d),("row",.ref L.o)])) (L.own p) (L.own p):=lT (.inl rfl) λa h=>.inl h
 generalize put J p (.ins cN [("now",fr m),("logs",.ref L.d),("row",.ref L.o)])=J1 at b1 mv1 ⊢
 simp_all! [b1.ob]
 refine ⟨kU,p,{ L with t:=m },rfl,b1,ok1,λJ2 o' b2 mv2=>?_⟩
 simp_all! []
 exact q J2 o' b2 (eg.settled ok1 o') (mv1.trans mv2)
def AA:cI:=λ_ _ _ _=>False
abbrev mj:Stmt:=(inClass (top 46) 3)
abbrev pH:List Str:=["self","name","pace"]
theorem yZ:av ["self","name","pace"] ["self","name","pace"] (aq mj):=dO
theorem yh (F:bZ K "turn" "Lane.turn" mj f fd):aK P w K mg base (cq P w) 1 f fd pH (cP K AA) :=
 Nn F yZ (λxs J Q E h=>h.elim) (λcdv A outer s H E G xs J Q E2 hr h B=>h.elim)
abbrev kB:Stmt:=(inClass (top 46) 2)
abbrev nK:List Str:=["self","name"]
theorem we:av ["self","name"] ["self","name"] (aq kB):=dO
theorem vU (F:bZ K "leave" "Lane.leave" kB f fd):aK P w K mg base (cq P w) 1 f fd nK (cP K AA) :=
 Nn F we (λxs J Q E h=>h.elim) (λcdv A outer s H E G xs J Q E2 hr h B=>h.elim)
abbrev kr:Stmt:=(inClass (top 46) 4)
abbrev nI:List Str:=["self"]
theorem wa:av ["self","name","pace"] ["self"] (aq kr):=dO
theorem vR (F:bZ K "about" "Lane.about" kr f fd):aK P w K mg base (cq P w) 1 f fd nI (cP K AA) :=
 Nn F wa (λxs J Q E h=>h.elim) (λcdv A outer s H E G xs J Q E2 hr h B=>h.elim)
theorem Sub.trans {J'':Hq} (h:Sub J J') (k:Sub J' J''):Sub J J'':=λa o e=>k a o (h a o e)
abbrev oA:Stmt:=(inClass (top 33) 8)
abbrev rO:List Str:=["self"]
theorem gj:av ["self","moment","place","pace","other"] ["self"] (aq oA):=dO
def DO (cL:Addr):cI:=λxs J Q _=>∃p r rows g,xs=[.ref p]∧Cu cL J p r rows g∧rows≠[]∧∀J' a' r',Sub J J'→J a'=none→J r'=none→Cu cL J' a' r' rows g→Q (.ref a') J'
theorem zX (F:bZ K "twin" "Log.twin" oA f fd) (Z:bE mg) (cG:cR K mg "Log" cL) (bC:ay K cL "rows") (cf:ay K cL "gone") (wy:vB P w K mg base cL 1 "Log" gC (zc cL)):aK P w K mg base (cq P w) 3 f fd rO (cP K (DO cL)):=by
 simp_arith [gj,(ak (uz (au aw (aH cG.cl bC (rv 0)) ai) (qN (n:=3) rfl (cY (bq (i:=1) gj.nd) (cY (bq (i:=2) gj.nd) (cY (bq (i:=3) gj.nd) mZ)))))
   (ak (aD (i:=4) gj.nd (yP wy B hr (af (rv 1) (af (rv 2) (af (rv 3) ah)))))
   (ak (dt cG.cl bC (rv 4) (dq jA rfl Z.list boot_list (af (aH cG.cl bC (rv 0)) ah)))
   (ak (dt cG.cl cf (rv 4) (aH cG.cl cf (rv 0)))
   (ar (aB (rv 4)))))))]
 ·obtain ⟨p,r,rows,g,rfl,_⟩:=h;rfl
 obtain ⟨p,r,rows,g,rfl,b,hne,q⟩:=h
 have bo:=b.o
 have bl:=b.l
 obtain ⟨l,ls,rfl⟩:∃l ls,rows=l :: ls:=XB hne
 refine hX ?_
 simp_arith! [cy,bo,bl,Qb,bQ.V]
 intro a ha
 refine ⟨a,l,rfl,aj,λr0 hr0=>⟨rfl,?_⟩⟩
 have ne1:∀{b u},J b=some u→b≠a:=λe z=>by subst z;rw [ha] at e;cases e
 have ne2:∀{b u},J b=some u→b≠r0:=λe z=>by subst z;rw [ag (ne1 e)] at hr0;rw [hr0] at e;cases e
 have nra:r0≠a:=by intro e;subst e;rw [aj] at hr0;cases hr0
 have sub:Sub J (put (put (put J a (.ins cL [])) r0 (.lst [l.V])) a (.ins cL [("rows",.ref r0),("gone",.non)])):=λb o e=>by rw [ag (ne1 e),ag (ne2 e),ag (ne1 e)];exact e
 have ho:(put (put (put J a (.ins cL [])) r0 (.lst [l.V])) a (.ins cL [("rows",.ref r0),("gone",.non)])) a=some (.ins cL [("rows",.ref r0),("gone",.non)]):=aj
 generalize (put (put (put J a (.ins cL [])) r0 (.lst [l.V])) a (.ins cL [("rows",.ref r0),("gone",.non)]))=J1 at sub ho ⊢
 refine dP (sub _ _ bo) (gB (Qb _ _) (gB (show kK J1 (.ref r)=some ((l :: ls).map bQ.V) by rw [Gr,sub _ _ bl]) λr1 hr1=>?_))
 have n1:a≠r1:=by intro e;subst e;rw [ho] at hr1;cases hr1
 have n2:∀{b u},J b=some u→b≠r1:=λe z=>by subst z;rw [sub _ _ e] at hr1;cases hr1
 have hr:J r1=none:=by
  cases e:J r1 with
  | none=>rfl
  | some u=>exact absurd rfl (n2 e)
 refine dP (by rw [ag n1];exact ho) ⟨by show (2:Nat) < 1000;decide,?_⟩
 refine dP (by rw [ag (ne1 bo),ag (n2 bo)];exact sub _ _ bo) (gB (U' _ _) (dP aj ⟨by rw [Dj];show (2:Nat) < 1000;decide,?_⟩))
 rw [bI,Dj,Ko]
 refine q _ a r1 (λb o e=>by rw [ag (ne1 e),ag (n2 e)];exact sub _ _ e) ha hr ⟨aj,by rw [ag (Ne.symm n1)];exact aj⟩
abbrev iV:Stmt:=(inClass (top 46) 20)
abbrev pI:List Str:=["self"]
theorem pS:av ["self","other"] ["self"] (aq iV):=dO
def Cf.face (c:Cf):Str × List bQ × Option Rat:=(c.n,c.w,c.g)
structure Ln.alike (L L':Ln):Prop where
 t:L'.t=L.t
 row:L'.row=L.row
 cs:L'.cs.map Cf.face=L.cs.map Cf.face
theorem CT (L:Ln):L.fs=((L.cs.map Cf.face).filter λf=>f.2.2.isNone).map λf=>(f.1,f.2.1.getLast?.getD ⟨0,0,0⟩):=by
 unfold Ln.fs Ln.E3
 rw [XY,VX];rfl
theorem Ln.alike.fs {L':Ln} (h:L.alike L'):L'.fs=L.fs:=by rw [CT,CT,h.cs]
theorem Ln.alike.ex {L':Ln} (h:L.alike L') {c':Cf} (hc:c'∈L'.cs):∃c∈L.cs,c.n=c'.n∧c.w=c'.w∧c.g=c'.g:=by
 have:c'.face∈L.cs.map Cf.face:=by rw [← h.cs];exact VQ.mpr ⟨c',hc,rfl⟩
 obtain ⟨c,hc,e⟩:=VQ.mp this
 unfold Cf.face at e
 exact ⟨c,hc,congrArg (·.1) e,congrArg (·.2.1) e,congrArg (·.2.2) e⟩
theorem Ln.alike.nm {L':Ln} (h:L.alike L'):L'.cs.map Cf.n=L.cs.map Cf.n:=by
 have:=congrArg (ZI (·.1)) h.cs
 rw [VX,VX] at this;exact this
theorem Ln.alike.ok {L':Ln} (h:L.alike L') (o:eg L):eg L':=by
 refine ⟨⟨by rw [h.nm];exact o.nd,λc hc=>?_,λc hc=>?_,λc hc=>?_,λc hc=>?_,λc hc=>?_,by rw [h.t];exact o.t0,by rw [h.t];exact o.ts,?_,by rw [h.row,h.fs];exact o.rm,by rw [h.row];exact o.rn,by rw [h.row];exact o.rl⟩,by rw [h.row,h.t,h.fs];exact o.row⟩
 ·obtain ⟨c0,h0,_,e,_⟩:=h.ex hc;rw [← e];exact o.ne c0 h0
 ·obtain ⟨c0,h0,_,e,_⟩:=h.ex hc;rw [← e,h.t];exact o.le c0 h0
 ·obtain ⟨c0,h0,_,e,_⟩:=h.ex hc;rw [← e];exact o.ck c0 h0
 ·obtain ⟨c0,h0,_,e,_⟩:=h.ex hc;rw [← e];exact o.len c0 h0
 ·obtain ⟨c0,h0,_,_,e⟩:=h.ex hc;rw [← e,h.t];exact o.gz c0 h0
 ·have:=congrArg Xj h.nm;rw [VM,VM] at this;rw [this];exact o.many
theorem Cu.Rx {r:Addr} {g:Option Rat} (h:Cu cL J p r rows g) (s:Sub J J'):Cu cL J' p r rows g:=⟨s _ _ h.o,s _ _ h.l⟩
def DT (cN cL:Addr):cI:=λxs J Q _=>∃p L,xs=[.ref p]∧bV cN cL J p L∧eg L∧∀J' p' L',Sub J J'→bV cN cL J' p' L'→eg L'→L.alike L'→(∀a,L'.own p' a→J a=none)→Q (.ref p') J'
theorem yi (F:bZ K "twin" "Lane.twin" iV f fd) (Z:bE mg) (az:cR K mg "Lane" cN) (aE:ay K cN "now") (aW:ay K cN "logs") (aO:ay K cN "row") (qi:vB P w K mg base cN 1 "Lane" fQ (zd cN cL)) (oq:bU P w K mg base cL 3 "twin" rO (DO cL)):aK P w K mg base (cq P w) 4 f fd pI (cP K (DT cN cL)):=by
 simp_arith [pS,(ak (aD (i:=1) pS.nd (pO qi B hr))
   (ak (dt az.cl aE (rv 1) (aH az.cl aE (rv 0)))
   (ak (dt az.cl aW (rv 1) (Mb (aq iV) ["self","other"] [("self",0)] rfl rfl rfl (ki (aH az.cl aW (rv 0))) (λ_ _ _ _ _ _=>(rv 0)) (λ_ _ _ _ _ _=>(b8 (pl:=_) oq FO hr (au bO (aH az.cl aW (rv 1)) (rv 0))))))
   (ak (dt az.cl aO (rv 1) (dq jA rfl Z.list boot_list (af (aH az.cl aO (rv 0)) ah)))
   (ar (aB (rv 1)))))))]
 ·obtain ⟨p,L,rfl,_⟩:=h;rfl
 obtain ⟨p,L,rfl,b,ok,q⟩:=h
 refine hX ?_
 simp_all! []
 intro p' hp'
 refine ⟨p',rfl,aj,λJ1 d e o b1 mv1=>?_⟩
 have jp:∀{a u},J a=some u→a≠p':=λe z=>by subst z;rw [hp'] at e;cases e
 have sub:Sub J J1:=λa u e=>mv1.keep a u (by rw [ag (jp e)];exact e) (jp e)
 have BA:∀a,Ln.own ⟨0,d,e,o,[],[]⟩ p' a→J a=none:=λa z=>by
  rcases mv1.own a z with z | z
  ·rw [z];exact hp'
  ·by_cases y:a=p'
   ·rw [y];exact hp'
   ·rw [ag y] at z;exact z
 have ob1:J1 p'=some (.ins cN [("now",fr 0),("logs",.ref d),("row",.ref o)]):=b1.ob
 clear b1 mv1
 have hbo:=sub _ _ b.ob
 refine ⟨rfl,hNq _ _ ?_⟩
 clear hNq Nq
 simp_all! [hbo,ob1,zN]
 refine ⟨by show (3:Nat) < 1000;decide,?_⟩
 have sub2:Sub J (put J1 p' (.ins cN [("now",fr L.t),("logs",.ref d),("row",.ref o)])):=λa u e=>by rw [ag (jp e)];exact sub _ _ e
 have ob2:put J1 p' (.ins cN [("now",fr L.t),("logs",.ref d),("row",.ref o)]) p'=some (.ins cN [("now",fr L.t),("logs",.ref d),("row",.ref o)]):=aj
 refine hNq _ _ ?_
 clear hNq Nq hbo sub ob1
 generalize put J1 p' (.ins cN [("now",fr L.t),("logs",.ref d),("row",.ref o)])=J2 at sub2 ob2 ⊢
 clear J1 BA
 have hbo:=sub2 _ _ b.ob
 have hbd:=sub2 _ _ b.dc
 simp_all! [OS,hbo,zO,hbd]
 intro D hD ep
 have n2:∀{a u},J2 a=some u→a≠D:=λe z=>by subst z;rw [hD] at e;cases e
 have jD:J D=none:=by
  cases e:J D with
  | none=>rfl
  | some u=>exact absurd rfl (n2 (sub2 _ _ e))
 obtain ⟨W,hW⟩:∃W:Nat→Hq→Prop,∀i J3,W i J3↔∃(cs:List Cf) (ep2:Nat),Sub J J3∧J3 D=some (.dct (cs.map λc=>(c.n,PV.ref c.a)) ep2)∧J3 p'=some (.ins cN [("now",fr L.t),("logs",.ref d),("row",.ref o)])∧cs.map Cf.face=(L.cs.take i).map Cf.face ∧
   (∀c∈cs,Cu cL J3 c.a c.r c.w c.g∧J c.a=none∧J c.r=none)∧(cs.map Cf.r).Nodup:=⟨_,λ_ _=>Iff.rfl⟩
 refine ⟨W,(hW _ _).mpr ⟨[],ep,λa u e=>by rw [ag (n2 (sub2 _ _ e))];exact sub2 _ _ e,aj,by rw [ag (n2 ob2)];exact ob2,rfl,(by simp),Yz⟩,?_,?_,?_⟩
 ·intro i J3 hw
  obtain ⟨cs,ep2,s3,hd3,ob3,fc,la,nd⟩:=(hW _ _).mp hw
  exact s3 _ _ b.dc
 ·intro i x J3 hx hw
  obtain ⟨cs,ep2,s3,hd3,ob3,fc,la,nd⟩:=(hW _ _).mp hw
  have hi:i < L.cs.length:=by have:=(VO.mp hx).1;simpa using this
  have hc:L.cs[i]∈L.cs:=Wi hi
  have et:L.cs.take (i + 1)=L.cs.take i ++ [L.cs[i]]:=by rw [V',VN hi];rfl
  rw [VS,VS,VN hi] at hx
  cases hx
  have hcd:=ok.tobW.nd
  have hnot:L.cs[i].n ∉ cs.map Cf.n:=by
   have e1:cs.map Cf.n=(L.cs.take i).map Cf.n:=by
    have:=congrArg (ZI (·.1)) fc
    rw [VX,VX] at this;exact this
   have e2:((L.cs.take (i + 1)).map Cf.n).Nodup:=hcd.sublist ((WU _ _).map _)
   rw [et,VP] at e2
   rw [e1]
   exact (e9 e2).2
  generalize L.cs[i]=c at hc et hnot
  have b3o:=s3 _ _ b.ob
  have b3d:=s3 _ _ b.dc
  have hva:=ok.tobW.va hc
  have lg:=(b.lg c hc).Rx s3
  have lo:=lg.o
  simp_all! [b3o,zO,b3d,hva,lo]
  refine ⟨Ts _ _,c.a,c.r,c.w,c.g,rfl,lg,ok.ne c hc,λJ4 a' r' s4 na nr l4=>?_⟩
  have hlen:cs.length≤100:=by
   have e1:=congrArg Xj fc
   rw [VM,VM,Wa] at e1
   have:=ok.many;omega
  have s34:Sub J J4:=s3.trans s4
  have n4:∀{a u},J3 a=some u→a≠a'∧a≠r':=λ{a u} e=>⟨λz=>by subst z;exact absurd (na.symm.trans e) (λy=>nomatch y),λz=>by subst z;exact absurd (nr.symm.trans e) (λy=>nomatch y)⟩
  have jn:∀{a},J3 a=none→J a=none:=λ{a} e=>by
   cases z:J a with
   | none=>rfl
   | some u=>have:=s3 _ _ z;rw [e] at this;cases this
  have nD':=n4 hd3
  have epu:mT (cs.map λc=>(c.n,PV.ref c.a)) c.n (PV.ref a')=(cs ++ [Cf.mk c.n a' r' c.w c.g]).map λc=>(c.n,PV.ref c.a):=by
   unfold mT
   rw [if_neg,VP]
   ·rfl
   ·intro z
    obtain ⟨kv,hkv,e⟩:=X7.mp z
    obtain ⟨c0,h0,rfl⟩:=VQ.mp hkv
    exact hnot (VQ.mpr ⟨c0,h0,of_decide_eq_true e⟩)
  refine ⟨_,ep2,s4 _ _ hd3,ba (by rw [VM];omega),λep'=>(hW _ _).mpr ⟨cs ++ [⟨c.n,a',r',c.w,c.g⟩],ep',λa u e=>?_,?_,?_,?_,?_,?_⟩⟩
  ·rw [ag (λz=>by subst z;rw [jD] at e;cases e)];exact s34 _ _ e
  ·rw [epu];exact aj
  ·rw [ag (n2 ob2)];exact s4 _ _ ob3
  ·rw [et,VP,VP,fc];rfl
  ·intro c0 h0
   rcases VY.mp h0 with h0 | h0
   ·obtain ⟨l1,l2,l3⟩:=la c0 h0
    have l1':=l1.Rx s4
    exact ⟨⟨by rw [ag (λz=>by have:=l1.o;rw [z,hd3] at this;cases this)];exact l1'.o,by rw [ag (λz=>by have:=l1.l;rw [z,hd3] at this;cases this)];exact l1'.l⟩,l2,l3⟩
   ·rw [VV] at h0;subst h0
    exact ⟨⟨by rw [ag (Ne.symm nD'.1)];exact l4.o,by rw [ag (Ne.symm nD'.2)];exact l4.l⟩,jn na,jn nr⟩
  ·rw [VP,VR,Wj,WC]
   refine ⟨nd,by simp,λx hx y hy e=>?_⟩
   rw [VV] at hy;subst hy;subst e
   obtain ⟨c0,h0,rfl⟩:=VQ.mp hx
   exact (n4 (la c0 h0).1.l).2 rfl
 ·intro J3 hw
  obtain ⟨cs,ep2,s3,hd3,ob3,fc,la,nd⟩:=(hW _ _).mp hw
  rw [VM,VM,Wg] at fc
  have np:p'≠D:=n2 ob2
  simp_all! [ob3,LC,if_false]
  refine ⟨by show (3:Nat) < 1000;decide,?_⟩
  have sub4:Sub J (put J3 p' (.ins cN [("now",fr L.t),("logs",.ref D),("row",.ref o)])):=λa u e=>by rw [ag (jp e)];exact s3 _ _ e
  have ob4:put J3 p' (.ins cN [("now",fr L.t),("logs",.ref D),("row",.ref o)]) p'=some (.ins cN [("now",fr L.t),("logs",.ref D),("row",.ref o)]):=aj
  have hd4:put J3 p' (.ins cN [("now",fr L.t),("logs",.ref D),("row",.ref o)]) D=some (.dct (cs.map λc=>(c.n,PV.ref c.a)) ep2):=by rw [ag (Ne.symm np)];exact hd3
  have la4:∀c∈cs,Cu cL (put J3 p' (.ins cN [("now",fr L.t),("logs",.ref D),("row",.ref o)])) c.a c.r c.w c.g∧J c.a=none∧J c.r=none:=λc hc=>by
   obtain ⟨l1,l2,l3⟩:=la c hc
   refine ⟨⟨?_,?_⟩,l2,l3⟩
   ·rw [ag (Bo l1.o ob3 tZ)];exact l1.o
   ·rw [ag (λz=>by have:=l1.l;rw [z,ob3] at this;cases this)];exact l1.l
  refine hNq _ _ ?_
  clear hNq Nq hw
  generalize put J3 p' (.ins cN [("now",fr L.t),("logs",.ref D),("row",.ref o)])=J4 at sub4 ob4 hd4 la4 ⊢
  clear la hd3 ob3 s3 J3 hW W
  have b4o:=sub4 _ _ b.ob
  have b4r:=sub4 _ _ b.rw
  simp_all! [b4o,zP,b4r]
  intro O hO
  have n4:∀{a u},J4 a=some u→a≠O:=λe z=>by subst z;rw [hO] at e;cases e
  refine dP (by rw [ag (n4 ob4)];exact ob4) ⟨by show (3:Nat) < 1000;decide,?_⟩
  rw [Di]
  refine hNq _ _ ?_
  clear hNq Nq
  simp_all! []
  have jO:J O=none:=by
   cases z:J O with
   | none=>rfl
   | some u=>exact absurd rfl (n4 (sub4 _ _ z))
  have al:L.alike ⟨L.t,D,ep2,O,cs,L.row⟩:=⟨rfl,rfl,fc⟩
  refine q _ p' ⟨L.t,D,ep2,O,cs,L.row⟩ (λa u e=>by rw [ag (jp e),ag (n4 (sub4 _ _ e))];exact sub4 _ _ e) ⟨aj,?_,?_,λc hc=>?_,nd,λc hc=>?_⟩ (al.ok ok) al ?_
  ·show put (put J4 O _) p' _ D=_
   rw [ag (Ne.symm np),ag (n4 hd4)];exact hd4
  ·show put (put J4 O _) p' _ O=_
   rw [ag (Ne.symm (n4 ob4))];exact aj
  ·obtain ⟨l1,l2,l3⟩:=la4 c hc
   exact ⟨by rw [ag (Bo l1.o ob4 tZ),ag (n4 l1.o)];exact l1.o,by rw [ag (λz=>by have:=l1.l;rw [z,ob4] at this;cases this),ag (n4 l1.l)];exact l1.l⟩
  ·exact n4 (la4 c hc).1.l
  ·rintro a (rfl | rfl | rfl | ⟨c,hc,rfl | rfl⟩)
   ·exact hp'
   ·exact jD
   ·exact jO
   ·exact (la4 c hc).2.1
   ·exact (la4 c hc).2.2
def menu:List Str:=["m","ab","a","zebra9","b0","0","abc","9zz","q7q7q7q7","aa","z","a1b2c3d4"]
def bS:Str:="abcdefghijklmnopqrstuvwxyz0123456789"
theorem Jz:menu.Nodup:=by decide +kernel
theorem FA:bS.cps.toList.Nodup:=by decide +kernel
theorem mI:bS.cps.toList.length=36:=by decide +kernel
def Li {α:Type} (xs:List α) (z:α) (d:Int) (k:Nat):α:=xs.getD ((d + 5 * (k:Int)) % (xs.length:Int)).toNat z
section
variable {α:Type} {xs:List α} {z:α} (d:Int)
theorem tL (h:0 < xs.length) (k:Nat):0≤(d + 5 * (k:Int)) % (xs.length:Int)∧(d + 5 * (k:Int)) % (xs.length:Int) < (xs.length:Int):=⟨W' _ (by omega),WZ _ (by omega)⟩
theorem oW (h:0 < xs.length) (k:Nat):xs[((d + 5 * (k:Int)) % (xs.length:Int)).toNat]?=some (Li xs z d k):=by
 have:=tL d h k
 unfold Li
 rw [XC,VN (by omega)]
 rfl
theorem MJ (h:0 < xs.length) (k:Nat):c_ xs ((d + 5 * (k:Int)) % (xs.length:Int))=some (Li xs z d k):=by
 have:=bM (oW (z:=z) d h k)
 rwa [XM (tL d h k).1] at this
theorem CG (h:0 < xs.length) (k:Nat):Li xs z d k∈xs:=V0 (oW d h k)
theorem SY {M a b d u v:Int} (g:5 * u=1 + M * v) (a0:0≤a) (a1:a < M) (b0:0≤b) (b1:b < M) (e:(d + 5 * a) % M=(d + 5 * b) % M):a=b:=by
 have h:M ∣ 5 * (a - b):=by
  have:=Int.dvd_of_emod_eq_zero (Int.emod_eq_emod_iff_emod_sub_eq_zero.mp e)
  rwa [show d + 5 * a - (d + 5 * b)=5 * (a - b) by omega] at this
 obtain ⟨c,hc⟩:M ∣ a - b:=by
  obtain ⟨c,hc⟩:=h
  refine ⟨u * c - v * (a - b),?_⟩
  have h1:5 * u * (a - b)=u * (M * c):=by rw [← hc];grind
  rw [g] at h1
  grind
 rcases ZO c 0 with k | k | k
 ·have:M * c≤M * (-1):=X9 (by omega) (by omega)
  omega
 ·subst k;omega
 ·have:M * 1≤M * c:=X9 (by omega) (by omega)
  omega
theorem CF (u v:Int) (hn:xs.Nodup) (g:5 * u=1 + (xs.length:Int) * v) {i j:Nat} (hi:i < xs.length) (hj:j < xs.length) (e:Li xs z d i=Li xs z d j):i=j:=by
 have h:0 < xs.length:=by omega
 have a:=oW (z:=z) d h i
 have b:=oW (z:=z) d h j
 rw [e] at a
 obtain ⟨a1,a2⟩:=VO.mp a
 obtain ⟨b1,b2⟩:=VO.mp b
 have e1:=(Xn hn).mp (a2.trans b2.symm)
 have:=tL d h i
 have:=tL d h j
 exact Int.ofNat.inj (SY g (WY i) (X5.mpr hi) (WY j) (X5.mpr hj) (show (d + 5 * (i:Int)) % _=(d + 5 * (j:Int)) % _ by omega))
end
theorem Gw:menu.length=12:=by decide +kernel
abbrev pick:Int→Nat→Str:=Li menu ""
theorem Kl (d:Int) (k:Nat):c_ (menu.map PV.str) ((d + 5 * (k:Int)) % 12)=some (.str (pick d k)):=by
 have h:=tL (xs:=menu) d (by decide +kernel) k
 have g:=bM (xs:=menu.map PV.str) (j:=((d + 5 * (k:Int)) % (menu.length:Int)).toNat) (by rw [VS,oW (xs:=menu) (z:="") d (by decide +kernel) k];rfl)
 rw [XM h.1,Gw] at g
 exact g
theorem Hc (d:Int) {m:Nat} (hm:m≤12):((WM m).map (pick d)).Nodup:=by
 refine List.Pairwise.map (R:=λi j=>i < 12∧j < 12∧i≠j) _ (λi j ⟨a,b,c⟩ e=>c (CF d 5 2 Jz (by decide +kernel) a b e)) ?_
 refine List.Pairwise.imp_of_mem (R:=λi j=>i≠j) (λ{i j} hi hj ne=>?_) (List.nodup_range)
 rw [W8] at hi hj
 exact ⟨by omega,by omega,ne⟩
theorem EE:∀x∈menu,good x=true:=by decide +kernel
theorem tG:∀c∈bS.cps.toList,fG dT c=true:=by decide +kernel
theorem EZ (d:Int) (k:Nat):good (pick d k)=true:=EE _ (CG d (by decide +kernel) k)
theorem Jr {cs:List Nat} (h0:0 < cs.length) (h1:cs.length≤8) (h:∀c∈cs,fG dT c=true):good ⟨cs.toArray⟩=true:=by
 unfold good
 rw [Wt,Wt]
 refine ⟨⟨decide_eq_true ?_,decide_eq_true ?_⟩,Xb.mpr λc hc=>h c (by simpa using hc)⟩
 ·show 1≤cs.toArray.size;rw [VU];omega
 ·show cs.toArray.size≤8;rw [VU];omega
abbrev sign:Int→Nat→Nat:=Li bS.cps.toList 0
theorem KW (d:Int) (k:Nat):c_ bS.cps.toList ((d + 5 * (k:Int)) % 36)=some (sign d k):=by
 have h:=MJ (xs:=bS.cps.toList) (z:=0) d (by decide +kernel) k
 rw [mI] at h
 exact h
theorem E9 (d:Int) (k:Nat):fG dT (sign d k)=true:=tG _ (CG d (by decide +kernel) k)
theorem HS (d:Int) {j:Nat} (hi:i < 36) (hj:j < 36) (e:sign d i=sign d j):i=j:=CF d (-7) (-1) FA (by decide +kernel) (by rw [mI];exact hi) (by rw [mI];exact hj) e
theorem Iq {d:Int} {xs:List Str} (hl:xs.length≤36) (h:∀k x,xs[k]?=some x→x.cps.toList[n]?=some (sign d k)):xs.Nodup:=by
 refine W3.mpr λi j hi hj hij e=>?_
 have a:=h i _ (VN hi)
 have b:=h j _ (VN hj)
 rw [e] at a
 rw [a] at b
 have:=HS d (by omega) (by omega) (Option.some.inj b)
 omega
theorem vF {α:Type} (f:α→PV) {xs:List α} {k:Int} (h:0≤k):ly (xs.map f) none (some k)=(xs.take k.toNat).map f:=by
 obtain ⟨j,rfl⟩:∃j:Nat,k=(j:Int):=⟨k.toNat,by omega⟩
 unfold ly
 rw [HT.HI,HT.KP,Yw,Xf,VM,W4]
 rcases Nat.le_total j xs.length with e | e
 ·rw [Nat.min_eq_left e]
  rfl
 ·rw [Nat.min_eq_right e,Nat.sub_zero,← W4,← W4,Xr (VT _),Xr e]
theorem GL (cs:List Nat):((cs.map one).map (·.length)).sum=cs.length:=by
 induction cs with
 | nil=>rfl
 | cons c cs ih =>
  rw [VR,VR,List.sum_cons,ih,V_]
  show 1 + cs.length=cs.length + 1
  omega
theorem Rw {ds:List Int} (hD:Dig ds [3,36,8,36,36,36,36,36,36,36,36,840]):∃(d0 d1 d2 d11:Int) (es:List Int),c_ (ds.map PV.int) 0=some (.int d0)∧c_ (ds.map PV.int) 1=some (.int d1)∧c_ (ds.map PV.int) 2=some (.int d2)∧c_ (ds.map PV.int) 11=some (.int d11) ∧
  ly (ds.map PV.int) (some 3) (some 11)=es.map PV.int∧es.length=8∧(∀e∈es,0≤e∧e < 36)∧0≤d2∧d2 < 8:=by
 obtain ⟨d0,ds,rfl,_,_,hD⟩:=hD.cons
 obtain ⟨d1,ds,rfl,_,_,hD⟩:=hD.cons
 obtain ⟨d2,ds,rfl,d20,d21,hD⟩:=hD.cons
 obtain ⟨a,ds,rfl,a0,a1,hD⟩:=hD.cons
 obtain ⟨b,ds,rfl,b0,b1,hD⟩:=hD.cons
 obtain ⟨c,ds,rfl,c0,c1,hD⟩:=hD.cons
 obtain ⟨d,ds,rfl,d0',d1',hD⟩:=hD.cons
 obtain ⟨e,ds,rfl,e0,e1,hD⟩:=hD.cons
 obtain ⟨f,ds,rfl,f0,f1,hD⟩:=hD.cons
 obtain ⟨g,ds,rfl,g0,g1,hD⟩:=hD.cons
 obtain ⟨h,ds,rfl,h0,h1,hD⟩:=hD.cons
 obtain ⟨x,ds,rfl,_,_,hD⟩:=hD.cons
 cases hD.nil
 refine ⟨d0,d1,d2,x,[a,b,c,d,e,f,g,h],rfl,rfl,rfl,rfl,rfl,rfl,λz hz=>?_,d20,d21⟩
 simp only [V2,WB,or_false] at hz
 rcases hz with rfl | rfl | rfl | rfl | rfl | rfl | rfl | rfl <;> exact ⟨by assumption,by assumption⟩
theorem Ey {o:Addr} {a b:HQ} (hp:J p=none) (ho:J o=none):jx J (put (put J p a) o b):=λx=>by
 by_cases e:x=o
 ·subst e;exact .inr ho
 ·by_cases e2:x=p
  ·subst e2;exact .inr hp
  ·rw [ag e,ag e2];exact .inl rfl
theorem qy {l:Addr} (h:jx J J') (n:J l=none):jx J (put J' l o):=λa=>by
 by_cases e:a=l
 ·subst e;exact .inr n
 ·rw [ag e];exact h a
theorem less_none {l:Addr} (h:jx J J') (n:J' l=none):J l=none:=(h l).elim (λe=>e.trans n) id
theorem PF {p q a b:Prop} [Decidable p] [Decidable q]:(if p then if q then a else b else b)=if p∧q then a else b:=by by_cases hp:p <;> by_cases hq:q <;> simp [hp,hq]
def Az:cI:=λxs J Q _=>∃c m:Int,xs=[.int c,.int m]∧0≤m∧m≤36∧∀ns:List Str,(ns.length:Int)=m→ns.Nodup→(∀x∈ns,good x=true)→Q (.fl (ns.map .str)) J
abbrev pP:Stmt:=(top 54)
abbrev nQ:List Str:=["_law_cell_here","_law_many"]
theorem fF:av ["_law_cell_here","_law_many","_law_signs","_law_row","_law_some","_law_body","_law_at_here","_law_out","_law_k"] ["_law_cell_here","_law_many"] (aq pP):=dO
theorem EM (F:bZ K "_law_names" "_law_names" pP f fd) (Z:bE mg) (k4:b7 P w K mg base 1 "_law_digits" ia Cg):aK P w K mg base (cq P w) 2 f fd nQ (cP K Az):=by
 simp_arith [fF,(ak (aD (i:=2) fF.nd aS)
   (ak (aD (i:=3) fF.nd (aU k4 B hr (af (rv 0) (af (jM (yO [.int 3,.int 36,.int 8,.int 36,.int 36,.int 36,.int 36,.int 36,.int 36,.int 36,.int 36,.int 840] rfl [.int 3,.int 36,.int 8,.int 36,.int 36,.int 36,.int 36,.int 36,.int 36,.int 36,.int 36,.int 840] rfl)) ah))))
   (ak (aY (fj (jg (aG (dh hr.aM) (au aw (rv 3) ai) ai) (f' (aG De (rv 1) ai)))) (ak (aD (i:=4) fF.nd (jM (yO [.str "m",.str "ab",.str "a",.str "zebra9",.str "b0",.str "0",.str "abc",.str "9zz",.str "q7q7q7q7",.str "aa",.str "z",.str "a1b2c3d4"] rfl [.str "m",.str "ab",.str "a",.str "zebra9",.str "b0",.str "0",.str "abc",.str "9zz",.str "q7q7q7q7",.str "aa",.str "z",.str "a1b2c3d4"] rfl)))
   (ar (aB (HE (aq pP) ["_law_cell_here","_law_many","_law_signs","_law_row","_law_some","_law_body","_law_at_here","_law_out","_law_k"] [("_law_row",3),("_law_some",4)] rfl rfl rfl (jP rfl Z.range (af (rv 1) ah)) (λ_ _ _ _ _ _=>(au aw (rv 2) (aJ jb (aJ cU (au aw (rv 1) ai) (aJ bB ai (rv 0))) ai))))))) aR)
   (ak (HH (i:=5) (aq pP) ["_law_cell_here","_law_many","_law_signs","_law_row","_law_some","_law_body","_law_at_here","_law_out","_law_k"] [("_law_signs",2)] rfl rfl rfl fF.nd rfl (Or.inl rfl) (dS (ij H0 (rv 3) (f_ ai) (f_ ai))) (λ_ _ _ _ _ _=>(au F_ (rv 1) (rv 0))))
   (f9 (aY (aG (dh hr.aM) (au aw (rv 3) ai) ai) (ar (aD (i:=5) fF.nd (ij KY (rv 5) m3 (f_ (aJ cU (au aw (rv 3) ai) ai))))) aR)
   (ak (aD (i:=6) fF.nd (aJ jb (au aw (rv 3) ai) (bG ft rfl Z.len boot_len (af (rv 5) ah))))
   (ak (aD (i:=7) fF.nd (fb ah))
   (ak (cV bA rfl (jP rfl Z.range (af (rv 1) ah)) (bq (i:=8) fF.nd) (ak (oz KZ (rv 5) (rv 6) (au F_ (rv 2) (aJ jb (aJ cU (au aw (rv 3) ai) (aJ bB ai (rv 8))) ai)))
   (ar (aV (eV V3 Wb Wc cK (rv 7) (af (eV PySem.F.plainAttrs_str PySem.F.slot_str_join PySem.F.type_str_join JD aS (af (rv 5) ah)) ah))))))
   (ar (aB (rv 7))))))))))),F]
 ·obtain ⟨c,m,rfl,_⟩:=h;rfl
 obtain ⟨c,m,rfl,m0,m1,q⟩:=h
 refine hX ?_
 have ss:=pU (ss:=[3,36,8,36,36,36,36,36,36,36,36,840]) (by decide)
 simp_all! []
 refine ⟨c,[3,36,8,36,36,36,36,36,36,36,36,840],rfl,ss,by decide,λds hD=>?_⟩
 obtain ⟨d0,d1,d2,d11,es,at0,at1,at2,at11,hcut,el,be,d20,d21⟩:=Rw hD
 clear hD
 generalize ds.map PV.int=row at at0 at1 at2 at11 hcut ⊢
 refine hNq _ _ ?_
 clear hNq Nq
 simp_all! [at0]
 rw [PF]
 split
 ·rename_i hc
  simp_all! [Hv]
  obtain ⟨g,hg⟩:∃g:PV→PV,∀i:Int,g (.int i)=.str (pick d1 i.toNat):=⟨λx=>match x with | .int i=>.str (pick d1 i.toNat) | _=>.non,λ_=>rfl⟩
  refine ⟨by omega,by omega,λ_=>true,g,⟨by rw [lJ];exact ba (by omega),λJ' _=>⟨trivial,λx hx=>⟨⟨rfl,rfl⟩,λ_=>?_⟩⟩⟩,?_⟩
  ·obtain ⟨i,hi⟩:=Wv.mp hx
   obtain ⟨i1,rfl⟩:=(tV _ _ _ _).mp hi
   rw [hg]
   simp_arith! [cy,at1,XO]
   exact ⟨.of (Bd.small (by decide) (by decide)) (Bd.small (x:=(i:Int)) (by omega) (by omega)),by decide,gB (Kl d1 i) ⟨by rw [XO,Xf],rfl⟩⟩
  ·have em:((tU 0 m.toNat).filter λ_=>true).map g=((WM m.toNat).map (pick d1)).map PV.str:=by
    rw [Wx.mpr λ_ _=>rfl]
    unfold tU
    rw [VX,VX]
    exact WR λi _=>by show g (.int (0 + (i:Int)))=_;rw [hg,XO,Xf];rfl
   rw [em]
   exact Fg.same (q _ (by rw [VM,X1];omega) (Hc d1 (by omega)) λx hx=>by obtain ⟨k,_,rfl⟩:=VQ.mp hx;exact EZ d1 k)
 refine hNq _ _ ?_
 clear hNq Nq
 have al:=mI
 have al2:bS.length≤sizeLine:=by decide +kernel
 simp_all! [B7,hcut]
 obtain ⟨g,hg⟩:∃g:PV→PV,∀i:Int,g (.int i)=.str (one (bS.cps.toList.getD i.toNat 0)):=⟨λx=>match x with | .int i=>.str (one (bS.cps.toList.getD i.toNat 0)) | _=>.non,λ_=>rfl⟩
 refine ⟨λ_=>true,g,⟨by rw [VM];exact ba (by omega),λJ' _=>⟨trivial,λx hx=>⟨⟨rfl,rfl⟩,λ_=>?_⟩⟩⟩,λD hD=>?_⟩
 ·obtain ⟨z,hz,rfl⟩:=VQ.mp hx
  obtain ⟨z0,z1⟩:=be z hz
  have hj:z.toNat < bS.cps.toList.length:=by rw [al];omega
  have ha:c_ bS.cps.toList z=some (bS.cps.toList.getD z.toNat 0):=by
   have:=bM (xs:=bS.cps.toList) (j:=z.toNat) (VN hj)
   rw [XM z0] at this
   rw [this,XC,VN hj];rfl
  rw [hg]
  simp_arith! [cy,NR]
  exact gB ha ⟨al2,rfl,rfl⟩
 have em:((es.map PV.int).filter λ_=>true).map g=((es.map λz=>bS.cps.toList.getD z.toNat 0).map one).map PV.str:=by
  rw [Wx.mpr λ_ _=>rfl,VX,VX,VX]
  exact WR λz _=>hg z
 rw [em]
 have hcl:(es.map λz=>bS.cps.toList.getD z.toNat 0).length=8:=by rw [VM];exact el
 have hca:∀c∈es.map λz=>bS.cps.toList.getD z.toNat 0,fG dT c=true:=λc hc=>by
  obtain ⟨z,hz,rfl⟩:=VQ.mp hc
  obtain ⟨z0,z1⟩:=be z hz
  have hj:z.toNat < bS.cps.toList.length:=by rw [al];omega
  rw [XC,VN hj]
  exact tG _ (Wi hj)
 generalize (es.map λz=>bS.cps.toList.getD z.toNat 0)=cs at hcl hca
 refine hNq _ _ ?_
 clear hNq Nq
 simp_all! [at0]
 obtain ⟨M,hM⟩:∃M:Sr→Hq→Prop,∀τ' J',M τ' J'↔∃(D:Addr) (cs:List Nat),τ'=[some (.int c),some (.int m),some (.str bS),some (.fl row),none,some (.ref D),none,none,none]∧jx J J'∧J D=none∧0 < cs.length∧cs.length≤8∧(∀c∈cs,fG dT c=true)∧J' D=some (.lst ((cs.map one).map .str)):=⟨_,λ_ _=>Iff.rfl⟩
 refine ⟨M,?_,?_⟩
 ·simp_all! [at0,at2,kK,aj]
  split
  ·rename_i h1
   rw [vF (f:=PV.str) (by omega:(0:Int)≤d2 + 1),← W4]
   intro p4 hp4
   have n4:p4≠D:=λe=>by subst e;rw [aj] at hp4;cases hp4
   have j4:J p4=none:=by rw [ag n4] at hp4;exact hp4
   refine (hM _ _).mpr ⟨p4,cs.take (d2 + 1).toNat,rfl,Ey hD j4,j4,?_,?_,λc hc=>hca c (W2 hc),aj⟩
   ·rw [Wa];omega
   ·rw [Wa];omega
  ·exact (hM _ _).mpr ⟨D,cs,rfl,fv hD,hD,by omega,by omega,hca,aj⟩
 clear hca hcl hD
 intro τ' J' hm
 obtain ⟨D,cs,rfl,lss,hD,l0,l1,hca,hd⟩:=(hM _ _).mp hm
 clear hm hM M
 have hl:((cs.map one).map PV.str).length=cs.length:=by rw [VM,VM]
 simp_all! [at11,hd,hl]
 have a0:=W' d11 (show (cs.length:Int)≠0 by omega)
 have a1:=WZ d11 (show (0:Int) < (cs.length:Int) by omega)
 generalize d11 % (cs.length:Int)=at' at a0 a1 ⊢
 refine ⟨by omega,hNq _ _ ?_⟩
 clear hNq Nq
 simp_all! []
 intro O hO
 have nOD:D≠O:=λe=>by rw [e,hO] at hd;cases hd
 have jO:=less_none lss hO
 refine hNq _ _ ?_
 clear hNq Nq
 simp_all! []
 refine ⟨by omega,by omega,?_⟩
 have e0s:(Str.ofString "").length=0:=by decide +kernel
 obtain ⟨Inv,hInv⟩:∃Inv:Nat→Sr→Hq→Prop,∀i τ J2,Inv i τ J2↔∃(u:Option PV) (cs':List Nat) (xs:List Str),τ=[some (.int c),some (.int m),some (.str bS),some (.fl row),none,some (.ref D),some (.int at'),some (.ref O),u] ∧
  jx J J2∧cs'.length=cs.length∧(∀c∈cs',fG dT c=true)∧J2 D=some (.lst ((cs'.map one).map .str))∧J2 O=some (.lst (xs.map .str))∧xs.length=i∧(∀x∈xs,good x=true)∧∀k x,xs[k]?=some x→x.cps.toList[at'.toNat]?=some (sign d1 k):=⟨_,λ_ _ _=>Iff.rfl⟩
 refine oZ Inv ((hInv _ _ _).mpr ⟨none,cs,[],rfl,qy lss jO,rfl,hca,by rw [ag nOD];exact hd,aj,rfl,(λx hx=>by cases hx),λk x e=>by cases e⟩) ?_ ?_
 ·intro i τ J2 hi hv
  obtain ⟨u,cs',xs,rfl,ls2,hl',hca',hd',ho',hx,hxl,hsg⟩:=(hInv _ _ _).mp hv
  have sg:=KW d1 i
  have ix:Fn ((cs'.map one).map PV.str).length at'=some at'.toNat:=by
   unfold Fn
   rw [if_pos a0,if_pos (by rw [VM,VM,hl'];exact a1)]
  have es':((cs'.map one).map PV.str).set at'.toNat (.str (sgn (sign d1 i)))=((cs'.set at'.toNat (sign d1 i)).map one).map PV.str:=by
   rw [List.map_set,List.map_set]
   rfl
  have lc:(cs'.set at'.toNat (sign d1 i)).length=cs.length:=by rw [XQ,hl']
  have hcn:∀c∈cs'.set at'.toNat (sign d1 i),fG dT c=true:=λc hc=>by
   rcases List.mem_or_eq_of_mem_set hc with h | h
   ·exact hca' c h
   ·rw [h];exact E9 d1 i
  simp_all! [at1,NR,XO]
  refine ⟨.of (Bd.small (by decide) (by decide)) (Bd.small (x:=(i:Int)) (by omega) (by omega)),by decide,gB sg ⟨al2,?_⟩⟩
  simp_all! [hd']
  refine ⟨_,ix,?_⟩
  rw [es']
  refine hNq _ _ ?_
  clear hNq Nq
  have hO2:put J2 D (.lst (((cs'.set at'.toNat (sign d1 i)).map one).map .str)) O=some (.lst (xs.map .str)):=by rw [ag (Ne.symm nOD)];exact ho'
  simp_arith! [cy,LQ,kK,aj,hO2]
  refine ⟨_,rfl,?_,by rw [VM,hx];exact ba (by omega),(hInv _ _ _).mpr ⟨_,cs'.set at'.toNat (sign d1 i),xs ++ [⟨(cs'.set at'.toNat (sign d1 i)).toArray⟩],rfl,qy (qy ls2 hD) jO,lc,hcn,by rw [ag nOD,aj],?_,by rw [VZ,hx];rfl,?_,?_⟩⟩
  ·rw [GL,VM,lc,e0s]
   omega
  ·rw [aj,join_ones,VP];rfl
  ·intro x hx2
   rcases VY.mp hx2 with h | h
   ·exact hxl x h
   ·simp only [V2,WB,or_false] at h
    subst h
    exact Jr (by rw [lc];exact l0) (by rw [lc];exact l1) hcn
  ·intro k x e
   rcases Y8 k xs.length with hk | hk
   ·rw [Xd hk] at e
    exact hsg k x e
   ·rw [XA hk] at e
    have ek:k=i:=by
     cases hz:k - xs.length with
     | zero=>omega
     | succ z=>rw [hz] at e;cases e
    rw [show k - xs.length=0 by omega] at e
    have ex:=Option.some.inj e
    subst ex
    rw [ek]
    show (cs'.set at'.toNat (sign d1 i))[at'.toNat]?=some (sign d1 i)
    rw [Wq (by omega)]
 intro τ J2 hv
 obtain ⟨u,cs',xs,rfl,ls2,hl',hca',hd',ho',hx,hxl,hsg⟩:=(hInv _ _ _).mp hv
 refine hNq _ _ ?_
 simp_arith! [cy]
 exact Fg.rH ls2 ho' jO (q xs (by omega) (Iq (by omega) hsg) hxl)
abbrev N8:Stmt:=(top 55)
abbrev oy:List Str:=["_law_leg","_law_moment"]
theorem Ao:av ["_law_leg","_law_moment","_law_begun","_law_place","_law_way","_law_under"] ["_law_leg","_law_moment"] (aq N8):=dO
theorem Np (F:bZ K "_law_at" "_law_at" N8 f fd) (Z:bE mg) (Fs:b7 P w K mg base 1 "_law_low" lX uQ):aK P w K mg base (cq P w) 2 f fd oy (cP K xj):=by
 simp_arith [Ao,(ak (aD (i:=2) Ao.nd (au aw (rv 0) ai))
   (ak (aD (i:=3) Ao.nd (au aw (rv 0) ai))
   (ak (aD (i:=4) Ao.nd (aJ bB (au aw (rv 0) ai) (aJ g9 (aJ bB (au aw (rv 1) ai) (au aw (rv 2) ai)) (aJ bB (au aw (rv 2) ai) (au aw (rv 1) ai)))))
   (ak (aD (i:=5) Ao.nd (aJ bB (au aw (rv 1) ai) (au aw (rv 2) ai)))
   (ar (aB (aU Fs B hr (af (aJ cU (aJ bB (au aw (rv 3) ai) (rv 5)) (aJ bB (rv 4) (au aw (rv 3) ai))) (af (aJ bB (au aw (rv 3) ai) (rv 5)) ah)))))))))]
 ·obtain ⟨l,t,rfl,_⟩:=h;rfl
 obtain ⟨l,m,rfl,sb,sp,sm,bv,q⟩:=h
 refine hX ?_
 simp_all! [Gh,PL,wN]
 have bn:Bd 1801 (m.num * l.m.den - l.m.num * m.den):=.sub (.mul sm.num sb.den (VT _)) (.mul sb.num sm.den (VT _))
 have bu:Bd 1800 ((m.den:Int) * l.m.den):=.mul sm.den sb.den
 have bw:Bd 1900 (l.v * (m.num * l.m.den - l.m.num * m.den)):=.mul bv bn
 refine ⟨.of sm.num sb.den,.of sb.num sm.den,.of bv bn,?_⟩
 simp_all! []
 refine ⟨.of sm.den sb.den,?_⟩
 simp_all! [uQ]
 refine ⟨.of sp.num bu,.of bw sp.den,.of sp.den bu,Xw (fu _) (Xw (fu _) (fu _)),.mul sp.den bu,?_⟩
 rw [Ph]
 exact q
theorem wM {α:Type} {V:α→PV} {lt:α→α→Bool} {ys:List α} {b:α} {r:Addr} {sp:cI} {E2:Addr→Hq→Prop} {D:En} {τ:Sr} {iO iA iR:Nat}
  (hO:τ[iO]?=some (some (.ref r))) (hR:τ[iR]?=some (some (V b))) (hA:τ[iA]?=some (some (.int 0))) (nO:iA≠iO) (nR:iA≠iR) (hJ:J r=some (.lst (ys.map V)))
  (hb:∀y∈ys,∀R:PV→Hq→Prop,R (.bl (lt y b)) J→sp [V y,V b] J R E2)
  (high:∀{i j:Nat} {x y:α},ys[i]?=some x→ys[j]?=some y→i≤j→lt x b=false→lt y b=false)
  (fin:∀j:Nat,j≤ys.length→(∀(k:Nat) y,k < j→ys[k]?=some y→lt y b=true)→(∀(k:Nat) y,j≤k→ys[k]?=some y→lt y b=false)→D.nx (τ.set iA (some (.int j))) J) :
  Hw (Kv (rB (KG (Hl λi j=>.bl (decide (i < j))) (Ai iA) (Q6 NS (Ag (Ai iO) Ah)))) (rB (Dv sp E2 (Ag (KG TV (Ai iO) (Ai iA)) (Ag (Ai iR) Ah))))) (yM (KG (Hl λi j=>.int (i + j)) (Ai iA) (rC (.int 1))) (Lm iA)) D τ J:=by
 have hl:iA < τ.length:=(VO.mp hA).1
 have sO:∀x,(τ.set iA x)[iO]?=some (some (.ref r)):=λx=>by rw [WO nO];exact hO
 have sR:∀x,(τ.set iA x)[iR]?=some (some (V b)):=λx=>by rw [WO nR];exact hR
 have sA:∀x,(τ.set iA x)[iA]?=some x:=λx=>Wq hl
 refine ⟨λm τ' J'=>∃j:Nat,j≤ys.length∧m=ys.length - j∧τ'=τ.set iA (some (.int j))∧J'=J∧∀(k:Nat) y,k < j→ys[k]?=some y→lt y b=true,⟨ys.length,0,Ww _,rfl,?_,rfl,λk y hk=>by omega⟩,?_⟩
 ·have h2:=List.set_getElem_self hl
  rw [(VO.mp hA).2] at h2
  exact h2.symm
 rintro m τ' J' ⟨j,hj,rfl,rfl,rfl,hlow⟩
 simp_all! [sO,sA,hJ,VM]
 by_cases c0:j < ys.length
 ·rw [if_pos (by omega)]
  obtain ⟨y,hy⟩:∃y,ys[j]?=some y:=⟨_,VN c0⟩
  have ha:c_ (ys.map V) (j:Int)=some (V y):=bM (by rw [VS,hy];rfl)
  simp_all! [sO,sA,sR,hJ,ha]
  refine hb y (V0 hy) _ ?_
  refine Nr rfl ?_
  cases hc:lt y b with
  | true =>
   rw [if_pos rfl]
   obtain ⟨N,hN⟩:∃N:Sr→Hq→Prop,∀τ' J'',N τ' J''↔∃i:Nat,i≤ys.length∧ys.length - (j + 1)=ys.length - i∧τ'=τ.set iA (some (.int i))∧J''=J'∧∀(k:Nat) y,k < i→ys[k]?=some y→lt y b=true:=⟨_,λ_ _=>Iff.rfl⟩
   refine ⟨N,λτ'' J'' h=>⟨ys.length - (j + 1),by omega,(hN _ _).mp h⟩,?_⟩
   simp_arith! [cy,sA]
   refine (hN _ _).mpr ⟨j + 1,by omega,rfl,by rw [List.set_set,Int.natCast_succ],rfl,λk z hk e=>?_⟩
   rcases XW (Nat.lt_succ_iff.mp hk) with h | h
   ·exact hlow k z h e
   ·subst h;rw [hy] at e;cases e;exact hc
  | false =>
   rw [if_neg (by decide)]
   exact fin j hj hlow λk z hk e=>high hy e hk hc
 ·rw [if_neg (by omega)]
  exact fin j hj hlow λk z hk e=>by rw [WG (by omega)] at e;cases e
variable {X:Cx}
theorem ni.or {f:Value→Value→Sem Value} {q q':n_} (h:ni X f q) (h':ni X f q'):ni X f (λx y J Q=>q x y J Q∨q' x y J Q):=by
 obtain ⟨r,a,lr⟩:=h
 obtain ⟨r',a',lr'⟩:=h'
 refine ⟨λx y H Q=>r x y H Q∨r' x y H Q,λpins s σ H x y v u Q I rx ry h=>?_,λJ H x y v w Q2 Q rx ry rr h k=>?_⟩
 ·rcases h with h | h
  ·exact a pins s σ H x y v u Q I rx ry h
  ·exact a' pins s σ H x y v u Q I rx ry h
 ·rcases h with h | h
  ·exact .inl (lr J H x y v w Q2 Q rx ry rr h k)
  ·exact .inr (lr' J H x y v w Q2 Q rx ry rr h k)
def Ky.V (k:Ky):PV:=.tup [fr k.p,.int k.v,.str k.n]
theorem PJ (J:Hq) (k:Ky):iD J k.V (.int 0)=some (fr k.p):=eQ _ _
theorem PK (J:Hq) (k:Ky):iD J k.V (.int 1)=some (.int k.v):=iJ _ _ _
theorem Lu (J:Hq) (k:Ky):iD J k.V (.int 2)=some (.str k.n):=rF _ _ _ _
theorem R9 (p:Rat) (v:Int) (n:Str):PV.tup [fr p,.int v,.str n]=(Ky.mk p v n).V:=rfl
theorem qp (p q:Rat):(p.num * (q.den:Int) < q.num * (p.den:Int))=(p < q):=propext (Rat.lt_iff p q).symm
abbrev uA:Stmt:=(top 56)
abbrev h_:List Str:=["_law_one","_law_two"]
theorem qW:av ["_law_one","_law_two","_law_here","_law_there"] ["_law_one","_law_two"] (aq uA):=dO
def uL:cI:=λxs J Q _=>(∃a b:Ky,xs=[a.V,b.V]∧Sz 9000 a.p∧Sz 9000 b.p∧Q (.bl (a.lt b)) J)∨(∃a b:ax,xs=[a.v,b.v]∧Sz 9000 a.m∧Sz 9000 b.m∧Q (.bl (a.lt b)) J)
theorem BC (F:bZ K "_law_before" "_law_before" uA f fd) (Z:bE mg):aK P w K mg base (cq P w) 1 f fd h_ (cP K uL):=by
 simp_arith [qW,(ak (aD (i:=2) qW.nd (aJ bB (au aw (au aw (rv 0) ai) ai) (au aw (au aw (rv 1) ai) ai)))
   (ak (aD (i:=3) qW.nd (aJ bB (au aw (au aw (rv 1) ai) ai) (au aw (au aw (rv 0) ai) ai)))
   (ak (aY (aG (g8 hr.aM) (rv 2) (rv 3)) (ar (aB (fA lU (rv 2) (rv 3)))) aR)
   (ak (aY (aG (g8 hr.aM) (au aw (rv 0) ai) (au aw (rv 1) ai)) (ar (aB (fA (ni.or lU BK) (au aw (rv 0) ai) (au aw (rv 1) ai)))) aR)
   (ar (aB (fA BK (au aw (rv 0) ai) (au aw (rv 1) ai))))))))]
 ·rcases h with ⟨a,b,rfl,_⟩ | ⟨a,b,rfl,_⟩ <;> rfl
 refine hX ?_
 rcases h with ⟨a,b,rfl,sa,sb,q⟩ | ⟨a,b,rfl,sa,sb,q⟩
 ·simp_arith! [cy,PJ,PK,Lu]
  refine ⟨.of sa.num sb.den,.of sb.num sa.den,?_⟩
  unfold Ky.lt at q
  by_cases e:a.p=b.p
  ·rw [if_pos e] at q
   rw [if_pos ((mL _ _).mpr e)]
   by_cases k:a.v=b.v
   ·rw [if_pos k] at q ⊢;exact q
   ·rw [if_neg k] at q ⊢;exact .inl q
  ·rw [if_neg e] at q
   rw [if_neg (λz=>e ((mL _ _).mp z))]
   simp only [qp]
   exact q
 ·simp_arith! [cy,Gg,Lp,Lq]
  refine ⟨.of sa.num sb.den,.of sb.num sa.den,?_⟩
  unfold ax.lt at q
  by_cases e:a.m=b.m
  ·rw [if_pos e] at q
   rw [if_pos ((mL _ _).mpr e)]
   by_cases k:a.h=b.h
   ·rw [if_pos k] at q ⊢;exact q
   ·rw [if_neg k] at q ⊢;exact .inr q
  ·rw [if_neg e] at q
   rw [if_neg (λz=>e ((mL _ _).mp z))]
   simp only [qp]
   exact q
abbrev sS:Stmt:=(top 57)
abbrev jf:List Str:=["_law_legs","_law_moment"]
theorem jR:av ["_law_legs","_law_moment","_law_out","_law_name","_law_row","_law_at_here"] ["_law_legs","_law_moment"] (aq sS):=dO
def uT:cI:=λxs J Q _=>∃(D:Addr) (fs:List (Str × bQ)) (ep:Nat) (t:Rat),xs=[.ref D,fr t]∧J D=some (.dct (fL fs) ep)∧(fs.map (·.1)).Nodup∧fs.length≤100∧Sz 900 t∧(∀x∈fs,oO 900 x.2)∧Q (.fl ((bT t fs).map .str)) J
theorem EO (F:bZ K "_law_order" "_law_order" sS f fd) (Z:bE mg) (IL:b7 P w K mg base 2 "_law_at" oy xj) (sX:b7 P w K mg base 1 "_law_before" h_ uL):aK P w K mg base (cq P w) 3 f fd jf (cP K uT):=by
 simp_arith [jR,(ak (aD (i:=2) jR.nd (fb ah))
   (ak (cV bA rfl (ki (rv 0)) (bq (i:=3) jR.nd) (ak (aD (i:=4) jR.nd (bP (af (aU IL B hr (af (au bO (rv 0) (rv 3)) (af (rv 1) ah))) (af (au aw (au bO (rv 0) (rv 3)) ai) (af (rv 3) ah)))))
   (ak (aD (i:=5) jR.nd ai)
   (ak (ik bA (fj (jg (aG lU (rv 5) (bG ft rfl Z.len boot_len (af (rv 2) ah))) (f' (cm (aU sX B hr (af (au aw (rv 2) (rv 5)) (af (rv 4) ah))))))) (ar (aD (i:=5) jR.nd (aJ cU (rv 5) ai))))
   (ar (aV (eV V3 W6 Xg mS (rv 2) (af (rv 5) (af (rv 4) ah)))))))))
   (ar (aB (HE (aq sS) ["_law_legs","_law_moment","_law_out","_law_name","_law_row","_law_at_here"] [] rfl rfl rfl (dS (rv 2)) (λ_ _ _ _ _ _=>(au aw (rv 0) ai))))))),F]
 ·obtain ⟨D,fs,ep,t,rfl,_⟩:=h;rfl
 obtain ⟨D,fs,ep,t,rfl,hD,hnd,hlen,st,sl,q⟩:=h
 refine hX ?_
 simp_all! []
 intro r hr'
 have nDr:D≠r:=by intro e;subst e;rw [hD] at hr';cases hr'
 simp_all! [ag nDr,hD]
 have hkv:(fL fs).map (λkv=>PV.str kv.1)=fs.map λx=>PV.str x.1:=by unfold fL;rw [VX];rfl
 rw [hkv]
 obtain ⟨Inv,hInv⟩:∃Inv:Nat→Sr→Hq→Prop,∀i τ J',Inv i τ J'↔∃(u3 u4 u5:Option PV),τ=[some (.ref D),some (fr t),some (.ref r),u3,u4,u5]∧J'=put J r (.lst ((fm ((fs.take i).map (key t))).map Ky.V)):=⟨_,λ_ _ _=>Iff.rfl⟩
 refine dW Inv ((hInv _ _ _).mpr ⟨_,_,_,rfl,rfl⟩) (λi τ J' h=>?_) ?_ ?_
 ·obtain ⟨_,_,_,_,rfl⟩:=(hInv _ _ _).mp h
  rw [ag nDr];exact hD
 ·intro i x τ J' hx hv
  obtain ⟨u3,u4,u5,rfl,rfl⟩:=(hInv _ _ _).mp hv
  clear hv
  have hi:i < fs.length:=by have:=(VO.mp hx).1;simpa using this
  rw [VS,VN hi] at hx
  cases hx
  rcases hfi:fs[i] with ⟨n,l⟩
  have hmem:(n,l)∈fs:=by rw [← hfi];exact Wi hi
  have et:fs.take (i + 1)=fs.take i ++ [(n,l)]:=by rw [V',VN hi,hfi];rfl
  have hndt:((fs.take i).map (·.1)).Nodup:=by rw [W4];exact hnd.sublist (WU _ _)
  obtain ⟨ys,hys⟩:∃ys,fm ((fs.take i).map (key t))=ys:=⟨_,rfl⟩
  have srt:r8 Ky.lt ys:=by rw [← hys];exact g_ (by rw [fh];exact hndt)
  have hyl:ys.length=i:=by rw [← hys,pw,VM,Wa];omega
  have hym:∀y∈ys,Sz 9000 y.p:=λy hy=>by
   rw [← hys,cx,VQ] at hy
   obtain ⟨x',hx',rfl⟩:=hy
   exact (lq (sl x' (W2 hx')) st).mono (by decide)
  have en:fm ((fs.take (i + 1)).map (key t))=sf Ky.lt (key t (n,l)) ys:=by rw [et,VP,VR,Wj,jG,hys]
  rw [hys]
  have hvn:gP (fL fs) n=some l.V:=fZ (f:=bQ.V) hnd hmem
  have sll:=sl _ hmem
  simp_all! [ag nDr,hD,hvn]
  refine ⟨l,t,rfl,sll.m,sll.p,st,sll.v,?_⟩
  simp_all! [ag nDr,hD,hvn,wN,R9]
  have ek:(Ky.mk (l.at t) l.v n)=key t (n,l):=rfl
  rw [ek]
  have skn:Sz 9000 (key t (n,l)).p:=(lq sll st).mono (by decide)
  generalize key t (n,l)=kn at en skn ⊢
  refine wM (V:=Ky.V) (lt:=Ky.lt) (ys:=ys) (b:=kn) (iO:=2) (iA:=5) (iR:=4) rfl rfl rfl (by decide) (by decide) aj (λy hy R hR=>.inl ⟨y,kn,rfl,hym y hy,skn,hR⟩) (λhx hy h k=>Fb (lt:=Ky.lt) Ky.tr srt hx hy h k) λj hj hlow hhigh=>?_
  simp_all! [aj]
  refine ⟨_,j,rfl,rfl,by rw [VM];exact hj,ba (by rw [VM];omega),by omega,?_⟩
  rw [bI]
  refine (hInv _ _ _).mpr ⟨_,_,_,rfl,?_⟩
  rw [en,← C0 hj hlow hhigh,VP,VR,W4,XX]
 ·intro τ J' hv
  obtain ⟨u3,u4,u5,rfl,rfl⟩:=(hInv _ _ _).mp hv
  rw [VM,Wg]
  simp_all! [Hv,aj]
  refine ⟨λ_=>true,(λx=>match x with | .tup [_,_,n]=>n | _=>.non),⟨ba (by rw [VM,pw,VM];omega),λJ2 hs=>⟨hs _ _ aj,λx hx=>⟨⟨rfl,rfl⟩,λ_=>?_⟩⟩⟩,?_⟩
  ·obtain ⟨y,hy,rfl⟩:=VQ.mp hx
   simp_arith! [cy,Lu]
   rfl
  ·rw [Wx.mpr λ_ _=>rfl,VX]
   have e:(bT t fs).map PV.str=(fm (fs.map (key t))).map ((λx=>match x with | .tup [_,_,n]=>n | _=>.non) ∘ Ky.V):=by unfold bT;rw [VX];rfl
   rw [e] at q
   exact Fg.less (fv hr') q
def sv:Option Str→PV
 | none=>.non
 | some s=>.str s
def bz.V (r:bz):PV:=.tup [fr r.m,sv r.l]
theorem AJ (m:Rat) (l:Option Str):PV.tup [fr m,sv l]=(bz.mk m l).V:=rfl
theorem Lr (J:Hq) (r:bz):iD J r.V (.int 0)=some (fr r.m):=eQ _ _
theorem C4 (J:Hq) (r:bz):iD J r.V (.int 1)=some (sv r.l):=iJ _ _ _
theorem yK (l:Option Str):jw (sv l)=true:=by cases l <;> simp [sv,jw]
theorem FH (l:Option Str):II (sv l)=True:=by cases l with | none=>exact FF | some s=>exact FG s
theorem Lj (a b:Option Str):eqQ (sv a) (sv b)=decide (a=b):=by
 cases a with
 | none=>cases b with
  | none=>exact eq_self _
  | some s=>unfold sv eqQ dw gK;simp
 | some x=>cases b with
  | none=>unfold sv eqQ dw gK;simp
  | some s=>simp only [sv,eq_str,Option.some.injEq]
structure IK (cC:Addr) (J:Hq) (p r:Addr) (gs:List Str) (rows:List bz):Prop where
 o:J p=some (.ins cC [("group",.tup (gs.map .str)),("rows",.ref r)])
 l:J r=some (.lst (rows.map bz.V))
variable {cC:Addr}
theorem IK.ne {r:Addr} {gs:List Str} {rows:List bz} (h:IK cC J p r gs rows):r≠p:=by
 intro e;subst e;have:=h.o;rw [h.l] at this;cases this
theorem Tr (a b:PV):([("group",a),("rows",b)]:List (Str × PV)).lookup ("group":Str)=some a:=rfl
theorem EA (a b:PV):([("group",a),("rows",b)]:List (Str × PV)).lookup ("rows":Str)=some b:=rfl
theorem Jv (a b:PV) (h:(m == ("group":Str))=false) (k:(m == ("rows":Str))=false):([("group",a),("rows",b)]:List (Str × PV)).lookup m=none:=by rw [Wo,h];simp only;rw [Wo,k];rfl
theorem Tn (a b:PV):([("group",a),("rows",b)]:List (Str × PV)).lookup ("foremost":Str)=none:=Jv a b (by decide +kernel) (by decide +kernel)
theorem To (a b:PV):([("group",a),("rows",b)]:List (Str × PV)).lookup ("note":Str)=none:=Jv a b (by decide +kernel) (by decide +kernel)
theorem Tp (a b:PV):([("group",a),("rows",b)]:List (Str × PV)).lookup ("leader":Str)=none:=Jv a b (by decide +kernel) (by decide +kernel)
theorem Tq (a b:PV):([("group",a),("rows",b)]:List (Str × PV)).lookup ("story":Str)=none:=Jv a b (by decide +kernel) (by decide +kernel)
theorem Qh:(("group":Str)=("rows":Str))=False:=eq_false (by decide +kernel)
abbrev fT:Stmt:=(inClass (top 23) 6)
abbrev fz:List Str:=["self","order"]
theorem iX:av ["self","order","name"] ["self","order"] (aq fT):=dO
def y_ (cC:Addr):cI:=λxs J Q _=>∃p fs gs x os,xs=[.ref p,x]∧J p=some (.ins cC fs)∧fs.lookup ("group":Str)=some (.tup (gs.map .str))∧kK J x=some (os.map .str)∧Q (sv (aQ gs os)) J
theorem pj (F:bZ K "foremost" "Crown.foremost" fT f fd) (Z:bE mg) (Rv:mg "reversed"=none) (bx:cR K mg "Crown" cC) (dk:ay K cC "group"):aK P w K mg base (cq P w) 1 f fd fz (cP K (y_ cC)):=by
 simp_arith [iX,(ak (cV bA rfl (N0 rfl Rv (af (rv 1) ah)) (bq (i:=2) iX.nd) (ar (aY (aG GQ (rv 2) (aH bx.cl dk (rv 0))) (ar (aB (rv 2))) aR)))
   (ar (aB l9)))]
 ·obtain ⟨p,fs,gs,x,os,rfl,_⟩:=h;rfl
 obtain ⟨p,fs,gs,x,os,rfl,hp,hg,hx,q⟩:=h
 refine hX ?_
 simp_all! [U7]
 refine ⟨os.map .str,hx,?_⟩
 obtain ⟨Inv,hInv⟩:∃Inv:Nat→Sr→Hq→Prop,∀i τ J',Inv i τ J'↔∃(u:Option PV),τ=[some (.ref p),some x,u]∧J'=J∧aQ gs os=aQ gs (os.take (os.length - i)):=⟨_,λ_ _ _=>Iff.rfl⟩
 refine dW Inv ((hInv _ _ _).mpr ⟨_,rfl,rfl,by rw [Nat.sub_zero,Wg]⟩) (λi τ J' hv=>by obtain ⟨u,_,rfl,_⟩:=(hInv _ _ _).mp hv;exact hx) ?_ ?_
 ·intro i y τ J' hy hv
  obtain ⟨u,rfl,rfl,hf⟩:=(hInv _ _ _).mp hv
  have hi:i < os.length:=by have:=(VO.mp hy).1;simpa using this
  rw [Y9 (by simpa using hi),VM,VS,VN (by omega)] at hy
  cases hy
  have et:os.take (os.length - i)=os.take (os.length - (i + 1)) ++ [os[os.length - 1 - i]'(by omega)]:=by
   have e1:os.length - i=(os.length - 1 - i) + 1:=by omega
   have e2:os.length - (i + 1)=os.length - 1 - i:=by omega
   rw [e1,e2,V',VN (by omega)];rfl
  rw [et,i7] at hf
  simp_all! [hp,hg,Hm]
  refine ⟨gs,rfl,?_⟩
  split
  ·rename_i c
   rw [if_pos (by simpa using c)] at hf
   rw [hf] at q;exact q
  ·rename_i c
   rw [if_neg (by simpa using c)] at hf
   exact (hInv _ _ _).mpr ⟨_,rfl,rfl,hf⟩
 ·intro τ J' hv
  obtain ⟨u,rfl,rfl,hf⟩:=(hInv _ _ _).mp hv
  simp_all! []
  have:aQ gs os=none:=by rw [hf];simp [aQ]
  rw [this] at q;exact q
theorem Tj (a:PV):([("group",a)]:List (Str × PV)).lookup ("foremost":Str)=none:=by rw [Wo,(by decide +kernel:(("foremost":Str) == ("group":Str))=false)];rfl
abbrev fS:Stmt:=(inClass (top 23) 0)
abbrev iT:List Str:=["self","names","moment","order"]
theorem pR:av ["self","names","moment","order"] ["self","names","moment","order"] (aq fS):=dO
def DD (cC:Addr):cI:=λxs J Q _=>∃p gs m x os,xs=[.ref p,.tup (gs.map .str),fr m,x]∧J p=some (.ins cC [])∧kK J x=some (os.map .str)∧x≠.ref p∧∀r,J r=none→Q .non (put (put J r (.lst [(bz.mk m (aQ gs os)).V])) p (.ins cC [("group",.tup (gs.map .str)),("rows",.ref r)]))
theorem Ni {x:PV} {ys:List PV} (h:kK J x=some ys) (n:x≠.ref p):kK (put J p o) x=some ys:=by
 rcases o_ h with rfl | ⟨a,rfl,ha⟩
 ·rfl
 ·rw [Gr,ag (λe=>n (by rw [e])),ha]
theorem vM (F:bZ K "__init__" "Crown.__init__" fS f fd) (bx:cR K mg "Crown" cC) (bh:ay K cC "rows") (dk:ay K cC "group") (cJ:bU P w K mg base cC 1 "foremost" fz (y_ cC)):aK P w K mg base (cq P w) 2 f fd iT (cP K (DD cC)):=by
 simp_arith [pR,(ak (dt bx.cl dk (rv 0) (rv 1))
   (ar (dt bx.cl bh (rv 0) (fb (af (bP (af (rv 2) (af (a_ (pl:=_) cJ B hr (rv 0) (af (rv 3) ah)) ah))) ah)))))]
 ·obtain ⟨p,gs,m,x,os,rfl,_⟩:=h;rfl
 obtain ⟨p,gs,m,x,os,rfl,hp,hx,hn,q⟩:=h
 refine hX ?_
 simp_all! [hp]
 refine ⟨by decide,hNq _ _ ?_⟩
 clear hNq Nq
 simp_all! [aj]
 refine ⟨Tj _,p,_,gs,x,os,rfl,aj,rfl,Ni hx hn,?_⟩
 intro r hr'
 have t8:p≠r:=by intro e;subst e;rw [aj] at hr';cases hr'
 have hr0:J r=none:=by rw [ag (Ne.symm t8)] at hr';exact hr'
 refine dP (by rw [ag t8];exact aj) ⟨by show (1:Nat) < 1000;decide,?_⟩
 rw [Af (J:=J) t8,bI,AJ]
 have e:iH ("rows":Str) (.ref r) ([("group",.tup (gs.map .str))]:List (Str × PV))=([("group",.tup (gs.map .str)),("rows",.ref r)]:List (Str × PV)):=by simp only [iH,Qh,if_false]
 rw [e]
 exact q r hr0
abbrev km:Stmt:=(inClass (top 23) 1)
abbrev nG:List Str:=["self","moment","order"]
theorem nU:av ["self","moment","order","leading"] ["self","moment","order"] (aq km):=dO
def DE (cC:Addr):cI:=λxs J Q _=>∃p r gs rows t x os,xs=[.ref p,fr t,x]∧IK cC J p r gs rows∧rows≠[]∧rows.length≤900∧kK J x=some (os.map .str)∧Q .non (put J r (.lst ((cu rows t (aQ gs os)).map bz.V)))
theorem vN (F:bZ K "note" "Crown.note" km f fd) (Z:bE mg) (bx:cR K mg "Crown" cC) (bh:ay K cC "rows") (cJ:bU P w K mg base cC 1 "foremost" fz (y_ cC)):aK P w K mg base (cq P w) 2 f fd nG (cP K (DE cC)):=by
 simp_arith [nU,(ak (aD (i:=3) nU.nd (a_ (pl:=_) cJ B hr (rv 0) (af (rv 2) ah)))
   (f9 (aY (aG (dh hr.aM) (au aw (au aw (aH bx.cl bh (rv 0)) (ux oJ ai)) ai) (rv 1)) (ar (aV (HB V3 Zd Ze Gy (aH bx.cl bh (rv 0))))) aR)
   (ak (aY (fj (jg (N6 (aH bx.cl bh (rv 0))) (f' (aG (dh hr.aM) (au aw (au aw (aH bx.cl bh (rv 0)) (ux oJ ai)) ai) (rv 3))))) (ar KO) aR)
   (ar (aV (eV V3 Wb Wc cK (aH bx.cl bh (rv 0)) (af (bP (af (rv 1) (af (rv 3) ah))) ah)))))))]
 ·obtain ⟨p,r,gs,rows,t,x,os,rfl,_⟩:=h;rfl
 obtain ⟨p,r,gs,rows,t,x,os,rfl,b,hne,hl,hx,q⟩:=h
 obtain ⟨ls,l,rfl⟩:∃ls l,rows=ls ++ [l]:=⟨rows.dropLast,rows.getLast hne,(W7 hne).symm⟩
 have bo:=b.o
 have bl:=b.l
 have npr:=b.ne
 have hla:c_ ((ls ++ [l]).map bz.V) (-1)=some l.V:=by rw [VP];exact mK _ _
 have er:eR (ls ++ [l]) t=if l.m=t then ls else ls ++ [l]:=by
  unfold eR
  simp only [Wl,Xu,Option.some.injEq,W0]
 refine hX ?_
 simp_all! [bo]
 refine ⟨Tn _ _,p,_,gs,x,os,rfl,bo,Tr _ _,hx,?_⟩
 generalize hld:aQ gs os=ld at q ⊢
 simp_all! []
 obtain ⟨M,hM⟩:∃M:Sr→Hq→Prop,∀τ' J',M τ' J'↔τ'=[some (.ref p),some (fr t),some x,some (sv ld)]∧J'=put J r (.lst ((eR (ls ++ [l]) t).map bz.V)):=⟨_,λ_ _=>Iff.rfl⟩
 refine ⟨M,?_,?_⟩
 ·simp_all! [bo,bl,EA,hla,Lr]
  split
  ·rename_i e
   refine ⟨l.V,by simp,(hM _ _).mpr ⟨rfl,?_⟩⟩
   rw [er,if_pos e,VP,VR,Wj,W0]
  ·rename_i e
   exact (hM _ _).mpr ⟨rfl,by rw [er,if_neg e,B4 bl]⟩
 ·intro τ' J' hm
  obtain ⟨rfl,rfl⟩:=(hM _ _).mp hm
  clear hm hM M
  have hrl:=qo (ls ++ [l]) t
  unfold cu at q
  generalize eR (ls ++ [l]) t=rest at q hrl ⊢
  unfold vD at q
  rcases WI rest with rfl | ⟨ks,k,rfl⟩
  ·simp only [List.getLast?_nil,Option.map_none,reduceCtorEq,if_false,List.nil_append] at q
   simp_all! [ag (Ne.symm npr),bo,EA,bI,AJ]
   exact ⟨ba (by decide),q⟩
  ·rw [WJ] at *
   rw [Wl,Xu] at q
   have hk:c_ ((ks ++ [k]).map bz.V) (-1)=some k.V:=by rw [VP];exact mK _ _
   simp_all! [ag (Ne.symm npr),bo,EA,bI,AJ,hk,C4,VM,FH,yK,Lj]
   rw [if_pos (by simp)]
   by_cases e:k.l=ld
   ·rw [if_pos e];rw [if_pos (congrArg some e)] at q;exact q
   ·rw [if_neg e];rw [if_neg (λz=>e (Option.some.inj z))] at q
    refine hNq _ _ ?_
    clear hNq Nq
    simp_all! [ag (Ne.symm npr),bo,EA,bI,AJ]
    refine ⟨ba (by rw [VM];omega),?_⟩
    rw [VP] at q
    exact q
abbrev ip:Stmt:=(inClass (top 23) 2)
abbrev kM:List Str:=["self"]
theorem sC:av ["self"] ["self"] (aq ip):=dO
def xi (cC:Addr):cI:=λxs J Q _=>∃p r gs rows l,xs=[.ref p]∧IK cC J p r gs rows∧rows.getLast?=some l∧Q (sv l.l) J
theorem si (F:bZ K "leader" "Crown.leader" ip f fd) (Z:bE mg) (bx:cR K mg "Crown" cC) (bh:ay K cC "rows"):aK P w K mg base (cq P w) 1 f fd kM (cP K (xi cC)):=by
 simp_arith [sC,(ar (aB (au aw (au aw (aH bx.cl bh (rv 0)) (ux oJ ai)) ai)))]
 ·obtain ⟨p,r,gs,rows,l,rfl,_⟩:=h;rfl
 obtain ⟨p,r,gs,rows,l,rfl,b,hl,q⟩:=h
 have hla:c_ (rows.map bz.V) (-1)=some l.V:=Jh (by rw [List.getLast?_map,hl];rfl)
 refine hX ?_
 simp_all! [b.o,b.l,EA,hla,C4]
 exact q
abbrev ji:Stmt:=(inClass (top 23) 3)
abbrev lV:List Str:=["self"]
theorem uD:av ["self"] ["self"] (aq ji):=dO
def Ar (cC:Addr):cI:=λxs J Q _=>∃p r gs rows,xs=[.ref p]∧IK cC J p r gs rows∧(Q (.fl (rows.map bz.V)) J∨∀l,J l=none→Q (.ref l) (put J l (.lst (rows.map bz.V))))
theorem t9 (F:bZ K "story" "Crown.story" ji f fd) (Z:bE mg) (bx:cR K mg "Crown" cC) (bh:ay K cC "rows"):aK P w K mg base (cq P w) 1 f fd lV (cP K (Ar cC)):=by
 simp_arith [uD,(ar (aB (dq jA rfl Z.list boot_list (af (aH bx.cl bh (rv 0)) ah)))),F]
 ·obtain ⟨p,r,gs,rows,rfl,_⟩:=h;rfl
 obtain ⟨p,r,gs,rows,rfl,b,q⟩:=h
 have bo:=b.o
 have bl:=b.l
 refine hX ?_
 simp_all! [bo,bl,EA]
 intro l hl
 rcases q with q | q
 ·exact Fg.rH (fv hl) aj hl q
 ·exact Fg.same (q l hl)
def dH (cs:List Cf) (t:Rat):List (Str × bQ):=cs.filterMap λc=>if L2.there c.w c.g t=true then (gX c.w t).map λl=>(c.n,l) else none
theorem xp (cs:List Cf) (c:Cf) (t:Rat):dH (cs ++ [c]) t=dH cs t ++ (if L2.there c.w c.g t=true then (gX c.w t).map λl=>(c.n,l) else none).toList:=by
 unfold dH
 rw [List.filterMap_append]
 refine congrArg (_ ++ ·) ?_
 rw [Wh]
 cases (if L2.there c.w c.g t=true then (gX c.w t).map λl=>(c.n,l) else none) <;> rfl
variable {cs:List Cf}
theorem IB (h:there c.w c.g t=true) (hl:gX c.w t=some l):dH (cs ++ [c]) t=dH cs t ++ [(c.n,l)]:=by rw [xp,if_pos h,hl];rfl
theorem La (h:there c.w c.g t=false):dH (cs ++ [c]) t=dH cs t:=by rw [xp,if_neg (by rw [h];decide)];exact WX _
theorem IA {x:Str × bQ} (h:x∈dH cs t):∃c∈cs,there c.w c.g t=true∧x.1=c.n∧gX c.w t=some x.2:=by
 obtain ⟨c,hc,e⟩:=Xt.mp h
 by_cases q:there c.w c.g t=true
 ·rw [if_pos q] at e
  obtain ⟨l,hl,e2⟩:=Xs.mp e
  subst e2
  exact ⟨c,hc,q,rfl,hl⟩
 ·rw [if_neg q] at e;cases e
theorem AL (cs:List Cf) (t:Rat):((dH cs t).map (·.1)).Sublist (cs.map Cf.n):=by
 induction cs with
 | nil=>exact List.Sublist.refl _
 | cons c cs ih =>
  have e:dH (c :: cs) t=(if L2.there c.w c.g t=true then (gX c.w t).map λl=>(c.n,l) else none).toList ++ dH cs t:=by
   unfold dH
   rw [Wh]
   cases (if L2.there c.w c.g t=true then (gX c.w t).map λl=>(c.n,l) else none) <;> rfl
  rw [e,VP,VR]
  by_cases q:there c.w c.g t=true
  ·rw [if_pos q]
   cases hl:gX c.w t with
   | none=>exact (ih.cons _)
   | some l=>exact ih.cons₂ _
  ·rw [if_neg q];exact ih.cons _
theorem K' (h:(cs.map Cf.n).Nodup):((dH cs t).map (·.1)).Nodup:=h.sublist (AL cs t)
theorem AK (cs:List Cf) (t:Rat):(dH cs t).length≤cs.length:=List.length_filterMap_le _ _
theorem Iz (h:∀c∈cs,∀l∈c.w,oO n l):∀x∈dH cs t,oO n x.2:=λx hx=>by
 obtain ⟨c,hc,hb,_,hl⟩:=IA hx
 obtain ⟨l,h1,h2,_⟩:=AH hb
 rw [hl] at h1;cases h1
 exact h c hc _ h2
theorem Ez {o:Addr} {a b:HQ} (hp:J p=none) (ho:J o=none):jx J (put (put J p a) o b):=λx=>by
 by_cases e:x=o
 ·subst e;exact .inr ho
 ·by_cases e2:x=p
  ·subst e2;exact .inr hp
  ·rw [ag e,ag e2];exact .inl rfl
abbrev eZ:Stmt:=(inClass (top 46) 19)
abbrev jK:List Str:=["self","moment"]
theorem jQ:av ["self","moment","legs"] ["self","moment"] (aq eZ):=dO
def uS (cN cL eN:Addr):cI:=λxs J Q E=>∃(p:Addr) (L:Ln) (t:Rat),xs=[.ref p,fr t]∧bV cN cL J p L∧bW L∧Sz 900 t∧(t < 0∨L.t < t→E eN J)∧(0≤t→t≤L.t→Q (.fl ((bT t (dH L.cs t)).map .str)) J∨∀l,J l=none→Q (.ref l) (put J l (.lst ((bT t (dH L.cs t)).map .str))))
theorem qD {eN:Addr} (F:bZ K "order_at" "Lane.order_at" eZ f fd) (Z:bE mg) (N:qj K mg) (az:cR K mg "Lane" cN) (aE:ay K cN "now") (aW:ay K cN "logs") (dz:Own K mg "NotThere" eN) (fi:bU P w K mg base cL 2 "there" ka (uP cL)) (eA:bU P w K mg base cL 3 "leg_at" je (uO cL eN)) (dM:b7 P w K mg base 1 "less" gL dj) (nZ:b7 P w K mg base 6 "in_order" lZ q_):aK P w K mg base (cq P w) 7 f fd jK (cP K (uS cN cL eN)):=by
 obtain ⟨aN,gN,sN⟩:=N
 have rN:∀(J:Hq) (H:Hp),cS K J H (fr 0) (.ref aN):=λJ H=>⟨aN,_,rfl,sN H,⟨_,_,rfl,rfl,_,_,rfl,rfl,rfl⟩⟩
 simp_arith [jQ,(ak (aY (fj (nT (cm (aU dM B hr (af (rv 1) (af (fB (v:=.ref aN) (fr 0) rfl gN rfl rN) ah)))) (jh (cm (aU dM B hr (af (aH az.cl aE (rv 0)) (af (rv 1) ah))))))) (ar (cE dz rfl bH B.kn rfl (af aS ah))) aR)
   (ak (N3 (i:=2) (aq eZ) ["self","moment","legs"] [("self",0),("moment",1)] rfl rfl rfl jQ.nd rfl (Or.inl rfl) (ki (aH az.cl aW (rv 0))) (λ_ _ _ _ _ _=>(rv 0)) (λ_ _ _ _ _ _=>(a_ (pl:=_) eA FO hr (au bO (aH az.cl aW (rv 1)) (rv 0)) (af (rv 2) ah))) (λ_ _ _ _ _ _=>(cm (a_ (pl:=_) fi FO hr (au bO (aH az.cl aW (rv 1)) (rv 0)) (af (rv 2) ah)))))
   (ar (aB (aU nZ B hr (af (rv 2) (af (rv 1) ah))))))),F]
 ·obtain ⟨p,L,t,rfl,_⟩:=h;rfl
 obtain ⟨p,L,t,rfl,b,ok,st,qe,q⟩:=h
 have bo:=b.ob
 have bd:=b.dc
 have s0:Sz 9000 (0:Rat):=⟨⟨by decide⟩,⟨by decide⟩⟩
 refine hX ?_
 simp_all! [dj,bo,zN]
 refine ⟨st.mono (by decide),s0,?_⟩
 by_cases c1:t < 0
 ·rw [if_pos c1]
  simp_all! [d8]
  exact qe (.inl c1)
 rw [if_neg c1]
 refine ⟨ok.Fd.mono (by decide),st.mono (by decide),?_⟩
 by_cases c2:L.t < t
 ·rw [if_pos c2]
  simp_all! [d8]
  exact qe (.inr c2)
 rw [if_neg c2]
 have q:=q (Xq.mp c1) (Xq.mp c2)
 refine hNq _ _ ?_
 clear hNq Nq
 simp_all! [OS,bo,zO,bd]
 intro D hD ep
 have bf:∀e2 kvs,bV cN cL (put J D (.dct kvs e2)) p L:=λe2 kvs=>b.fresh hD
 have Fp:∀c∈L.cs,∀l∈c.w,oO 900 l:=λc hc l hl=>(ok.ck c hc l hl).Fp
 refine ⟨λi J2=>∃e2,J2=put J D (.dct (fL (dH (L.cs.take i) t)) e2),⟨ep,rfl⟩,?_,?_,?_⟩
 ·rintro i J2 ⟨e2,rfl⟩;exact (bf e2 _).dc
 ·rintro i x J2 hx ⟨e2,rfl⟩
  have hi:i < L.cs.length:=by have:=(VO.mp hx).1;simpa using this
  rw [VS,VS,VN hi] at hx
  cases hx
  have hc:=Wi hi
  have et:L.cs.take (i + 1)=L.cs.take i ++ [L.cs[i]]:=by rw [V',VN hi];rfl
  generalize L.cs[i]=c at hc et
  have hnot:c.n ∉ (dH (L.cs.take i) t).map (·.1):=λz=>by
   have hnd:((L.cs.take (i + 1)).map Cf.n).Nodup:=ok.nd.sublist ((WU _ _).map _)
   rw [et,VP] at hnd
   exact (e9 hnd).2 ((AL _ t).subset z)
  have b2:=bf e2 (fL (dH (L.cs.take i) t))
  have bo2:=b2.ob
  have bd2:=b2.dc
  have hva:=ok.va hc
  have lo:=(b2.lg c hc).o
  have gsz:∀u,c.g=some u→Sz 900 u:=λu hu=>(tY (ok.gz c hc u hu).1).mono (by decide)
  simp_all! [bo2,zO,bd2,hva,lo]
  refine ⟨P' _ _,c.a,c.r,c.w,c.g,t,rfl,b2.lg c hc,ok.ne c hc,st,Fp c hc,gsz,?_⟩
  rcases hb:there c.w c.g t with _ | _
  ·refine ⟨e2,?_⟩
   rw [et,La hb]
  ·simp_all! [bo2,zO,bd2,hva,lo]
   refine ⟨Qa _ _,c.a,c.r,c.w,c.g,t,rfl,b2.lg c hc,ok.ne c hc,V6 (ok.len c hc) (by decide),st,Fp c hc,gsz,λ_ l hl=>?_,λz=>absurd (z.symm.trans hb) (by decide)⟩
   refine ⟨_,e2,aj,ba (by have:=AK (L.cs.take i) t;rw [Wa] at this;have:=ok.many;simp only [fL,VM];omega),λep'=>⟨ep',?_⟩⟩
   rw [bI,et,IB hb hl]
   congr 2
   exact uv (f:=bQ.V) (l:=l) hnot
 ·rintro J2 ⟨e2,rfl⟩
  rw [VM,VM,Wg]
  refine hNq _ _ ?_
  clear hNq Nq
  simp_all! []
  refine ⟨D,_,e2,t,rfl,aj,K' ok.nd,V6 (AK _ _) ok.many,st,Iz Fp,λo ho=>?_⟩
  have hoJ:J o=none:=by rw [ag (λz=>by subst z;rw [aj] at ho;cases ho)] at ho;exact ho
  rcases q with q | q
  ·exact Fg.rH (Ez hD hoJ) aj hoJ q
  ·exact Fg.less (wU (fv hD)) (q o hoJ)
structure Cw where
 n:Str
 a:Addr
 r:Addr
 gs:List Str
 w:List bz
structure Dk where
 w:Addr
 pa:Addr
 de:Addr
 cr:Addr
def Cw.V (c:Cw):Str × PV:=(c.n,.ref c.a)
structure cF (cD cN cL cC:Addr) (J:Hq) (p:Addr) (k:Dk) (L:Ln) (ps:List ax) (ds:List PV) (cw:List Cw):Prop where
 ob:J p=some (.ins cD [("water",.ref k.w),("passings",.ref k.pa),("deeds",.ref k.de),("crowns",.ref k.cr)])
 la:bV cN cL J k.w L
 pas:J k.pa=some (.lst (ps.map ax.v))
 dee:J k.de=some (.lst ds)
 cro:∃e,J k.cr=some (.dct (cw.map Cw.V) e)
 cat:∀c∈cw,IK cC J c.a c.r c.gs c.w
 tJ:∀c∈cw,c.w≠[]
 cnd:(cw.map Cw.n).Nodup
 rnd:(cw.map Cw.r).Nodup
 np:¬ L.own k.w p
 npa:¬ L.own k.w k.pa
 nde:¬ L.own k.w k.de
 ncr:¬ L.own k.w k.cr
 nca:∀c∈cw,¬ L.own k.w c.a∧¬ L.own k.w c.r
 t8:∀c∈cw,c.r≠k.pa∧c.r≠k.de
 pd:k.pa≠k.de
def Dk.dD (k:Dk) (p:Addr) (L:Ln) (cw:List Cw) (a:Addr):Prop:=L.own k.w a∨a=p∨a=k.pa∨a=k.de∨a=k.cr∨∃c∈cw,a=c.a∨a=c.r
variable {J1:Hq}
theorem Mv.sub {J2:Hq} {S':Addr→Prop} (h:Mv J J1 S S') (s:Sub J1 J2):Mv J J2 S S':=by
 refine ⟨λa o e n=>s _ _ (h.keep a o e n),h.own,λa z=>h.mono a ?_⟩
 cases e:J1 a with
 | none=>rfl
 | some o=>rw [s _ _ e] at z;cases z
variable {k:Dk} {ps:List ax} {ds:List PV} {cD:Addr} {cw:List Cw}
theorem cF.sub (h:cF cD cN cL cC J p k L ps ds cw) (s:Sub J J'):cF cD cN cL cC J' p k L ps ds cw :=
 ⟨s _ _ h.ob,h.la.keep λa o _ e=>s a o e,s _ _ h.pas,s _ _ h.dee,let ⟨e,z⟩:=h.cro;⟨e,s _ _ z⟩,λc hc=>⟨s _ _ (h.cat c hc).o,s _ _ (h.cat c hc).l⟩,h.tJ,h.cnd,h.rnd,h.np,h.npa,h.nde,h.ncr,h.nca,h.t8,h.pd⟩
theorem cF.some (h:cF cD cN cL cC J p k L ps ds cw) (o:k.dD p L cw a):J a≠none:=λz=>by
 obtain ⟨e,hc⟩:=h.cro
 rcases o with o | rfl | rfl | rfl | rfl | ⟨c,hm,rfl | rfl⟩
 ·exact h.la.some o z
 ·rw [h.ob] at z;cases z
 ·rw [h.pas] at z;cases z
 ·rw [h.dee] at z;cases z
 ·rw [hc] at z;cases z
 ·rw [(h.cat c hm).o] at z;cases z
 ·rw [(h.cat c hm).l] at z;cases z
theorem zM (a b c d:PV):([("water",a),("passings",b),("deeds",c),("crowns",d)]:List (Str × PV)).lookup ("water":Str)=some a:=by rfl
theorem P9 (a b c d:PV):([("water",a),("passings",b),("deeds",c),("crowns",d)]:List (Str × PV)).lookup ("passings":Str)=some b:=by rfl
theorem P_ (a b c d:PV):([("water",a),("passings",b),("deeds",c),("crowns",d)]:List (Str × PV)).lookup ("deeds":Str)=some c:=by rfl
theorem Bt (a b c d:PV):([("water",a),("passings",b),("deeds",c),("crowns",d)]:List (Str × PV)).lookup ("crowns":Str)=some d:=by rfl
theorem jY {a b c d:PV} (h1:(m == ("water":Str))=false:=by decide +kernel) (h2:(m == ("passings":Str))=false:=by decide +kernel) (h3:(m == ("deeds":Str))=false:=by decide +kernel) (h4:(m == ("crowns":Str))=false:=by decide +kernel):([("water",a),("passings",b),("deeds",c),("crowns",d)]:List (Str × PV)).lookup m=none:=by
 simp only [XJ,h1,h2,h3,h4]
theorem uY {kv:List (Str × PV)} {k:Str}:(gP kv k).isSome=decide (k∈kv.map (·.1)):=by
 induction kv with
 | nil=>rfl
 | cons p r ih =>
  rw [mF,VR]
  by_cases h:p.1=k
  ·rw [if_pos h,decide_eq_true (by rw [h];exact V9)];rfl
  ·rw [if_neg h,ih];exact decide_eq_decide.mpr ⟨λz=>V5 _ z,λz=>by rcases V2.mp z with e | z;exact absurd e.symm h;exact z⟩
theorem cw_nm (cw:List Cw):(cw.map Cw.V).map (·.1)=cw.map Cw.n:=by rw [VX];rfl
abbrev kq:Stmt:=(inClass (top 49) 13)
abbrev nH:List Str:=["self","mark","names"]
theorem nW:av ["self","mark","names","order"] ["self","mark","names"] (aq kq):=dO
def mw (cD cN cL cC T Tg eB eT eC eU:Addr):cI:=λxs J Q E=>∃(p:Addr) (k:Dk) (L:Ln) (ps:List ax) (ds:List PV) (cw:List Cw) (n:Str) (gs:List Str),xs=[.ref p,.str n,.tup (gs.map .str)]∧cF cD cN cL cC J p k L ps ds cw∧eg L∧J T=some .tab∧J Tg=some .tab∧n.length≤sizeLine∧cw.length≤6 ∧
 (good n=false→E eB J)∧(good n=true→n∈cw.map Cw.n→E eT J)∧(good n=true→n ∉ cw.map Cw.n→(gs.all λg=>decide (g∈L.row))=false→E eC J)∧(good n=true→n ∉ cw.map Cw.n→(gs.all λg=>decide (g∈L.row))=true→6≤cw.length→E eU J) ∧
 (good n=true→n ∉ cw.map Cw.n→(gs.all λg=>decide (g∈L.row))=true→cw.length < 6→∀J' a r,cF cD cN cL cC J' p k L ps ds (cw ++ [⟨n,a,r,gs,[⟨L.t,aQ gs L.row⟩]⟩])→Mv J J' (k.dD p L cw) (k.dD p L (cw ++ [⟨n,a,r,gs,[⟨L.t,aQ gs L.row⟩]⟩]))→Q .non J')
variable {Tg:Addr}
theorem vQ {eT c:Addr} (F:Cs K "watch" "Desk.watch" kq T f fd c) (Z:bE mg) (Bm:BMain mg base) {VE:Tok} (dX:mg "MOST_WATCHES"=some (.int 6 VE)) (aA:cR K mg "Desk" cD) (aF:ay K cD "water") (aT:ay K cD "crowns") (gQ:Own K mg "BadName" eB) (mH:Own K mg "Taken" eT) (gR:Own K mg "NoCraft" eC) (qk:Own K mg "Full" eU) (k8:b7 P w K mg base 1 "good_name" kb (za Tg)) (cH:bU P w K mg base cN 1 "order" f7 (pW cN cL)) (bN:bU P w K mg base cN 1 "clock" eS (mx cN cL)) (xH:vB P w K mg base cC 2 "Crown" iT (DD cC)):aK P w K mg base (cq P w) 6 f fd nH (cP K (mw cD cN cL cC T Tg eB eT eC eU)):=by
 refine Qi F nW (λxs J Q E h=>?_) (λA outer s H E G xs J Q E2 hr h B=>?_)
 ·obtain ⟨p,k,L,ps,ds,cw,n,gs,rfl,_⟩:=h;rfl
 obtain ⟨p,k,L,ps,ds,cw,n,gs,rfl,b,ok,hT,hTg,hl,cl,q1,q2,q3,q4,q⟩:=h
 refine ⟨_,(ak (aY (fC (cm (aU k8 B hr (af (rv 1) ah)))) (ar (cE gQ rfl bH B.kn rfl (af aS ah))) aR)
   (ak (aY (aG GP (rv 1) (aH aA.cl aT (rv 0))) (ar (cE mH rfl bH B.kn rfl (af aS ah))) aR)
   (ak (aD (i:=3) nW.nd (b8 (pl:=_) cH B hr (aH aA.cl aF (rv 0))))
   (ak (aY (fC (cm (E6 (i:=3) rfl Bm rfl F.tab hr rfl Z.all (rv 2)))) (ar (cE gR rfl bH B.kn rfl (af aS ah))) aR)
   (ak (aY (aG z6 (bG Jk rfl Z.len boot_len (af (aH aA.cl aT (rv 0)) ah)) (fB (v:=.int 6) (.int 6) rfl dX ⟨_,rfl⟩ (λ_ _=>rfl))) (ar (cE qk rfl bH B.kn rfl (af aS ah))) aR)
   (ar (oz m8 (aH aA.cl aT (rv 0)) (rv 1) (yP xH B hr (af (rv 2) (af (b8 (pl:=_) bN B hr (aH aA.cl aF (rv 0))) (af (rv 3) ah))))))))))),?_⟩
 have bo:=b.ob
 have lo:=b.la.ob
 obtain ⟨ec,hc⟩:=b.cro
 simp_all! []
 refine ⟨n,rfl,hl,hTg,?_⟩
 cases hg:good n with
 | false=>simp_all! [d8];exact q1 hg
 | true =>
 simp_all! [bo,Bt,hc,uY,cw_nm]
 by_cases c1:n∈cw.map Cw.n
 ·rw [if_pos c1];simp_all! [d8];exact q2 hg c1
 rw [if_neg c1]
 refine hNq _ _ ?_
 clear hNq Nq
 simp_all! [bo,zM,lo]
 refine ⟨kU,k.w,L,rfl,b.la,.inl ?_⟩
 refine hNq _ _ ?_
 clear hNq Nq
 simp_all! [Du]
 refine ⟨gs,rfl,L.row,rfl,hT,?_⟩
 cases ha:gs.all λg=>decide (g∈L.row) with
 | false=>simp_all! [d8];exact q3 hg c1 ha
 | true =>
 simp_all! [bo,Bt,hc,VM]
 by_cases c2:6≤cw.length
 ·rw [if_pos (by omega)];simp_all! [d8];exact q4 hg c1 ha c2
 rw [if_neg (by omega)]
 refine hNq _ _ ?_
 clear hNq Nq
 simp_all! [bo,zM,lo]
 refine ⟨kU,k.w,L,rfl,b.la,?_⟩
 intro a ha0
 refine ⟨a,gs,L.t,.fl (L.row.map .str),L.row,rfl,aj,rfl,(λz=>nomatch z),λr hr0=>⟨rfl,?_⟩⟩
 have nra:r≠a:=λz=>by subst z;rw [aj] at hr0;cases hr0
 have hr:J r=none:=by rw [ag nra] at hr0;exact hr0
 have ca:IK cC (put (put (put J a (.ins cC [])) r (.lst [(bz.mk L.t (aQ gs L.row)).V])) a (.ins cC [("group",.tup (gs.map .str)),("rows",.ref r)])) a r gs [⟨L.t,aQ gs L.row⟩]:=⟨aj,by rw [ag nra];exact aj⟩
 have s:Sub J (put (put (put J a (.ins cC [])) r (.lst [(bz.mk L.t (aQ gs L.row)).V])) a (.ins cC [("group",.tup (gs.map .str)),("rows",.ref r)])):=λx u e=>by
  have n1:x≠a:=λz=>by subst z;rw [ha0] at e;cases e
  have n2:x≠r:=λz=>by subst z;rw [hr] at e;cases e
  rw [ag n1,ag n2,ag n1];exact e
 generalize put (put (put J a (.ins cC [])) r (.lst [(bz.mk L.t (aQ gs L.row)).V])) a (.ins cC [("group",.tup (gs.map .str)),("rows",.ref r)])=J2 at ca s ⊢
 have o2:=s _ _ b.ob
 have c2':=s _ _ hc
 refine dP o2 ?_
 rw [Bt]
 have epu:mT (cw.map Cw.V) n (.ref a)=(cw ++ [Cw.mk n a r gs [bz.mk L.t (aQ gs L.row)]]).map Cw.V:=by
  have e1:cw.map Cw.V=(cw.map λc=>(c.n,c.a)).map λx=>(x.1,PV.ref x.2):=by rw [VX];rfl
  rw [e1,uv (f:=PV.ref) (l:=a) (by rw [VX];exact c1),VP,VP,VX];rfl
 refine BG c2' ⟨Wn (show (cw.map Cw.V).length≤6 by rw [VM];exact cl) (by decide),λep'=>?_⟩
 rw [epu]
 have nc:∀{x:Addr},(∃u,J2 x=some u∧∀kv e,u≠.dct kv e)→x≠k.cr:=λ⟨u,e,h⟩ z=>by rw [z,c2'] at e;cases e;exact h _ _ rfl
 have np1:p≠k.cr:=nc ⟨_,o2,λ_ _ z=>nomatch z⟩
 have np2:k.pa≠k.cr:=nc ⟨_,s _ _ b.pas,λ_ _ z=>nomatch z⟩
 have np3:k.de≠k.cr:=nc ⟨_,s _ _ b.dee,λ_ _ z=>nomatch z⟩
 have cat2:∀c∈cw ++ [Cw.mk n a r gs [bz.mk L.t (aQ gs L.row)]],IK cC J2 c.a c.r c.gs c.w:=λc hc'=>by
  rcases VY.mp hc' with h | h
  ·exact ⟨s _ _ (b.cat c h).o,s _ _ (b.cat c h).l⟩
  ·rw [VV] at h;subst h;exact ca
 have nr:∀c∈cw,c.r≠r:=λc h z=>by have:=(b.cat c h).l;rw [z,hr] at this;cases this
 refine q hg c1 ha (by omega) _ a r ⟨by rw [ag np1];exact o2,b.la.keep λx u ow e=>by rw [ag (λz=>by subst z;exact b.ncr ow)];exact s _ _ e,by rw [ag np2];exact s _ _ b.pas,by rw [ag np3];exact s _ _ b.dee,⟨ep',aj⟩,λc hc'=>⟨by rw [ag (nc ⟨_,(cat2 c hc').o,λ_ _ z=>nomatch z⟩)];exact (cat2 c hc').o,by rw [ag (nc ⟨_,(cat2 c hc').l,λ_ _ z=>nomatch z⟩)];exact (cat2 c hc').l⟩,λc hc'=>?_,?_,?_,b.np,b.npa,b.nde,b.ncr,λc hc'=>?_,λc hc'=>?_,b.pd⟩ ⟨λx u e nx=>?_,λx ow=>?_,λx z=>?_⟩
 ·rcases VY.mp hc' with h | h
  ·exact b.tJ c h
  ·rw [VV] at h;subst h;exact λz=>nomatch z
 ·rw [VP,WC]
  exact ⟨b.cnd,by simp,λx hx y hy e=>c1 (by simp only [VR,Wj,VV] at hy;rw [← hy,← e];exact hx)⟩
 ·rw [VP,WC]
  refine ⟨b.rnd,by simp,λx hx y hy e=>?_⟩
  obtain ⟨c,h,rfl⟩:=VQ.mp hx
  simp only [VR,Wj,VV] at hy
  exact nr c h (e.trans hy)
 ·rcases VY.mp hc' with h | h
  ·exact b.nca c h
  ·rw [VV] at h;subst h;exact ⟨λz=>b.la.some z ha0,λz=>b.la.some z hr⟩
 ·rcases VY.mp hc' with h | h
  ·exact b.t8 c h
  ·rw [VV] at h;subst h
   exact ⟨λz=>(by have:=b.pas;rw [← z,hr] at this;cases this),λz=>(by have:=b.dee;rw [← z,hr] at this;cases this)⟩
 ·rw [ag (λz=>nx (by rw [z];exact .inr (.inr (.inr (.inr (.inl rfl))))))];exact s _ _ e
 ·rcases ow with ow | ow | ow | ow | ow | ⟨c,hm,ow⟩
  ·exact .inl (.inl ow)
  ·exact .inl (.inr (.inl ow))
  ·exact .inl (.inr (.inr (.inl ow)))
  ·exact .inl (.inr (.inr (.inr (.inl ow))))
  ·exact .inl (.inr (.inr (.inr (.inr (.inl ow)))))
  ·rcases VY.mp hm with h | h
   ·exact .inl (.inr (.inr (.inr (.inr (.inr ⟨c,h,ow⟩)))))
   ·rw [VV] at h;subst h
    rcases ow with rfl | rfl
    ·exact .inr ha0
    ·exact .inr hr
 ·cases e:J x with
  | none=>rfl
  | some u =>
   by_cases e1:x=k.cr
   ·rw [e1,aj] at z;cases z
   ·rw [ag e1,s _ _ e] at z;cases z
abbrev gE:Stmt:=(inClass (top 49) 15)
abbrev dn:List Str:=["self","mark"]
theorem qT:av ["self","mark"] ["self","mark"] (aq gE):=dO
def As (cD cN cL cC eW:Addr):cI:=λxs J Q E=>∃(p:Addr) (k:Dk) (L:Ln) (ps:List ax) (ds:List PV) (cw:List Cw) (n:Str),xs=[.ref p,.str n]∧cF cD cN cL cC J p k L ps ds cw∧(n ∉ cw.map Cw.n→E eW J)∧(∀c∈cw,c.n=n→Q (.ref c.a) J)
variable {c:Cw}
theorem cw_va (nd:(cw.map Cw.n).Nodup) (hc:c∈cw):gP (cw.map Cw.V) c.n=some (.ref c.a):=by
 have e:cw.map Cw.V=((cw.map λc=>(c.n,c.a)).map λx=>(x.1,PV.ref x.2)):=by rw [VX];rfl
 rw [e]
 exact fZ (f:=PV.ref) (by rw [VX];exact nd) (VQ.mpr ⟨c,hc,rfl⟩)
variable {eW:Addr}
theorem qA (F:bZ K "crown_of" "Desk.crown_of" gE f fd) (Z:bE mg) (aA:cR K mg "Desk" cD) (aT:ay K cD "crowns") (ql:Own K mg "NoWatch" eW):aK P w K mg base (cq P w) 1 f fd dn (cP K (As cD cN cL cC eW)):=by
 simp_arith [qT,(ak (aY (aG JX (rv 1) (aH aA.cl aT (rv 0))) (ar (cE ql rfl bH B.kn rfl (af aS ah))) aR)
   (ar (aB (au bO (aH aA.cl aT (rv 0)) (rv 1)))))]
 ·obtain ⟨p,k,L,ps,ds,cw,n,rfl,_⟩:=h;rfl
 obtain ⟨p,k,L,ps,ds,cw,n,rfl,b,q1,q⟩:=h
 refine hX ?_
 have bo:=b.ob
 obtain ⟨ec,hc⟩:=b.cro
 simp_all! [bo,Bt,hc,uY,cw_nm]
 by_cases c1:n∈cw.map Cw.n
 ·obtain ⟨c,hm,rfl⟩:=VQ.mp c1
  have hva:=cw_va b.cnd hm
  rw [if_pos c1]
  refine hNq _ _ ?_
  clear hNq Nq
  simp_all! [bo,Bt,hc,hva]
  exact q c hm rfl
 ·rw [if_neg c1]
  simp_all! [d8]
  exact q1 c1
abbrev iu:Stmt:=(inClass (top 49) 14)
abbrev kP:List Str:=["self","mark"]
theorem sE:av ["self","mark"] ["self","mark"] (aq iu):=dO
def Au (cD cN cL cC eW:Addr):cI:=λxs J Q E=>∃(p:Addr) (k:Dk) (L:Ln) (ps:List ax) (ds:List PV) (cw:List Cw) (n:Str),xs=[.ref p,.str n]∧cF cD cN cL cC J p k L ps ds cw∧(n ∉ cw.map Cw.n→E eW J)∧(n∈cw.map Cw.n→∀J',cF cD cN cL cC J' p k L ps ds (cw.filter λc=>decide (c.n≠n))→Mv J J' (k.dD p L cw) (k.dD p L (cw.filter λc=>decide (c.n≠n)))→Q .non J')
theorem sk (F:bZ K "unwatch" "Desk.unwatch" iu f fd) (Z:bE mg) (aA:cR K mg "Desk" cD) (aT:ay K cD "crowns") (bt:bU P w K mg base cD 1 "crown_of" dn (As cD cN cL cC eW)):aK P w K mg base (cq P w) 3 f fd kP (cP K (Au cD cN cL cC eW)):=by
 simp_arith [sE,(ak (aV (a_ (pl:=_) bt B hr (rv 0) (af (rv 1) ah)))
   (ar (N4 (aH aA.cl aT (rv 0)) (rv 1))))]
 ·obtain ⟨p,k,L,ps,ds,cw,n,rfl,_⟩:=h;rfl
 obtain ⟨p,k,L,ps,ds,cw,n,rfl,b,q1,q⟩:=h
 refine hX ?_
 have bo:=b.ob
 obtain ⟨ec,hc⟩:=b.cro
 simp_all! [bo]
 refine ⟨jY,p,k,L,ps,ds,cw,n,rfl,b,q1,λc hm en=>?_⟩
 subst en
 have q:=q (VQ.mpr ⟨c,hm,rfl⟩)
 have hva:=cw_va b.cnd hm
 refine hNq _ _ ?_
 clear hNq Nq
 simp_all! [Q7,bo,Bt,hc,hva]
 refine ⟨rfl,λep'=>?_⟩
 have edr:qr (cw.map Cw.V) c.n=(cw.filter λd=>decide (d.n≠c.n)).map Cw.V:=by
  unfold qr
  rw [XY];rfl
 rw [edr]
 have nc:∀{x:Addr},(∃u,J x=some u∧∀kv e,u≠.dct kv e)→x≠k.cr:=λ⟨u,e,h⟩ z=>by rw [z,hc] at e;cases e;exact h _ _ rfl
 have sub:∀d∈cw.filter (λd=>decide (d.n≠c.n)),d∈cw:=λd h=>(V8.mp h).1
 have sl:=Yh (p:=λd:Cw=>decide (d.n≠c.n)) (l:=cw)
 refine q _ ⟨by rw [ag (nc ⟨_,bo,λ_ _ z=>nomatch z⟩)];exact bo,b.la.keep λx u ow e=>by rw [ag (λz=>by subst z;exact b.ncr ow)];exact e,by rw [ag (nc ⟨_,b.pas,λ_ _ z=>nomatch z⟩)];exact b.pas,by rw [ag (nc ⟨_,b.dee,λ_ _ z=>nomatch z⟩)];exact b.dee,⟨ep',aj⟩,λd h=>⟨by rw [ag (nc ⟨_,(b.cat d (sub d h)).o,λ_ _ z=>nomatch z⟩)];exact (b.cat d (sub d h)).o,by rw [ag (nc ⟨_,(b.cat d (sub d h)).l,λ_ _ z=>nomatch z⟩)];exact (b.cat d (sub d h)).l⟩,λd h=>b.tJ d (sub d h),b.cnd.sublist (sl.map _),b.rnd.sublist (sl.map _),b.np,b.npa,b.nde,b.ncr,λd h=>b.nca d (sub d h),λd h=>b.t8 d (sub d h),b.pd⟩ ⟨λx u e nx=>?_,λx ow=>?_,λx z=>?_⟩
 ·rw [ag (λz=>nx (by rw [z];exact .inr (.inr (.inr (.inr (.inl rfl))))))];exact e
 ·rcases ow with ow | ow | ow | ow | ow | ⟨d,hm,ow⟩
  ·exact .inl (.inl ow)
  ·exact .inl (.inr (.inl ow))
  ·exact .inl (.inr (.inr (.inl ow)))
  ·exact .inl (.inr (.inr (.inr (.inl ow))))
  ·exact .inl (.inr (.inr (.inr (.inr (.inl ow)))))
  ·exact .inl (.inr (.inr (.inr (.inr (.inr ⟨d,sub d hm,ow⟩)))))
 ·by_cases e1:x=k.cr
  ·rw [e1,aj] at z;cases z
  ·rw [ag e1] at z;exact z
def bY (L:Ln) (bs:List ax):List (Rat × List Str):=bs.map (λb=>(b.m,bT b.m (dH L.cs b.m))) ++ [(L.t,L.row)]
def Cw.told (c:Cw) (st:List (Rat × List Str)):Cw:={ c with w:=st.foldl (λw s=>cu w s.1 (aQ c.gs s.2)) c.w }
theorem Cw.jS (c:Cw) (st:List (Rat × List Str)) (s:Rat × List Str):(c.told (st ++ [s])).w=cu (c.told st).w s.1 (aQ c.gs s.2):=by unfold Cw.told;rw [WN];rfl
theorem Cw.p5 (c:Cw) (st:List (Rat × List Str)):(c.told st).w.length≤c.w.length + st.length:=by
 refine snoc_ind (p:=λst=>(c.told st).w.length≤c.w.length + st.length) (VT _) (λst s ih=>?_) st
 rw [Cw.jS,VZ]
 have:=wY (c.told st).w s.1 (aQ c.gs s.2)
 show _≤c.w.length + (st.length + 1)
 omega
variable {A B:List Cw}
theorem cF.note (h:cF cD cN cL cC J p k L ps ds (A ++ c :: B)) {w:List bz} (hw:w≠[]):cF cD cN cL cC (put J c.r (.lst (w.map bz.V))) p k L ps ds (A ++ { c with w:=w } :: B)∧Mv J (put J c.r (.lst (w.map bz.V))) (k.dD p L (A ++ c :: B)) (k.dD p L (A ++ { c with w:=w } :: B)):=by
 obtain ⟨ec,hc⟩:=h.cro
 have hm:c∈A ++ c :: B:=V1 _ V9
 have cl:=(h.cat c hm).l
 have ne:∀{x:Addr},(∃u,J x=Ws u∧∀ys,u≠.lst ys)→x≠c.r:=λ⟨u,e,z⟩ y=>by rw [y,cl] at e;cases e;exact z _ rfl
 have rn:=h.rnd
 rw [VP,VR,WC] at rn
 have rb:=W5.mp rn.2.1
 have dA:∀d∈A,d.r≠c.r:=λd hd e=>rn.2.2 d.r (VQ.mpr ⟨d,hd,rfl⟩) c.r V9 e
 have dB:∀d∈B,d.r≠c.r:=λd hd e=>rb.1 (VQ.mpr ⟨d,hd,e⟩)
 have inA:∀d∈A,d∈A ++ c :: B:=λd hd=>Xe _ hd
 have El:∀d∈B,d∈A ++ c :: B:=λd hd=>V1 _ (V5 _ hd)
 have ev:(A ++ { c with w:=w } :: B).map Cw.V=(A ++ c :: B).map Cw.V:=by rw [VP,VP];rfl
 have en:(A ++ { c with w:=w } :: B).map Cw.n=(A ++ c :: B).map Cw.n:=by rw [VP,VP];rfl
 have er:(A ++ { c with w:=w } :: B).map Cw.r=(A ++ c :: B).map Cw.r:=by rw [VP,VP];rfl
 have each:∀{P:Cw→Prop},(∀d∈A,P d)→P { c with w:=w }→(∀d∈B,P d)→∀d∈A ++ { c with w:=w } :: B,P d:=λh1 h2 h3 d hd=>by
  rcases VY.mp hd with z | z
  ·exact h1 d z
  ·rcases V2.mp z with z | z
   ·rw [z];exact h2
   ·exact h3 d z
 have old:∀d∈A ++ c :: B,d.r≠c.r→IK cC (put J c.r (.lst (w.map bz.V))) d.a d.r d.gs d.w:=λd hd n=>⟨by rw [ag (ne ⟨_,(h.cat d hd).o,λ_ z=>nomatch z⟩)];exact (h.cat d hd).o,by rw [ag n];exact (h.cat d hd).l⟩
 refine ⟨⟨by rw [ag (ne ⟨_,h.ob,λ_ z=>nomatch z⟩)];exact h.ob,h.la.keep λx u ow e=>by rw [ag (λz=>by subst z;exact (h.nca c hm).2 ow)];exact e,by rw [ag (Ne.symm (h.t8 c hm).1)];exact h.pas,by rw [ag (Ne.symm (h.t8 c hm).2)];exact h.dee,⟨ec,by rw [ev,ag (ne ⟨_,hc,λ_ z=>nomatch z⟩)];exact hc⟩,each (λd hd=>old d (inA d hd) (dA d hd)) ⟨by rw [ag (ne ⟨_,(h.cat c hm).o,λ_ z=>nomatch z⟩)];exact (h.cat c hm).o,aj⟩ (λd hd=>old d (El d hd) (dB d hd)),each (λd hd=>h.tJ d (inA d hd)) hw (λd hd=>h.tJ d (El d hd)),by rw [en];exact h.cnd,by rw [er];exact h.rnd,h.np,h.npa,h.nde,h.ncr,each (λd hd=>h.nca d (inA d hd)) (h.nca c hm) (λd hd=>h.nca d (El d hd)),each (λd hd=>h.t8 d (inA d hd)) (h.t8 c hm) (λd hd=>h.t8 d (El d hd)),h.pd⟩,lT (.inr (.inr (.inr (.inr (.inr ⟨c,hm,.inr rfl⟩))))) λa z=>.inl ?_⟩
 rcases z with z | z | z | z | z | ⟨d,hd,z⟩
 ·exact .inl z
 ·exact .inr (.inl z)
 ·exact .inr (.inr (.inl z))
 ·exact .inr (.inr (.inr (.inl z)))
 ·exact .inr (.inr (.inr (.inr (.inl z))))
 ·rcases VY.mp hd with y | y
  ·exact .inr (.inr (.inr (.inr (.inr ⟨d,inA d y,z⟩))))
  ·rcases V2.mp y with y | y
   ·subst y;exact .inr (.inr (.inr (.inr (.inr ⟨c,hm,z⟩))))
   ·exact .inr (.inr (.inr (.inr (.inr ⟨d,El d y,z⟩))))
abbrev eY:Stmt:=(inClass (top 49) 16)
abbrev jI:List Str:=["self","passings"]
theorem du:av ["self","passings","rows","crown","moment","order"] ["self","passings"] (aq eY):=dO
def DK (cD cN cL cC:Addr):cI:=λxs J Q _=>∃(p:Addr) (k:Dk) (L:Ln) (ps:List ax) (ds:List PV) (cw:List Cw) (bs:List ax),xs=[.ref p,.fl (bs.map ax.v)]∧cF cD cN cL cC J p k L ps ds cw∧eg L∧(∀b∈bs,0≤b.m∧b.m≤L.t∧Sz 900 b.m)∧bs.length≤200∧(∀c∈cw,c.w.length≤600)∧∀J',cF cD cN cL cC J' p k L ps ds (cw.map λc=>c.told (bY L bs))→Mv J J' (k.dD p L cw) (k.dD p L (cw.map λc=>c.told (bY L bs)))→Q .non J'
theorem qB {eN:Addr} (F:bZ K "note_all" "Desk.note_all" eY f fd) (Z:bE mg) (aA:cR K mg "Desk" cD) (aF:ay K cD "water") (aT:ay K cD "crowns") (gA:bU P w K mg base cN 7 "order_at" jK (uS cN cL eN)) (bN:bU P w K mg base cN 1 "clock" eS (mx cN cL)) (cH:bU P w K mg base cN 1 "order" f7 (pW cN cL)) (j5:bU P w K mg base cC 2 "note" nG (DE cC)):aK P w K mg base (cq P w) 8 f fd jI (cP K (DK cD cN cL cC)):=by
 simp_arith [du,(ak (HH (i:=2) (aq eY) ["self","passings","rows","crown","moment","order"] [("self",0)] rfl rfl rfl du.nd rfl (Or.inl rfl) (dS (rv 1)) (λ_ _ _ _ _ _=>(bP (af (au aw (rv 0) ai) (af (a_ (pl:=_) gA FO hr (aH aA.cl aF (rv 1)) (af (au aw (rv 0) ai) ah)) ah)))))
   (ak (aV (eV V3 Wb Wc cK (rv 2) (af (bP (af (b8 (pl:=_) bN B hr (aH aA.cl aF (rv 0))) (af (b8 (pl:=_) cH B hr (aH aA.cl aF (rv 0))) ah))) ah)))
   (ar (cV bA rfl (KL (aH aA.cl aT (rv 0))) (bq (i:=3) du.nd) (ar (cV bA rfl (dS (rv 2)) (qN (n:=2) rfl (cY (bq (i:=4) du.nd) (cY (bq (i:=5) du.nd) mZ))) (ar (aV (a_ (pl:=_) j5 B hr (rv 3) (af (rv 4) (af (rv 5) ah)))))))))))]
 ·obtain ⟨p,k,L,ps,ds,cw,bs,rfl,_⟩:=h;rfl
 obtain ⟨p,k,L,ps,ds,cw,bs,rfl,b,ok,sb,bl,wl,q⟩:=h
 refine hX ?_
 simp_all! [B7]
 obtain ⟨g,hg⟩:∃g:PV→PV,∀y:ax,g y.v=.tup [fr y.m,.fl ((bT y.m (dH L.cs y.m)).map .str)]:=by
  refine ⟨λx=>match x with | .tup (.tup [.int a,.int d] :: _)=>.tup [.tup [.int a,.int d],.fl ((bT (Wm a d) (dH L.cs (Wm a d))).map .str)] | _=>.non,λy=>?_⟩
  show PV.tup [.tup [.int y.m.num,.int (y.m.den:Int)],.fl ((bT (Wm y.m.num (y.m.den:Int)) (dH L.cs (Wm y.m.num (y.m.den:Int)))).map .str)]=_
  rw [ZF];rfl
 obtain ⟨sv2,hsv⟩:∃sv2:Rat × List Str→PV,∀s,sv2 s=.tup [fr s.1,.fl (s.2.map .str)]:=⟨_,λ_=>rfl⟩
 refine ⟨λ_=>true,g,⟨by rw [VM];exact ba (by omega),λJ' sb'=>⟨trivial,λx hx=>⟨⟨rfl,rfl⟩,λ_=>?_⟩⟩⟩,?_⟩
 ·obtain ⟨y,hy,rfl⟩:=VQ.mp hx
  have b':=b.sub sb'
  obtain ⟨y0,y1,y2⟩:=sb y hy
  have bo:=b'.ob
  have lo:=b'.la.ob
  rw [hg]
  simp_all! [Gg,bo,zM,lo]
  refine ⟨kU,k.w,L,y.m,rfl,b'.la,ok.tobW,y2,λz=>z.elim (λz=>absurd z (Xq.mpr y0)) λz=>absurd z (Xq.mpr y1),λ_ _=>.inl ?_⟩
  exact ⟨rfl,rfl⟩
 have erow:((bs.map ax.v).filter λ_=>true).map g=(bs.map λy=>(y.m,bT y.m (dH L.cs y.m))).map sv2:=by
  rw [Wx.mpr (λ_ _=>rfl),VX,VX]
  exact WR λy _=>by show g y.v=sv2 _;rw [hg,hsv]
 rw [erow]
 intro r hr'
 have b':=b.sub (Sub.put hr' (o:=.lst ((bs.map λy=>(y.m,bT y.m (dH L.cs y.m))).map sv2)))
 have bo:=b'.ob
 have lo:=b'.la.ob
 have hrr:put J r (.lst ((bs.map λy=>(y.m,bT y.m (dH L.cs y.m))).map sv2)) r=some (.lst ((bs.map λy=>(y.m,bT y.m (dH L.cs y.m))).map sv2)):=aj
 refine hNq _ _ ?_
 clear hNq Nq
 generalize hJ1:put J r (.lst ((bs.map λy=>(y.m,bT y.m (dH L.cs y.m))).map sv2))=J1 at b' bo lo hrr ⊢
 simp_all! [bo,zM,lo]
 refine ⟨⟨_,hrr⟩,kU,k.w,L,rfl,b'.la,?_⟩
 simp_all! [bo,zM,lo]
 refine ⟨kU,k.w,L,rfl,b'.la,.inl ?_⟩
 simp_all! [hrr]
 refine ⟨Wn (show _≤200 by rw [VM,VM];exact bl) (by decide),hNq _ _ ?_⟩
 clear hNq Nq
 subst hJ1
 rw [bI]
 have est:(bs.map λy=>(y.m,bT y.m (dH L.cs y.m))).map sv2 ++ [.tup [fr L.t,.fl (L.row.map .str)]]=(bY L bs).map sv2:=by
  unfold bY
  rw [VP,VR,Wj,hsv]
 rw [est]
 have s2:Sub J (put J r (.lst ((bY L bs).map sv2))):=Sub.put hr'
 have b2:=b.sub s2
 have nr:¬ k.dD p L cw r:=λz=>b.some z hr'
 have h2:put J r (.lst ((bY L bs).map sv2)) r=some (.lst ((bY L bs).map sv2)):=aj
 have stl:(bY L bs).length≤201:=by unfold bY;rw [VZ,VM];show bs.length + 1≤201;omega
 have mv2:Mv J (put J r (.lst ((bY L bs).map sv2))) (k.dD p L cw) (k.dD p L cw):=(Mv.refl _ _).sub s2
 generalize bY L bs=st at b2 h2 q mv2 stl ⊢
 generalize put J r (.lst (st.map sv2))=J2 at b2 h2 mv2 ⊢
 clear s2 hrr b' bo lo erow est
 obtain ⟨ec,hc⟩:=b2.cro
 have bo:=b2.ob
 simp_all! [U9,bo,Bt,hc]
 have rne:∀c∈cw,r≠c.r:=λc hm z=>nr (.inr (.inr (.inr (.inr (.inr ⟨c,hm,.inr z⟩)))))
 obtain ⟨Inv,hInv⟩:∃Inv:Nat→Sr→Hq→Prop,∀i τ J',Inv i τ J'↔∃u3 u4 u5:Option PV,τ=[some (.ref p),some (.fl (bs.map ax.v)),some (.ref r),u3,u4,u5]∧cF cD cN cL cC J' p k L ps ds ((cw.take i).map (λc=>c.told st) ++ cw.drop i)∧Mv J J' (k.dD p L cw) (k.dD p L ((cw.take i).map (λc=>c.told st) ++ cw.drop i))∧J' r=some (.lst (st.map sv2))∧J' k.cr=some (.dct (cw.map Cw.V) ec):=⟨_,λ_ _ _=>Iff.rfl⟩
 refine dW Inv ((hInv _ _ _).mpr ⟨_,_,_,rfl,b2,mv2,h2,hc⟩) (λi τ J' hv=>?_) ?_ ?_
 ·obtain ⟨_,_,_,_,_,_,_,z⟩:=(hInv _ _ _).mp hv;exact z
 ·intro i x τ J' hx hv
  obtain ⟨u3,u4,u5,rfl,bi,mvi,hri,hci⟩:=(hInv _ _ _).mp hv
  clear hv
  have hi:i < cw.length:=by have:=(VO.mp hx).1;simpa using this
  rw [VS,VS,VN hi] at hx
  cases hx
  have hm:=Wi hi
  have ed:cw.drop i=cw[i] :: cw.drop (i + 1):=XG hi
  have et:cw.take (i + 1)=cw.take i ++ [cw[i]]:=by rw [V',VN hi];rfl
  rw [ed] at bi mvi
  generalize cw[i]=c at hm et bi mvi ⊢
  have wc:=wl c hm
  have rc:=rne c hm
  have e0:c.told []=c:=rfl
  have ev:(Cw.V c).2=.ref c.a:=rfl
  simp_all! [hri,ev]
  obtain ⟨W,hW⟩:∃W:Nat→Sr→Hq→Prop,∀j τ Ja,W j τ Ja↔∃u4 u5:Option PV,τ=[some (.ref p),some (.fl (bs.map ax.v)),some (.ref r),some (.ref c.a),u4,u5]∧cF cD cN cL cC Ja p k L ps ds ((cw.take i).map (λc=>c.told st) ++ c.told (st.take j) :: cw.drop (i + 1))∧Mv J Ja (k.dD p L cw) (k.dD p L ((cw.take i).map (λc=>c.told st) ++ c.told (st.take j) :: cw.drop (i + 1)))∧Ja r=some (.lst (st.map sv2))∧Ja k.cr=some (.dct (cw.map Cw.V) ec):=⟨_,λ_ _ _=>Iff.rfl⟩
  refine dW W ((hW _ _ _).mpr ⟨_,_,rfl,by rw [X4,e0];exact bi,by rw [X4,e0];exact mvi,hri,hci⟩) (λj τ Ja hv=>?_) ?_ ?_
  ·obtain ⟨_,_,_,_,_,z,_⟩:=(hW _ _ _).mp hv;exact z
  ·intro j x τ Ja hx hv
   obtain ⟨u4,u5,rfl,bj,mvj,hrj,hcj⟩:=(hW _ _ _).mp hv
   clear hv
   have hj:j < st.length:=by have:=(VO.mp hx).1;simpa using this
   rw [VS,VN hj] at hx
   cases hx
   have es:st.take (j + 1)=st.take j ++ [st[j]]:=by rw [V',VN hj];rfl
   generalize st[j]=s0 at es ⊢
   have hmem:c.told (st.take j)∈(cw.take i).map (λc=>c.told st) ++ c.told (st.take j) :: cw.drop (i + 1):=V1 _ V9
   have cat:=bj.cat _ hmem
   have ca:(c.told (st.take j)).a=c.a:=rfl
   have cr:(c.told (st.take j)).r=c.r:=rfl
   have cg:(c.told (st.take j)).gs=c.gs:=rfl
   have co:Ja c.a=some (.ins cC [("group",.tup (c.gs.map .str)),("rows",.ref c.r)]):=cat.o
   have tl:=c.p5 (st.take j)
   rw [Wa] at tl
   obtain ⟨bn,mvn⟩:=bj.note (w:=cu (c.told (st.take j)).w s0.1 (aQ c.gs s0.2)) GC
   have eC:{ c.told (st.take j) with w:=cu (c.told (st.take j)).w s0.1 (aQ c.gs s0.2) }=c.told (st.take (j + 1)):=by
    rw [es];unfold Cw.told;rw [WN];rfl
   rw [eC] at bn mvn
   rw [cr] at bn mvn
   have nk:k.cr≠c.r:=λz=>by have:=cat.l;rw [cr,← z,hcj] at this;cases this
   rw [hsv]
   simp_all! [co]
   refine ⟨To _ _,c.a,c.r,c.gs,(c.told (st.take j)).w,s0.1,.fl (s0.2.map .str),s0.2,rfl,⟨cat.o,cat.l⟩,bj.tJ _ hmem,by omega,rfl,?_⟩
   exact (hW _ _ _).mpr ⟨_,_,rfl,bn,mvj.trans mvn,by rw [ag rc];exact hrj,by rw [ag nk];exact hcj⟩
  ·intro τ Ja hv
   obtain ⟨u4,u5,rfl,bj,mvj,hrj,hcj⟩:=(hW _ _ _).mp hv
   rw [VM,Wg] at bj mvj
   have e1:(cw.take (i + 1)).map (λc=>c.told st) ++ cw.drop (i + 1)=(cw.take i).map (λc=>c.told st) ++ c.told st :: cw.drop (i + 1):=by rw [et,VP,X2];rfl
   exact (hInv _ _ _).mpr ⟨_,_,_,rfl,by rw [e1];exact bj,by rw [e1];exact mvj,hrj,hcj⟩
 ·intro τ J' hv
  obtain ⟨u3,u4,u5,rfl,bi,mvi,hri,hci⟩:=(hInv _ _ _).mp hv
  rw [VM,VM,Wg,YN,WX] at bi mvi
  exact q J' bi mvi
variable {L1:Ln}
theorem cF.PQ (h:cF cD cN cL cC J p k L ps ds cw) (b1:bV cN cL J1 k.w L1) (mv:Mv J J1 (L.own k.w) (L1.own k.w)):cF cD cN cL cC J1 p k L1 ps ds cw∧Mv J J1 (k.dD p L cw) (k.dD p L1 cw):=by
 have new:∀{x o},J x=Ws o→¬ L.own k.w x→¬ L1.own k.w x:=λhx nx z=>by
  rcases mv.own _ z with y | y
  ·exact nx y
  ·rw [hx] at y;cases y
 obtain ⟨e,hc⟩:=h.cro
 refine ⟨⟨mv.keep _ _ h.ob h.np,b1,mv.keep _ _ h.pas h.npa,mv.keep _ _ h.dee h.nde,⟨e,mv.keep _ _ hc h.ncr⟩,λc hm=>⟨mv.keep _ _ (h.cat c hm).o (h.nca c hm).1,mv.keep _ _ (h.cat c hm).l (h.nca c hm).2⟩,h.tJ,h.cnd,h.rnd,new h.ob h.np,new h.pas h.npa,new h.dee h.nde,new hc h.ncr,λc hm=>⟨new (h.cat c hm).o (h.nca c hm).1,new (h.cat c hm).l (h.nca c hm).2⟩,h.t8,h.pd⟩,λa o e n=>mv.keep a o e λz=>n (.inl z),λa z=>?_,mv.mono⟩
 rcases z with z | z
 ·exact (mv.own a z).imp .inl id
 ·exact .inl (.inr z)
variable {ps1:List ax} {ds1:List PV}
theorem cF.TR (h:cF cD cN cL cC J p k L ps ds cw):cF cD cN cL cC (put (put J k.de (.lst ds1)) k.pa (.lst (ps1.map ax.v))) p k L ps1 ds1 cw∧Mv J (put (put J k.de (.lst ds1)) k.pa (.lst (ps1.map ax.v))) (k.dD p L cw) (k.dD p L cw):=by
 obtain ⟨e,hc⟩:=h.cro
 have hd:=h.dee
 have hp:=h.pas
 have ne1:∀{x:Addr},(∃u,J x=Ws u∧∀ys,u≠.lst ys)→x≠k.de:=λ⟨u,e,z⟩ y=>by rw [y,hd] at e;cases e;exact z _ rfl
 have ne2:∀{x:Addr},(∃u,J x=Ws u∧∀ys,u≠.lst ys)→x≠k.pa:=λ⟨u,e,z⟩ y=>by rw [y,hp] at e;cases e;exact z _ rfl
 have go:∀{x u},J x=Ws u→x≠k.de→x≠k.pa→put (put J k.de (.lst ds1)) k.pa (.lst (ps1.map ax.v)) x=Ws u:=λe n1 n2=>by rw [ag n2,ag n1];exact e
 refine ⟨⟨go h.ob (ne1 ⟨_,h.ob,λ_ z=>nomatch z⟩) (ne2 ⟨_,h.ob,λ_ z=>nomatch z⟩),h.la.keep λx u ow e=>go e (λz=>by subst z;exact h.nde ow) (λz=>by subst z;exact h.npa ow),aj,by rw [ag (Ne.symm h.pd)];exact aj,⟨e,go hc (ne1 ⟨_,hc,λ_ z=>nomatch z⟩) (ne2 ⟨_,hc,λ_ z=>nomatch z⟩)⟩,λc hm=>⟨go (h.cat c hm).o (ne1 ⟨_,(h.cat c hm).o,λ_ z=>nomatch z⟩) (ne2 ⟨_,(h.cat c hm).o,λ_ z=>nomatch z⟩),go (h.cat c hm).l (h.t8 c hm).2 (h.t8 c hm).1⟩,h.tJ,h.cnd,h.rnd,h.np,h.npa,h.nde,h.ncr,h.nca,h.t8,h.pd⟩,?_⟩
 exact (lT (S':=k.dD p L cw) (.inr (.inr (.inr (.inl rfl)))) λa z=>.inl z).trans (lT (.inr (.inr (.inl rfl))) λa z=>.inl z)
def iN (n:Str) (x v:Int):PV:=.tup [.str "join",.str n,.int x,.int v]
def F0 (m:Rat):PV:=.tup [.str "go",fr m]
def ff (n:Str) (gs:List Str):PV:=.tup [.str "watch",.str n,.tup (gs.map .str)]
def cZ (n:Str):PV:=.tup [.str "unwatch",.str n]
theorem Ry:(("join":Str)="go")=False:=eq_false (by decide +kernel)
theorem RM:(("watch":Str)="go")=False:=eq_false (by decide +kernel)
theorem RN:(("watch":Str)="join")=False:=eq_false (by decide +kernel)
theorem RP:(("watch":Str)="leave")=False:=eq_false (by decide +kernel)
theorem RQ:(("watch":Str)="turn")=False:=eq_false (by decide +kernel)
theorem RL:(("watch":Str)="about")=False:=eq_false (by decide +kernel)
theorem RC:(("unwatch":Str)="go")=False:=eq_false (by decide +kernel)
theorem RF:(("unwatch":Str)="join")=False:=eq_false (by decide +kernel)
theorem RH:(("unwatch":Str)="leave")=False:=eq_false (by decide +kernel)
theorem RJ:(("unwatch":Str)="turn")=False:=eq_false (by decide +kernel)
theorem Rz:(("unwatch":Str)="about")=False:=eq_false (by decide +kernel)
theorem RK:(("unwatch":Str)="watch")=False:=eq_false (by decide +kernel)
abbrev fU:Stmt:=(inClass (top 49) 12)
abbrev iU:List Str:=["self","deed"]
theorem iY:av ["self","deed","word"] ["self","deed"] (aq fU):=dO
def iB (cD cN cL cC T Tg eB eT eC eU eW:Addr):cI:=λxs J Q E=>∃(p:Addr) (k:Dk) (L:Ln) (ps:List ax) (ds:List PV) (cw:List Cw) (dv:PV),xs=[.ref p,dv]∧cF cD cN cL cC J p k L ps ds cw∧eg L ∧
 ((∃n x v,dv=iN n x v∧J Tg=some .tab∧good n=true∧El x v∧n ∉ L.cs.map Cf.n∧L.row.length < 12∧L.cs.length < 100∧n.length≤sizeLine∧∀J' L',cF cD cN cL cC J' p k L' ps ds cw→eg L'→L.joined n x v L'→Mv J J' (k.dD p L cw) (k.dD p L' cw)→Q (.fl []) J') ∨
  (∃m:Rat,dv=F0 m∧gW m.num m.den=true∧L.t≤m∧∀J' o',cF cD cN cL cC J' p k { L with t:=m,o:=o',row:=bT m L.fs } ps ds cw→eg { L with t:=m,o:=o',row:=bT m L.fs }→Mv J J' (k.dD p L cw) (k.dD p { L with t:=m,o:=o',row:=bT m L.fs } cw)→Q (.fl ((hE L.t (L.fs.map (key L.t)) m).map ax.v)) J') ∨
  (∃n gs,dv=ff n gs∧mw cD cN cL cC T Tg eB eT eC eU [.ref p,.str n,.tup (gs.map .str)] J (λ_ J'=>Q (.fl []) J') E) ∨
  (∃n,dv=cZ n∧Au cD cN cL cC eW [.ref p,.str n] J (λ_ J'=>Q (.fl []) J') E))
theorem pq {eT eB' eF' eT' eU' eM eP:Addr} (F:bZ K "carry_out" "Desk.carry_out" fU f fd) (Z:bE mg) (aA:cR K mg "Desk" cD) (aF:ay K cD "water") (j8:bU P w K mg base cN 8 "go_to" nJ (Mf cN cL eM eP)) (lQ:bU P w K mg base cN 8 "join" pG (DR cN cL Tg eB' eF' eT' eU')) (j9:bU P w K mg base cN 1 "leave" nK AA) (lR:bU P w K mg base cN 1 "turn" pH AA) (j7:bU P w K mg base cN 1 "about" nI AA) (j6:bU P w K mg base cD 6 "watch" nH (mw cD cN cL cC T Tg eB eT eC eU)) (g6:bU P w K mg base cD 3 "unwatch" kP (Au cD cN cL cC eW)):aK P w K mg base (cq P w) 9 f fd iU (cP K (iB cD cN cL cC T Tg eB eT eC eU eW)):=by
 simp_arith [iY,(ak (aD (i:=2) iY.nd (au aw (rv 1) ai))
   (ak (aY (aG (dh hr.aM) (rv 2) aS) (ar (aB (a_ (pl:=_) j8 B hr (aH aA.cl aF (rv 0)) (af (au aw (rv 1) ai) ah)))) aR)
   (f9 (aY (aG (dh hr.aM) (rv 2) aS) (ar (aV (a_ (pl:=_) lQ B hr (aH aA.cl aF (rv 0)) (af (au aw (rv 1) ai) (af (au aw (rv 1) ai) (af (au aw (rv 1) ai) ah)))))) (ar (aY (aG (dh hr.aM) (rv 2) aS) (ar (aV (a_ (pl:=_) j9 B hr (aH aA.cl aF (rv 0)) (af (au aw (rv 1) ai) ah)))) (ar (aY (aG (dh hr.aM) (rv 2) aS) (ar (aV (a_ (pl:=_) lR B hr (aH aA.cl aF (rv 0)) (af (au aw (rv 1) ai) (af (au aw (rv 1) ai) ah))))) (ar (aY (aG (dh hr.aM) (rv 2) aS) (ar (aV (b8 (pl:=_) j7 B hr (aH aA.cl aF (rv 0))))) (ar (aY (aG (dh hr.aM) (rv 2) aS) (ar (aV (a_ (pl:=_) j6 B hr (rv 0) (af (au aw (rv 1) ai) (af (au aw (rv 1) ai) ah))))) (ar (aV (a_ (pl:=_) g6 B hr (rv 0) (af (au aw (rv 1) ai) ah)))))))))))))
   (ar (aB (jM ah))))))]
 ·obtain ⟨p,k,L,ps,ds,cw,dv,rfl,_⟩:=h;rfl
 obtain ⟨p,k,L,ps,ds,cw,dv,rfl,b,ok,h⟩:=h
 have bo:=b.ob
 have lo:=b.la.ob
 refine hX ?_
 rcases h with ⟨n,x,v,rfl,hT,hg,hb,hn,hr12,hc,hl,q⟩ | ⟨m,rfl,hg,hm,q⟩ | ⟨n,gs,rfl,h⟩ | ⟨n,rfl,h⟩
 ·have i0:iD J (iN n x v) (.int 0)=some (.str "join"):=eQ _ _
  have i1:iD J (iN n x v) (.int 1)=some (.str n):=iJ _ _ _
  have i2:iD J (iN n x v) (.int 2)=some (.int x):=rF _ _ _ _
  have i3:iD J (iN n x v) (.int 3)=some (.int v):=rfl
  simp_all! [i0,Ry]
  refine ⟨λ_ J'=>Q (.fl []) J',?_,λτ' J' z=>by simp_all! [];exact z⟩
  simp_all! [i1,i2,i3,bo,zM,lo]
  exact ⟨kU,k.w,L,n,x,v,rfl,b.la,ok,hT,hl,hc,(λz=>by rw [hg] at z;cases z),(λ_ z=>absurd hb z),(λ_ _ z=>absurd z hn),(λ_ _ _ z=>by omega),λ_ _ _ _ J1 L1 b1 ok1 jn mv=>let ⟨d1,m1⟩:=b.PQ b1 mv;q J1 L1 d1 ok1 jn m1⟩
 ·have i0:iD J (F0 m) (.int 0)=some (.str "go"):=eQ _ _
  have i1:iD J (F0 m) (.int 1)=some (fr m):=iJ _ _ _
  simp_all! [i0,i1,bo,zM,lo]
  refine ⟨kU,k.w,L,m.num,m.den,rfl,b.la,ok,(λz=>by rw [hg] at z;cases z),λm' h1 h2 _=>?_⟩
  obtain rfl:m'=m:=Rat.ext h1 (by omega)
  exact ⟨λz=>absurd z (Xq.mpr hm),λ_ J3 o3 b3 ok3 mv3=>let ⟨d1,m1⟩:=b.PQ b3 mv3;q J3 o3 d1 ok3 m1⟩
 ·have i0:iD J (ff n gs) (.int 0)=some (.str "watch"):=eQ _ _
  have i1:iD J (ff n gs) (.int 1)=some (.str n):=iJ _ _ _
  have i2:iD J (ff n gs) (.int 2)=some (.tup (gs.map .str)):=rF _ _ _ _
  simp_all! [i0,RM]
  refine ⟨λ_ J'=>Q (.fl []) J',?_,λτ' J' z=>by simp_all! [];exact z⟩
  simp_all! [i0,i1,i2,RN,RP,RQ,RL,bo]
  exact ⟨jY,h⟩
 ·have i0:iD J (cZ n) (.int 0)=some (.str "unwatch"):=eQ _ _
  have i1:iD J (cZ n) (.int 1)=some (.str n):=iJ _ _ _
  simp_all! [i0,RC]
  refine ⟨λ_ J'=>Q (.fl []) J',?_,λτ' J' z=>by simp_all! [];exact z⟩
  simp_all! [i0,i1,RF,RH,RJ,Rz,RK,bo]
  exact ⟨jY,h⟩
variable {E:Addr→Hq→Prop}
theorem Ce {Q Q':PV→Hq→Prop} (h:Au cD cN cL cC eW xs J Q E) (hq:∀v J,Q v J→Q' v J):Au cD cN cL cC eW xs J Q' E :=
 let ⟨p,k,L,ps,ds,cw,n,e,b,q1,q⟩:=h
 ⟨p,k,L,ps,ds,cw,n,e,b,q1,λhn J' d m=>hq _ _ (q hn J' d m)⟩
theorem wo {eT:Addr} {Q Q':PV→Hq→Prop} (h:mw cD cN cL cC T Tg eB eT eC eU xs J Q E) (hq:∀v J,Q v J→Q' v J):mw cD cN cL cC T Tg eB eT eC eU xs J Q' E :=
 let ⟨p,k,L,ps,ds,cw,n,gs,e,b,ok,h1,h2,h3,h4,q1,q2,q3,q4,q⟩:=h
 ⟨p,k,L,ps,ds,cw,n,gs,e,b,ok,h1,h2,h3,h4,q1,q2,q3,q4,λa1 a2 a3 a4 J' a r d m=>hq _ _ (q a1 a2 a3 a4 J' a r d m)⟩
theorem wm {eT:Addr} {Q Q':PV→Hq→Prop} (h:iB cD cN cL cC T Tg eB eT eC eU eW xs J Q E) (hq:∀v J,Q v J→Q' v J):iB cD cN cL cC T Tg eB eT eC eU eW xs J Q' E:=by
 obtain ⟨p,k,L,ps,ds,cw,dv,e,b,ok,h⟩:=h
 refine ⟨p,k,L,ps,ds,cw,dv,e,b,ok,?_⟩
 rcases h with ⟨n,x,v,e0,hT,hg,hb,hn,hr,hc,hl,q⟩ | ⟨m,e0,hg,hm,q⟩ | ⟨n,gs,e0,h⟩ | ⟨n,e0,h⟩
 ·exact .inl ⟨n,x,v,e0,hT,hg,hb,hn,hr,hc,hl,λJ' L' a1 a2 a3 a4=>hq _ _ (q J' L' a1 a2 a3 a4)⟩
 ·exact .inr (.inl ⟨m,e0,hg,hm,λJ' o' a1 a2 a3=>hq _ _ (q J' o' a1 a2 a3)⟩)
 ·exact .inr (.inr (.inl ⟨n,gs,e0,wo h λ_ J'=>hq _ J'⟩))
 ·exact .inr (.inr (.inr ⟨n,e0,Ce h λ_ J'=>hq _ J'⟩))
abbrev qO:Stmt:=(inClass (top 49) 1)
abbrev ou:List Str:=["self","deed"]
theorem uE:av ["self","deed","passings"] ["self","deed"] (aq qO):=dO
def DH (cD cN cL cC T Tg eB eT eC eU eW:Addr):cI:=λxs J Q E=>∃(p:Addr) (k:Dk) (L:Ln) (ps:List ax) (ds:List PV) (cw:List Cw) (dv:PV),xs=[.ref p,dv]∧cF cD cN cL cC J p k L ps ds cw∧ds.length < 1000∧ps.length≤2000 ∧
 iB cD cN cL cC T Tg eB eT eC eU eW [.ref p,dv] J (λv J1=>∃(L1:Ln) (bs:List ax) (cw1:List Cw),v=.fl (bs.map ax.v)∧cF cD cN cL cC J1 p k L1 ps ds cw1∧eg L1∧Mv J J1 (k.dD p L cw) (k.dD p L1 cw1)∧(∀y∈bs,0≤y.m∧y.m≤L1.t∧Sz 900 y.m)∧bs.length≤200∧(∀c∈cw1,c.w.length≤600) ∧
  ∀J',cF cD cN cL cC J' p k L1 (ps ++ bs) (ds ++ [dv]) (cw1.map λc=>c.told (bY L1 bs))→Mv J J' (k.dD p L cw) (k.dD p L1 (cw1.map λc=>c.told (bY L1 bs)))→Q (.fl (bs.map ax.v)) J') E
theorem BB {eT:Addr} (F:bZ K "do" "Desk.do" qO f fd) (Z:bE mg) (aA:cR K mg "Desk" cD) (b_:ay K cD "deeds") (bD:ay K cD "passings") (fM:bU P w K mg base cD 9 "carry_out" iU (iB cD cN cL cC T Tg eB eT eC eU eW)) (gx:bU P w K mg base cD 8 "note_all" jI (DK cD cN cL cC)):aK P w K mg base (cq P w) 10 f fd ou (cP K (DH cD cN cL cC T Tg eB eT eC eU eW)):=by
 simp_arith [uE,(ak (aD (i:=2) uE.nd (a_ (pl:=_) fM B hr (rv 0) (af (rv 1) ah)))
   (ak (aV (eV V3 Wb Wc cK (aH aA.cl b_ (rv 0)) (af (rv 1) ah)))
   (ak (aV (eV V3 XN YH wW (aH aA.cl bD (rv 0)) (af (rv 2) ah)))
   (ak (aV (a_ (pl:=_) gx B hr (rv 0) (af (rv 2) ah)))
   (ar (aB (rv 2)))))))]
 ·obtain ⟨p,k,L,ps,ds,cw,dv,rfl,_⟩:=h;rfl
 obtain ⟨p,k,L,ps,ds,cw,dv,rfl,b,dl,pl,h⟩:=h
 have bo:=b.ob
 refine hX ?_
 simp_all! [bo]
 refine ⟨jY,wm h ?_⟩
 clear h
 intro v J1 h
 obtain ⟨L1,bs,cw1,rfl,b1,ok1,mv,sb,bl,wl,q⟩:=h
 refine hNq _ _ ?_
 clear hNq Nq
 have o1:=b1.ob
 have p1:=b1.pas
 have d1:=b1.dee
 have epd:p≠k.de:=λz=>by rw [z,d1] at o1;cases o1
 obtain ⟨b2,mv2⟩:=b1.TR (ps1:=ps ++ bs) (ds1:=ds ++ [dv])
 rw [VP] at b2 mv2
 simp_all! [o1,P_,d1]
 refine ⟨V7 dl (by decide),hNq _ _ ?_⟩
 clear hNq Nq
 have o2:put J1 k.de (.lst (ds ++ [dv])) p=some (.ins cD [("water",.ref k.w),("passings",.ref k.pa),("deeds",.ref k.de),("crowns",.ref k.cr)]):=by rw [ag epd];exact o1
 have p2:put J1 k.de (.lst (ds ++ [dv])) k.pa=some (.lst (ps.map ax.v)):=by rw [ag b1.pd];exact p1
 simp_all! [o2,P9,p2]
 refine ⟨_,_,_,rfl,rfl,p2,by rw [VM,VM];exact V6 (Nat.add_le_add pl bl) (by decide),hNq _ _ ?_⟩
 clear hNq Nq
 generalize put (put J1 k.de (.lst (ds ++ [dv]))) k.pa (.lst (ps.map ax.v ++ bs.map ax.v))=J2 at b2 mv2 ⊢
 simp_all! [b2.ob]
 refine ⟨jY,p,k,L1,ps ++ bs,ds ++ [dv],cw1,bs,rfl,b2,ok1,sb,bl,wl,λJ' b3 mv3=>hNq _ _ ?_⟩
 clear hNq Nq
 simp_all! []
 exact q J' b3 ((mv.trans mv2).trans mv3)
abbrev mh:Stmt:=(inClass (top 49) 3)
abbrev pF:List Str:=["self"]
theorem yX:av ["self"] ["self"] (aq mh):=dO
def DJ (cD cN cL cC:Addr):cI:=λxs J Q _=>∃(p:Addr) (k:Dk) (L:Ln) (ps:List ax) (ds:List PV) (cw:List Cw),xs=[.ref p]∧cF cD cN cL cC J p k L ps ds cw∧eg L∧∀J' p' L',Sub J J'→bV cN cL J' p' L'→eg L'→L.alike L'→(∀a,L'.own p' a→J a=none)→Q (.ref p') J'
theorem ye (F:bZ K "lane" "Desk.lane" mh f fd) (Z:bE mg) (aA:cR K mg "Desk" cD) (aF:ay K cD "water") (lS:bU P w K mg base cN 4 "twin" pI (DT cN cL)):aK P w K mg base (cq P w) 5 f fd pF (cP K (DJ cD cN cL cC)):=by
 simp_arith [yX,(ar (aB (b8 (pl:=_) lS B hr (aH aA.cl aF (rv 0)))))]
 ·obtain ⟨p,k,L,ps,ds,cw,rfl,_⟩:=h;rfl
 obtain ⟨p,k,L,ps,ds,cw,rfl,b,ok,q⟩:=h
 have bo:=b.ob
 have lo:=b.la.ob
 refine hX ?_
 simp_all! [bo,zM,lo]
 exact ⟨kU,k.w,L,rfl,b.la,ok,q⟩
abbrev mf:Stmt:=(inClass (top 49) 4)
abbrev pE:List Str:=["self"]
theorem yW:av ["self"] ["self"] (aq mf):=dO
def DG (cD cN cL cC:Addr):cI:=λxs J Q _=>∃(p:Addr) (k:Dk) (L:Ln) (ps:List ax) (ds:List PV) (cw:List Cw),xs=[.ref p]∧cF cD cN cL cC J p k L ps ds cw∧Q (.fl (ps.map ax.v)) J
theorem yc (F:bZ K "book" "Desk.book" mf f fd) (Z:bE mg) (aA:cR K mg "Desk" cD) (bD:ay K cD "passings"):aK P w K mg base (cq P w) 1 f fd pE (cP K (DG cD cN cL cC)):=by
 simp_arith [yW,(ar (aB (dq zB rfl Z.list boot_list (af (aH aA.cl bD (rv 0)) ah))))]
 ·obtain ⟨p,k,L,ps,ds,cw,rfl,_⟩:=h;rfl
 obtain ⟨p,k,L,ps,ds,cw,rfl,b,q⟩:=h
 have bo:=b.ob
 have bp:=b.pas
 refine hX ?_
 simp_all! [bo,P9,bp]
 exact q
abbrev iq:Stmt:=(inClass (top 49) 5)
abbrev kO:List Str:=["self"]
theorem sD:av ["self"] ["self"] (aq iq):=dO
def uM (cD cN cL cC:Addr):cI:=λxs J Q _=>∃(p:Addr) (k:Dk) (L:Ln) (ps:List ax) (ds:List PV) (cw:List Cw),xs=[.ref p]∧cF cD cN cL cC J p k L ps ds cw∧Q (.fl ds) J
theorem sj (F:bZ K "journal" "Desk.journal" iq f fd) (Z:bE mg) (aA:cR K mg "Desk" cD) (b_:ay K cD "deeds"):aK P w K mg base (cq P w) 1 f fd kO (cP K (uM cD cN cL cC)):=by
 simp_arith [sD,(ar (aB (dq zB rfl Z.list boot_list (af (aH aA.cl b_ (rv 0)) ah))))]
 ·obtain ⟨p,k,L,ps,ds,cw,rfl,_⟩:=h;rfl
 obtain ⟨p,k,L,ps,ds,cw,rfl,b,q⟩:=h
 have bo:=b.ob
 have bd:=b.dee
 refine hX ?_
 simp_all! [bo,P_,bd]
 exact q
abbrev gD:Stmt:=(inClass (top 49) 0)
abbrev jH:List Str:=["self"]
theorem qS:av ["self"] ["self"] (aq gD):=dO
def DI (cD cN cL cC:Addr):cI:=λxs J Q _=>∃p,xs=[.ref p]∧J p=some (.ins cD [])∧∀J' k d e o,cF cD cN cL cC J' p k ⟨0,d,e,o,[],[]⟩ [] [] []→Mv J J' (λa=>a=p) (k.dD p ⟨0,d,e,o,[],[]⟩ [])→Q .non J'
theorem yd (F:bZ K "__init__" "Desk.__init__" gD f fd) (aA:cR K mg "Desk" cD) (aF:ay K cD "water") (bD:ay K cD "passings") (b_:ay K cD "deeds") (aT:ay K cD "crowns") (qi:vB P w K mg base cN 1 "Lane" fQ (zd cN cL)):aK P w K mg base (cq P w) 3 f fd jH (cP K (DI cD cN cL cC)):=by
 simp_arith [qS,(ak (dt aA.cl aF (rv 0) (pO qi B hr))
   (ak (dt aA.cl bD (rv 0) (fb ah))
   (ak (dt aA.cl b_ (rv 0) (fb ah))
   (ar (dt aA.cl aT (rv 0) mY)))))]
 ·obtain ⟨p,rfl,_⟩:=h;rfl
 obtain ⟨p,rfl,hp,q⟩:=h
 refine hX ?_
 simp_all! [hp]
 intro w hw
 have nwp:w≠p:=λz=>by subst z;rw [hp] at hw;cases hw
 refine ⟨w,rfl,aj,λJ1 d e o b mv=>⟨rfl,?_⟩⟩
 have mvJ:Mv J J1 (λa=>a=p) (λa=>Ln.own ⟨0,d,e,o,[],[]⟩ w a∨a=p):=by
  refine (Mv.BA (S:=λa=>a=p) (o:=.ins cN []) hw).trans ⟨λa u h n=>mv.keep a u h λz=>n (.inr z),λa z=>?_,mv.mono⟩
  rcases z with z | z
  ·exact (mv.own a z).imp .inr id
  ·exact .inl (.inl z)
 have hp1:J1 p=some (.ins cD []):=mv.keep _ _ (by rw [ag (Ne.symm nwp)];exact hp) (Ne.symm nwp)
 refine dP hp1 ⟨by show (0:Nat) < 1000;decide,?_⟩
 have np:¬ Ln.own ⟨0,d,e,o,[],[]⟩ w p:=λz=>by
  rcases mv.own _ z with y | y
  ·exact nwp y.symm
  ·rw [ag (Ne.symm nwp),hp] at y;cases y
 simp_all! []
 intro pa hpa
 have npa:pa≠p:=λz=>by subst z;rw [aj] at hpa;cases hpa
 have r1:iH ("passings":Str) (PV.ref pa) ([("water",.ref w)]:List (Str × PV))=([("water",.ref w),("passings",.ref pa)]:List (Str × PV)):=by rfl
 refine dP (by rw [ag (Ne.symm npa)];exact aj) ⟨by show (1:Nat) < 1000;decide,?_⟩
 rw [r1]
 refine hNq _ _ ?_
 clear hNq Nq
 simp_all! []
 intro de hde
 have nde:de≠p:=λz=>by subst z;rw [aj] at hde;cases hde
 have r2:iH ("deeds":Str) (PV.ref de) ([("water",.ref w),("passings",.ref pa)]:List (Str × PV))=([("water",.ref w),("passings",.ref pa),("deeds",.ref de)]:List (Str × PV)):=by rfl
 refine dP (by rw [ag (Ne.symm nde)];exact aj) ⟨by show (2:Nat) < 1000;decide,?_⟩
 rw [r2]
 refine hNq _ _ ?_
 clear hNq Nq
 simp_all! []
 intro cr hcr ec
 have ncr:cr≠p:=λz=>by subst z;rw [aj] at hcr;cases hcr
 have r3:iH ("crowns":Str) (PV.ref cr) ([("water",.ref w),("passings",.ref pa),("deeds",.ref de)]:List (Str × PV))=([("water",.ref w),("passings",.ref pa),("deeds",.ref de),("crowns",.ref cr)]:List (Str × PV)):=by rfl
 refine dP (by rw [ag (Ne.symm ncr)];exact aj) ⟨by show (3:Nat) < 1000;decide,?_⟩
 rw [r3]
 have C8:de≠pa:=λz=>by subst z;rw [ag nde,aj] at hde;cases hde
 have ncd:cr≠de:=λz=>by subst z;rw [ag ncr,aj] at hcr;cases hcr
 have ncp:cr≠pa:=λz=>by subst z;rw [ag ncr,ag (Ne.symm C8),ag npa,aj] at hcr;cases hcr
 have j1:J1 pa=none:=by rw [ag npa] at hpa;exact hpa
 have j2:J1 de=none:=by rw [ag nde,ag C8,ag nde] at hde;exact hde
 have j3:J1 cr=none:=by rw [ag ncr,ag ncd,ag ncr,ag ncp,ag ncr] at hcr;exact hcr
 have key:∀x,x≠p→put (put (put (put (put (put (put J1 p (.ins cD [("water",.ref w)])) pa (.lst [])) p (.ins cD [("water",.ref w),("passings",.ref pa)])) de (.lst [])) p (.ins cD [("water",.ref w),("passings",.ref pa),("deeds",.ref de)])) cr (.dct [] ec)) p (.ins cD [("water",.ref w),("passings",.ref pa),("deeds",.ref de),("crowns",.ref cr)]) x=put (put (put J1 pa (.lst [])) de (.lst [])) cr (.dct [] ec) x:=λx nx=>by
  rw [ag nx]
  by_cases e1:x=cr
  ·subst e1;rw [aj,aj]
  rw [ag e1,ag e1,ag nx]
  by_cases e2:x=de
  ·subst e2;rw [aj,aj]
  rw [ag e2,ag e2,ag nx]
  by_cases e3:x=pa
  ·subst e3;rw [aj,aj]
  rw [ag e3,ag e3,ag nx]
 have kp:put (put (put (put (put (put (put J1 p (.ins cD [("water",.ref w)])) pa (.lst [])) p (.ins cD [("water",.ref w),("passings",.ref pa)])) de (.lst [])) p (.ins cD [("water",.ref w),("passings",.ref pa),("deeds",.ref de)])) cr (.dct [] ec)) p (.ins cD [("water",.ref w),("passings",.ref pa),("deeds",.ref de),("crowns",.ref cr)]) p=some (.ins cD [("water",.ref w),("passings",.ref pa),("deeds",.ref de),("crowns",.ref cr)]):=aj
 generalize put (put (put (put (put (put (put J1 p (.ins cD [("water",.ref w)])) pa (.lst [])) p (.ins cD [("water",.ref w),("passings",.ref pa)])) de (.lst [])) p (.ins cD [("water",.ref w),("passings",.ref pa),("deeds",.ref de)])) cr (.dct [] ec)) p (.ins cD [("water",.ref w),("passings",.ref pa),("deeds",.ref de),("crowns",.ref cr)])=J7 at key kp ⊢
 have old:∀x u,x≠p→J1 x=some u→J7 x=some u:=λx u nx e=>by
  rw [key x nx,ag (λz=>by subst z;rw [j3] at e;cases e),ag (λz=>by subst z;rw [j2] at e;cases e),ag (λz=>by subst z;rw [j1] at e;cases e)];exact e
 refine q J7 ⟨w,pa,de,cr⟩ d e o ⟨kp,b.keep λa u ow z=>old a u (λy=>by subst y;exact np ow) z,?_,?_,⟨ec,?_⟩,(λ_ z=>nomatch z),(λ_ z=>nomatch z),.nil,.nil,np,λz=>b.some z j1,λz=>b.some z j2,λz=>b.some z j3,(λ_ z=>nomatch z),(λ_ z=>nomatch z),Ne.symm C8⟩ ⟨λa u e n=>old a u n (mvJ.keep a u e n),λa z=>?_,λa z=>mvJ.mono a ?_⟩
 ·rw [key _ npa,ag (Ne.symm ncp),ag (Ne.symm C8)];exact aj
 ·rw [key _ nde,ag (Ne.symm ncd)];exact aj
 ·rw [key _ ncr];exact aj
 ·rcases z with z | z | z | z | z | ⟨_,z,_⟩
  ·exact mvJ.own a (.inl z)
  ·exact .inl z
  ·subst z;exact .inr (mvJ.mono _ j1)
  ·subst z;exact .inr (mvJ.mono _ j2)
  ·subst z;exact .inr (mvJ.mono _ j3)
  ·cases z
 ·cases e1:J1 a with
  | none=>rfl
  | some u =>
   by_cases e2:a=p
   ·subst e2;rw [kp] at z;cases z
   ·rw [old a u e2 e1] at z;cases z
abbrev jj:Stmt:=(inClass (top 49) 7)
abbrev hU:List Str:=["self","mark"]
theorem uF:av ["self","mark"] ["self","mark"] (aq jj):=dO
def q9 (cD cN cL cC eW:Addr):cI:=λxs J Q E=>∃(p:Addr) (k:Dk) (L:Ln) (ps:List ax) (ds:List PV) (cw:List Cw) (n:Str),xs=[.ref p,.str n]∧cF cD cN cL cC J p k L ps ds cw∧(n ∉ cw.map Cw.n→E eW J)∧(∀c∈cw,c.n=n→∀l,c.w.getLast?=some l→Q (sv l.l) J)
theorem t_ (F:bZ K "leader" "Desk.leader" jj f fd) (Z:bE mg) (aA:cR K mg "Desk" cD) (bt:bU P w K mg base cD 1 "crown_of" dn (As cD cN cL cC eW)) (gY:bU P w K mg base cC 1 "leader" kM (xi cC)):aK P w K mg base (cq P w) 2 f fd hU (cP K (q9 cD cN cL cC eW)):=by
 simp_arith [uF,(ar (aB (b8 (pl:=_) gY B hr (a_ (pl:=_) bt B hr (rv 0) (af (rv 1) ah)))))]
 ·obtain ⟨p,k,L,ps,ds,cw,n,rfl,_⟩:=h;rfl
 obtain ⟨p,k,L,ps,ds,cw,n,rfl,b,q1,q⟩:=h
 have bo:=b.ob
 refine hX ?_
 simp_all! [bo]
 refine ⟨jY,p,k,L,ps,ds,cw,n,rfl,b,q1,λc hm en=>?_⟩
 have co:=(b.cat c hm).o
 obtain ⟨l,hl⟩:∃l,c.w.getLast?=some l:=by
  cases e:c.w.getLast? with
  | none=>exact absurd (List.getLast?_eq_none_iff.mp e) (b.tJ c hm)
  | some l=>exact ⟨l,rfl⟩
 simp_all! [co]
 exact ⟨Tp _ _,c.a,c.r,c.gs,c.w,l,rfl,b.cat c hm,hl,q c hm en l hl⟩
abbrev ko:Stmt:=(inClass (top 49) 8)
abbrev jc:List Str:=["self","mark"]
theorem v_:av ["self","mark"] ["self","mark"] (aq ko):=dO
def uN (cD cN cL cC eW:Addr):cI:=λxs J Q E=>∃(p:Addr) (k:Dk) (L:Ln) (ps:List ax) (ds:List PV) (cw:List Cw) (n:Str),xs=[.ref p,.str n]∧cF cD cN cL cC J p k L ps ds cw∧(n ∉ cw.map Cw.n→E eW J)∧(∀c∈cw,c.n=n→Q (.fl (c.w.map bz.V)) J)
theorem vO (F:bZ K "story" "Desk.story" ko f fd) (Z:bE mg) (aA:cR K mg "Desk" cD) (bt:bU P w K mg base cD 1 "crown_of" dn (As cD cN cL cC eW)) (i8:bU P w K mg base cC 1 "story" lV (Ar cC)):aK P w K mg base (cq P w) 2 f fd jc (cP K (uN cD cN cL cC eW)):=by
 simp_arith [v_,(ar (aB (b8 (pl:=_) i8 B hr (a_ (pl:=_) bt B hr (rv 0) (af (rv 1) ah)))))]
 ·obtain ⟨p,k,L,ps,ds,cw,n,rfl,_⟩:=h;rfl
 obtain ⟨p,k,L,ps,ds,cw,n,rfl,b,q1,q⟩:=h
 have bo:=b.ob
 refine hX ?_
 simp_all! [bo]
 refine ⟨jY,p,k,L,ps,ds,cw,n,rfl,b,q1,λc hm en=>?_⟩
 have co:=(b.cat c hm).o
 simp_all! [co]
 exact ⟨Tq _ _,c.a,c.r,c.gs,c.w,rfl,b.cat c hm,.inl (q c hm en)⟩
abbrev me:Stmt:=(inClass (top 23) 4)
abbrev pD:List Str:=["self","moment"]
theorem yV:av ["self","moment","at"] ["self","moment"] (aq me):=dO
theorem yb (F:bZ K "who" "Crown.who" me f fd):aK P w K mg base (cq P w) 1 f fd pD (cP K AA) :=
 Nn F yV (λxs J Q E h=>h.elim) (λcdv A outer s H E G xs J Q E2 hr h B=>h.elim)
abbrev jk:Stmt:=(inClass (top 49) 9)
abbrev lW:List Str:=["self","mark","moment"]
theorem mq:av ["self","mark","moment","crown"] ["self","mark","moment"] (aq jk):=dO
def HV (cD cN cL cC eW:Addr):cI:=λxs J Q E=>∃(p:Addr) (k:Dk) (L:Ln) (ps:List ax) (ds:List PV) (cw:List Cw) (n:Str) (m:Rat),xs=[.ref p,.str n,fr m]∧cF cD cN cL cC J p k L ps ds cw∧n ∉ cw.map Cw.n∧E eW J
theorem uc {eN:Addr} (F:bZ K "led_by" "Desk.led_by" jk f fd) (Z:bE mg) (aA:cR K mg "Desk" cD) (aF:ay K cD "water") (dz:Own K mg "NotThere" eN) (dM:b7 P w K mg base 1 "less" gL dj) (bt:bU P w K mg base cD 1 "crown_of" dn (As cD cN cL cC eW)) (bN:bU P w K mg base cN 1 "clock" eS (mx cN cL)) (lN:bU P w K mg base cC 1 "who" pD AA):aK P w K mg base (cq P w) 2 f fd lW (cP K (HV cD cN cL cC eW)):=by
 simp_arith [mq,(ak (aD (i:=3) mq.nd (a_ (pl:=_) bt B hr (rv 0) (af (rv 1) ah)))
   (ak (aY (cm (aU dM B hr (af (b8 (pl:=_) bN B hr (aH aA.cl aF (rv 0))) (af (rv 2) ah)))) (ar (cE dz rfl bH B.kn rfl (af aS ah))) aR)
   (ar (aB (a_ (pl:=_) lN B hr (rv 3) (af (rv 2) ah))))))]
 ·obtain ⟨p,k,L,ps,ds,cw,n,m,rfl,_⟩:=h;rfl
 obtain ⟨p,k,L,ps,ds,cw,n,m,rfl,b,hn,q⟩:=h
 have bo:=b.ob
 refine hX ?_
 simp_all! [bo]
 exact ⟨jY,p,k,L,ps,ds,cw,n,rfl,b,λ_=>q,λc hm en=>absurd (VQ.mpr ⟨c,hm,en⟩) hn⟩
variable {m:Rat}
theorem zH (h0:0≤m) (hd:m.den≤60) (h1:m.num≤1000000 * (m.den:Int)):gW m.num m.den=true:=by
 refine decide_eq_true ⟨by omega,by have:=m.den_pos;omega,?_,Rat.num_nonneg.mpr h0,h1⟩
 have:=m.reduced
 unfold WE
 exact this
theorem DY {p q:Rat} {v:Int} (hv:0 < v):Wm (t.num * ((p.den:Int) * (q.den:Int) * v) + (q.num * (p.den:Int) - p.num * (q.den:Int)) * (t.den:Int)) ((t.den:Int) * ((p.den:Int) * (q.den:Int) * v))=t + (q - p) / (v:Rat):=by
 have a:=cast_eq t
 have b:=cast_eq p
 have c:=cast_eq q
 have d:=dU t
 have e:=dU p
 have f:=dU q
 have k:(v:Rat)≠0:=lI (by omega)
 rw [WV]
 simp only [Wk,XR,Yd,a,b,c]
 generalize (((t.den:Int)):Rat)=x at d ⊢
 generalize (((p.den:Int)):Rat)=y at e ⊢
 generalize (((q.den:Int)):Rat)=z at f ⊢
 generalize (v:Rat)=w at k ⊢
 have h1:y * z≠0:=λh=>by rcases Zf.mp h with h | h <;> contradiction
 have h2:y * z * w≠0:=λh=>by rcases Zf.mp h with h | h <;> contradiction
 have h3:x * (y * z * w)≠0:=λh=>by rcases Zf.mp h with h | h <;> contradiction
 grind
theorem oO.CA (h:oO 240 l) (st:Sz 240 t):Sz 790 (l.at t):=by
 have s1:Sz 481 (t - l.m):=st.sub h.m
 have s2:Sz 545 ((t - l.m) * (l.v:Rat)):=s1.mul h.v
 exact h.p.add s2
theorem DZ {p q:Rat} {v:Int} (st:Sz 240 t) (sp:Sz 790 p) (sq:Sz 790 q) (bv:Bd 70 v) (hv:0 < v):Bd 1650 ((p.den:Int) * (q.den:Int) * v)∧Bd 1590 (q.num * (p.den:Int) - p.num * (q.den:Int))∧Bd 1900 ((t.den:Int) * ((p.den:Int) * (q.den:Int) * v))∧Sz 9000 (t + (q - p) / (v:Rat)):=by
 have h1:Bd 1650 ((p.den:Int) * (q.den:Int) * v):=.mul (.mul (k:=1580) sp.den sq.den) bv
 have h2:Bd 1590 (q.num * (p.den:Int) - p.num * (q.den:Int)):=.sub (Bd.mul (k:=1580) sq.num sp.den) (Bd.mul (k:=1580) sp.num sq.den)
 have h3:Bd 1900 ((t.den:Int) * ((p.den:Int) * (q.den:Int) * v)):=.mul st.den h1
 refine ⟨h1,h2,h3,?_⟩
 rw [← DY hv]
 have hd:0 < (t.den:Int) * ((p.den:Int) * (q.den:Int) * v):=Xw (fu _) (Xw (Xw (fu _) (fu _)) hv)
 exact (Sz.div (n:=1901) (.add (Bd.mul (k:=1900) st.num h1) (Bd.mul (k:=1900) h2 st.den)) (h3.mono (by decide)) (by omega)).mono (by decide)
theorem DV (p q:Rat):(0 < q.num * (p.den:Int) - p.num * (q.den:Int))=(p < q):=by
 rw [← qp p q];exact propext (by omega)
abbrev HL:Stmt:=(top 58)
abbrev rS:List Str:=["_law_legs","_law_clock","_law_moment"]
theorem fV:av ["_law_legs","_law_clock","_law_moment","_law_out","_law_fast","_law_here","_law_slow","_law_pace","_law_there","_law_top","_law_under","_law_when","_law_row","_law_at_here"] ["_law_legs","_law_clock","_law_moment"] (aq HL):=dO
def Me:cI:=λxs J Q _=>∃(D:Addr) (fs:List (Str × bQ)) (ep:Nat) (t m:Rat),xs=[.ref D,fr t,fr m]∧J D=some (.dct (fL fs) ep)∧(fs.map (·.1)).Nodup∧fs.length≤20∧Sz 240 t∧Sz 900 m∧(∀x∈fs,oO 240 x.2)∧Q (.fl ((hE t (fs.map (key t)) m).map ax.v)) J
theorem JM (F:bZ K "_law_due" "_law_due" HL f fd) (Z:bE mg) (IL:b7 P w K mg base 2 "_law_at" oy xj) (Fs:b7 P w K mg base 1 "_law_low" lX uQ) (sX:b7 P w K mg base 1 "_law_before" h_ uL):aK P w K mg base (cq P w) 3 f fd rS (cP K Me):=by
 simp_arith [fV,(ak (aD (i:=3) fV.nd (fb ah))
   (ak (cV bA rfl (ki (rv 0)) (bq (i:=4) fV.nd) (ak (aD (i:=5) fV.nd (aU IL B hr (af (au bO (rv 0) (rv 4)) (af (rv 1) ah))))
   (ar (cV bA rfl (ki (rv 0)) (bq (i:=6) fV.nd) (ak (aD (i:=7) fV.nd (aJ g9 (au aw (au bO (rv 0) (rv 4)) ai) (au aw (au bO (rv 0) (rv 6)) ai)))
   (ak (aD (i:=8) fV.nd (aU IL B hr (af (au bO (rv 0) (rv 6)) (af (rv 1) ah))))
   (ak (aD (i:=9) fV.nd (aJ g9 (aJ bB (au aw (rv 8) ai) (au aw (rv 5) ai)) (aJ bB (au aw (rv 5) ai) (au aw (rv 8) ai))))
   (ar (aY (fj (jg (aG rM (rv 7) ai) (f' (aG rM (rv 9) ai)))) (ak (aD (i:=10) fV.nd (aJ bB (aJ bB (au aw (rv 5) ai) (au aw (rv 8) ai)) (rv 7)))
   (ak (aD (i:=11) fV.nd (aU Fs B hr (af (aJ cU (aJ bB (au aw (rv 1) ai) (rv 10)) (aJ bB (rv 9) (au aw (rv 1) ai))) (af (aJ bB (au aw (rv 1) ai) (rv 10)) ah))))
   (ak (aD (i:=12) fV.nd (bP (af (rv 11) (af (rv 4) (af (rv 6) ah)))))
   (ak (aD (i:=13) fV.nd ai)
   (ak (ik bA (fj (jg (aG lU (rv 13) (bG ft rfl Z.len boot_len (af (rv 3) ah))) (f' (cm (aU sX B hr (af (au aw (rv 3) (rv 13)) (af (rv 12) ah))))))) (ar (aD (i:=13) fV.nd (aJ cU (rv 13) ai))))
   (ar (aY (aG De (aJ bB (au aw (rv 11) ai) (au aw (rv 2) ai)) (aJ bB (au aw (rv 2) ai) (au aw (rv 11) ai))) (ar (aV (eV V3 W6 Xg mS (rv 3) (af (rv 13) (af (rv 12) ah))))) aR))))))) aR)))))))))
   (ar (aB (rv 3))))),F]
 ·obtain ⟨D,fs,ep,t,m,rfl,_⟩:=h;rfl
 obtain ⟨D,fs,ep,t,m,rfl,hD,hnd,hlen,st,sm,sl,q⟩:=h
 refine hX ?_
 simp_all! []
 intro r hr'
 have nDr:D≠r:=by intro e;subst e;rw [hD] at hr';cases hr'
 simp_all! [ag nDr,hD]
 have hkv:(fL fs).map (λkv=>PV.str kv.1)=fs.map λx=>PV.str x.1:=by unfold fL;rw [VX];rfl
 rw [hkv]
 obtain ⟨ks,hks⟩:∃ks,fs.map (key t)=ks:=⟨_,rfl⟩
 have hkn:(ks.map Ky.n).Nodup:=by rw [← hks,fh];exact hnd
 have hkl:ks.length=fs.length:=by rw [← hks,VM]
 have hkd:ks.Nodup:=List.Pairwise.of_map Ky.n (λa b h e=>h (by rw [e])) hkn
 have hkm:∀i (h:i < fs.length),ks[i]?=some (key t fs[i]):=λi h=>by rw [← hks,VS,VN h];rfl
 have hmz:∀a∈ks,∀b∈ks,b.v < a.v→Sz 9000 (dZ t a b):=λa ha b hb h=>by
  rw [← hks] at ha hb
  obtain ⟨x,hx,rfl⟩:=VQ.mp ha
  obtain ⟨y,hy,rfl⟩:=VQ.mp hb
  exact (DZ (v:=x.2.v - y.2.v) st ((sl x hx).CA st) ((sl y hy).CA st) (((sl x hx).v.sub (k:=66) (sl y hy).v).mono (by decide)) (by have:y.2.v < x.2.v:=h;omega)).2.2.2
 have hup:∀{ps:List (Ky × Ky)},(∀p∈ps,p.1∈ks∧p.2∈ks)→∀x∈cj t (b9 t m) ps,Sz 9000 x.m:=λhp x hx=>by
  obtain ⟨p,hp',hc,rfl⟩:=mQ _ hx
  exact hmz _ (hp p hp').1 _ (hp p hp').2 (of_decide_eq_true hc).1
 have hnew:∀{i:Nat} {l:List Ky} {y:Ky},l.Nodup→l[i]?=some y→y ∉ l.take i:=λ{i l y} hl hy hm=>by
  obtain ⟨j,hj⟩:=Wv.mp hm
  rw [List.getElem?_take] at hj
  split at hj
  ·rename_i hji
   obtain ⟨h1,e1⟩:=VO.mp hj
   obtain ⟨h2,e2⟩:=VO.mp hy
   have:=(Xn hl).mp (e1.trans e2.symm)
   omega
  ·cases hj
 have pin:∀{i j:Nat} {a:Ky},a∈ks→∀p∈((ks.take i).flatMap λa=>ks.map λb=>(a,b)) ++ (ks.take j).map (λb=>(a,b)),p.1∈ks∧p.2∈ks:=λ{i j a} ha p hp=>by
  rcases VY.mp hp with hp | hp
  ·obtain ⟨x,hx,hp⟩:=XI.mp hp
   obtain ⟨y,hy,rfl⟩:=VQ.mp hp
   exact ⟨W2 hx,hy⟩
  ·obtain ⟨y,hy,rfl⟩:=VQ.mp hp
   exact ⟨ha,W2 hy⟩
 obtain ⟨Inv,hInv⟩:∃Inv:Nat→Sr→Hq→Prop,∀i τ J',Inv i τ J'↔∃(u4 u5 u6 u7 u8 u9 u10 u11 u12 u13:Option PV),τ=[some (.ref D),some (fr t),some (fr m),some (.ref r),u4,u5,u6,u7,u8,u9,u10,u11,u12,u13]∧J'=put J r (.lst ((cj t (b9 t m) ((ks.take i).flatMap λa=>ks.map λb=>(a,b))).map ax.v))∧(cj t (b9 t m) ((ks.take i).flatMap λa=>ks.map λb=>(a,b))).length≤20 * i:=⟨_,λ_ _ _=>Iff.rfl⟩
 refine dW Inv ((hInv _ _ _).mpr ⟨_,_,_,_,_,_,_,_,_,_,rfl,rfl,VT _⟩) (λi τ J' h=>?_) ?_ ?_
 ·obtain ⟨_,_,_,_,_,_,_,_,_,_,_,rfl,_⟩:=(hInv _ _ _).mp h
  rw [ag nDr];exact hD
 ·intro i x τ J' hx hv
  obtain ⟨u4,u5,u6,u7,u8,u9,u10,u11,u12,u13,rfl,rfl,hle⟩:=(hInv _ _ _).mp hv
  clear hv
  have hi:i < fs.length:=by have:=(VO.mp hx).1;simpa using this
  rw [VS,VN hi] at hx
  cases hx
  have ha:=hkm i hi
  rcases hfi:fs[i] with ⟨n,l⟩
  have hmem:(n,l)∈fs:=by rw [← hfi];exact Wi hi
  rw [hfi] at ha
  have hvn:gP (fL fs) n=some l.V:=fZ (f:=bQ.V) hnd hmem
  have sll:=sl _ hmem
  have sla:=sll.CA st
  simp_all! [ag nDr,hD,hvn]
  refine ⟨l,t,rfl,sll.m.mono (by decide),sll.p.mono (by decide),st.mono (by decide),sll.v,?_⟩
  simp_all! [ag nDr,hD,hkv]
  have hak:key t (n,l)∈ks:=V0 ha
  have eio:((ks.take (i + 1)).flatMap λa=>ks.map λb=>(a,b))=((ks.take i).flatMap λa=>ks.map λb=>(a,b)) ++ ks.map λb=>(key t (n,l),b):=by
   rw [V',ha,List.flatMap_append];simp
  obtain ⟨In2,hIn2⟩:∃In2:Nat→Sr→Hq→Prop,∀j τ J',In2 j τ J'↔∃(u6 u7 u8 u9 u10 u11 u12 u13:Option PV),τ=[some (.ref D),some (fr t),some (fr m),some (.ref r),some (.str n),some (fr (l.at t)),u6,u7,u8,u9,u10,u11,u12,u13]∧J'=put J r (.lst ((cj t (b9 t m) (((ks.take i).flatMap λa=>ks.map λb=>(a,b)) ++ (ks.take j).map λb=>(key t (n,l),b))).map ax.v))∧(cj t (b9 t m) (((ks.take i).flatMap λa=>ks.map λb=>(a,b)) ++ (ks.take j).map λb=>(key t (n,l),b))).length≤20 * i + j:=⟨_,λ_ _ _=>Iff.rfl⟩
  refine dW In2 ((hIn2 _ _ _).mpr ⟨_,_,_,_,_,_,_,_,rfl,by simp,by simpa using hle⟩) (λj τ J' h=>?_) ?_ ?_
  ·obtain ⟨_,_,_,_,_,_,_,_,_,rfl,_⟩:=(hIn2 _ _ _).mp h
   rw [ag nDr];exact hD
  ·intro j x τ J2 hx hv
   obtain ⟨u6,u7,u8,u9,u10,u11,u12,u13,rfl,rfl,hle2⟩:=(hIn2 _ _ _).mp hv
   clear hv
   have hj:j < fs.length:=by have:=(VO.mp hx).1;simpa using this
   rw [VS,VN hj] at hx
   cases hx
   have hb:=hkm j hj
   rcases hfj:fs[j] with ⟨n',l'⟩
   have hmem':(n',l')∈fs:=by rw [← hfj];exact Wi hj
   rw [hfj] at hb
   have hvn':gP (fL fs) n'=some l'.V:=fZ (f:=bQ.V) hnd hmem'
   have sll':=sl _ hmem'
   have sla':=sll'.CA st
   have hbk:key t (n',l')∈ks:=V0 hb
   have ejo:ks.take (j + 1)=ks.take j ++ [key t (n',l')]:=by rw [V',hb];rfl
   have ef2:cj t (b9 t m) (((ks.take i).flatMap λa=>ks.map λb=>(a,b)) ++ (ks.take (j + 1)).map λb=>(key t (n,l),b))=nv t (b9 t m) (cj t (b9 t m) (((ks.take i).flatMap λa=>ks.map λb=>(a,b)) ++ (ks.take j).map λb=>(key t (n,l),b))) (key t (n,l),key t (n',l')):=by
    rw [ejo,VP,← X2];exact fK _ _ _ _
   have srt:=mP t (b9 t m) (((ks.take i).flatMap λa=>ks.map λb=>(a,b)) ++ (ks.take j).map λb=>(key t (n,l),b))
   have szs:=hup (pin (i:=i) (j:=j) hak)
   have hdr:dQ n n' (cj t (b9 t m) (((ks.take i).flatMap λa=>ks.map λb=>(a,b)) ++ (ks.take j).map λb=>(key t (n,l),b)))=cj t (b9 t m) (((ks.take i).flatMap λa=>ks.map λb=>(a,b)) ++ (ks.take j).map λb=>(key t (n,l),b)):=by
    refine Ei (p:=(key t (n,l),key t (n',l'))) (zq.of hkn λp hp=>?_) λhm=>?_
    ·rcases VY.mp hp with hp | hp
     ·exact pin hak p hp
     ·rw [VV] at hp;subst hp;exact ⟨hak,hbk⟩
    ·rcases VY.mp hm with hm | hm
     ·obtain ⟨x,hx,hp⟩:=XI.mp hm
      obtain ⟨y,hy,e⟩:=VQ.mp hp
      cases e
      exact hnew hkd ha hx
     ·obtain ⟨y,hy,e⟩:=VQ.mp hm
      have:y=key t (n',l'):=(Prod.mk.inj e).2
      subst this
      exact hnew hkd hb hy
   generalize cj t (b9 t m) (((ks.take i).flatMap λa=>ks.map λb=>(a,b)) ++ (ks.take j).map λb=>(key t (n,l),b))=rows at hle2 ef2 srt szs hdr ⊢
   have my:b9 t m (key t (n,l),key t (n',l'))=false→∀{v6 v7 v8 v9 v10 v11 v12 v13},In2 (j + 1) [some (.ref D),some (fr t),some (fr m),some (.ref r),some (.str n),some (fr (l.at t)),v6,v7,v8,v9,v10,v11,v12,v13] (put J r (.lst (rows.map ax.v))):=λhc _ _ _ _ _ _ _ _=>by
    have e:nv t (b9 t m) rows (key t (n,l),key t (n',l'))=rows:=by unfold nv;rw [if_neg (by rw [hc];decide)]
    exact (hIn2 _ _ _).mpr ⟨_,_,_,_,_,_,_,_,rfl,by rw [ef2,e],by rw [ef2,e];omega⟩
   simp_all! [ag nDr,hD,hvn,hvn',wN]
   refine ⟨l',t,rfl,sll'.m.mono (by decide),sll'.p.mono (by decide),st.mono (by decide),sll'.v,?_⟩
   simp_all! [DV]
   refine ⟨.of sla'.num sla.den,.of sla.num sla'.den,?_⟩
   try (refine hNq _ _ ?_;clear hNq Nq;simp_all! [DV])
   by_cases c1n:¬ 0 < l.v - l'.v
   ·rw [if_neg c1n]
    exact my (decide_eq_false (λz=>by have:l'.v < l.v:=z.1;omega))
   have c1:=Decidable.not_not.mp c1n
   rw [if_pos c1]
   by_cases c2n:¬ l.at t < l'.at t
   ·rw [if_neg c2n]
    exact my (decide_eq_false (λz=>c2n z.2.1))
   have c2:=Decidable.not_not.mp c2n
   rw [if_pos c2]
   have bv:Bd 70 (l.v - l'.v):=(sll.v.sub (k:=66) sll'.v).mono (by decide)
   obtain ⟨z1,z2,z3,z4⟩:=DZ st sla sla' bv c1
   have ew:t + (l'.at t - l.at t) / ((l.v - l'.v:Int):Rat)=dZ t (key t (n,l)) (key t (n',l')):=rfl
   have hd:0 < (t.den:Int) * (((l.at t).den:Int) * ((l'.at t).den:Int) * (l.v - l'.v)):=Xw (fu _) (Xw (Xw (fu _) (fu _)) c1)
   simp_all! []
   refine ⟨.of sla.den sla'.den,.of (Bd.mul (k:=1580) sla.den sla'.den) bv,?_⟩
   simp_all! [uQ]
   refine ⟨.of st.num z1,.of z2 st.den,.of st.den z1,hd,z3.mono (by decide),?_⟩
   rw [DY c1,ew]
   rw [ew] at z4
   have hcp:∀b:Bool,b9 t m (key t (n,l),key t (n',l'))=b↔decide (dZ t (key t (n,l)) (key t (n',l'))≤m)=b:=λb=>by
    have:b9 t m (key t (n,l),key t (n',l'))=decide (dZ t (key t (n,l)) (key t (n',l'))≤m):=decide_eq_decide.mpr ⟨λz=>z.2.2,λz=>⟨by show l'.v < l.v;omega,c2,z⟩⟩
    rw [this]
   have eput:nv t (b9 t m) rows (key t (n,l),key t (n',l'))=if b9 t m (key t (n,l),key t (n',l'))=true then lH ⟨dZ t (key t (n,l)) (key t (n',l')),n,n'⟩ rows else rows:=by
    unfold nv
    split
    ·show lH _ (dQ n n' rows)=_;rw [hdr];rfl
    ·rfl
   generalize dZ t (key t (n,l)) (key t (n',l'))=wh at z4 hcp eput ⊢
   simp_all! [Mj]
   obtain ⟨row,hrow⟩:∃row:ax,ax.mk wh n n'=row:=⟨_,rfl⟩
   have erm:row.m=wh:=by rw [← hrow]
   rw [hrow] at eput ⊢
   refine wM (V:=ax.v) (lt:=ax.lt) (ys:=rows) (b:=row) (iO:=3) (iA:=13) (iR:=12) rfl rfl rfl (by decide) (by decide) aj (λx hx R hR=>.inr ⟨x,row,rfl,szs x hx,by rw [erm];exact z4,hR⟩) (λhx hy h k=>AE srt hx hy h k) λh hj hlow hhigh=>?_
   have cle:(wh.num * (m.den:Int)≤m.num * (wh.den:Int))=(wh≤m):=propext (Rat.le_iff wh m).symm
   have stop:¬ wh≤m→b9 t m (key t (n,l),key t (n',l'))=false:=λz=>(hcp false).mpr (decide_eq_false z)
   simp_all! [aj,cle]
   refine ⟨.of z4.num sm.den,.of sm.num z4.den,?_⟩
   by_cases c6:wh≤m
   ·rw [if_pos c6]
    rw [if_pos ((hcp true).mpr (decide_eq_true c6))] at eput
    simp_all! [aj]
    refine ⟨_,h,rfl,rfl,by rw [VM];exact hj,ba (by rw [VM];omega),by omega,?_⟩
    rw [bI]
    refine (hIn2 _ _ _).mpr ⟨_,_,_,_,_,_,_,_,rfl,?_,by rw [ef2,eput,tS];omega⟩
    rw [ef2,eput,← CZ hj hlow hhigh,VP,VR,W4,XX]
   ·rw [if_neg c6]
    exact my (stop c6)
  ·intro τ J2 hv
   obtain ⟨u6,u7,u8,u9,u10,u11,u12,u13,rfl,rfl,hle2⟩:=(hIn2 _ _ _).mp hv
   rw [VM,← hkl,Wg,← eio] at hle2 ⊢
   exact (hInv _ _ _).mpr ⟨_,_,_,_,_,_,_,_,_,_,rfl,rfl,by omega⟩
 ·intro τ J' hv
  obtain ⟨u4,u5,u6,u7,u8,u9,u10,u11,u12,u13,rfl,rfl,hle⟩:=(hInv _ _ _).mp hv
  rw [VM,← hkl,Wg,zu hkn,← hks]
  simp_all! []
  exact Fg.rH (fv hr') aj hr' q
abbrev oB:Stmt:=(top 60)
abbrev jL:List Str:=["_law_order_here","_law_group"]
theorem iZ:av ["_law_order_here","_law_group","_law_best","_law_name"] ["_law_order_here","_law_group"] (aq oB):=dO
def DL:cI:=λxs J Q _=>∃(gs os:List Str) (y:PV),xs=[.fl (os.map .str),y]∧Mg J y=some (gs.map .str)∧Q (sv (aQ gs os)) J
theorem ym (F:bZ K "_law_foremost" "_law_foremost" oB f fd) (Z:bE mg):aK P w K mg base (cq P w) 1 f fd jL (cP K DL):=by
 simp_arith [iZ,(ak (aD (i:=2) iZ.nd l9)
   (ak (cV bA rfl (dS (rv 0)) (bq (i:=3) iZ.nd) (ar (aY (aG GQ (rv 3) (rv 1)) (ar (aD (i:=2) iZ.nd (rv 3))) aR)))
   (ar (aB (rv 2)))))]
 ·obtain ⟨gs,os,y,rfl,_⟩:=h;rfl
 obtain ⟨gs,os,y,rfl,hy',q⟩:=h
 refine hX ?_
 simp_all! []
 obtain ⟨Inv,hInv⟩:∃Inv:Nat→Sr→Hq→Prop,∀i τ J',Inv i τ J'↔∃(u:Option PV),τ=[some (.fl (os.map .str)),some y,some (sv (aQ gs (os.take i))),u]∧J'=J:=⟨_,λ_ _ _=>Iff.rfl⟩
 refine dW Inv ((hInv _ _ _).mpr ⟨_,rfl,rfl⟩) (λ_ _ _ _=>trivial) ?_ ?_
 ·intro i x τ J' hy hv
  obtain ⟨u,rfl,rfl⟩:=(hInv _ _ _).mp hv
  have hi:i < os.length:=by have:=(VO.mp hy).1;simpa using this
  rw [VS,VN hi] at hy
  cases hy
  have et:os.take (i + 1)=os.take i ++ [os[i]]:=by rw [V',VN hi];rfl
  simp_all! [Hm]
  refine ⟨gs,hy',?_⟩
  split
  ·rename_i c
   exact (hInv _ _ _).mpr ⟨_,by rw [et,i7,if_pos (by simpa using c)];rfl,rfl⟩
  ·rename_i c
   exact (hInv _ _ _).mpr ⟨_,by rw [et,i7,if_neg (by simpa using c)],rfl⟩
 ·intro τ J' hv
  obtain ⟨u,rfl,rfl⟩:=(hInv _ _ _).mp hv
  simp_all! []
  rw [VM,Wg]
  exact q
abbrev yT:Stmt:=(top 61)
abbrev nS:List Str:=["_law_rows","_law_moment","_law_best"]
theorem Aq:av ["_law_rows","_law_moment","_law_best","_law_out"] ["_law_rows","_law_moment","_law_best"] (aq yT):=dO
def AB:cI:=λxs J Q _=>∃(rows:List bz) (t:Rat) (l:Option Str),xs=[.fl (rows.map bz.V),fr t,sv l]∧rows.length≤900∧Q (.fl ((cu rows t l).map bz.V)) J
theorem EN (F:bZ K "_law_noted" "_law_noted" yT f fd) (Z:bE mg):aK P w K mg base (cq P w) 1 f fd nS (cP K AB):=by
 simp_arith [Aq,(ak (aD (i:=3) Aq.nd (dq jA rfl Z.list boot_list (af (rv 0) ah)))
   (f9 (aY (fj (jg (aG rM (bG ft rfl Z.len boot_len (af (rv 3) ah)) ai) (f' (aG (dh hr.aM) (au aw (au aw (rv 3) (ux oJ ai)) ai) (rv 1))))) (ar (aV (HB V3 Zd Ze Gy (rv 3)))) aR)
   (f9 (aY (fj (nT (aG (dh hr.aM) (bG ft rfl Z.len boot_len (af (rv 3) ah)) ai) (jh (aG (g8 hr.aM) (au aw (au aw (rv 3) (ux oJ ai)) ai) (rv 2))))) (ar (aV (eV V3 Wb Wc cK (rv 3) (af (bP (af (rv 1) (af (rv 2) ah))) ah)))) aR)
   (ar (aB (rv 3)))))),F]
 ·obtain ⟨rows,t,ld,rfl,_⟩:=h;rfl
 obtain ⟨rows,t,ld,rfl,hl,q⟩:=h
 refine hX ?_
 simp_all! []
 intro o ho
 refine hNq _ _ ?_
 clear hNq Nq
 simp_all! []
 obtain ⟨M,hM⟩:∃M:Sr→Hq→Prop,∀τ' J',M τ' J'↔τ'=[some (.fl (rows.map bz.V)),some (fr t),some (sv ld),some (.ref o)]∧J'=put J o (.lst ((eR rows t).map bz.V)):=⟨_,λ_ _=>Iff.rfl⟩
 refine ⟨M,?_,?_⟩
 ·rcases WI rows with rfl | ⟨ls,l,rfl⟩
  ·simp_all! [VM]
   rw [if_neg (by simp)]
   simp_all! []
   exact (hM _ _).mpr ⟨rfl,rfl⟩
  ·rw [WJ] at *
   have hla:c_ ((ls ++ [l]).map bz.V) (-1)=some l.V:=by rw [VP];exact mK _ _
   have er:eR (ls ++ [l]) t=if l.m=t then ls else ls ++ [l]:=by
    unfold eR
    simp only [Wl,Xu,Option.some.injEq,W0]
   simp_all! [hla,Lr,VM]
   rw [if_pos (by simp)]
   split
   ·rename_i e
    refine ⟨l.V,by simp,(hM _ _).mpr ⟨rfl,?_⟩⟩
    rw [er,if_pos e,VP,VR,Wj,W0,bI]
   ·rename_i e
    exact (hM _ _).mpr ⟨rfl,by rw [er,if_neg e]⟩
 intro τ' J' hm
 obtain ⟨rfl,rfl⟩:=(hM _ _).mp hm
 clear hm hM M
 have hrl:=qo rows t
 unfold cu at q
 generalize eR rows t=rest at q hrl ⊢
 obtain ⟨M,hM⟩:∃M:Sr→Hq→Prop,∀τ' J',M τ' J'↔τ'=[some (.fl (rows.map bz.V)),some (fr t),some (sv ld),some (.ref o)]∧J'=put J o (.lst ((vD rest t ld).map bz.V)):=⟨_,λ_ _=>Iff.rfl⟩
 refine ⟨M,?_,?_⟩
 ·unfold vD at hM
  simp_all! [bI,AJ,VM]
  rcases WI rest with rfl | ⟨ks,k,rfl⟩
  ·rw [if_pos (by rfl)]
   exact ⟨ba (by decide),(hM _ _).mpr ⟨rfl,rfl⟩⟩
  ·rw [WJ] at *
   have hk:c_ ((ks ++ [k]).map bz.V) (-1)=some k.V:=by rw [VP];exact mK _ _
   rw [if_neg (by simp;omega)]
   simp_all! [hk,C4,FH,yK,Lj]
   rw [Wl,Xu] at hM
   by_cases e:k.l=ld
   ·rw [if_pos e];exact (hM _ _).mpr ⟨rfl,by rw [if_pos (congrArg some e)]⟩
   ·rw [if_neg e];exact ⟨ba (by rw [VM];omega),(hM _ _).mpr ⟨rfl,by rw [if_neg (λz=>e (Option.some.inj z))];simp only [VP,VR,Wj,bI]⟩⟩
 intro τ' J' hm
 obtain ⟨rfl,rfl⟩:=(hM _ _).mp hm
 clear hm hM M
 simp_all! []
 exact Fg.rH (fv ho) aj ho q
structure Ls where
 lg:Addr
 on:Addr
 bk:Addr
 jr:Addr
def Ls.V (k:Ls) (a b:Addr) (t:Rat):List (Str × PV):=[("legs",.ref k.lg),("rows",.ref a),("gone",.ref b),("on",.ref k.on),("book",.ref k.bk),("journal",.ref k.jr),("clock",fr t)]
structure Lw where
 n:Str
 gs:List Str
 w:List bz
def Lw.V (c:Lw):Str × PV:=(c.n,.tup [.tup (c.gs.map .str),.fl (c.w.map bz.V)])
structure i5 (J:Hq) (S:Addr) (k:Ls) (fs:List (Str × bQ)) (t:Rat) (on:List Lw) (bs:List ax) (ds:List PV):Prop where
 ob:∃a b e,J S=some (.dct (k.V a b t) e)
 lg:∃e,J k.lg=some (.dct (fL fs) e)
 on:∃e,J k.on=some (.dct (on.map Lw.V) e)
 bk:J k.bk=some (.lst (bs.map ax.v))
 jr:J k.jr=some (.lst ds)
 nd:[S,k.lg,k.on,k.bk,k.jr].Nodup
def Ls.own (k:Ls) (S a:Addr):Prop:=a=S∨a=k.lg∨a=k.on∨a=k.bk∨a=k.jr
theorem bK (h:put J p o x=none):x≠p∧J x=none:=by
 by_cases e:x=p
 ·rw [e,aj] at h;cases h
 ·rw [ag e] at h;exact ⟨e,h⟩
abbrev s_fresh:Stmt:=(top 63)
abbrev nN:List Str:=[]
theorem HN:av [] [] (aq s_fresh):=dO
def DM:cI:=λxs J Q _=>xs=[]∧∀J' S k,i5 J' S k [] 0 [] [] []→Sub J J'→(∀a,k.own S a→J a=none)→Q (.ref S) J'
theorem EK (F:bZ K "_law_fresh" "_law_fresh" s_fresh f fd) (Z:bE mg):aK P w K mg base (cq P w) 1 f fd nN (cP K DM):=by
 simp_arith [HN,(ar (aB (HD (kg mY (kg mY (kg mY (kg mY (kg (fb ah) (kg (fb ah) (kg (bP (af ai (af ai ah))) NX))))))))))]
 ·obtain ⟨rfl,_⟩:=h;rfl
 obtain ⟨rfl,q⟩:=h
 refine hX ?_
 simp_all! [Hu,Hy,Ma]
 intro S hS e0 lg h1 e1 ra h2 e2 rb h3 e3 on h4 e4 bk h5 jr h6
 obtain ⟨a0,h1⟩:=bK h1
 obtain ⟨b1,h2⟩:=bK h2
 obtain ⟨b0,h2⟩:=bK h2
 obtain ⟨c2,h3⟩:=bK h3
 obtain ⟨c1,h3⟩:=bK h3
 obtain ⟨c0,h3⟩:=bK h3
 obtain ⟨d3,h4⟩:=bK h4
 obtain ⟨d2,h4⟩:=bK h4
 obtain ⟨d1,h4⟩:=bK h4
 obtain ⟨d0,h4⟩:=bK h4
 obtain ⟨f4,h5⟩:=bK h5
 obtain ⟨f3,h5⟩:=bK h5
 obtain ⟨f2,h5⟩:=bK h5
 obtain ⟨f1,h5⟩:=bK h5
 obtain ⟨f0,h5⟩:=bK h5
 obtain ⟨g5,h6⟩:=bK h6
 obtain ⟨g4,h6⟩:=bK h6
 obtain ⟨g3,h6⟩:=bK h6
 obtain ⟨g2,h6⟩:=bK h6
 obtain ⟨g1,h6⟩:=bK h6
 obtain ⟨g0,h6⟩:=bK h6
 refine ⟨?_,λe=>q _ S ⟨lg,on,bk,jr⟩ ⟨⟨ra,rb,e,aj⟩,⟨e1,?_⟩,⟨e4,?_⟩,?_,?_,?_⟩ ?_ ?_⟩
 ·rw [ag (Ne.symm g0),ag (Ne.symm f0),ag (Ne.symm d0),ag (Ne.symm c0),ag (Ne.symm b0),ag (Ne.symm a0)];exact aj
 ·rw [ag a0,ag (Ne.symm g1),ag (Ne.symm f1),ag (Ne.symm d1),ag (Ne.symm c1),ag (Ne.symm b1)];exact aj
 ·rw [ag d0,ag (Ne.symm g4),ag (Ne.symm f4)];exact aj
 ·rw [ag f0,ag (Ne.symm g5)];exact aj
 ·rw [ag g0];exact aj
 ·simp [Ne.symm a0,Ne.symm d0,Ne.symm f0,Ne.symm g0,Ne.symm d1,Ne.symm f1,Ne.symm g1,Ne.symm f4,Ne.symm g4,Ne.symm g5]
 ·intro a o z
  have ne:∀{x},J x=none→a≠x:=λh y=>by subst y;rw [h] at z;cases z
  rw [ag (ne hS),ag (ne h6),ag (ne h5),ag (ne h4),ag (ne h3),ag (ne h2),ag (ne h1),ag (ne hS)];exact z
 ·intro a z
  rcases z with rfl | rfl | rfl | rfl | rfl
  ·exact hS
  ·exact h1
  ·exact h4
  ·exact h5
  ·exact h6
def Lw.at (fs:List (Str × bQ)) (c:Lw) (s:Rat):Lw:={ c with w:=cu c.w s (aQ c.gs (bT s fs)) }
def Lw.told (fs:List (Str × bQ)) (st:List Rat) (c:Lw):Lw:=st.foldl (Lw.at fs) c
def dst (bs:List ax):List Rat:=bs.foldl (λacc b=>if b.m∈acc then acc else acc ++ [b.m]) []
theorem tM (bs:List ax) (b:ax):dst (bs ++ [b])=if b.m∈dst bs then dst bs else dst bs ++ [b.m]:=by unfold dst;rw [WN];rfl
theorem MN (bs:List ax):∀acc:List Rat,(bs.foldl (λacc b=>if b.m∈acc then acc else acc ++ [b.m]) acc).length≤acc.length + bs.length:=by
 induction bs with
 | nil=>intro acc;exact VT _
 | cons b bs ih =>
  intro acc
  rw [XT,V_]
  refine V6 (ih _) ?_
  split
  ·omega
  ·rw [VZ,V_,W_];omega
theorem xR (bs:List ax):(dst bs).length≤bs.length:=by have:=MN bs [];rw [W_,Nat.zero_add] at this;exact this
theorem Qd {A B:List Lw} {c c':Lw} (nd:((A ++ c :: B).map Lw.n).Nodup) (e:c'.n=c.n):mT ((A ++ c :: B).map Lw.V) c.n (Lw.V c').2=(A ++ c' :: B).map Lw.V:=by
 rw [VP,VR,WC] at nd
 obtain ⟨_,nb,nx⟩:=nd
 have ha:∀d∈A,¬ d.n=c.n:=λd hd=>nx d.n (VQ.mpr ⟨d,hd,rfl⟩) c.n V9
 have hb:∀d∈B,¬ d.n=c.n:=λd hd z=>(W5.mp nb).1 (VQ.mpr ⟨d,hd,z⟩)
 unfold mT
 rw [if_pos (by rw [ZW,X7];exact ⟨c,by simp,decide_eq_true rfl⟩)]
 rw [VX,VP,VP,VR,VR]
 congr 1
 ·exact WR λd hd=>by show (if d.n=c.n then _ else Lw.V d)=_;rw [if_neg (ha d hd)]
 ·congr 1
  ·show (if c.n=c.n then (c.n,(Lw.V c').2) else Lw.V c)=_
   rw [if_pos rfl]
   show (c.n,(Lw.V c').2)=(c'.n,(Lw.V c').2)
   rw [e]
  ·exact WR λd hd=>by show (if d.n=c.n then _ else Lw.V d)=_;rw [if_neg (hb d hd)]
theorem Lw.Ir (fs:List (Str × bQ)):∀(st:List Rat) (c:Lw),(Lw.told fs st c).n=c.n∧(Lw.told fs st c).gs=c.gs
 | [],_=>⟨rfl,rfl⟩
 | s :: st,c=>by
  have h:=Lw.Ir fs st (c.at fs s)
  exact ⟨h.1,h.2⟩
theorem Lw.jS (fs:List (Str × bQ)) (st:List Rat) (s:Rat) (c:Lw):Lw.told fs (st ++ [s]) c=(Lw.told fs st c).at fs s:=by unfold Lw.told;rw [WN];rfl
theorem Lw.p5 (fs:List (Str × bQ)) (c:Lw) (st:List Rat):(Lw.told fs st c).w.length≤c.w.length + st.length:=by
 refine snoc_ind (p:=λst=>(Lw.told fs st c).w.length≤c.w.length + st.length) (VT _) (λst s ih=>?_) st
 rw [Lw.jS,VZ]
 have:=wY (Lw.told fs st c).w s (aQ (Lw.told fs st c).gs (bT s fs))
 show _≤c.w.length + (st.length + 1)
 show (cu (Lw.told fs st c).w s _).length≤_
 omega
theorem CK (bs:List ax) {q:Rat} (h:q∈dst bs):∃b∈bs,b.m=q:=by
 have go:∀(bs:List ax) (acc:List Rat),q∈bs.foldl (λacc b=>if b.m∈acc then acc else acc ++ [b.m]) acc→q∈acc∨∃b∈bs,b.m=q:=by
  intro bs
  induction bs with
  | nil=>intro acc h;exact .inl h
  | cons b bs ih =>
   intro acc h
   rw [XT] at h
   rcases ih _ h with h | ⟨c,hc,e⟩
   ·split at h
    ·exact .inl h
    ·rcases VY.mp h with h | h
     ·exact .inl h
     ·exact .inr ⟨b,V9,(VV.mp h).symm⟩
   ·exact .inr ⟨c,V5 _ hc,e⟩
 rcases go bs [] h with h | h
 ·cases h
 ·exact h
abbrev qR:Stmt:=(top 62)
abbrev kQ:List Str:=["_law_on","_law_legs","_law_clock","_law_deed","_law_due_here"]
theorem d_:av ["_law_on","_law_legs","_law_clock","_law_deed","_law_due_here","_law_stops","_law_row","_law_moment","_law_order_here","_law_mark","_law_group","_law_rows"] ["_law_on","_law_legs","_law_clock","_law_deed","_law_due_here"] (aq qR):=dO
def xk:cI:=λxs J Q _=>∃(on lg:Addr) (fs:List (Str × bQ)) (e e':Nat) (t:Rat) (dv:PV) (bs:List ax) (ws ws0:List Lw),xs=[.ref on,.ref lg,fr t,dv,.fl (bs.map ax.v)]∧J on=some (.dct (ws.map Lw.V) e)∧J lg=some (.dct (fL fs) e')∧lg≠on∧(fs.map (·.1)).Nodup∧fs.length≤100∧(∀x∈fs,oO 900 x.2)∧Sz 900 t∧(∀b∈bs,Sz 900 b.m)∧bs.length≤200∧ws.length≤10∧(∀c∈ws,c.w.length≤600)∧(ws.map Lw.n).Nodup ∧
 ((∃n gs,dv=ff n gs∧n ∉ ws.map Lw.n∧ws0=ws ++ [⟨n,gs,[]⟩])∨(∃n,dv=cZ n∧n∈ws.map Lw.n∧ws0=ws.filter λc=>decide (c.n≠n))∨(∃wd,iD J dv (.int 0)=some (.str wd)∧wd≠"watch"∧wd≠"unwatch"∧ws0=ws)) ∧
 ∀e2,Q .non (put J on (.dct ((ws0.map (Lw.told fs (dst bs ++ [t]))).map Lw.V) e2))
theorem z5 (F:bZ K "_law_watched" "_law_watched" qR f fd) (Z:bE mg) (xu:b7 P w K mg base 3 "_law_order" jf uT) (AR:b7 P w K mg base 1 "_law_foremost" jL DL) (IP:b7 P w K mg base 1 "_law_noted" nS AB):aK P w K mg base (cq P w) 4 f fd kQ (cP K xk):=by
 simp_arith [d_,(f9 (aY (aG (dh hr.aM) (au aw (rv 3) ai) aS) (ar (oz m8 (rv 0) (au aw (rv 3) ai) (bP (af (au aw (rv 3) ai) (af (jM ah) ah))))) aR)
   (f9 (aY (aG (dh hr.aM) (au aw (rv 3) ai) aS) (ar (aV (eV YL Y' PySem.F.type_dict_pop JE (rv 0) (af (au aw (rv 3) ai) ah)))) aR)
   (ak (aD (i:=5) d_.nd (fb ah))
   (ak (cV bA rfl (dS (rv 4)) (bq (i:=6) d_.nd) (ar (aY (aG (JY hr.aM) (au aw (rv 6) ai) (rv 5)) (ar (aV (eV V3 Wb Wc cK (rv 5) (af (au aw (rv 6) ai) ah)))) aR)))
   (ar (cV bA rfl (dS (aJ Dd (rv 5) (jM (af (rv 2) ah)))) (bq (i:=7) d_.nd) (ak (aD (i:=8) d_.nd (aU xu B hr (af (rv 1) (af (rv 7) ah))))
   (ar (cV bA rfl (dS (dq (FI rfl) rfl Z.list boot_list (af (rv 0) ah))) (bq (i:=9) d_.nd) (ak (uz (au bO (rv 0) (rv 9)) (qN (n:=2) rfl (cY (bq (i:=10) d_.nd) (cY (bq (i:=11) d_.nd) mZ))))
   (ar (oz m8 (rv 0) (rv 9) (bP (af (rv 10) (af (aU IP B hr (af (rv 11) (af (rv 7) (af (aU AR B hr (af (rv 8) (af (rv 10) ah))) ah)))) ah))))))))))))))),F]
 ·obtain ⟨on,lg,fs,e,e',t,dv,bs,ws,ws0,rfl,_⟩:=h;rfl
 obtain ⟨on,lg,fs,e,e',t,dv,bs,ws,ws0,rfl,ho,hl,nlo,CS,fln,FV,Fd,bsz,bln,wln,wrl,wnd,hd,q⟩:=h
 have hw0:(ws0.map Lw.n).Nodup∧(∀c∈ws0,c.w.length≤600):=by
  rcases hd with ⟨n,gs,_,hn,rfl⟩ | ⟨n,_,hn,rfl⟩ | ⟨wd,_,_,_,rfl⟩
  ·refine ⟨by rw [VP,WC];exact ⟨wnd,by simp,λa ha b hb e=>by rw [VR,Wj,VV] at hb;have z:a=n:=e.trans hb;rw [z] at ha;exact hn ha⟩,λc hc=>?_⟩
   rcases VY.mp hc with h | h
   ·exact wrl c h
   ·rw [VV.mp h];exact Ww _
  ·exact ⟨wnd.sublist (List.Sublist.map _ Yh),λc hc=>wrl c (V8.mp hc).1⟩
  ·exact ⟨wnd,wrl⟩
 have hw1:ws0.length≤11:=by
  rcases hd with ⟨n,gs,_,hn,rfl⟩ | ⟨n,_,hn,rfl⟩ | ⟨wd,_,_,_,rfl⟩
  ·rw [VZ];exact YO wln
  ·exact V6 (WH _ _) (YE wln)
  ·exact YE wln
 refine hX ?_
 simp_all! []
 obtain ⟨M0,hM0⟩:∃M:Sr→Hq→Prop,∀τ' J',M τ' J'↔τ'=[some (.ref on),some (.ref lg),some (fr t),some dv,some (.fl (bs.map ax.v)),none,none,none,none,none,none,none]∧∃ws1 e1,J'=put J on (.dct (ws1.map Lw.V) e1)∧((ws1=ws0∧(∃wd,iD J' dv (.int 0)=some (.str wd)∧wd≠"unwatch"))∨(ws1=ws∧∃n,dv=cZ n∧n∈ws.map Lw.n∧ws0=ws.filter λc=>decide (c.n≠n))):=⟨_,λ_ _=>Iff.rfl⟩
 refine ⟨M0,?_,?_⟩
 ·rcases hd with ⟨n,gs,rfl,hn,rfl⟩ | ⟨n,rfl,hn,rfl⟩ | ⟨wd,hw,n1,n2,rfl⟩
  ·have i0:iD J (ff n gs) (.int 0)=some (.str "watch"):=eQ _ _
   have i1:iD J (ff n gs) (.int 1)=some (.str n):=iJ _ _ _
   have i2:iD J (ff n gs) (.int 2)=some (.tup (gs.map .str)):=rF _ _ _ _
   simp_all! [i0,i1,i2,ho]
   refine ⟨by rw [VM];exact Wn wln (by decide),λep'=>(hM0 _ _).mpr ⟨rfl,ws ++ [⟨n,gs,[]⟩],ep',?_,.inl ⟨rfl,"watch",eQ _ _,by decide +kernel⟩⟩⟩
   have epu:mT (ws.map Lw.V) n (PV.tup [PV.tup (gs.map PV.str),PV.fl []])=(ws ++ [Lw.mk n gs []]).map Lw.V:=by
    unfold mT
    rw [if_neg (by rw [ZW];simpa using (λc hc e=>hn (VQ.mpr ⟨c,hc,e⟩):∀c∈ws,¬ (Lw.V c).1=n)),VP]
    rfl
   rw [epu]
  ·have i0:iD J (cZ n) (.int 0)=some (.str "unwatch"):=eQ _ _
   have ne:(("unwatch":Str)="watch")=False:=eq_false (by decide +kernel)
   simp_all! [i0,ne]
   exact (hM0 _ _).mpr ⟨rfl,ws,e,(B4 ho).symm,.inr ⟨rfl,n,rfl,hn,rfl⟩⟩
  ·simp_all! [hw,n1]
   exact (hM0 _ _).mpr ⟨rfl,ws0,e,(B4 ho).symm,.inl ⟨rfl,wd,hw,n2⟩⟩
 intro τ' J1 hm
 obtain ⟨rfl,ws1,e1,rfl,hd1⟩:=(hM0 _ _).mp hm
 clear hm hM0 M0 hd
 obtain ⟨M,hM⟩:∃M:Sr→Hq→Prop,∀τ' J',M τ' J'↔τ'=[some (.ref on),some (.ref lg),some (fr t),some dv,some (.fl (bs.map ax.v)),none,none,none,none,none,none,none]∧∃e1,J'=put J on (.dct (ws0.map Lw.V) e1):=⟨_,λ_ _=>Iff.rfl⟩
 refine ⟨M,?_,?_⟩
 ·rcases hd1 with ⟨rfl,wd,hw,n2⟩ | ⟨rfl,n,rfl,hn,rfl⟩
  ·simp_all! [hw,n2]
   exact (hM _ _).mpr ⟨rfl,e1,rfl⟩
  ·have i0:iD (put J on (.dct (ws1.map Lw.V) e1)) (cZ n) (.int 0)=some (.str "unwatch"):=eQ _ _
   have i1:iD (put J on (.dct (ws1.map Lw.V) e1)) (cZ n) (.int 1)=some (.str n):=iJ _ _ _
   simp_all! [i0,i1,aj,Hr]
   obtain ⟨c,hc,en⟩:=VQ.mp hn
   have hva:gP (ws1.map Lw.V) n=some (Lw.V c).2:=by
    have e:ws1.map Lw.V=((ws1.map λc=>(c.n,c)).map λx=>(x.1,(Lw.V x.2).2)):=by rw [VX];rfl
    rw [e,← en]
    exact fZ (f:=λc:Lw=>(Lw.V c).2) (by rw [VX];exact wnd) (VQ.mpr ⟨c,hc,rfl⟩)
   have edr:qr (ws1.map Lw.V) n=(ws1.filter λc=>decide (c.n≠n)).map Lw.V:=by
    unfold qr
    rw [XY];rfl
   rw [hva,edr]
   exact λep'=>(hM _ _).mpr ⟨rfl,ep',by rw [bI]⟩
 intro τ' J1 hm
 obtain ⟨rfl,e2,rfl⟩:=(hM _ _).mp hm
 clear hm hM M hd1 e1 ws1
 simp_all! []
 intro p hp
 refine hNq _ _ ?_
 clear hNq Nq
 have npo:p≠on:=λz=>by rw [z,aj] at hp;cases hp
 have ho2:put J on (.dct (ws0.map Lw.V) e2) on=some (.dct (ws0.map Lw.V) e2):=aj
 generalize hJ2:put J on (.dct (ws0.map Lw.V) e2)=J2 at hp ho2 ⊢
 simp_all! []
 obtain ⟨Inv,hInv⟩:∃Inv:Nat→Sr→Hq→Prop,∀i τ J',Inv i τ J'↔∃u:Option PV,τ=[some (.ref on),some (.ref lg),some (fr t),some dv,some (.fl (bs.map ax.v)),some (.ref p),u,none,none,none,none,none]∧J'=put J2 p (.lst ((dst (bs.take i)).map fr)):=⟨_,λ_ _ _=>Iff.rfl⟩
 refine dW Inv ((hInv _ _ _).mpr ⟨_,rfl,rfl⟩) (λ_ _ _ _=>trivial) (λi x τ J' hx hv=>?_) (λτ J' hv=>?_)
 ·obtain ⟨u,rfl,rfl⟩:=(hInv _ _ _).mp hv
  clear hv
  have hi:i < bs.length:=by have:=(VO.mp hx).1;simpa using this
  rw [VS,VN hi] at hx
  cases hx
  have et:bs.take (i + 1)=bs.take i ++ [bs[i]]:=by rw [V',VN hi];rfl
  have i0:∀(J:Hq) (b:ax),iD J b.v (.int 0)=some (fr b.m):=λ_ _=>eQ _ _
  simp_all! [LX,i0,Mg,aj]
  have pf:∀ls:List Rat,iG (ls.map fr)=true:=λls=>by
   induction ls with
   | nil=>rfl
   | cons q ls ih=>rw [VR,eG,qL,ih];rfl
  have len:(dst (bs.take i)).length≤200:=V6 (xR _) (by rw [Wa];omega)
  have any:∀q:Rat,((dst (bs.take i)).map fr).any (λz=>eqQ z (fr q))=decide (q∈dst (bs.take i)):=λq=>by
   rw [ZW,Y1,X7,decide_eq_true_iff]
   constructor
   ·rintro ⟨y,hy,e⟩
    have e:eqQ (fr y) (fr q)=true:=e
    rw [CL] at e
    exact of_decide_eq_true e ▸ hy
   ·exact λh=>⟨q,h,by show eqQ (fr q) (fr q)=true;rw [CL];exact decide_eq_true rfl⟩
  refine ⟨pf _,λz hz=>?_,λz hz z' hz' e=>?_,?_⟩
  ·obtain ⟨q,_,rfl⟩:=VQ.mp hz
   rw [FN];decide
  ·obtain ⟨q,_,rfl⟩:=VQ.mp hz
   obtain ⟨q',_,rfl⟩:=VQ.mp hz'
   rw [CL] at e
   rw [of_decide_eq_true e]
  rw [any]
  by_cases hm:bs[i].m∈dst (bs.take i)
  ·rw [if_neg (by rw [decide_eq_true hm];decide)]
   exact (hInv _ _ _).mpr ⟨_,rfl,by rw [et,tM,if_pos hm]⟩
  ·rw [if_pos (by rw [decide_eq_false hm])]
   exact ⟨by rw [VM];exact Wn len (by decide),(hInv _ _ _).mpr ⟨_,rfl,by rw [et,tM,if_neg hm,bI,VP];rfl⟩⟩
 ·obtain ⟨u,rfl,rfl⟩:=(hInv _ _ _).mp hv
  rw [VM,Wg]
  clear hv hInv Inv
  refine hNq _ _ ?_
  clear hNq Nq
  simp_all! []
  refine ⟨by rw [VM];exact V6 (YO (V6 (xR bs) bln)) (by decide),?_⟩
  have est:(dst bs).map fr ++ [fr t]=(dst bs ++ [t]).map fr:=by rw [VP];rfl
  have hsz:∀m∈dst bs ++ [t],Sz 900 m:=λm hm=>by
   rcases VY.mp hm with h | h
   ·obtain ⟨b,hb,rfl⟩:=CK bs h;exact bsz b hb
   ·rw [VV.mp h];exact Fd
  have stl:(dst bs ++ [t]).length≤201:=by rw [VZ];exact YO (V6 (xR bs) bln)
  rw [est]
  generalize dst bs ++ [t]=st at hsz stl q ⊢
  obtain ⟨Inv,hInv⟩:∃Inv:Nat→Sr→Hq→Prop,∀i τ J',Inv i τ J'↔∃u7 u8 u9 ua ub:Option PV,τ=[some (.ref on),some (.ref lg),some (fr t),some dv,some (.fl (bs.map ax.v)),some (.ref p),u,u7,u8,u9,ua,ub]∧∃e,J'=put (put J2 p (.lst ((dst bs).map fr))) on (.dct ((ws0.map (Lw.told fs (st.take i))).map Lw.V) e):=⟨_,λ_ _ _=>Iff.rfl⟩
  refine dW Inv ((hInv _ _ _).mpr ⟨_,_,_,_,_,rfl,e2,?_⟩) (λ_ _ _ _=>trivial) (λi x τ J' hx hv=>?_) (λτ J' hv=>?_)
  ·rw [X4,show ws0.map (Lw.told fs [])=ws0 from List.map_id _]
   funext a
   by_cases ea:a=on
   ·subst ea;rw [aj,ag (Ne.symm npo)];exact ho2
   ·rw [ag ea]
  ·obtain ⟨u7,u8,u9,ua,ub,rfl,e,rfl⟩:=(hInv _ _ _).mp hv
   clear hv
   have hi:i < st.length:=by have:=(VO.mp hx).1;simpa using this
   rw [VS,VN hi] at hx
   cases hx
   have et:st.take (i + 1)=st.take i ++ [st[i]]:=by rw [V',VN hi];rfl
   have hm:=hsz _ (Wi hi)
   have plg:lg≠p:=λz=>by
    subst z
    rw [← hJ2,ag nlo,hl] at hp;cases hp
   have hl2:∀l d,put (put J2 p l) on d lg=some (.dct (fL fs) e'):=λl d=>by rw [ag nlo,ag plg,← hJ2,ag nlo];exact hl
   generalize st[i]=m at et hm ⊢
   simp_all! []
   refine ⟨lg,fs,e',m,rfl,hl2 _ _,CS,fln,hm,FV,?_⟩
   refine hNq _ _ ?_
   clear hNq Nq
   simp_all! [aj]
   obtain ⟨A,hA⟩:∃A,A=ws0.map (Lw.told fs (st.take i)):=⟨_,rfl⟩
   have hAn:(A.map Lw.n).Nodup:=by
    have e:A.map Lw.n=ws0.map Lw.n:=by rw [hA,VX];exact WR λc _=>(Lw.Ir fs _ c).1
    rw [e];exact hw0.1
   have hAl:∀c∈A,c.w.length≤900:=λc hc=>by
    rw [hA] at hc
    obtain ⟨c0,h0,rfl⟩:=VQ.mp hc
    have h1:=Lw.p5 fs c0 (st.take i)
    have h2:=hw0.2 c0 h0
    rw [Wa] at h1
    omega
   have hnx:ws0.map (Lw.told fs (st.take (i + 1)))=A.map λc=>c.at fs m:=by
    rw [hA,VX,et]
    exact WR λc _=>Lw.jS fs _ _ c
   rw [← hA]
   obtain ⟨W,hW⟩:∃W:Nat→Sr→Hq→Prop,∀j τ J',W j τ J'↔∃u9 ua ub:Option PV,τ=[some (.ref on),some (.ref lg),some (fr t),some dv,some (.fl (bs.map ax.v)),some (.ref p),u,some (fr m),some (.fl ((bT m fs).map .str)),u9,ua,ub]∧∃e,J'=put (put J2 p (.lst ((dst bs).map fr))) on (.dct (((A.take j).map (λc=>c.at fs m) ++ A.drop j).map Lw.V) e):=⟨_,λ_ _ _=>Iff.rfl⟩
   refine dW W ((hW _ _ _).mpr ⟨_,_,_,rfl,e,rfl⟩) (λ_ _ _ _=>trivial) (λj x τ J' hx hv=>?_) (λτ J' hv=>?_)
   ·obtain ⟨u9,ua,ub,rfl,e,rfl⟩:=(hW _ _ _).mp hv
    clear hv
    have hj:j < A.length:=by have:=(VO.mp hx).1;simpa using this
    rw [VS,VS,VN hj] at hx
    cases hx
    have ed:A.drop j=A[j] :: A.drop (j + 1):=XG hj
    have ea:A.take (j + 1)=A.take j ++ [A[j]]:=by rw [V',VN hj];rfl
    have hcl:=hAl _ (Wi hj)
    have hnd:(((A.take j).map (λc=>c.at fs m) ++ A.drop j).map Lw.n).Nodup:=by
     have e:((A.take j).map (λc=>c.at fs m) ++ A.drop j).map Lw.n=A.map Lw.n:=by
      rw [VP,VX,show (Lw.n ∘ λc=>c.at fs m)=Lw.n from rfl,← VP,List.take_append_drop]
     rw [e];exact hAn
    rw [ed] at hnd ⊢
    generalize A[j]=c at ea hcl hnd ⊢
    have hva:gP (((A.take j).map (λc=>c.at fs m) ++ c :: A.drop (j + 1)).map Lw.V) (Lw.V c).1=some (.tup [.tup (c.gs.map .str),.fl (c.w.map bz.V)]):=by
     have e:∀ws:List Lw,ws.map Lw.V=((ws.map λc=>(c.n,c)).map λx=>(x.1,(Lw.V x.2).2)):=λws=>by rw [VX];rfl
     rw [e]
     exact fZ (f:=λc:Lw=>(Lw.V c).2) (by rw [VX];exact hnd) (VQ.mpr ⟨c,by simp,rfl⟩)
    simp_all! [aj,hva]
    have hAL:A.length≤11:=by rw [hA,VM];exact hw1
    refine ⟨c.gs,bT m fs,_,rfl,rfl,c.w,m,aQ c.gs (bT m fs),rfl,hcl,BG aj ⟨?_,λep'=>(hW _ _ _).mpr ⟨_,_,_,rfl,ep',?_⟩⟩⟩
    ·rw [VM,VZ,VM,Wa,V_,Xa]
     exact Wn (show _≤12 by omega) (by decide)
    ·have e:=Qd (c':=c.at fs m) hnd rfl
     have e3:(A.take j ++ [c]).map (λc=>c.at fs m) ++ A.drop (j + 1)=(A.take j).map (λc=>c.at fs m) ++ c.at fs m :: A.drop (j + 1):=by rw [VP,X2];rfl
     rw [bI,ea,e3]
     exact congrArg (λz=>put (put J2 p (.lst ((dst bs).map fr))) on (.dct z ep')) e
   ·obtain ⟨u9,ua,ub,rfl,e,rfl⟩:=(hW _ _ _).mp hv
    rw [VM,VM,Wg,YN,WX,← hnx]
    exact (hInv _ _ _).mpr ⟨_,_,_,_,_,rfl,e,rfl⟩
  ·obtain ⟨u7,u8,u9,ua,ub,rfl,e,rfl⟩:=(hInv _ _ _).mp hv
   clear hv hInv Inv
   rw [VM,Wg]
   have q:=q e
   subst hJ2
   refine Fg.less (λa=>?_) q
   by_cases ea:a=on
   ·subst ea;exact .inl (by rw [aj,aj])
   by_cases ep:a=p
   ·subst ep;exact .inr (by rw [ag ea];rw [ag ea] at hp;exact hp)
   ·exact .inl (by rw [ag ea,ag ea,ag ep,ag ea])
def Nb (w:List bz):Prop:=∀xs a b ys,w=xs ++ a :: b :: ys→a.m≠b.m
variable {w:List bz}
theorem Nb.pre {u:List bz} (h:Nb (w ++ u)):Nb w:=λxs a b ys e=>h xs a b (ys ++ u) (by rw [e];simp)
theorem Nb.rest (h:Nb w) (m:Rat):Nb (eR w m)∧(eR w m).getLast?.map bz.m≠some m:=by
 unfold eR
 split
 ·rename_i e
  rcases WI w with rfl | ⟨ls,l,rfl⟩
  ·cases e
  ·rw [WJ] at *
   rw [Wl] at e
   have e:l.m=m:=Option.some.inj e
   rw [W0]
   refine ⟨h.pre,λz=>?_⟩
   rcases WI ls with rfl | ⟨ks,k,rfl⟩
   ·cases z
   ·rw [WJ] at *
    rw [Wl] at z
    exact h ks k l [] (by simp) ((Option.some.inj z).trans e.symm)
 ·rename_i e;exact ⟨h,e⟩
theorem Ed {rest:List bz} (l:Option Str) (h:rest.getLast?.map bz.m≠some m):eR (vD rest m l) m=rest:=by
 unfold vD
 split
 ·unfold eR;rw [if_neg h]
 ·unfold eR;rw [Wl,if_pos (show Option.map bz.m (some (bz.mk m l))=some m from rfl),W0]
theorem EG (h:Nb w) (m:Rat) (l l':Option Str):cu (cu w m l) m l'=cu w m l':=by
 have:=(h.rest m).2
 unfold cu
 rw [Ed l this]
theorem Nb.cu (h:Nb w) (m:Rat) (l:Option Str):Nb (cu w m l):=by
 obtain ⟨h1,h2⟩:=h.rest m
 unfold L2.cu vD
 generalize eR w m=rest at h1 h2 ⊢
 split
 ·exact h1
 ·intro xs a b ys e
  rcases WI ys with rfl | ⟨zs,z,rfl⟩
  ·have e:rest ++ [⟨m,l⟩]=(xs ++ [a]) ++ [b]:=by rw [e];simp
   obtain ⟨e1,e2⟩:=Z6 e rfl
   cases e2
   rw [e1,Wl] at h2
   exact λz=>h2 (congrArg some z)
  ·have e:rest ++ [⟨m,l⟩]=(xs ++ a :: b :: zs) ++ [z]:=by rw [e,WJ];simp
   exact h1 xs a b zs (Z6 e rfl).1
def pZ (fs:List (Str × bQ)) (gs:List Str) (w:List bz) (ms:List Rat):List bz:=ms.foldl (λw s=>cu w s (aQ gs (bT s fs))) w
theorem fY (fs:List (Str × bQ)) (gs:List Str) (w:List bz) (ms:List Rat) (m:Rat):pZ fs gs w (ms ++ [m])=cu (pZ fs gs w ms) m (aQ gs (bT m fs)):=by unfold pZ;rw [WN];rfl
theorem Nb.Uo (h:Nb w) (fs:List (Str × bQ)) (gs:List Str) (ms:List Rat):Nb (pZ fs gs w ms):=by
 refine snoc_ind (p:=λms=>Nb (pZ fs gs w ms)) h (λms m ih=>?_) ms
 rw [fY];exact ih.cu _ _
theorem K2 (h:Nb w) (fs:List (Str × bQ)) (gs:List Str) (bs:List ax):iF bs→pZ fs gs w (bs.map ax.m)=pZ fs gs w (dst bs):=by
 refine snoc_ind (p:=λbs=>iF bs→pZ fs gs w (bs.map ax.m)=pZ fs gs w (dst bs)) (λ_=>rfl) (λbs b ih hs=>?_) bs
 obtain ⟨s1,_,s3⟩:=XD.mp hs
 have ih:=ih s1
 rw [tM,VP,VR,Wj,fY,ih]
 split
 ·rename_i hm
  obtain ⟨c,hc,e⟩:=CK bs hm
  rcases WI bs with rfl | ⟨ks,k,rfl⟩
  ·cases hc
  rw [WJ] at *
  have le:∀{x y:ax},x.lt y=true→x.m≤y.m:=λh=>by
   rcases (ax.lt_iff _ _).mp h with h | ⟨h,_⟩
   ·exact Zb h
   ·exact h ▸ aaa
  have ek:k.m=b.m:=by
   have h1:=le (s3 k (by simp) b (by simp))
   rcases VY.mp hc with hc | hc
   ·have h2:=le ((XD.mp s1).2.2 c hc k (by simp))
    exact Rat.le_antisymm h1 (e ▸ h2)
   ·rw [VV] at hc;rw [← hc];exact e
  rw [← ih,VP,VR,Wj,fY,ek]
  exact EG (h.Uo _ _ _) _ _ _
 ·rw [fY]
variable {w:World}
theorem Lw.mC (fs:List (Str × bQ)) (st:List Rat) (c:Lw):Lw.told fs st c=⟨c.n,c.gs,pZ fs c.gs c.w st⟩:=by
 refine snoc_ind (p:=λst=>Lw.told fs st c=⟨c.n,c.gs,pZ fs c.gs c.w st⟩) rfl (λst s ih=>?_) st
 rw [Lw.jS,ih,fY];rfl
theorem Cw.mC {bs:List ax} (h:∀b∈bs,dH L.cs b.m=L.fs) (hr:L.row=bT L.t L.fs) (c:Cw):(c.told (bY L bs)).w=pZ L.fs c.gs c.w (bs.map ax.m ++ [L.t]):=by
 unfold bY Cw.told pZ
 rw [WN,WN,List.foldl_map,List.foldl_map,hr]
 show cu _ _ _=cu _ _ _
 congr 1
 have e:∀(bs:List ax) (w:List bz),(∀b∈bs,dH L.cs b.m=L.fs)→bs.foldl (λw b=>cu w (b.m,bT b.m (dH L.cs b.m)).1 (aQ c.gs (b.m,bT b.m (dH L.cs b.m)).2)) w=bs.foldl (λw b=>cu w b.m (aQ c.gs (bT b.m L.fs))) w:=by
  intro bs
  induction bs with
  | nil=>intro _ _;rfl
  | cons b bs ih =>
   intro w h
   rw [XT,XT,ih _ λx hx=>h x (V5 _ hx)]
   congr 1
   show cu w b.m _=cu w b.m _
   rw [h b V9]
 exact e bs _ h
def Cw.rA (c:Cw):Lw:=⟨c.n,c.gs,c.w⟩
theorem AI {bs:List ax} (h:∀b∈bs,dH L.cs b.m=L.fs) (hr:L.row=bT L.t L.fs) (hs:iF bs) (nb:Nb c.w):Lw.told L.fs (dst bs ++ [L.t]) c.rA=(c.told (bY L bs)).rA∧Nb (c.told (bY L bs)).w:=by
 have e:=Cw.mC h hr c
 refine ⟨?_,by rw [e];exact nb.Uo _ _ _⟩
 rw [Lw.mC]
 show _=Lw.mk c.n c.gs (c.told (bY L bs)).w
 rw [e]
 show Lw.mk c.n c.gs (pZ L.fs c.gs c.w _)=_
 rw [fY,fY,K2 nb _ _ _ hs]
theorem Iu (hr:L.row=bT L.t L.fs) (n:Str) (a r:Addr) (gs:List Str):Lw.told L.fs (dst [] ++ [L.t]) ⟨n,gs,[]⟩=(Cw.told ⟨n,a,r,gs,[⟨L.t,aQ gs L.row⟩]⟩ (bY L [])).rA∧Nb (Cw.told ⟨n,a,r,gs,[⟨L.t,aQ gs L.row⟩]⟩ (bY L [])).w:=by
 have nb:Nb [bz.mk L.t (aQ gs L.row)]:=λxs a b ys e=>by
  have:=congrArg Xj e
  simp at this
  omega
 have e:=Cw.mC (bs:=[]) (λ_ h=>nomatch h) hr ⟨n,a,r,gs,[⟨L.t,aQ gs L.row⟩]⟩
 refine ⟨?_,by rw [e];exact nb.Uo _ _ _⟩
 rw [Lw.mC]
 show _=Lw.mk n gs (Cw.told ⟨n,a,r,gs,[⟨L.t,aQ gs L.row⟩]⟩ (bY L [])).w
 rw [e,hr]
 show Lw.mk n gs (cu [] L.t _)=Lw.mk n gs (cu [_] L.t _)
 unfold cu eR vD
 simp
def One (L:Ln):Prop:=∀c∈L.cs,c.g=none∧∃l:bQ,c.w=[l]∧l.m=0
theorem One.VI (h:One L) (t0:0≤t):dH L.cs t=L.fs:=by
 have e:L.E3=L.cs:=Wx.mpr λc hc=>by rw [(h c hc).1];rfl
 unfold Ln.fs dH
 rw [e]
 have go:∀cs:List Cf,(∀c∈cs,c.g=none∧∃l:bQ,c.w=[l]∧l.m=0)→(cs.filterMap λc=>if L2.there c.w c.g t=true then (gX c.w t).map λl=>(c.n,l) else none)=cs.map λc=>(c.n,c.cur):=by
  intro cs
  induction cs with
  | nil=>intro _;rfl
  | cons c cs ih =>
   intro h
   obtain ⟨hg,l,hw,hl⟩:=h c V9
   have h1:L2.there c.w c.g t=true:=by rw [hg,hw];show (!decide (t < l.m) && true)=true;rw [decide_eq_false (by rw [hl];exact Xq.mpr t0)];rfl
   have h2:gX c.w t=some c.cur:=by unfold Cf.cur;rw [hw];show (([l].filter λl=>decide (l.m≤t))).getLast?=some l;rw [Wu,if_pos (decide_eq_true (by rw [hl];exact t0))];rfl
   rw [Wh,if_pos h1,h2,VR,ih λx hx=>h x (V5 _ hx)]
   rfl
 exact go _ h
theorem G0 (t m:Rat) (ks:List Ky) (h:(ks.map Ky.n).Nodup):(hE t ks m).length≤ks.length * ks.length:=by
 rw [← zu h]
 have h1:=Eh t (b9 t m) (ks.flatMap λa=>ks.map λb=>(a,b))
 have h2:(ks.flatMap λa=>ks.map λb=>(a,b)).length=ks.length * ks.length:=by
  rw [List.length_flatMap]
  have:(ks.map λa=>(ks.map λb=>(a,b)).length)=WW ks.length ks.length:=by
   rw [List.eq_replicate_iff]
   refine ⟨by rw [VM],λb hb=>?_⟩
   obtain ⟨_,_,rfl⟩:=VQ.mp hb
   rw [VM]
  rw [this,List.sum_replicate_nat]
 omega
theorem cF.keep (h:cF cD cN cL cC J p k L ps ds cw) (s:∀a o,k.dD p L cw a→J a=Ws o→J' a=Ws o):cF cD cN cL cC J' p k L ps ds cw :=
 ⟨s _ _ (.inr (.inl rfl)) h.ob,h.la.keep λa o ow e=>s a o (.inl ow) e,s _ _ (.inr (.inr (.inl rfl))) h.pas,s _ _ (.inr (.inr (.inr (.inl rfl)))) h.dee,let ⟨e,z⟩:=h.cro;⟨e,s _ _ (.inr (.inr (.inr (.inr (.inl rfl))))) z⟩,λc hc=>⟨s _ _ (.inr (.inr (.inr (.inr (.inr ⟨c,hc,.inl rfl⟩))))) (h.cat c hc).o,s _ _ (.inr (.inr (.inr (.inr (.inr ⟨c,hc,.inr rfl⟩))))) (h.cat c hc).l⟩,h.tJ,h.cnd,h.rnd,h.np,h.npa,h.nde,h.ncr,h.nca,h.t8,h.pd⟩
theorem cF.put (h:cF cD cN cL cC J p k L ps ds cw) (nx:¬ k.dD p L cw x):cF cD cN cL cC (L2.put J x o) p k L ps ds cw :=
 h.keep λa u ow e=>by rw [ag (λz=>by subst z;exact nx ow)];exact e
variable {q:Ls} {S:Addr} {abb:List (Str × bQ)} {abd:List Lw} {abe:List ax}
theorem i5.keep (h:i5 J S q abb t abd abe ds) (s:∀a o,q.own S a→J a=Ws o→J' a=Ws o):i5 J' S q abb t abd abe ds :=
 ⟨let ⟨a,b,e,z⟩:=h.ob;⟨a,b,e,s _ _ (.inl rfl) z⟩,let ⟨e,z⟩:=h.lg;⟨e,s _ _ (.inr (.inl rfl)) z⟩,let ⟨e,z⟩:=h.on;⟨e,s _ _ (.inr (.inr (.inl rfl))) z⟩,s _ _ (.inr (.inr (.inr (.inl rfl)))) h.bk,s _ _ (.inr (.inr (.inr (.inr rfl)))) h.jr,h.nd⟩
theorem i5.ne (h:i5 J S q abb t abd abe ds):(S≠q.lg∧S≠q.on∧S≠q.bk∧S≠q.jr)∧(q.lg≠q.on∧q.lg≠q.bk∧q.lg≠q.jr)∧(q.on≠q.bk∧q.on≠q.jr)∧q.bk≠q.jr:=by
 have:=h.nd
 simp only [W5,V2,WB,or_false,not_or,not_false_eq_true,Yz,and_true] at this
 exact this
theorem i5.some (h:i5 J S q abb t abd abe ds) (o:q.own S a):J a≠none:=λz=>by
 obtain ⟨a',b',e,h1⟩:=h.ob
 obtain ⟨e2,h2⟩:=h.lg
 obtain ⟨e3,h3⟩:=h.on
 rcases o with rfl | rfl | rfl | rfl | rfl
 ·rw [h1] at z;cases z
 ·rw [h2] at z;cases z
 ·rw [h3] at z;cases z
 ·rw [h.bk] at z;cases z
 ·rw [h.jr] at z;cases z
theorem i5.Td (h:i5 J S q abb t abd abe ds) (fs':List (Str × bQ)) (e:Nat):i5 (L2.put J q.lg (.dct (fL fs') e)) S q fs' t abd abe ds:=by
 obtain ⟨⟨n1,n2,n3,n4⟩,⟨n5,n6,n7⟩,⟨n8,n9⟩,n10⟩:=h.ne
 refine ⟨let ⟨a,b,e,z⟩:=h.ob;⟨a,b,e,by rw [ag n1];exact z⟩,⟨_,aj⟩,let ⟨e,z⟩:=h.on;⟨e,by rw [ag n5.symm];exact z⟩,by rw [ag n6.symm];exact h.bk,by rw [ag n7.symm];exact h.jr,h.nd⟩
theorem i5.Vt (h:i5 J S q abb t abd abe ds) (a b:Addr) (m:Rat) (e:Nat):i5 (L2.put J S (.dct (q.V a b m) e)) S q abb m abd abe ds:=by
 obtain ⟨⟨n1,n2,n3,n4⟩,⟨n5,n6,n7⟩,⟨n8,n9⟩,n10⟩:=h.ne
 refine ⟨⟨a,b,e,aj⟩,let ⟨e,z⟩:=h.lg;⟨e,by rw [ag n1.symm];exact z⟩,let ⟨e,z⟩:=h.on;⟨e,by rw [ag n2.symm];exact z⟩,by rw [ag n3.symm];exact h.bk,by rw [ag n4.symm];exact h.jr,h.nd⟩
theorem i5.VF (h:i5 J S q abb t abd abe ds) (on':List Lw) (e:Nat) (bs':List ax) (ds':List PV):i5 (L2.put (L2.put (L2.put J q.on (.dct (on'.map Lw.V) e)) q.bk (.lst (bs'.map ax.v))) q.jr (.lst ds')) S q abb t on' bs' ds':=by
 obtain ⟨⟨n1,n2,n3,n4⟩,⟨n5,n6,n7⟩,⟨n8,n9⟩,n10⟩:=h.ne
 refine ⟨let ⟨a,b,e,z⟩:=h.ob;⟨a,b,e,by rw [ag n4,ag n3,ag n2];exact z⟩,let ⟨e,z⟩:=h.lg;⟨e,by rw [ag n7,ag n6,ag n5];exact z⟩,⟨e,by rw [ag n9,ag n8];exact aj⟩,by rw [ag n10];exact aj,aj,h.nd⟩
theorem Ls.va (q:Ls) (a b:Addr) (t:Rat):gP (q.V a b t) "legs"=some (.ref q.lg)∧gP (q.V a b t) "on"=some (.ref q.on)∧gP (q.V a b t) "book"=some (.ref q.bk)∧gP (q.V a b t) "journal"=some (.ref q.jr)∧gP (q.V a b t) "clock"=some (fr t):=⟨rfl,rfl,rfl,rfl,rfl⟩
theorem Ls.pu (q:Ls) (a b:Addr) (t m:Rat):mT (q.V a b t) "clock" (fr m)=q.V a b m:=rfl
theorem xQ {k:Nat}:∀{xs:List PV},(∀x∈xs,dep (dw x)≤k)→dN (dR xs)≤k
 | [],_=>Ww _
 | x :: xs,h=>by
  have h1:=h x V9
  have h2:=xQ (xs:=xs) λy hy=>h y (V5 _ hy)
  simp only [dR,dN];omega
theorem uw:∀{xs:List PV},(∀x∈xs,jw x=true)→iG xs=true
 | [],_=>rfl
 | x :: xs,h=>by rw [eG,h x V9,uw λy hy=>h y (V5 _ hy)];rfl
def Pl (x:PV):Prop:=jw x=true∧dep (dw x)≤9
theorem i6 (h:∀x∈xs,Pl x):II (.fl xs)∧jw (.fl xs)=true:=by
 have p:jw (.fl xs)=true:=by unfold jw;exact uw λx hx=>(h x hx).1
 refine ⟨⟨p,?_⟩,p⟩
 have:=xQ λx hx=>(h x hx).2
 simp only [dw,dep];omega
theorem pA (bs:List ax):∀x∈bs.map ax.v,Pl x:=λx hx=>by
 obtain ⟨b,_,rfl⟩:=VQ.mp hx
 exact ⟨QP b,by simp [ax.v,fr,dw,dR,dep,dN]⟩
theorem Dh (w:List bz):∀x∈w.map bz.V,Pl x:=λx hx=>by
 obtain ⟨b,_,rfl⟩:=VQ.mp hx
 refine ⟨by simp [bz.V,mV,eG,ie,qL,yK],?_⟩
 unfold bz.V
 cases b.l <;> simp [sv,fr,dw,dR,dep,dN]
structure Sk (cD cN cL cC:Addr) (ks:List (Addr × HQ)) (J:Hq) (p S:Addr) (k:Dk) (q:Ls) (L:Ln) (bs:List ax) (ds:List PV) (cw:List Cw) (i:Nat):Prop where
 d:cF cD cN cL cC J p k L bs ds cw
 s:i5 J S q L.fs L.t (cw.map Cw.rA) bs ds
 ap:∀a,q.own S a→¬ k.dD p L cw a
 kp:∀x∈ks,J x.1=some x.2∧¬ q.own S x.1∧¬ k.dD p L cw x.1
 ok:eg L
 one:One L
 nb:∀c∈cw,Nb c.w
 wl:∀c∈cw,c.w.length≤37 * i + 1
 nl:L.cs.length≤6
 bl:bs.length≤36 * i
 dl:ds.length≤i
 cl:cw.length≤6
 pl:∀x∈ds,Pl x
def Sx (cD cN cL cC:Addr) (ks:List (Addr × HQ)) (J:Hq) (p S:Addr) (t:Rat) (fn wn:List Str) (i:Nat):Prop:=∃k q L bs ds cw,Sk cD cN cL cC ks J p S k q L bs ds cw i∧L.t=t∧L.fs.map (·.1)=fn∧cw.map Cw.n=wn
theorem bW.MR (h:bW L):∀x∈L.fs,oO 240 x.2:=λx hx=>by
 obtain ⟨c,hc,rfl⟩:=VQ.mp hx
 have hc:=(Ln.eE.mp hc).1
 have hk:=h.ck c hc _ (Cf.iK (h.ne c hc)).2
 exact ⟨hk.Va.mono (by decide),hk.TN.mono (by decide),.small (x:=c.cur.v) (by have:=hk.v;omega) (by have:=hk.v;omega)⟩
theorem sL (ok:eg L) {b:ax} (h:b∈hE L.t (L.fs.map (key L.t)) m):0≤b.m∧b.m≤m∧Sz 900 b.m:=by
 obtain ⟨a,ha,c,hc,hv,hp,hm,rfl⟩:=qE.mp h
 have sz:∀{a:Ky},a∈L.fs.map (key L.t)→Sz 120 a.p∧Bd 64 a.v:=λ{a} ha=>by
  obtain ⟨x,hx,rfl⟩:=VQ.mp ha
  obtain ⟨c0,hc0,rfl⟩:=VQ.mp hx
  have hc0:=(Ln.eE.mp hc0).1
  have hm:=(Cf.iK (ok.ne c0 hc0)).2
  have hk:=ok.ck c0 hc0 _ hm
  exact ⟨(hk.at (ok.le c0 hc0 _ hm) ok.ts hk.v).TN,.small (x:=c0.cur.v) (by have:=hk.v;omega) (by have:=hk.v;omega)⟩
 have hw:0 < a.v - c.v:=by omega
 have s1:=(sz ha).1
 have s2:=(sz hc).1
 have bw:Bd 66 (a.v - c.v):=((sz ha).2.sub (k:=66) (sz hc).2)
 have sd:Sz 241 (c.p - a.p):=s2.sub s1
 have sq:Sz 310 ((c.p - a.p) / ((a.v - c.v:Int):Rat)):=by
  have e:(c.p - a.p) / ((a.v - c.v:Int):Rat)=Wm (c.p - a.p).num (((c.p - a.p).den:Int) * (a.v - c.v)):=by
   have h1:=cast_eq (c.p - a.p)
   have h2:=dU (c.p - a.p)
   have kw:((a.v - c.v:Int):Rat)≠0:=lI (by omega)
   rw [WV,Wk,h1]
   generalize (((c.p - a.p).den:Int):Rat)=x at h2 ⊢
   generalize ((a.v - c.v:Int):Rat)=y at kw ⊢
   grind
  rw [e]
  exact Sz.div (n:=310) (sd.num.mono (by decide)) ((Bd.mul (k:=310) sd.den bw)) (by have:=fu (c.p - a.p);exact Int.ne_of_gt (Xw this hw))
 have pos:0 < (c.p - a.p) / ((a.v - c.v:Int):Rat):=Ak (by grind) (by exact_mod_cast hw)
 have t0:=ok.t0
 refine ⟨?_,hm,?_⟩
 ·show 0≤dZ L.t a c
  unfold dZ;grind
 ·show Sz 900 (dZ L.t a c)
  unfold dZ
  exact (((tY ok.ts).mono (n:=106) (by decide)).add (k:=420) sq).mono (by decide)
theorem Mv.fresh {S S':Addr→Prop} (mv:Mv J J' S S') (hx:J x=some o) (nx:¬ S x):¬ S' x:=λz=>by
 rcases mv.own _ z with q | q
 ·exact nx q
 ·rw [hx] at q;cases q
def Ct (dv:PV) (t:Rat) (fn wn:List Str) (t':Rat) (fn' wn':List Str):Prop :=
 (∃n x v,dv=iN n x v∧good n=true∧n.length≤sizeLine∧El x v∧n ∉ fn∧fn.length < 6∧t=0∧t'=0∧fn'=fn ++ [n]∧wn'=wn) ∨
 (∃m:Rat,dv=F0 m∧gW m.num m.den=true∧t≤m∧t'=m∧fn'=fn∧wn'=wn) ∨
 (∃n gs,dv=ff n gs∧good n=true∧n.length≤sizeLine∧n ∉ wn∧(∀g∈gs,g∈fn)∧wn.length < 6∧t'=t∧fn'=fn∧wn'=wn ++ [n]) ∨
 (∃n,dv=cZ n∧n∈wn∧t'=t∧fn'=fn∧wn'=wn.filter λx=>decide (x≠n))
variable {ks:List (Addr × HQ)}
theorem Sk.SX {eT:Addr} {bs:List ax} {dv:PV} {t':Rat} {fn' wn':List Str}
  (h:Sk cD cN cL cC ks J p S k q L bs ds cw i) (hd:Ct dv L.t (L.fs.map (·.1)) (cw.map Cw.n) t' fn' wn') :
  ∃(fs1:List (Str × bQ)) (bs1:List ax) (ws0:List Lw) (wd:Str),(∀J,iD J dv (.int 0)=some (.str wd))∧((wd="join"∧∃n x v,dv=iN n x v∧n ∉ L.fs.map (·.1)∧fs1=L.fs ++ [(n,⟨L.t,(x:Rat),v⟩)])∨(wd≠"join"∧fs1=L.fs)) ∧
   ((wd="go"∧∃m,dv=F0 m∧Sz 900 m∧t'=m∧bs1=hE L.t (L.fs.map (key L.t)) m)∨(wd≠"go"∧t'=L.t∧bs1=[])) ∧
   ((∃n gs,dv=ff n gs∧n ∉ (cw.map Cw.rA).map Lw.n∧ws0=cw.map Cw.rA ++ [⟨n,gs,[]⟩])∨(∃n,dv=cZ n∧n∈(cw.map Cw.rA).map Lw.n∧ws0=(cw.map Cw.rA).filter λc=>decide (c.n≠n))∨(∃wd,(∀J,iD J dv (.int 0)=some (.str wd))∧wd≠"watch"∧wd≠"unwatch"∧ws0=cw.map Cw.rA)) ∧
   (fs1.map (·.1)).Nodup∧fs1.length≤6∧(∀x∈fs1,oO 900 x.2)∧Sz 900 t'∧(∀b∈bs1,Sz 900 b.m)∧bs1.length≤36 ∧
   ∀J2 (Q:PV→Hq→Prop),cF cD cN cL cC J2 p k L bs ds cw→J2 T=some .tab→J2 Tg=some .tab →
    (∀J3 L1 cw1,cF cD cN cL cC J3 p k L1 bs ds cw1→eg L1→Mv J2 J3 (k.dD p L cw) (k.dD p L1 cw1)→One L1→L1.cs.length≤6→L1.t=t'→L1.fs=fs1→fs1.map (·.1)=fn'→cw1.map Cw.n=wn'→cw1.length≤6→(∀c∈cw1,c.w.length≤37 * i + 1) →
     ws0.map (Lw.told fs1 (dst bs1 ++ [t']))=(cw1.map λc=>c.told (bY L1 bs1)).map Cw.rA→(∀c∈cw1.map λc=>c.told (bY L1 bs1),Nb c.w)→(∀b∈bs1,0≤b.m∧b.m≤L1.t)→Q (.fl (bs1.map ax.v)) J3) →
    iB cD cN cL cC T Tg eB eT eC eU eW [.ref p,dv] J2 Q E:=by
 have ok:=h.ok
 have one:=h.one
 have fl6:L.fs.length≤6:=by
  have h1:L.fs.length≤L.cs.length:=by unfold Ln.fs Ln.E3;rw [VM];exact WH _ _
  have:=h.nl
  omega
 have FV:∀x∈L.fs,oO 900 x.2:=λx hx=>by
  obtain ⟨c,hc,rfl⟩:=VQ.mp hx
  have hc:=(Ln.eE.mp hc).1
  exact (ok.ck c hc _ (Cf.iK (ok.ne c hc)).2).Fp
 have rl6:L.row.length≤6:=by rw [ok.row,GX];exact fl6
 have names:(cw.map Cw.rA).map Lw.n=cw.map Cw.n:=by rw [VX];rfl
 have rA:∀{L1:Ln} {bs1:List ax} {cs:List Cw},(∀b∈bs1,dH L1.cs b.m=L1.fs)→L1.row=bT L1.t L1.fs→iF bs1→(∀c∈cs,Nb c.w)→(cs.map Cw.rA).map (Lw.told L1.fs (dst bs1 ++ [L1.t]))=(cs.map λc=>c.told (bY L1 bs1)).map Cw.rA∧∀c∈cs.map λc=>c.told (bY L1 bs1),Nb c.w:=λh1 h2 h3 h4=>by
  refine ⟨?_,λc hc=>?_⟩
  ·rw [VX,VX]
   exact WR λc hc=>(AI h1 h2 h3 (h4 c hc)).1
  ·obtain ⟨c0,h0,rfl⟩:=VQ.mp hc
   exact (AI h1 h2 h3 (h4 c0 h0)).2
 rcases hd with ⟨n,x,v,rfl,hg,hl,hb,hn,hf,t0,rfl,rfl,rfl⟩ | ⟨m,rfl,hg,hm,hmt,rfl,rfl⟩ | ⟨n,gs,rfl,hg,hl,hn,hgs,hw6,rfl,rfl,rfl⟩ | ⟨n,rfl,hn,rfl,rfl,rfl⟩
 ·have ew:("join":Str)≠"go":=by decide +kernel
  refine ⟨_,[],_,"join",λ_=>eQ _ _,.inl ⟨rfl,n,x,v,rfl,hn,rfl⟩,.inr ⟨ew,t0.symm,rfl⟩,.inr (.inr ⟨"join",λ_=>eQ _ _,by decide +kernel,by decide +kernel,rfl⟩),?_,?_,?_,by rw [← t0];exact ok.Fd,(λ_ z=>nomatch z),by decide,λJ2 Q d hT hTg k1=>?_⟩
  ·rw [VP,WC]
   exact ⟨ok.CS,by simp,λa ha b hb e=>by rw [VR,Wj,VV] at hb;subst hb;subst e;exact hn ha⟩
  ·rw [VZ];rw [VM] at hf;exact hf
  ·intro y hy
   rcases VY.mp hy with hy | hy
   ·exact FV y hy
   ·rw [VV] at hy;subst hy;exact (zk.new ok.t0 ok.ts hb.1 hb.2).Fp
  ·refine ⟨p,k,L,bs,ds,cw,_,rfl,d,ok,.inl ⟨n,x,v,rfl,hTg,hg,hb,?_,by omega,by have:=h.nl;omega,hl,λJ3 L1 d1 ok1 jn mv=>?_⟩⟩
   ·intro z
    refine hn ?_
    rw [lE]
    obtain ⟨c,hc,e⟩:=VQ.mp z
    exact VQ.mpr ⟨c,Ln.eE.mpr ⟨hc,(one c hc).1⟩,e⟩
   ·obtain ⟨a,r,ecs,et⟩:=jn
    have efs:L1.fs=L.fs ++ [(n,⟨L.t,(x:Rat),v⟩)]:=CU L ecs rfl
    have ll:L1.cs.length≤6:=by
     have e1:L.E3=L.cs:=Wx.mpr λc hc=>by rw [(one c hc).1];rfl
     have e2:L.fs.length=L.cs.length:=by unfold Ln.fs;rw [e1,VM]
     rw [VM] at hf
     rw [ecs,VZ];show L.cs.length + 1≤6;omega
    have z:=rA (L1:=L1) (bs1:=[]) (cs:=cw) (λ_ z=>nomatch z) ok1.row List.Pairwise.nil h.nb
    rw [efs,et.trans t0] at z
    refine k1 J3 L1 cw d1 ok1 mv (λc hc=>?_) ll (et.trans t0) efs (by rw [VP];rfl) rfl h.cl h.wl z.1 z.2 (λ_ z=>nomatch z)
    rw [ecs] at hc
    rcases VY.mp hc with hc | hc
    ·exact one c hc
    ·rw [VV] at hc;subst hc;exact ⟨rfl,_,rfl,t0⟩
 ·obtain rfl:m=t':=hmt.symm
  have ew:("go":Str)≠"join":=by decide +kernel
  have hl:(hE L.t (L.fs.map (key L.t)) m).length≤36:=by
   have h1:=G0 L.t m (L.fs.map (key L.t)) ok.knd
   rw [VM] at h1
   exact V6 h1 (Nat.mul_le_mul fl6 fl6)
  have sm:Sz 900 m:=(tY (tR hg).1).mono (by decide)
  refine ⟨_,_,_,"go",λ_=>eQ _ _,.inr ⟨ew,rfl⟩,.inl ⟨rfl,m,rfl,sm,rfl,rfl⟩,.inr (.inr ⟨"go",λ_=>eQ _ _,by decide +kernel,by decide +kernel,rfl⟩),ok.CS,fl6,FV,sm,λb hb=>(sL ok hb).2.2,hl,λJ2 Q d hT hTg k1=>?_⟩
  refine ⟨p,k,L,bs,ds,cw,_,rfl,d,ok,.inr (.inl ⟨m,rfl,hg,hm,λJ3 o3 d3 ok3 mv3=>?_⟩)⟩
  have one3:One { L with t:=m,o:=o3,row:=bT m L.fs }:=one
  have z:=rA (L1:={ L with t:=m,o:=o3,row:=bT m L.fs }) (bs1:=hE L.t (L.fs.map (key L.t)) m) (cs:=cw) (λb hb=>one3.VI (sL ok hb).1) ok3.row (qF _ _ _) h.nb
  exact k1 J3 _ cw d3 ok3 mv3 one3 h.nl rfl rfl rfl rfl h.cl h.wl z.1 z.2 λb hb=>⟨(sL ok hb).1,(sL ok hb).2.1⟩
 ·have ew:("watch":Str)≠"go"∧("watch":Str)≠"join":=by decide +kernel
  refine ⟨_,[],_,"watch",λ_=>eQ _ _,.inr ⟨ew.2,rfl⟩,.inr ⟨ew.1,rfl,rfl⟩,.inl ⟨n,gs,rfl,by rw [names];exact hn,rfl⟩,ok.CS,fl6,FV,ok.Fd,(λ_ z=>nomatch z),by decide,λJ2 Q d hT hTg k1=>?_⟩
  have hrow:(gs.all λg=>decide (g∈L.row))=true:=by
   rw [Xb]
   exact λg hg=>decide_eq_true ((ok.rm g).mpr (hgs g hg))
  have h6:cw.length < 6:=by rw [VM] at hw6;exact hw6
  refine ⟨p,k,L,bs,ds,cw,_,rfl,d,ok,.inr (.inr (.inl ⟨n,gs,rfl,p,k,L,bs,ds,cw,n,gs,rfl,d,ok,hT,hTg,hl,h.cl,(λz=>by rw [hg] at z;cases z),(λ_ z=>absurd z hn),(λ_ _ z=>by rw [hrow] at z;cases z),(λ_ _ _ z=>by omega),λ_ _ _ _ J3 a r d3 mv3=>?_⟩))⟩
  have z:=rA (L1:=L) (bs1:=[]) (cs:=cw) (λ_ z=>nomatch z) ok.row List.Pairwise.nil h.nb
  have z2:=Iu ok.row n a r gs
  refine k1 J3 L _ d3 ok mv3 one h.nl rfl rfl rfl (by rw [VP];rfl) (by rw [VZ];exact h6) (λc hc=>?_) (by rw [VP,VP,VP,z.1,VR,Wj,VR,Wj,VR,Wj,z2.1]) (λc hc=>?_) (λ_ z=>nomatch z)
  ·rcases VY.mp hc with hc | hc
   ·exact h.wl c hc
   ·rw [VV] at hc;subst hc;exact Nat.le_add_left _ _
  ·rw [VP] at hc
   rcases VY.mp hc with hc | hc
   ·exact z.2 c hc
   ·rw [VR,Wj,VV] at hc;subst hc;exact z2.2
 ·have ew:("unwatch":Str)≠"go"∧("unwatch":Str)≠"join":=by decide +kernel
  refine ⟨_,[],_,"unwatch",λ_=>eQ _ _,.inr ⟨ew.2,rfl⟩,.inr ⟨ew.1,rfl,rfl⟩,.inr (.inl ⟨n,rfl,by rw [names];exact hn,rfl⟩),ok.CS,fl6,FV,ok.Fd,(λ_ z=>nomatch z),by decide,λJ2 Q d hT hTg k1=>?_⟩
  refine ⟨p,k,L,bs,ds,cw,_,rfl,d,ok,.inr (.inr (.inr ⟨n,rfl,p,k,L,bs,ds,cw,n,rfl,d,(λz=>absurd hn z),λ_ J3 d3 mv3=>?_⟩))⟩
  have sub:∀c∈cw.filter (λc=>decide (c.n≠n)),c∈cw:=λc hc=>(V8.mp hc).1
  have z:=rA (L1:=L) (bs1:=[]) (cs:=cw.filter λc=>decide (c.n≠n)) (λ_ z=>nomatch z) ok.row List.Pairwise.nil (λc hc=>h.nb c (sub c hc))
  refine k1 J3 L _ d3 ok mv3 one h.nl rfl rfl rfl (by rw [XY];rfl) (V6 (WH _ _) h.cl) (λc hc=>h.wl c (sub c hc)) (by rw [← z.1,XY];rfl) z.2 (λ_ z=>nomatch z)
abbrev HJ:Stmt:=(top 67)
abbrev rQ:List Str:=["_law_desk","_law_state","_law_deed"]
theorem Cc:av ["_law_desk","_law_state","_law_deed","_law_due_here"] ["_law_desk","_law_state","_law_deed"] (aq HJ):=dO
def Mc (cD cN cL cC T Tg:Addr):cI:=λxs J Q _=>∃(ks:List (Addr × HQ)) (p S:Addr) (t:Rat) (fn wn:List Str) (i:Nat) (dv:PV) (t':Rat) (fn' wn':List Str),xs=[.ref p,.ref S,dv]∧Sx cD cN cL cC ks J p S t fn wn i∧i < 16∧Pl dv∧(T,HQ.tab)∈ks∧(Tg,HQ.tab)∈ks∧Ct dv t fn wn t' fn' wn'∧∀J',Sx cD cN cL cC ks J' p S t' fn' wn' (i + 1)→Q (.bl true) J'
theorem JK {eT:Addr} (F:bZ K "_law_act" "_law_act" HJ f fd) (Z:bE mg) (OW:b7 P w K mg base 3 "_law_due" rS Me) (D3:b7 P w K mg base 4 "_law_watched" kQ xk) (fN:bU P w K mg base cD 10 "do" ou (DH cD cN cL cC T Tg eB eT eC eU eW)):aK P w K mg base (cq P w) 11 f fd rQ (cP K (Mc cD cN cL cC T Tg)):=by
 simp_arith [Cc,(ak (aD (i:=3) Cc.nd (jM ah))
   (f9 (aY (aG (dh hr.aM) (au aw (rv 2) ai) aS) (ar (oz m8 (au bO (rv 1) aS) (au aw (rv 2) ai) (bP (af (au bO (rv 1) aS) (af (bP (af (au aw (rv 2) ai) (af ai ah))) (af (au aw (rv 2) ai) ah)))))) aR)
   (f9 (aY (aG (dh hr.aM) (au aw (rv 2) ai) aS) (ak (aD (i:=3) Cc.nd (aU OW B hr (af (au bO (rv 1) aS) (af (au bO (rv 1) aS) (af (au aw (rv 2) ai) ah)))))
   (ar (oz m8 (rv 1) aS (au aw (rv 2) ai)))) aR)
   (ak (aV (aU D3 B hr (af (au bO (rv 1) aS) (af (au bO (rv 1) aS) (af (au bO (rv 1) aS) (af (rv 2) (af (rv 3) ah)))))))
   (ak (aV (eV V3 XN YH wW (au bO (rv 1) aS) (af (rv 3) ah)))
   (ak (aV (eV V3 Wb Wc cK (au bO (rv 1) aS) (af (rv 2) ah)))
   (ar (aB (fA (dh hr.aM) (a_ (pl:=_) fN B hr (rv 0) (af (rv 2) ah)) (rv 3))))))))))]
 ·obtain ⟨ks,p,S,t,fn,wn,i,dv,t',fn',wn',rfl,_⟩:=h;rfl
 obtain ⟨ks,p,S,t,fn,wn,i,dv,t',fn',wn',rfl,⟨k,q,L,bs,ds,cw,h,rfl,rfl,rfl⟩,hi,hpl,hT,hTg,hd,q0⟩:=h
 obtain ⟨fs1,bs1,ws0,wd,i0,hj,hg,hw,CS,f6,FV,Fd,bsz,bl,hdo⟩:=h.SX (T:=T) (Tg:=Tg) (eB:=eB) (eT:=eT) (eC:=eC) (eU:=eU) (eW:=eW) (E:=E2) hd
 obtain ⟨sa,sb,se,hS⟩:=h.s.ob
 obtain ⟨el,hl⟩:=h.s.lg
 obtain ⟨v1,v2,v3,v4,v5⟩:=q.va sa sb L.t
 have fl6:L.fs.length≤6:=by
  have h1:L.fs.length≤L.cs.length:=by unfold Ln.fs Ln.E3;rw [VM];exact WH _ _
  have:=h.nl
  omega
 refine hX ?_
 simp_all! []
 obtain ⟨M,hM⟩:∃M:Sr→Hq→Prop,∀τ' J',M τ' J'↔τ'=[some (.ref p),some (.ref S),some dv,some (.fl [])]∧i5 J' S q fs1 L.t (cw.map Cw.rA) bs ds∧J' S=some (.dct (q.V sa sb L.t) se)∧((wd≠"join"∧fs1=L.fs)∨wd≠"go")∧∀a,¬ q.own S a→J' a=J a:=⟨_,λ_ _=>Iff.rfl⟩
 refine ⟨M,?_,?_⟩
 ·rcases hj with ⟨rfl,n,x,v,rfl,hn,rfl⟩ | ⟨nj,rfl⟩
  ·have i1:iD J (iN n x v) (.int 1)=some (.str n):=iJ _ _ _
   have i2:iD J (iN n x v) (.int 2)=some (.int x):=rF _ _ _ _
   have i3:iD J (iN n x v) (.int 3)=some (.int v):=rfl
   have elv:PV.tup [fr L.t,.tup [.int x,.int 1],.int v]=(bQ.mk L.t (x:Rat) v).V:=rfl
   have epu:mT (fL L.fs) n (bQ.mk L.t (x:Rat) v).V=fL (L.fs ++ [(n,⟨L.t,(x:Rat),v⟩)]):=uv (f:=bQ.V) (l:=⟨L.t,(x:Rat),v⟩) hn
   simp_all! [i0,i1,i2,i3,hS,v1,v5,hl,elv]
   refine ⟨ba (by unfold fL;rw [VM];omega),λep'=>(hM _ _).mpr ⟨rfl,by rw [epu];exact h.s.Td _ _,by rw [ag h.s.ne.1.1];exact hS,.inr (by decide +kernel),λa na=>ag (λz=>na (.inr (.inl z)))⟩⟩
  ·simp_all! [i0,nj]
   exact (hM _ _).mpr ⟨rfl,h.s,hS,.inl ⟨nj,rfl⟩,λ_ _=>rfl⟩
 intro τ' J1 hm
 obtain ⟨rfl,s1,hS1,hjg,kp1⟩:=(hM _ _).mp hm
 clear hm hM M hj hl el hS
 obtain ⟨M,hM⟩:∃M:Sr→Hq→Prop,∀τ' J',M τ' J'↔τ'=[some (.ref p),some (.ref S),some dv,some (.fl (bs1.map ax.v))]∧i5 J' S q fs1 t' (cw.map Cw.rA) bs ds∧(∃se,J' S=some (.dct (q.V sa sb t') se))∧∀a,¬ q.own S a→J' a=J a:=⟨_,λ_ _=>Iff.rfl⟩
 refine ⟨M,?_,?_⟩
 ·rcases hg with ⟨rfl,m,rfl,sm,rfl,rfl⟩ | ⟨ng,rfl,rfl⟩
  ·have i1:∀J,iD J (F0 t') (.int 1)=some (fr t'):=λ_=>iJ _ _ _
   obtain ⟨el,hl⟩:=s1.lg
   have efs:fs1=L.fs:=by
    rcases hjg with z | z
    ·exact z.2
    ·exact absurd rfl z
   have s240:Sz 240 L.t:=(tY h.ok.ts).mono (by decide)
   simp_all! [i0,i1,hS1,v1,v5]
   refine ⟨q.lg,fs1,el,L.t,t',rfl,hl,CS,by omega,s240,sm,by rw [efs];exact h.ok.MR,?_⟩
   refine hNq _ _ ?_
   clear hNq Nq
   simp_all! [i1]
   refine BG hS1 ?_
   rw [Ls.pu,efs]
   exact ⟨V7 (show 7 < 8 by decide) (by decide),λep'=>(hM _ _).mpr ⟨rfl,by rw [efs];exact (efs ▸ s1).Vt _ _ _ _,⟨_,aj⟩,λa na=>by rw [ag (λz=>na (.inl z))];exact kp1 a na⟩⟩
  ·simp_all! [i0,ng]
   exact (hM _ _).mpr ⟨rfl,s1,⟨_,hS1⟩,kp1⟩
 intro τ' J2 hm
 obtain ⟨rfl,s2,⟨se2,hS2⟩,kp2⟩:=(hM _ _).mp hm
 clear hm hM M hg hjg kp1 s1 hS1 J1 v1 v2 v3 v4 v5
 obtain ⟨v1,v2,v3,v4,v5⟩:=q.va sa sb t'
 obtain ⟨el,hl⟩:=s2.lg
 obtain ⟨eo,ho⟩:=s2.on
 obtain ⟨⟨n1,n2,n3,n4⟩,⟨n5,n6,n7⟩,⟨n8,n9⟩,n10⟩:=s2.ne
 have names:(cw.map Cw.rA).map Lw.n=cw.map Cw.n:=by rw [VX];rfl
 simp_all! [hS2,v1,v2,v5]
 refine ⟨q.on,q.lg,fs1,eo,el,t',dv,bs1,cw.map Cw.rA,ws0,rfl,ho,hl,n5,CS,by omega,FV,Fd,bsz,by omega,by rw [VM];have:=h.cl;omega,?_,by rw [names];exact h.d.cnd,?_,λe2=>?_⟩
 ·intro c hc
  obtain ⟨c0,h0,rfl⟩:=VQ.mp hc
  have:=h.wl c0 h0
  show c0.w.length≤600
  omega
 ·rcases hw with h1 | h1 | ⟨w1,h1,h2⟩
  ·exact .inl h1
  ·exact .inr (.inl h1)
  ·exact .inr (.inr ⟨w1,h1 J2,h2⟩)
 refine hNq _ _ ?_
 clear hNq Nq
 have hS3:∀v,put J2 q.on v S=some (.dct (q.V sa sb t') se2):=λv=>by rw [ag n2];exact hS2
 have hb3:∀v,put J2 q.on v q.bk=some (.lst (bs.map ax.v)):=λv=>by rw [ag (Ne.symm n8)];exact s2.bk
 simp_all! [hS3,v3,Ds]
 refine ⟨⟨_,hb3 _⟩,_,hb3 _,?_,hNq _ _ ?_⟩
 ·rw [VM,VM];have:=h.bl;exact V6 (show _≤612 by omega) (by decide)
 clear hNq Nq
 have hS4:∀v u,put (put J2 q.on v) q.bk u S=some (.dct (q.V sa sb t') se2):=λv u=>by rw [ag n3,ag n2];exact hS2
 have hj4:∀v u,put (put J2 q.on v) q.bk u q.jr=some (.lst ds):=λv u=>by rw [ag (Ne.symm n10),ag (Ne.symm n9)];exact s2.jr
 simp_all! [hS4,v4,hj4]
 refine ⟨ba (by have:=h.dl;omega),hNq _ _ ?_⟩
 clear hNq Nq
 have s5:=s2.VF (ws0.map (Lw.told fs1 (dst bs1 ++ [t']))) e2 (bs ++ bs1) (ds ++ [dv])
 rw [VP] at s5
 have kp5:∀a,¬ q.own S a→put (put (put J2 q.on (.dct ((ws0.map (Lw.told fs1 (dst bs1 ++ [t']))).map Lw.V) e2)) q.bk (.lst (bs.map ax.v ++ bs1.map ax.v))) q.jr (.lst (ds ++ [dv])) a=J a:=λa na=>by
  rw [ag (λz=>na (.inr (.inr (.inr (.inr z))))),ag (λz=>na (.inr (.inr (.inr (.inl z))))),ag (λz=>na (.inr (.inr (.inl z))))]
  exact kp2 a na
 generalize put (put (put J2 q.on (.dct ((ws0.map (Lw.told fs1 (dst bs1 ++ [t']))).map Lw.V) e2)) q.bk (.lst (bs.map ax.v ++ bs1.map ax.v))) q.jr (.lst (ds ++ [dv]))=J5 at s5 kp5 ⊢
 have d5:cF cD cN cL cC J5 p k L bs ds cw:=h.d.keep λa o ow e=>(kp5 a λz=>h.ap a z ow).trans e
 have kk:∀x∈ks,J5 x.1=some x.2:=λx hx=>(kp5 _ (h.kp x hx).2.1).trans (h.kp x hx).1
 have bo:=d5.ob
 simp_all! [bo]
 refine ⟨jY,p,k,L,bs,ds,cw,dv,rfl,d5,by have:=h.dl;omega,by have:=h.bl;omega,hdo J5 _ d5 (kk _ hT) (kk _ hTg) λJ6 L1 cw1 d6 ok6 mv6 one6 l6 t6 f6' fn6 wn6 c6 w6 tri6 nb6 m6=>?_⟩
 refine ⟨L1,bs1,cw1,rfl,d6,ok6,mv6,λy hy=>⟨(m6 y hy).1,(m6 y hy).2,bsz y hy⟩,by omega,λc hc=>by have:=w6 c hc;omega,λJ7 d7 mv7=>?_⟩
 refine ⟨(i6 (pA _)).1,(i6 (pA _)).2,?_⟩
 rw [eq_self]
 have ap7:∀a o,J5 a=some o→¬ k.dD p L cw a→¬ k.dD p L1 (cw1.map λc=>c.told (bY L1 bs1)) a:=λa o e n=>mv7.fresh e n
 refine q0 J7 ⟨k,q,L1,bs ++ bs1,ds ++ [dv],_,⟨d7,?_,λa ow=>?_,λx hx=>⟨mv7.keep _ _ (kk x hx) (h.kp x hx).2.2,(h.kp x hx).2.1,ap7 _ _ (kk x hx) (h.kp x hx).2.2⟩,ok6,one6,nb6,λc hc=>?_,l6,?_,?_,by rw [VM];exact c6,λx hx=>?_⟩,t6,by rw [f6'];exact fn6,by rw [VX];exact wn6⟩
 ·rw [f6',t6,← tri6]
  exact s5.keep λa o ow e=>mv7.keep a o e (h.ap a ow)
 ·intro z
  rcases mv7.own a z with y | y
  ·exact h.ap a ow y
  ·exact s5.some ow y
 ·obtain ⟨c0,h0,rfl⟩:=VQ.mp hc
  have h1:=w6 c0 h0
  have h2:=c0.p5 (bY L1 bs1)
  have h3:(bY L1 bs1).length=bs1.length + 1:=by unfold bY;rw [VZ,VM];rfl
  omega
 ·rw [VZ];have:=h.bl;omega
 ·rw [VZ];have:=h.dl;show ds.length + 1≤_;omega
 ·rcases VY.mp hx with hx | hx
  ·exact h.pl x hx
  ·rw [VV] at hx;subst hx;exact hpl
def Bj:List Str:=["BadName","Taken","Full","NoCraft","TooFar","BadMoment","Past","NotThere","NoWatch","NoTale"]
theorem MP:∀i,i < 10→iL i≠"":=by decide +kernel
theorem Jo (i:Nat) (hi:i < 10):Bj.map (λx=>decide (x=iL i))=(WM 10).map λj=>decide (i=j):=by
 have:∀i,i < 10→Bj.map (λx=>decide (x=iL i))=(WM 10).map λj=>decide (i=j):=by decide +kernel
 exact this i hi
def AM (i:Nat):Str:=if i < 10 then iL i else ""
def lB (i:Nat):List PV:=if i < 10 then jV i else []
theorem jz (j:Nat):II (.fl (lB j)):=by
 unfold lB
 split
 ·exact ⟨by simp [jV,Hh,eG,B3,Ad (λk=>PV.bl (decide (j=k))) (λk=>B3 _)],by simp [jV,dw,dR,dep,dN,WM,List.range.loop]⟩
 ·exact ⟨by simp [Hh,ie],by simp [dw,dR,dep,dN]⟩
abbrev sQ:Stmt:=(top 59)
abbrev nM:List Str:=["_law_due_here"]
theorem Ap:av ["_law_due_here","_law_some"] ["_law_due_here"] (aq sQ):=dO
def SS:PV→Str
 | .str x=>x
 | _=>""
def Av:cI:=λxs J Q _=>∃i,xs=[.str (AM i)]∧Q (.fl (lB i)) J
theorem EJ (F:bZ K "_law_flags" "_law_flags" sQ f fd) (Z:bE mg):aK P w K mg base (cq P w) 1 f fd nM (cP K Av):=by
 simp_arith [Ap,(ak (aD (i:=1) Ap.nd (jM (yO [.str "BadName",.str "Taken",.str "Full",.str "NoCraft",.str "TooFar",.str "BadMoment",.str "Past",.str "NotThere",.str "NoWatch",.str "NoTale"] rfl [.str "BadName",.str "Taken",.str "Full",.str "NoCraft",.str "TooFar",.str "BadMoment",.str "Past",.str "NotThere",.str "NoWatch",.str "NoTale"] rfl)))
   (ak (aY (aG (dh hr.aM) (rv 0) aS) (ar (aB (jM ah))) aR)
   (ar (aB (aJ Dd (jM (af ig ah)) (HE (aq sQ) ["_law_due_here","_law_some"] [("_law_due_here",0)] rfl rfl rfl (dS (rv 1)) (λ_ _ _ _ _ _=>(fA (dh hr.aM) (rv 0) (rv 1)))))))))]
 ·obtain ⟨i,rfl,_⟩:=h;rfl
 obtain ⟨i,rfl,q⟩:=h
 refine hX ?_
 simp_all! []
 by_cases hi:i < 10
 ·unfold AM lB at *
  rw [if_pos hi] at q ⊢
  rw [if_neg (MP i hi)]
  simp_all! [Hv]
  refine ⟨λ_=>true,λx=>.bl (decide (SS x=iL i)),⟨by decide +kernel,λJ' _=>⟨trivial,λx hx=>⟨⟨rfl,rfl⟩,λ_=>?_⟩⟩⟩,?_⟩
  ·obtain ⟨y,hy,rfl⟩:∃y∈Bj,x=.str y:=by
    simp only [V2,WB,or_false] at hx
    rcases hx with h | h | h | h | h | h | h | h | h | h <;> subst h <;> exact ⟨_,by decide +kernel,rfl⟩
   simp_arith! [cy,SS]
   exact rfl
  ·have e:(([.str "BadName",.str "Taken",.str "Full",.str "NoCraft",.str "TooFar",.str "BadMoment",.str "Past",.str "NotThere",.str "NoWatch",.str "NoTale"]:List PV).filter λ_=>true).map (λx=>PV.bl (decide (SS x=iL i)))=(WM 10).map λj=>PV.bl (decide (i=j)):=by
    have:=congrArg (ZI PV.bl) (Jo i hi)
    rw [VX,VX] at this
    exact this
   simp_arith! [cy,e]
   refine ⟨by rw [VM,X1];exact eh (by decide),q⟩
 ·unfold AM lB at *
  rw [if_neg hi] at q ⊢
  rw [if_pos rfl]
  simp_all! []
  exact q
theorem Sk.sub {bs:List ax} (h:Sk cD cN cL cC ks J p S k q L bs ds cw i) (s:Sub J J'):Sk cD cN cL cC ks J' p S k q L bs ds cw i :=
 ⟨h.d.sub s,h.s.keep λa o _ e=>s a o e,h.ap,λx hx=>⟨s _ _ (h.kp x hx).1,(h.kp x hx).2⟩,h.ok,h.one,h.nb,h.wl,h.nl,h.bl,h.dl,h.cl,h.pl⟩
theorem cF.inj (h:cF cD cN cL cC J p k L ps ds cw) {d:Cw} (hc:c∈cw) (hd:d∈cw) (e:c.n=d.n):c=d:=by
 have nd:((cw.map λc=>(c.n,c)).map (·.1)).Nodup:=by rw [VX];exact h.cnd
 have e1:=fZ (f:=λc:Cw=>c) nd (VQ.mpr ⟨d,hd,rfl⟩)
 have e2:=fZ (f:=λc:Cw=>c) nd (VQ.mpr ⟨c,hc,rfl⟩)
 rw [e,e1] at e2
 exact (Option.some.inj e2).symm
theorem yB (ss:List Str):∀x∈ss.map PV.str,Pl x:=λx hx=>by
 obtain ⟨b,_,rfl⟩:=VQ.mp hx
 exact ⟨by simp [jw],by simp [dw,dep]⟩
abbrev Cb:Stmt:=(top 64)
abbrev pM:List Str:=["_law_desk","_law_state"]
theorem sU:av ["_law_desk","_law_state","_law_lane","_law_mark","_law_rows"] ["_law_desk","_law_state"] (aq Cb):=dO
def HZ (cD cN cL cC:Addr):cI:=λxs J Q _=>∃(ks:List (Addr × HQ)) (p S:Addr) (t:Rat) (fn wn:List Str) (i:Nat),xs=[.ref p,.ref S]∧Sx cD cN cL cC ks J p S t fn wn i∧∀J',Sx cD cN cL cC ks J' p S t fn wn i→Q (.bl true) J'
theorem GI (F:bZ K "_law_sits" "_law_sits" Cb f fd) (Z:bE mg) (xu:b7 P w K mg base 3 "_law_order" jf uT) (lP:bU P w K mg base cD 5 "lane" pF (DJ cD cN cL cC)) (lO:bU P w K mg base cD 1 "book" pE (DG cD cN cL cC)) (gZ:bU P w K mg base cD 1 "journal" kO (uM cD cN cL cC)) (eu:bU P w K mg base cD 2 "story" jc (uN cD cN cL cC eW)) (dI:bU P w K mg base cD 2 "leader" hU (q9 cD cN cL cC eW)) (bN:bU P w K mg base cN 1 "clock" eS (mx cN cL)) (cH:bU P w K mg base cN 1 "order" f7 (pW cN cL)):aK P w K mg base (cq P w) 6 f fd pM (cP K (HZ cD cN cL cC)):=by
 simp_arith [sU,(ak (aD (i:=2) sU.nd (b8 (pl:=_) lP B hr (rv 0)))
   (ak (aY (fj (nT (aG (g8 hr.aM) (b8 (pl:=_) bN B hr (rv 2)) (au bO (rv 1) aS)) (jh (aG (g8 hr.aM) (b8 (pl:=_) cH B hr (rv 2)) (aU xu B hr (af (au bO (rv 1) aS) (af (au bO (rv 1) aS) ah))))))) (ar (aB ig)) aR)
   (ak (aY (fj (nT (aG (GR hr.aM) (b8 (pl:=_) lO B hr (rv 0)) (au bO (rv 1) aS)) (jh (aG (GR hr.aM) (b8 (pl:=_) gZ B hr (rv 0)) (au bO (rv 1) aS))))) (ar (aB ig)) aR)
   (ak (cV bA rfl (ki (au bO (rv 1) aS)) (bq (i:=3) sU.nd) (ak (aD (i:=4) sU.nd (au aw (au bO (au bO (rv 1) aS) (rv 3)) ai))
   (ar (aY (fj (nT (aG (g8 hr.aM) (a_ (pl:=_) eu B hr (rv 0) (af (rv 3) ah)) (rv 4)) (jh (aG (g8 hr.aM) (a_ (pl:=_) dI B hr (rv 0) (af (rv 3) ah)) (au aw (au aw (rv 4) (ux oJ ai)) ai))))) (ar (aB ig)) aR))))
   (ar (aB ig))))))]
 ·obtain ⟨ks,p,S,t,fn,wn,i,rfl,_⟩:=h;rfl
 obtain ⟨ks,p,S,t,fn,wn,i,rfl,⟨k,q,L,bs,ds,cw,h,rfl,rfl,rfl⟩,q0⟩:=h
 have bo:=h.d.ob
 refine hX ?_
 simp_all! [bo]
 refine ⟨jY,p,k,L,bs,ds,cw,rfl,h.d,h.ok,λJ1 pl L1 s1 b1 ok1 al new=>hNq _ _ ?_⟩
 clear hNq Nq
 have h:=h.sub s1
 clear s1 new bo
 obtain ⟨sa,sb,se,hS⟩:=h.s.ob
 obtain ⟨el,hl⟩:=h.s.lg
 obtain ⟨eo,ho⟩:=h.s.on
 obtain ⟨v1,v2,v3,v4,v5⟩:=q.va sa sb L.t
 have bo:=h.d.ob
 have lo:=b1.ob
 have FV:∀x∈L.fs,oO 900 x.2:=λx hx=>by
  obtain ⟨c,hc,rfl⟩:=VQ.mp hx
  have hc:=(Ln.eE.mp hc).1
  exact (h.ok.ck c hc _ (Cf.iK (h.ok.ne c hc)).2).Fp
 have fl:L.fs.length≤100:=by
  have h1:L.fs.length≤L.cs.length:=by unfold Ln.fs Ln.E3;rw [VM];exact WH _ _
  have:=h.nl
  omega
 simp_all! [lo,hS,v1,v5]
 refine ⟨kU,pl,L1,rfl,b1,?_⟩
 simp_all! [lo,hS,v1,v5]
 rw [al.t,if_pos rfl]
 refine ⟨kU,pl,L1,rfl,b1,.inl ?_⟩
 simp_all! [hS,v1,v5]
 refine ⟨q.lg,L.fs,el,L.t,rfl,hl,h.ok.CS,fl,h.ok.Fd,FV,?_⟩
 rw [al.row,h.ok.row]
 refine ⟨(i6 (yB _)).1,(i6 (yB _)).2,?_⟩
 rw [eq_self,if_neg (by decide)]
 refine hNq _ _ ?_
 clear hNq Nq
 simp_all! [bo,hS,v3,h.s.bk]
 refine ⟨jY,p,k,L,bs,ds,cw,rfl,h.d,?_⟩
 simp_all! [bo,hS,v3]
 refine ⟨_,_,rfl,by rw [Gr,h.s.bk],(i6 (pA _)).1,(i6 (pA _)).2,?_⟩
 rw [eq_self]
 simp_all! [bo,Xz]
 refine ⟨jY,p,k,L,bs,ds,cw,rfl,h.d,?_⟩
 simp_all! [bo,hS,v4]
 refine ⟨_,_,rfl,by rw [Gr,h.s.jr],(i6 h.pl).1,(i6 h.pl).2,?_⟩
 rw [eq_self]
 simp_all! [Xz,hS,v2,ho]
 have hkv:((cw.map Cw.rA).map Lw.V).map (λkv=>PV.str kv.1)=cw.map λc=>PV.str c.n:=by rw [VX,VX];rfl
 rw [hkv]
 obtain ⟨Inv,hInv⟩:∃Inv:Nat→Sr→Hq→Prop,∀j τ J',Inv j τ J'↔∃u v:Option PV,τ=[some (.ref p),some (.ref S),some (.ref pl),u,v]∧J'=J1:=⟨_,λ_ _ _=>Iff.rfl⟩
 refine dW Inv ((hInv _ _ _).mpr ⟨_,_,rfl,rfl⟩) (λ_ _ _ hv=>by obtain ⟨u,v,_,rfl⟩:=(hInv _ _ _).mp hv;exact ho) (λj x τ J' hx hv=>?_) (λτ J' hv=>?_)
 ·obtain ⟨u,v,rfl,rfl⟩:=(hInv _ _ _).mp hv
  clear hv
  have hj:j < cw.length:=by have:=(VO.mp hx).1;simpa using this
  rw [VS,VN hj] at hx
  cases hx
  have hc:=Wi hj
  generalize cw[j]=c at hc ⊢
  have hva:gP ((cw.map Cw.rA).map Lw.V) c.n=some (.tup [.tup (c.gs.map .str),.fl (c.w.map bz.V)]):=by
   have e:(cw.map Cw.rA).map Lw.V=((cw.map λc=>(c.n,c)).map λx=>(x.1,(Lw.V x.2.rA).2)):=by rw [VX,VX];rfl
   rw [e]
   exact fZ (f:=λc:Cw=>(Lw.V c.rA).2) (by rw [VX];exact h.d.cnd) (VQ.mpr ⟨c,hc,rfl⟩)
  have tJ:=h.d.tJ c hc
  rcases WI c.w with e | ⟨ls,l,e⟩
  ·exact absurd e tJ
  rw [WJ] at e
  have hat:c_ (c.w.map bz.V) (-1)=some l.V:=by rw [e,VP];exact mK _ _
  simp_all! [hS,v2,ho,hva,bo]
  refine ⟨jY,p,k,L,bs,ds,cw,c.n,rfl,h.d,λz=>absurd (VQ.mpr ⟨c,hc,rfl⟩) z,λd hd en=>?_⟩
  obtain rfl:d=c:=h.d.inj hd hc en
  refine ⟨(i6 (Dh _)).1,(i6 (Dh _)).2,?_⟩
  rw [eq_self]
  simp_all! [Xz,bo]
  refine ⟨jY,p,k,L,bs,ds,cw,d.n,rfl,h.d,λz=>absurd (VQ.mpr ⟨d,hc,rfl⟩) z,λc2 h2 e2 l2 hl2=>?_⟩
  obtain rfl:c2=d:=h.d.inj h2 hc e2
  obtain rfl:l=l2:=by rw [e,Wl] at hl2;exact Option.some.inj hl2
  simp_all! [hat,C4,FH,yK,eq_self,Xz]
  exact (hInv _ _ _).mpr ⟨_,_,rfl,rfl⟩
 ·obtain ⟨u,v,rfl,rfl⟩:=(hInv _ _ _).mp hv
  clear hv hInv Inv
  refine hNq _ _ ?_
  clear hNq Nq
  simp_all! []
  exact q0 J' ⟨k,q,L,bs,ds,cw,h,rfl,rfl,rfl⟩
abbrev HK:Stmt:=(top 65)
abbrev rR:List Str:=["_law_desk","_law_what","_law_mark"]
theorem N9:av ["_law_desk","_law_what","_law_mark"] ["_law_desk","_law_what","_law_mark"] (aq HK):=dO
def Md (cD cN cL cC T Tg eU eW:Addr):cI:=λxs J Q E=>∃(ks:List (Addr × HQ)) (p S:Addr) (t:Rat) (fn wn:List Str) (i:Nat) (w:Int) (n:Str),xs=[.ref p,.int w,.str n]∧Sx cD cN cL cC ks J p S t fn wn i∧i≤16∧(T,HQ.tab)∈ks∧(Tg,HQ.tab)∈ks∧n.length≤sizeLine∧n ∉ wn∧((w=0∧good n=true∧wn.length=6∧E eU J)∨(1≤w∧w≤4∧E eW J))
theorem JL {eT:Addr} (F:bZ K "_law_ask" "_law_ask" HK f fd) (Z:bE mg) (fN:bU P w K mg base cD 10 "do" ou (DH cD cN cL cC T Tg eB eT eC eU eW)) (dI:bU P w K mg base cD 2 "leader" hU (q9 cD cN cL cC eW)) (eu:bU P w K mg base cD 2 "story" jc (uN cD cN cL cC eW)) (i9:bU P w K mg base cD 2 "led_by" lW (HV cD cN cL cC eW)):aK P w K mg base (cq P w) 11 f fd rR (cP K (Md cD cN cL cC T Tg eU eW)):=by
 simp_arith [N9,(ar (aY (aG (dh hr.aM) (rv 1) ai) (ar (aV (a_ (pl:=_) fN B hr (rv 0) (af (bP (af aS (af (rv 2) (af (bP ah) ah)))) ah)))) (ar (aY (aG (dh hr.aM) (rv 1) ai) (ar (aV (a_ (pl:=_) dI B hr (rv 0) (af (rv 2) ah)))) (ar (aY (aG (dh hr.aM) (rv 1) ai) (ar (aV (a_ (pl:=_) eu B hr (rv 0) (af (rv 2) ah)))) (ar (aY (aG (dh hr.aM) (rv 1) ai) (ar (aV (a_ (pl:=_) i9 B hr (rv 0) (af (rv 2) (af (bP (af (aJ BL ai ai) (af ai ah))) ah))))) (ar (aV (a_ (pl:=_) fN B hr (rv 0) (af (bP (af aS (af (rv 2) ah))) ah))))))))))))]
 ·obtain ⟨ks,p,S,t,fn,wn,i,w',n,rfl,_⟩:=h;rfl
 obtain ⟨ks,p,S,t,fn,wn,i,w',n,rfl,⟨k,q,L,bs,ds,cw,h,rfl,rfl,rfl⟩,hi,hT,hTg,hl,hn,hw⟩:=h
 have bo:=h.d.ob
 refine hX ?_
 have go:∀{dv:PV} {Q2:PV→Hq→Prop},(∀Q3:PV→Hq→Prop,iB cD cN cL cC T Tg eB eT eC eU eW [.ref p,dv] J Q3 E2)→DH cD cN cL cC T Tg eB eT eC eU eW [.ref p,dv] J Q2 E2:=λhc=>⟨p,k,L,bs,ds,cw,_,rfl,h.d,by have:=h.dl;omega,by have:=h.bl;omega,hc _⟩
 rcases hw with ⟨rfl,hg,h6,q1⟩ | ⟨w0,w1,q2⟩
 ·simp_all! [bo]
  refine ⟨jY,go λQ3=>⟨p,k,L,bs,ds,cw,_,rfl,h.d,h.ok,.inr (.inr (.inl ⟨n,[],rfl,p,k,L,bs,ds,cw,n,[],rfl,h.d,h.ok,(h.kp _ hT).1,(h.kp _ hTg).1,hl,h.cl,(λz=>by rw [hg] at z;cases z),(λ_ z=>absurd z hn),(λ_ _ z=>nomatch z),λ_ _ _ _=>q1,λ_ _ _ z=>by rw [VM] at h6;omega⟩))⟩⟩
 ·rcases (by omega:w'=1∨w'=2∨w'=3∨w'=4) with rfl | rfl | rfl | rfl
  ·simp_all! [bo]
   exact ⟨jY,p,k,L,bs,ds,cw,n,rfl,h.d,λ_=>q2,λc hc e=>absurd (VQ.mpr ⟨c,hc,e⟩) hn⟩
  ·simp_all! [bo]
   exact ⟨jY,p,k,L,bs,ds,cw,n,rfl,h.d,λ_=>q2,λc hc e=>absurd (VQ.mpr ⟨c,hc,e⟩) hn⟩
  ·simp_all! [bo]
   rw [if_neg (by decide),if_neg (by decide),if_neg (by decide)]
   exact ⟨jY,⟨by decide,by decide,by decide⟩,p,k,L,bs,ds,cw,n,((1000000000:Int):Rat),rfl,h.d,hn,q2⟩
  ·simp_all! [bo]
   exact ⟨jY,go λQ3=>⟨p,k,L,bs,ds,cw,_,rfl,h.d,h.ok,.inr (.inr (.inr ⟨n,rfl,p,k,L,bs,ds,cw,n,rfl,h.d,λ_=>q2,λz=>absurd z hn⟩))⟩⟩
abbrev Ca:Stmt:=(top 66)
abbrev pK:List Str:=["_law_desk","_law_what","_law_mark"]
theorem sT:av ["_law_desk","_law_what","_law_mark","_law_said_here","e"] ["_law_desk","_law_what","_law_mark"] (aq Ca):=dO
def HY (cD cN cL cC T Tg:Addr):cI:=λxs J Q _=>∃(ks:List (Addr × HQ)) (p S:Addr) (t:Rat) (fn wn:List Str) (i:Nat) (w:Int) (n:Str) (j:Nat),xs=[.ref p,.int w,.str n]∧Sx cD cN cL cC ks J p S t fn wn i∧i≤16∧(T,HQ.tab)∈ks∧(Tg,HQ.tab)∈ks∧n.length≤sizeLine∧n ∉ wn∧((w=0∧good n=true∧wn.length=6∧j=2)∨(1≤w∧w≤4∧j=8))∧Q (.fl (lB j)) J
theorem GH {W:Addr} {c:Nat→Addr} (F:bZ K "_law_said" "_law_said" Ca f fd) (Z:bE mg) (Er:D7 K mg W c) (OV:b7 P w K mg base 11 "_law_ask" rR (Md cD cN cL cC T Tg (c 2) (c 8))):aK P w K mg base (cq P w) 12 f fd pK (cP K (HY cD cN cL cC T Tg)):=by
 simp_arith [sT]
 ·obtain ⟨ks,p,S,t,fn,wn,i,w',n,j,rfl,_⟩:=h;rfl
 obtain ⟨ks,p,S,t,fn,wn,i,w',n,j,rfl,h,hi,hT,hTg,hl,hn,hw,q⟩:=h
 refine ⟨_,(ak (aD (i:=3) sT.nd (jM ah))
   (ak (N5 (i:=4) (n:=3) Er rfl Er.mW sT.nd rfl (by decide) rfl (λ_ _ _ _ _ hx=>(ar (aV (aU OV hx hr (af (rv 0) (af (rv 1) (af (rv 2) ah)))))))
   (λ_ _=>(aaj (aau (i:=3) sT.nd rfl (Or.inl rfl) (aaK (aaI (aaL (dm (K:=K) rfl) rfl Z.isinstance boot_isinstance (aaI (aaS 4) (aaI (ZM (v:=.ty "ValueError") rfl Er.nV PyProof.Rows.Boot.«ValueError» rfl) aaH))) (aaI (aaL (dm (K:=K) rfl) rfl Z.isinstance boot_isinstance (aaI (aaS 4) (aaI (Zl (v:=.ref (c 0)) rfl (Er.own 0 (by decide)).mg rfl) aaH))) (aaI (aaL (dm (K:=K) rfl) rfl Z.isinstance boot_isinstance (aaI (aaS 4) (aaI (Zl (v:=.ref (c 1)) rfl (Er.own 1 (by decide)).mg rfl) aaH))) (aaI (aaL (dm (K:=K) rfl) rfl Z.isinstance boot_isinstance (aaI (aaS 4) (aaI (Zl (v:=.ref (c 2)) rfl (Er.own 2 (by decide)).mg rfl) aaH))) (aaI (aaL (dm (K:=K) rfl) rfl Z.isinstance boot_isinstance (aaI (aaS 4) (aaI (Zl (v:=.ref (c 3)) rfl (Er.own 3 (by decide)).mg rfl) aaH))) (aaI (aaL (dm (K:=K) rfl) rfl Z.isinstance boot_isinstance (aaI (aaS 4) (aaI (Zl (v:=.ref (c 4)) rfl (Er.own 4 (by decide)).mg rfl) aaH))) (aaI (aaL (dm (K:=K) rfl) rfl Z.isinstance boot_isinstance (aaI (aaS 4) (aaI (Zl (v:=.ref (c 5)) rfl (Er.own 5 (by decide)).mg rfl) aaH))) (aaI (aaL (dm (K:=K) rfl) rfl Z.isinstance boot_isinstance (aaI (aaS 4) (aaI (Zl (v:=.ref (c 6)) rfl (Er.own 6 (by decide)).mg rfl) aaH))) (aaI (aaL (dm (K:=K) rfl) rfl Z.isinstance boot_isinstance (aaI (aaS 4) (aaI (Zl (v:=.ref (c 7)) rfl (Er.own 7 (by decide)).mg rfl) aaH))) (aaI (aaL (dm (K:=K) rfl) rfl Z.isinstance boot_isinstance (aaI (aaS 4) (aaI (Zl (v:=.ref (c 8)) rfl (Er.own 8 (by decide)).mg rfl) aaH))) (aaI (aaL (dm (K:=K) rfl) rfl Z.isinstance boot_isinstance (aaI (aaS 4) (aaI (Zl (v:=.ref (c 9)) rfl (Er.own 9 (by decide)).mg rfl) aaH))) aaH))))))))))))))) (λj hj σ H ea D h1 h2 q=>Ia Er hj h1 h2 q))
   (ar (aB (rv 3))))),?_⟩
 simp_all! []
 refine ⟨ks,p,S,t,fn,wn,i,w',n,rfl,h,hi,hT,hTg,hl,hn,?_⟩
 have f2:lB 2=jV 2:=rfl
 have f8:lB 8=jV 8:=rfl
 rcases hw with ⟨h0,hg,h6,rfl⟩ | ⟨h0,h4,rfl⟩
 ·rw [f2] at q
  exact .inl ⟨h0,hg,h6,2,by decide,rfl,hNq _ _ q⟩
 ·rw [f8] at q
  exact .inr ⟨h0,h4,8,by decide,rfl,hNq _ _ q⟩
abbrev B9:Stmt:=(top 51)
abbrev pJ:List Str:=["_law_script","_law_k"]
theorem KQ:av ["_law_script","_law_k"] ["_law_script","_law_k"] (aq B9):=dO
def Lh (ns:List Int) (k:Int):Int:=if k < (ns.length:Int) then ns.getD k.toNat 0 else 5 + 17 * k
def DF:cI:=λxs J Q _=>∃(ns:List Int) (k:Int),xs=[.fl (ns.map .int),.int k]∧0≤k∧k < 1000∧Q (.int (Lh ns k)) J
theorem GD (F:bZ K "_law_cell" "_law_cell" B9 f fd) (Z:bE mg):aK P w K mg base (cq P w) 1 f fd pJ (cP K DF):=by
 simp_arith [KQ,(ak (aY (aG lU (rv 1) (bG ft rfl Z.len boot_len (af (rv 0) ah))) (ar (aB (au aw (rv 0) (rv 1)))) aR)
   (ar (aB (aJ cU ai (aJ bB ai (rv 1))))))]
 ·obtain ⟨ns,k,rfl,_⟩:=h;rfl
 obtain ⟨ns,k,rfl,h0,h1,q⟩:=h
 unfold Lh at q
 refine hX ?_
 simp_arith! [cy,VM]
 split
 ·rename_i c
  rw [if_pos c] at q
  obtain ⟨j,rfl⟩:=Int.eq_ofNat_of_zero_le h0
  have hj:j < ns.length:=by omega
  refine gB (x:=.int ns[j]) (bM (by rw [VS,VN hj];rfl)) ?_
  simpa [List.getD,hj] using q
 ·rename_i c
  rw [if_neg c] at q
  exact ⟨.of (.small (x:=17) (by decide) (by decide)) (.small (x:=k) (by omega) (by omega)),q⟩
def Run:List PV→Rat × List Str × List Str→Rat × List Str × List Str→Prop
 | [],s,s'=>s=s'
 | dv :: dl,s,s'=>∃s1,Ct dv s.1 s.2.1 s.2.2 s1.1 s1.2.1 s1.2.2∧Pl dv∧Run dl s1 s'
theorem Run.snoc {dv:PV}:∀{dl:List PV} {s s' s'':Rat × List Str × List Str},Run dl s s'→Ct dv s'.1 s'.2.1 s'.2.2 s''.1 s''.2.1 s''.2.2→Pl dv→Run (dl ++ [dv]) s s''
 | [],_,_,_,h,g,p=>by cases h;exact ⟨_,g,p,rfl⟩
 | _ :: _,_,_,_,⟨s1,g1,p1,h⟩,g,p=>⟨s1,g1,p1,Run.snoc h g p⟩
theorem Km (n:Str) (x v:Int):Pl (iN n x v):=⟨by simp [iN,mV,eG,ie,mU,Dq],by simp [iN,dw,dR,dep,dN]⟩
theorem LN (m:Rat):Pl (F0 m):=⟨by simp [F0,mV,eG,ie,mU,qL],by simp [F0,fr,dw,dR,dep,dN]⟩
theorem z_ (n:Str) (gs:List Str):Pl (ff n gs):=⟨by
 simp only [ff,mV,eG,ie,mU,Xy,ZL]
 exact uw λx hx=>(yB gs x hx).1,by
 have:=xQ (k:=0) (xs:=gs.map .str) λx hx=>by obtain ⟨b,_,rfl⟩:=VQ.mp hx;simp [dw,dep]
 simp only [ff,dw,dR,dep,dN];omega⟩
theorem BV (n:Str):Pl (cZ n):=⟨by simp [cZ,mV,eG,ie,mU],by simp [cZ,dw,dR,dep,dN]⟩
theorem jE {n:Str} (hg:good n=true):n.length≤sizeLine:=by
 have h8:n.cps.size≤8:=by
  unfold good at hg
  rw [Wt,Wt] at hg
  exact of_decide_eq_true hg.1.2
 exact V6 h8 (by decide)
theorem Sx.new {X:Addr} {fn wn:List Str} (h:Sx cD cN cL cC ks J p S t fn wn i) (hX:J X=none):Sx cD cN cL cC ((X,o) :: ks) (put J X o) p S t fn wn i:=by
 obtain ⟨k,q,L,bs,ds,cw,h,r⟩:=h
 have h2:=h.sub (Sub.put hX (o:=o))
 refine ⟨k,q,L,bs,ds,cw,{ h2 with kp:=λx hx=>?_ },r⟩
 rcases V2.mp hx with rfl | hx
 ·exact ⟨aj,λz=>h.s.some z hX,λz=>h.d.some z hX⟩
 ·exact h2.kp x hx
theorem Ib {d o:Addr} {e:Nat} (h:cF cD cN cL cC J p k ⟨0,d,e,o,[],[]⟩ [] [] []) (s:Sub J J') (l:i5 J' S q [] 0 [] [] []) (n:∀a,q.own S a→J a=none) (hT:J T=some .tab) (hTg:J Tg=some .tab):Sx cD cN cL cC [(T,.tab),(Tg,.tab)] J' p S 0 [] [] 0:=by
 have nt:∀{T},J T=some .tab→¬ k.dD p ⟨0,d,e,o,[],[]⟩ [] T:=λ{T} hT ow=>by
  obtain ⟨ec,hc⟩:=h.cro
  rcases ow with ow | rfl | rfl | rfl | rfl | ⟨_,z,_⟩
  ·exact h.la.Tx hT ow
  ·rw [h.ob] at hT;cases hT
  ·rw [h.pas] at hT;cases hT
  ·rw [h.dee] at hT;cases hT
  ·rw [hc] at hT;cases hT
  ·cases z
 have ok0:eg ⟨0,d,e,o,[],[]⟩:=⟨⟨Yz,(by simp),(by simp),(by simp),(by simp),(by simp),aaa,VC _,(by show 0≤100;decide),(by intro n;simp [Ln.fs,Ln.E3]),Yz,(by show 0≤12;decide)⟩,rfl⟩
 refine ⟨k,q,_,[],[],[],⟨h.sub s,l,λa ow z=>h.some z (n a ow),λx hx=>?_,ok0,(λ_ z=>nomatch z),(λ_ z=>nomatch z),(λ_ z=>nomatch z),Ww _,Ww _,Ww _,Ww _,(λ_ z=>nomatch z)⟩,rfl,rfl,rfl⟩
 simp only [V2,WB,or_false] at hx
 rcases hx with rfl | rfl
 ·exact ⟨s _ _ hT,λz=>(by rw [n _ z] at hT;cases hT),nt hT⟩
 ·exact ⟨s _ _ hTg,λz=>(by rw [n _ z] at hTg;cases hTg),nt hTg⟩
theorem FU {l:List Str} {a:Str} (nd:l.Nodup) (h:a∈l):(l.filter λx=>decide (x≠a)).length + 1=l.length:=by
 induction l with
 | nil=>cases h
 | cons x l ih =>
  obtain ⟨n1,n2⟩:=W5.mp nd
  by_cases e:x=a
  ·subst e
   rw [Wu,if_neg (by simp),Wx.mpr λy hy=>decide_eq_true (p:=y≠x) λz=>n1 (by rw [← z];exact hy)];rfl
  ·rw [Wu,if_pos (decide_eq_true e),V_,V_,ih n2 ((V2.mp h).resolve_left (Ne.symm e))]
theorem Sx.kept {fn wn:List Str} (h:Sx cD cN cL cC ks J p S t fn wn i) {x:Addr × HQ} (hx:x∈ks):J x.1=some x.2:=by
 obtain ⟨k,q,L,bs,ds,cw,h,_⟩:=h
 exact (h.kp x hx).1
abbrev Dx:Stmt:=(top 68)
abbrev NO:List Str:=["_law_script"]
theorem fe:av ["_law_script","_law_head","_law_names_here","_law_marks","_law_desk","_law_state","_law_deeds","_law_k","_law_row","_law_deed","_law_mark","_law_what","_law_one"] ["_law_script"] (aq Dx):=dO
theorem JN (F:bZ K "law" "law" Dx f fd) (Z:bE mg) (sY:b7 P w K mg base 1 "_law_cell" pJ DF) (k4:b7 P w K mg base 1 "_law_digits" ia Cg) (Cr:b7 P w K mg base 2 "_law_names" nQ Az) (IM:b7 P w K mg base 1 "_law_fresh" nN DM) (Cq:b7 P w K mg base 11 "_law_act" rQ (Mc cD cN cL cC T Tg)) (xw:b7 P w K mg base 6 "_law_sits" pM (HZ cD cN cL cC)) (AS:b7 P w K mg base 12 "_law_said" pK (HY cD cN cL cC T Tg)) (xr:b7 P w K mg base 1 "_law_flags" nM Av) (A5:vB P w K mg base cD 3 "Desk" jH (DI cD cN cL cC)) :
  aK P w K mg base (cq P w) 13 f fd NO (cP K (Ci [Tg,T])):=by
 simp_arith [fe,(ak (aD (i:=1) fe.nd (aU k4 B hr (af (aU sY B hr (af (rv 0) (af ai ah))) (af (jM (yO [.int 6,.int 6,.int 5,.int 9,.int 7] rfl [.int 6,.int 6,.int 5,.int 9,.int 7] rfl)) ah))))
   (ak (aD (i:=2) fe.nd (aU Cr B hr (af (aU sY B hr (af (rv 0) (af ai ah))) (af (aJ cU ai (au aw (rv 1) ai)) ah))))
   (ak (aD (i:=3) fe.nd (aU Cr B hr (af (aU sY B hr (af (rv 0) (af ai ah))) (af ai ah))))
   (ak (aD (i:=4) fe.nd (pO A5 B hr))
   (ak (aD (i:=5) fe.nd (NY IM B hr))
   (ak (aD (i:=6) fe.nd (fb ah))
   (ak (cV bA rfl (jP rfl Z.range (af (bG ft rfl Z.len boot_len (af (rv 2) ah)) ah)) (bq (i:=7) fe.nd) (ak (aD (i:=8) fe.nd (aU k4 B hr (af (aU sY B hr (af (rv 0) (af (aJ cU ai (rv 7)) ah))) (af (jM (af ai (af ai ah))) ah))))
   (ar (aV (eV V3 Wb Wc cK (rv 6) (af (bP (af aS (af (au aw (rv 2) (rv 7)) (af (aJ g9 (au aw (rv 8) ai) ai) (af (aJ g9 (au aw (rv 8) ai) ai) ah))))) ah))))))
   (ak (cV bA rfl (jP rfl Z.range (af ai ah)) (bq (i:=7) fe.nd) (ak (aD (i:=8) fe.nd (aU k4 B hr (af (aU sY B hr (af (rv 0) (af (aJ cU ai (rv 7)) ah))) (af (jM (af ai (af ai ah))) ah))))
   (ak (aV (eV V3 Wb Wc cK (rv 6) (af (bP (af aS (af (au aw (rv 3) (rv 7)) (af (dq zC rfl Z.tuple boot_tuple (af (KI (rv 2) (f_ (au aw (rv 8) ai)) (f_ (aJ cU ai (au aw (rv 8) ai)))) ah)) ah)))) ah)))
   (ar (aY (aG (dh hr.aM) (rv 7) ai) (ar (aV (eV V3 Wb Wc cK (rv 6) (af (bP (af aS (af (bP (af (aJ cU ai (au aw (rv 1) ai)) (af ai ah))) ah))) ah)))) aR)))))
   (ak (cV bA rfl (dS (rv 6)) (bq (i:=9) fe.nd) (ar (aY (fC (cm (aU Cq B hr (af (rv 4) (af (rv 5) (af (rv 9) ah)))))) (ar (aB ig)) aR)))
   (ak (aD (i:=10) fe.nd (au aw (rv 3) (au aw (rv 1) ai)))
   (ak (aY (fC (cm (aU xw B hr (af (rv 4) (af (rv 5) ah))))) (ar (aB ig)) aR)
   (ak (aY (fj (nT (aG (g8 hr.aM) (aU AS B hr (af (rv 4) (af ai (af (au aw (rv 3) ai) ah)))) (aU xr B hr (af aS ah))) (jh (fC (cm (aU Cq B hr (af (rv 4) (af (rv 5) (af (bP (af aS (af (rv 10) ah))) ah))))))))) (ar (aB ig)) aR)
   (ak (cV bA rfl (E7 rfl Z.range (af ai (af ai ah))) (bq (i:=11) fe.nd) (ar (cV bA rfl (N1 (bP (af (rv 10) (af (au aw (rv 3) ai) ah)))) (bq (i:=12) fe.nd) (ar (aY (aG (g8 hr.aM) (aU AS B hr (af (rv 4) (af (rv 11) (af (rv 12) ah)))) (aU xr B hr (af aS ah))) (ar (aB ig)) aR)))))
   (ak (aY (fC (cm (aU xw B hr (af (rv 4) (af (rv 5) ah))))) (ar (aB ig)) aR)
   (ak (aY (fj (nT (fC (cm (aU Cq B hr (af (rv 4) (af (rv 5) (af (bP (af aS (af (bP (af (aJ cU ai (au aw (rv 1) ai)) (af ai ah))) ah))) ah)))))) (jh (fC (cm (aU xw B hr (af (rv 4) (af (rv 5) ah)))))))) (ar (aB ig)) aR)
   (ak (aY (fC (cm (aU Cq B hr (af (rv 4) (af (rv 5) (af (bP (af aS (af (rv 10) (af (dq zC rfl Z.tuple boot_tuple (af (ij H0 (rv 2) (f_ (aJ iQ (au aw (rv 1) ai) ai)) m3) ah)) ah)))) ah)))))) (ar (aB ig)) aR)
   (ar (aB (HA (fA (dh hr.aM) (aU AS B hr (af (rv 4) (af ai (af (au aw (rv 3) ai) ah)))) (aU xr B hr (af aS ah))) (B8 (aU xw B hr (af (rv 4) (af (rv 5) ah)))))))))))))))))))))))]
 ·obtain ⟨ns,rfl,_⟩:=h;rfl
 obtain ⟨ns,rfl,hl,hT,hJ,q⟩:=h
 have hTg:J Tg=some .tab:=hT Tg (by simp)
 have hT:J T=some .tab:=hT T (by simp)
 refine hX ?_
 simp_all! []
 refine ⟨ns,0,rfl,by decide,by decide,_,[6,6,5,9,7],rfl,pU (by decide),by decide,λds hD=>?_⟩
 obtain ⟨d0,ds,rfl,d00,d01,hD⟩:=hD.cons
 obtain ⟨d1,ds,rfl,d10,d11,hD⟩:=hD.cons
 obtain ⟨d2,ds,rfl,d20,d21,hD⟩:=hD.cons
 obtain ⟨d3,ds,rfl,d30,d31,hD⟩:=hD.cons
 obtain ⟨d4,ds,rfl,d40,d41,hD⟩:=hD.cons
 cases hD.nil
 simp_all! []
 refine ⟨ns,1,rfl,by decide,by decide,_,1 + d0,rfl,by omega,by omega,λnames nl nd ng=>?_⟩
 simp_all! []
 refine ⟨ns,2,rfl,by decide,by decide,_,8,rfl,by omega,by omega,λmarks ml md mg'=>?_⟩
 simp_all! []
 intro p hp
 refine ⟨p,rfl,aj,λJ1 k d e o b mv=>⟨rfl,hNq _ _ ?_⟩⟩
 clear hNq Nq
 have mvJ:=(Mv.BA (S:=λ_=>False) (o:=.ins cD []) hp).trans ⟨λa u h n=>mv.keep a u h λz=>n (.inr z),λa z=>(mv.own a z).imp .inr id,mv.mono⟩
 have hT1:J1 T=some .tab:=mvJ.keep _ _ hT λz=>z
 have hTg1:J1 Tg=some .tab:=mvJ.keep _ _ hTg λz=>z
 clear mv mvJ hT hTg hJ
 simp_all! []
 refine ⟨rfl,λJ2 S qs ls s2 new=>hNq _ _ ?_⟩
 clear hNq Nq
 have sx:=Ib b s2 ls new hT1 hTg1
 clear hT1 hTg1 new ls s2 b hp
 simp_all! []
 intro X hX
 refine hNq _ _ ?_
 clear hNq Nq
 simp_all! [VM]
 refine ⟨by omega,by omega,?_⟩
 obtain ⟨Inv,hInv⟩:∃Inv:Nat→Sr→Hq→Prop,∀i τ J',Inv i τ J'↔∃(dl:List PV) (u7 u8:Option PV),τ=[some (.fl (ns.map .int)),some (.fl [.int d0,.int d1,.int d2,.int d3,.int d4]),some (.fl (names.map .str)),some (.fl (marks.map .str)),some (.ref p),some (.ref S),some (.ref X),u7,u8,none,none,none,none]∧J'=put J2 X (.lst dl)∧dl.length=i∧Run dl (0,[],[]) (0,names.take i,[]):=⟨_,λ_ _ _=>Iff.rfl⟩
 refine oZ Inv ((hInv _ _ _).mpr ⟨[],_,_,rfl,rfl,rfl,rfl⟩) ?_ ?_
 ·intro i τ J' hi hv
  obtain ⟨dl,u7,u8,rfl,rfl,ll,run⟩:=(hInv _ _ _).mp hv
  clear hv
  have hi':i < names.length:=by omega
  have et:names.take (i + 1)=names.take i ++ [names[i]]:=by rw [V',VN hi'];rfl
  have hnot:names[i] ∉ names.take i:=λz=>by
   have h2:(names.take (i + 1)).Nodup:=nd.sublist (WU _ _)
   rw [et] at h2
   exact (e9 h2).2 z
  have gd:=ng _ (Wi hi')
  have ha:c_ (names.map PV.str) (0 + (i:Int))=some (.str names[i]):=by rw [XO];exact bM (by rw [VS,VN hi'];rfl)
  generalize names[i]=n at et hnot gd ha
  simp_all! []
  refine ⟨ns,3 + (0 + (i:Int)),rfl,by omega,by omega,_,[19,7],rfl,pU (by decide),by decide,λds' hG=>?_⟩
  obtain ⟨r0,ds',rfl,r00,r01,hG⟩:=hG.cons
  obtain ⟨r1,ds',rfl,r10,r11,hG⟩:=hG.cons
  cases hG.nil
  simp_all! [ha]
  refine ⟨ba (by omega),(hInv _ _ _).mpr ⟨dl ++ [iN n (r0 - 9) (r1 - 3)],_,_,rfl,bI,by rw [VZ];show dl.length + 1=_;omega,run.snoc (.inl ⟨n,_,_,rfl,gd,jE gd,⟨by omega,by omega⟩,hnot,?_,rfl,rfl,et,rfl⟩) (Km _ _ _)⟩⟩
  show (names.take i).length < 6
  rw [Wa];omega
 ·intro τ J' hv
  obtain ⟨dl0,u7,u8,rfl,rfl,ll0,run0⟩:=(hInv _ _ _).mp hv
  clear hv hInv Inv
  rw [show names.take (↑names.length:Int).toNat=names by simp] at run0
  refine hNq _ _ ?_
  clear hNq Nq
  simp_all! []
  have g1:gW ((1 + d2:Int):Rat).num (((1 + d2:Int):Rat).den)=true:=zH (by exact_mod_cast (show (0:Int)≤1 + d2 by omega)) (by rw [Yi];decide) (by rw [Rat.num_intCast,Yi];show 1 + d2≤1000000 * (1:Int);omega)
  obtain ⟨tk,htk⟩:∃tk:Nat→Rat,∀i,tk i=if 3≤i then ((1 + d2:Int):Rat) else 0:=⟨_,λ_=>rfl⟩
  obtain ⟨Inv,hInv⟩:∃Inv:Nat→Sr→Hq→Prop,∀i τ J',Inv i τ J'↔∃(dl:List PV) (u7 u8:Option PV),τ=[some (.fl (ns.map .int)),some (.fl [.int d0,.int d1,.int d2,.int d3,.int d4]),some (.fl (names.map .str)),some (.fl (marks.map .str)),some (.ref p),some (.ref S),some (.ref X),u7,u8,none,none,none,none]∧J'=put J2 X (.lst dl)∧dl.length=names.length + i + (if 3≤i then 1 else 0)∧Run dl (0,[],[]) (tk i,names,marks.take i):=⟨_,λ_ _ _=>Iff.rfl⟩
  refine ⟨by decide,by decide,oZ Inv ((hInv _ _ _).mpr ⟨dl0,_,_,rfl,rfl,by simpa using ll0,by rw [htk];exact run0⟩) ?_ ?_⟩
  ·intro i τ J' hi hv
   obtain ⟨dl,u7,u8,rfl,rfl,ll,run⟩:=(hInv _ _ _).mp hv
   clear hv
   have hi6:i < 6:=hi
   have hi':i < marks.length:=by omega
   have et:marks.take (i + 1)=marks.take i ++ [marks[i]]:=by rw [V',VN hi'];rfl
   have hnot:marks[i] ∉ marks.take i:=λz=>by
    have h2:(marks.take (i + 1)).Nodup:=md.sublist (WU _ _)
    rw [et] at h2
    exact (e9 h2).2 z
   have gd:=mg' _ (Wi hi')
   have ha:c_ (marks.map PV.str) (0 + (i:Int))=some (.str marks[i]):=by rw [XO];exact bM (by rw [VS,VN hi'];rfl)
   generalize marks[i]=n at et hnot gd ha
   simp_all! []
   refine ⟨ns,9 + (0 + (i:Int)),rfl,by omega,by omega,_,[7,3],rfl,pU (by decide),by decide,λds' hG=>?_⟩
   obtain ⟨r0,ds',rfl,r00,r01,hG⟩:=hG.cons
   obtain ⟨r1,ds',rfl,r10,r11,hG⟩:=hG.cons
   cases hG.nil
   simp_all! [ha,L_]
   refine ⟨λz=>by have:=Option.some.inj z;omega,λis _=>?_⟩
   have egs:is.filterMap (λx=>(names.map PV.str)[x]?)=(is.filterMap λx=>names[x]?).map PV.str:=by
    rw [List.map_filterMap];congr 1;funext x;rw [VS]
   rw [egs]
   have hgs:∀g∈is.filterMap (λx=>names[x]?),g∈names:=λg hg=>by
    obtain ⟨x,_,hx⟩:=Xt.mp hg
    exact V0 hx
   generalize is.filterMap (λx=>names[x]?)=gs at hgs ⊢
   refine ⟨_,_,rfl,rfl,?_⟩
   have ewv:PV.tup [.str "watch",.str n,.tup (gs.map .str)]=ff n gs:=rfl
   have ml6:(marks.take i).length < 6:=by rw [Wa];omega
   have run1:=run.snoc (s'':=(tk i,names,marks.take (i + 1))) (.inr (.inr (.inl ⟨n,gs,rfl,gd,jE gd,hnot,hgs,ml6,rfl,rfl,et⟩))) (z_ _ _)
   simp_all! [bI,ewv]
   refine ⟨Wn (show _≤13 by split at ll <;> omega) (by decide),hNq _ _ ?_⟩
   clear hNq Nq
   simp_all! []
   by_cases h2:i=2
   ·subst h2
    rw [if_pos (by decide)]
    simp_all! [bI]
    have egv:PV.tup [.str "go",.tup [.int (1 + d2),.int 1]]=F0 ((1 + d2:Int):Rat):=rfl
    have t2:tk 2=0:=by rw [htk];rfl
    have t3:tk (2 + 1)=((1 + d2:Int):Rat):=by rw [htk];rfl
    refine ⟨Wn (show _≤14 by rw [VZ];show dl.length + 1≤14;simp at ll;omega) (by decide),(hInv _ _ _).mpr ⟨_,_,_,rfl,rfl,?_,by rw [egv];exact run1.snoc (.inr (.inl ⟨_,rfl,g1,by show tk 2≤_;rw [t2];exact_mod_cast (show (0:Int)≤1 + d2 by omega),t3,rfl,rfl⟩)) (LN _)⟩⟩
    rw [VZ,VZ]
    show dl.length + 1 + 1=_
    simp at ll ⊢
    omega
   ·rw [if_neg (by omega)]
    have ett:tk (i + 1)=tk i:=by
     rw [htk,htk]
     by_cases h3:3≤i
     ·rw [if_pos h3,if_pos (by omega)]
     ·rw [if_neg h3,if_neg (by omega)]
    refine (hInv _ _ _).mpr ⟨_,_,_,rfl,rfl,?_,by rw [ett];exact run1⟩
    rw [VZ]
    show dl.length + 1=_
    rw [ll]
    by_cases h3:3≤i
    ·rw [if_pos h3,if_pos (by omega)];omega
    ·rw [if_neg h3,if_neg (by omega)];omega
  ·intro τ J' hv
   obtain ⟨dl,u7,u8,rfl,rfl,ll,run⟩:=(hInv _ _ _).mp hv
   clear hv hInv Inv
   have t6:tk (YG 6)=((1 + d2:Int):Rat):=by rw [htk];rfl
   rw [t6] at run
   have ll:dl.length≤13:=by rw [ll];simp;omega
   clear t6 htk tk run0 ll0
   have sx:=sx.new (o:=.lst dl) hX
   generalize put J2 X (.lst dl)=J3 at sx ⊢
   refine hNq _ _ ?_
   clear hNq Nq
   simp_all! []
   simp_all! [sx.kept V9]
   obtain ⟨Inv,hInv⟩:∃Inv:Nat→Sr→Hq→Prop,∀i τ J',Inv i τ J'↔∃(s:Rat × List Str × List Str) (u9:Option PV),τ=[some (.fl (ns.map .int)),some (.fl [.int d0,.int d1,.int d2,.int d3,.int d4]),some (.fl (names.map .str)),some (.fl (marks.map .str)),some (.ref p),some (.ref S),some (.ref X),u7,u8,u9,none,none,none]∧Sx cD cN cL cC [(X,.lst dl),(T,.tab),(Tg,.tab)] J' p S s.1 s.2.1 s.2.2 i∧Run (dl.drop i) s (((1 + d2:Int):Rat),names,marks.take (YG 6)):=⟨_,λ_ _ _=>Iff.rfl⟩
   refine dW Inv ((hInv _ _ _).mpr ⟨_,_,rfl,sx,run⟩) (λ_ _ _ hv=>by obtain ⟨s,u9,_,sx,_⟩:=(hInv _ _ _).mp hv;exact sx.kept V9) (λj x τ J' hx hv=>?_) (λτ J' hv=>?_)
   ·obtain ⟨s,u9,rfl,sx,run⟩:=(hInv _ _ _).mp hv
    clear hv
    have hj:j < dl.length:=(VO.mp hx).1
    have ed:dl.drop j=x :: dl.drop (j + 1):=by rw [XG hj,(VO.mp hx).2]
    rw [ed] at run
    obtain ⟨s1,g,pl,run⟩:=run
    simp_all! []
    refine ⟨_,p,S,_,_,_,j,x,_,_,_,rfl,sx,by omega,pl,by simp,by simp,g,λJ4 sx4=>?_⟩
    simp_all! []
    exact (hInv _ _ _).mpr ⟨_,_,rfl,sx4,run⟩
   ·obtain ⟨s,u9,rfl,sx,run⟩:=(hInv _ _ _).mp hv
    clear hv hInv Inv
    rw [YN] at run
    cases run
    refine hNq _ _ ?_
    clear hNq Nq
    have ml6:(marks.take (YG 6)).length=6:=by rw [Wa];show min 6 _=6;omega
    have hm:∀i:Nat,i < 8→∃m,c_ (marks.map PV.str) (i:Int)=some (.str m)∧m∈marks∧(m∈marks.take (YG 6)↔i < 6):=λi h2=>by
     have hd:i < marks.length:=by omega
     refine ⟨marks[i],bM (by rw [VS,VN hd];rfl),Wi hd,λz=>?_,λz=>?_⟩
     ·obtain ⟨j,hj,e⟩:=YA.mp z
      have hj6:j < 6:=(Nat.lt_min.mp hj).1
      have:=(Xn md).mp e
      omega
     ·exact YA.mpr ⟨i,Nat.lt_min.mpr ⟨z,hd⟩,rfl⟩
    obtain ⟨mk,hmk,mkm,hm6⟩:=hm d1.toNat (by omega)
    rw [XM d10] at hmk
    have hm6:=hm6.mpr (by omega)
    obtain ⟨m6,h6,k6,n6⟩:=hm 6 (by omega)
    obtain ⟨m7,h7,k7,n7⟩:=hm 7 (by omega)
    have n6:m6 ∉ _:=λz=>absurd (n6.mp z) (by decide)
    have n7:m7 ∉ _:=λz=>absurd (n7.mp z) (by decide)
    have h6:c_ (marks.map PV.str) 6=some (.str m6):=h6
    have h7:c_ (marks.map PV.str) 7=some (.str m7):=h7
    have wnd:(marks.take (YG 6)).Nodup:=md.sublist (WU _ _)
    generalize marks.take (YG 6)=wn at sx ml6 hm6 n6 n7 wnd
    simp_all! [hmk,h6,h7]
    refine ⟨_,p,S,_,_,_,_,rfl,sx,λJ4 sx=>?_⟩
    clear run
    generalize dl.length=i at sx ll
    have w2:AM 2="Full":=by decide +kernel
    have w8:AM 8="NoWatch":=by decide +kernel
    simp_all! [h6]
    refine ⟨_,p,S,_,_,_,_,0,m6,2,rfl,sx,by omega,by simp,by simp,jE (mg' _ k6),n6,.inl ⟨rfl,mg' _ k6,ml6,rfl⟩,?_⟩
    simp_all! []
    refine ⟨2,by rw [w2],(jz 2),(jz 2).1,?_⟩
    rw [eq_self]
    have euv:PV.tup [.str "unwatch",.str mk]=cZ mk:=rfl
    simp_all! [Xz,euv]
    refine ⟨_,p,S,_,_,_,_,_,_,_,_,rfl,sx,by omega,BV _,by simp,by simp,.inr (.inr (.inr ⟨mk,rfl,hm6,rfl,rfl,rfl⟩)),λJ5 sx=>?_⟩
    simp_all! []
    generalize hwn:wn.filter (λx=>decide (x≠mk))=wn2 at sx
    have sub:∀x,x ∉ wn→x ∉ wn2:=λx hx z=>hx (by rw [← hwn] at z;exact (V8.mp z).1)
    have nmk:mk ∉ wn2:=λz=>by rw [← hwn] at z;have:=(V8.mp z).2;simp at this
    refine ⟨by decide,by decide,by decide,by decide,?_⟩
    obtain ⟨Inv,hInv⟩:∃Inv:Nat→Sr→Hq→Prop,∀i τ J',Inv i τ J'↔∃ua ub:Option PV,τ=[some (.fl (ns.map .int)),some (.fl [.int d0,.int d1,.int d2,.int d3,.int d4]),some (.fl (names.map .str)),some (.fl (marks.map .str)),some (.ref p),some (.ref S),some (.ref X),u7,u8,u9,some (.str mk),ua,ub]∧J'=J5:=⟨_,λ_ _ _=>Iff.rfl⟩
    refine oZ Inv ((hInv _ _ _).mpr ⟨_,_,rfl,rfl⟩) ?_ ?_
    ·intro j τ J' hj hv
     obtain ⟨ua,ub,rfl,rfl⟩:=(hInv _ _ _).mp hv
     clear hv
     have hj:j < 4:=hj
     simp_all! [h7]
     obtain ⟨W,hW⟩:∃W:Nat→Sr→Hq→Prop,∀l τ Ja,W l τ Ja↔∃ub:Option PV,τ=[some (.fl (ns.map .int)),some (.fl [.int d0,.int d1,.int d2,.int d3,.int d4]),some (.fl (names.map .str)),some (.fl (marks.map .str)),some (.ref p),some (.ref S),some (.ref X),u7,u8,u9,some (.str mk),some (.int (1 + (j:Int))),ub]∧Ja=J':=⟨_,λ_ _ _=>Iff.rfl⟩
     refine dW W ((hW _ _ _).mpr ⟨_,rfl,rfl⟩) (λ_ _ _ _=>trivial) (λl x τ Ja hx hv=>?_) (λτ Ja hv=>?_)
     ·obtain ⟨ub,rfl,rfl⟩:=(hW _ _ _).mp hv
      clear hv
      obtain ⟨n,rfl,gn,nn⟩:∃n,x=.str n∧n∈marks∧n ∉ wn2:=by
       have:=V0 hx
       simp only [V2,WB,or_false] at this
       rcases this with rfl | rfl
       ·exact ⟨_,rfl,mkm,nmk⟩
       ·exact ⟨_,rfl,k7,sub _ n7⟩
      simp_all! []
      refine ⟨_,p,S,_,_,_,_,_,n,8,rfl,sx,by omega,by simp,by simp,jE (mg' _ gn),nn,.inr ⟨by omega,by omega,rfl⟩,?_⟩
      simp_all! []
      refine ⟨8,by rw [w8],(jz 8),(jz 8).1,?_⟩
      rw [eq_self]
      simp_all! [Xz]
      exact (hW _ _ _).mpr ⟨_,rfl,rfl⟩
     ·obtain ⟨ub,rfl,rfl⟩:=(hW _ _ _).mp hv
      exact (hInv _ _ _).mpr ⟨_,_,rfl,rfl⟩
    ·intro τ J' hv
     obtain ⟨ua,ub,rfl,rfl⟩:=(hInv _ _ _).mp hv
     clear hv hInv Inv
     refine hNq _ _ ?_
     clear hNq Nq
     simp_all! []
     refine ⟨_,p,S,_,_,_,_,rfl,sx,λJ6 sx=>?_⟩
     have egv:PV.tup [.str "go",.tup [.int (7 + d3),.int 1]]=F0 ((7 + d3:Int):Rat):=rfl
     have g2:gW ((7 + d3:Int):Rat).num (((7 + d3:Int):Rat).den)=true:=zH (by exact_mod_cast (show (0:Int)≤7 + d3 by omega)) (by rw [Yi];decide) (by rw [Rat.num_intCast,Yi];show 7 + d3≤1000000 * (1:Int);omega)
     simp_all! [egv]
     refine ⟨_,p,S,_,_,_,_,_,_,_,_,rfl,sx,by omega,LN _,by simp,by simp,.inr (.inl ⟨_,rfl,g2,WQ.mpr (by omega),rfl,rfl,rfl⟩),λJ7 sx=>?_⟩
     simp_all! []
     refine ⟨_,p,S,_,_,_,_,rfl,sx,λJ8 sx=>?_⟩
     simp_all! [hmk]
     obtain ⟨gs,egs,hgs⟩:∃gs:List Str,ly (names.map PV.str) (some (d4.fdiv 2)) none=gs.map .str∧∀g∈gs,g∈names:=by
      unfold ly
      exact ⟨(names.drop _).take _,by rw [W4,XX],λg hg=>Zk (W2 hg)⟩
     rw [egs]
     have l1:wn2.length + 1=6:=by rw [← hwn,FU wnd hm6,ml6]
     have l2:wn2.length < 6:=by omega
     have l3:(wn2 ++ [mk]).length=6:=by rw [VZ];exact l1
     have n2:m6 ∉ wn2 ++ [mk]:=λz=>by
      rcases VY.mp z with z | z
      ·exact sub _ n6 z
      ·rw [VV] at z;rw [z] at n6;exact n6 hm6
     have ewv:PV.tup [.str "watch",.str mk,.tup (gs.map .str)]=ff mk gs:=rfl
     refine ⟨⟨by decide,(Bd.small (x:=2) (by decide) (by decide)).mono (by decide)⟩,_,_,rfl,rfl,?_⟩
     simp_all! [ewv]
     refine ⟨_,p,S,_,_,_,_,_,_,_,_,rfl,sx,by omega,z_ _ _,by simp,by simp,.inr (.inr (.inl ⟨mk,gs,rfl,mg' _ mkm,jE (mg' _ mkm),nmk,hgs,l2,rfl,rfl,rfl⟩)),λJ9 sx=>?_⟩
     simp_all! [h6]
     refine ⟨_,p,S,_,_,_,_,0,m6,2,rfl,sx,by omega,by simp,by simp,jE (mg' _ k6),n2,.inl ⟨rfl,mg' _ k6,l3,rfl⟩,?_⟩
     simp_all! []
     refine ⟨2,by rw [w2],(jz 2),(jz 2).1,?_⟩
     rw [eq_self]
     simp_all! []
     refine ⟨_,p,S,_,_,_,_,rfl,sx,λJ10 sx=>?_⟩
     have hT:=sx.kept (x:=(T,.tab)) (by simp)
     have hTg:=sx.kept (x:=(Tg,.tab)) (by simp)
     refine q J10 (λT' hT'=>?_)
     simp only [V2,WB,or_false] at hT'
     rcases hT' with rfl | rfl
     ·exact hTg
     ·exact hT
theorem MB (Z:bE mg) {W:Addr} {c:Nat→Addr} (Er:D7 K mg W c) (N:qj K mg) (Rv:mg "reversed"=none) {kG:Tok} (gU:mg "FARTHEST"=some (.int 1000000 kG)) {m9:Tok} (jB:mg "FASTEST"=some (.int 1000 m9)) {pX:Tok} (lF:mg "FINEST"=some (.int 60 pX)) {pY:Tok} (lG:mg "LATEST"=some (.int 1000000 pY)) {m_:Tok} (jC:mg "LONGEST"=some (.int 8 m_)) {zh:Tok} (tP:mg "MOST"=some (.int 12 zh)) {mB:Tok} (dX:mg "MOST_WATCHES"=some (.int 6 mB)) {sV:Tok} (o4:mg "SIGNS"=some (.str "abcdefghijklmnopqrstuvwxyz0123456789" sV)) {gI:Addr} (X_Log:∃C,cR K mg "Log" C∧ay K C "rows"∧ay K C "gone"∧cQ K C "__init__" "Log.__init__" iw∧cQ K C "twin" "Log.twin" oA∧cQ K C "there" "Log.there" mn∧cQ K C "leg_at" "Log.leg_at" kE) (X_Lane:∃C,cR K mg "Lane" C∧ay K C "now"∧ay K C "logs"∧ay K C "row"∧cQ K C "__init__" "Lane.__init__" gF∧cQ K C "twin" "Lane.twin" iV∧cQ K C "must_be_there" "Lane.must_be_there" d9∧cQ K C "leg_of" "Lane.leg_of" jl∧cQ K C "settle" "Lane.settle" gf∧cQ K C "join" "Lane.join" mi∧cQ K C "clock" "Lane.clock" ku∧cQ K C "order" "Lane.order" kD∧cQ K C "order_at" "Lane.order_at" eZ∧cQ K C "meets" "Lane.meets" kC∧cQ K C "foretold" "Lane.foretold" gG∧cQ K C "go_to" "Lane.go_to" kA∧cQ K C "turn" "Lane.turn" mj∧cQ K C "leave" "Lane.leave" kB∧cQ K C "about" "Lane.about" kr) (X_Bells:∃C,cR K mg "Bells" C∧ay K C "rows"∧cQ K C "__init__" "Bells.__init__" fR∧cQ K C "drop" "Bells.drop" gO∧cQ K C "put" "Bells.put" ma∧cQ K C "told" "Bells.told" kj) (X_Crown:∃C,cR K mg "Crown" C∧ay K C "group"∧ay K C "rows"∧cQ K C "foremost" "Crown.foremost" fT∧cQ K C "__init__" "Crown.__init__" fS∧cQ K C "note" "Crown.note" km∧cQ K C "leader" "Crown.leader" ip∧cQ K C "story" "Crown.story" ji∧cQ K C "who" "Crown.who" me) (X_Desk:∃C,cR K mg "Desk" C∧ay K C "water"∧ay K C "passings"∧ay K C "deeds"∧ay K C "crowns"∧cQ K C "__init__" "Desk.__init__" gD∧cQ K C "crown_of" "Desk.crown_of" gE∧wx K C "watch" "Desk.watch" kq gI∧cQ K C "unwatch" "Desk.unwatch" iu∧cQ K C "note_all" "Desk.note_all" eY∧cQ K C "carry_out" "Desk.carry_out" fU∧cQ K C "do" "Desk.do" qO∧cQ K C "lane" "Desk.lane" mh∧cQ K C "book" "Desk.book" mf∧cQ K C "journal" "Desk.journal" iq∧cQ K C "leader" "Desk.leader" jj∧cQ K C "story" "Desk.story" ko∧cQ K C "led_by" "Desk.led_by" jk) (Mp:Def K mg "_law_cell" B9) (Fv:Def K mg "shared" uC) (AV:Def K mg "fraction" oC) (O1:Def K mg "_law_low" HM) (Mq:Def K mg "less" B_) (Mr:Def K mg "plus" B') (IU:Def K mg "minus" yS) (IY:Def K mg "times" yU) (Fu:Def K mg "_law_digits" uB) {lp:Addr} (iI:AY K mg "good_name" iW lp) (IV:Def K mg "_law_names" pP) (AX:Def K mg "place_on" oF) (D4:Def K mg "last_by" qP) (vc:Def K mg "lies_behind" jq) (AW:Def K mg "in_order" oE) (vd:Def K mg "rings_ahead" jt) (D5:Def K mg "meeting" qQ) (oN:Def K mg "in_lowest_terms" fE) (vb:Def K mg "good_moment" jm) (SJ:Def K mg "_law_at" N8) (Ft:Def K mg "_law_before" uA) (IX:Def K mg "_law_order" sS) (OZ:Def K mg "_law_due" HL) (AU:Def K mg "_law_foremost" oB) (IW:Def K mg "_law_noted" yT) (D6:Def K mg "_law_watched" qR) (IT:Def K mg "_law_fresh" s_fresh) (OX:Def K mg "_law_act" HJ) (Mt:Def K mg "_law_sits" Cb) (IS:Def K mg "_law_flags" sQ) (OY:Def K mg "_law_ask" HK) (Ms:Def K mg "_law_said" Ca) (F:bZ K "law" "law" Dx f fd) (base:Heap) (Bm:BMain mg base) :
  (∀T∈[lp,gI],xJ K T)∧aK P w K mg base (cq P w) 13 f fd ["_law_script"] (cP K (Ci [lp,gI])):=by
 obtain ⟨tH,cG,bC,cf,rZ,zp,xF,vA⟩:=X_Log
 obtain ⟨A_,az,aE,aW,aO,qd,xE,kS,tw,tD,xC,vo,vw,qh,vt,qg,vp,xD,vq,vn⟩:=X_Lane
 obtain ⟨Sq,bR,bc,oQ,vh,xx,vi⟩:=X_Bells
 obtain ⟨oU,bx,dk,bh,oS,oR,vj,rW,tm,xy⟩:=X_Crown
 obtain ⟨SV,aA,aF,bD,b_,aT,p_,qa,nB,rY,qc,oT,A4,xB,xA,rX,tq,vm,tu⟩:=X_Desk
 refine ⟨Zm.mpr ⟨iI.tabs,Zm.mpr ⟨nB.tabs,λ_ h=>nomatch h⟩⟩,?_⟩
 have fg:=Er.own 5 (by decide)
 have gQ:=Er.own 0 (by decide)
 have qk:=Er.own 2 (by decide)
 have gR:=Er.own 3 (by decide)
 have ql:=Er.own 8 (by decide)
 have dz:=Er.own 7 (by decide)
 have A6:=Er.own 6 (by decide)
 have mH:=Er.own 1 (by decide)
 have tE:=Er.own 4 (by decide)
 have Mw:=Mp.eK (P:=P) (w:=w) (base:=base) (λ_ _ F=>GD F Z) λ_ _ _ _ _ _=>kI λ_ _=>rfl
 have zo:=Fv.eK (P:=P) (w:=w) (base:=base) (λ_ _ F=>BE F Z) λ_ _ _ _ _ _=>kI λ_ _=>rfl
 have jT:=AV.eK (λ_ _ F=>yn F Z fg zo) λ_ _ _ _ _ _=>kI λ_ _=>rfl
 have Ld:=O1.eK (P:=P) (w:=w) (base:=base) (λ_ _ F=>JO F Z) λ_ _ _ _ _ _=>kI λ_ _=>rfl
 have k_:=Mq.eK (P:=P) (w:=w) (base:=base) (λ_ _ F=>GF F Z) λ_ _ _ _ _ _=>kI λ_ _=>rfl
 have Mx:=Mr.eK (λ_ _ F=>GG F Z jT) λ_ _ _ _ _ _=>kI λ_ _=>rfl
 have Cv:=IU.eK (λ_ _ F=>EL F Z jT) λ_ _ _ _ _ _=>kI λ_ _=>rfl
 have Je:=IY.eK (λ_ _ F=>ER F Z jT) λ_ _ _ _ _ _=>kI λ_ _=>rfl
 have zm:=Fu.eK (P:=P) (w:=w) (base:=base) (λ_ _ F=>BD F Z) λ_ _ _ _ _ _=>kI λ_ _=>rfl
 have rE:=iI.eK (P:=P) (w:=w) (base:=base) (λ_ _ _ F=>vY F Z Bm jC o4) λ_ _ _ _ _ _=>wA λ_=>rfl
 have Jc:=IV.eK (λ_ _ F=>EM F Z zm) λ_ _ _ _ _ _=>kI λ_ _=>rfl
 have tj:=AX.eK (λ_ _ F=>yp F Z Mx Cv Je) λ_ _ _ _ _ _=>kI λ_ _=>rfl
 have D9:=D4.eK (λ_ _ F=>zY F Z k_) λ_ _ _ _ _ _=>kI λ_ _=>rfl
 have vf:=vc.eK (λ_ _ F=>su F Z tj k_) λ_ _ _ _ _ _=>UX λ_ _ _ _ _=>rfl
 have s_:=AW.eK (λ_ _ F=>yo F Z vf) λ_ _ _ _ _ _=>kI λ_ _=>rfl
 have wy:=rZ.Qe (P:=P) (w:=w) (base:=base) cG (λ_ _ F=>zW F cG bC cf) λ_ _ _ _ _ _=>O8 λ_ _ _ _=>rfl
 have oq:=zp.kL (mg:=mg) cG.cl (λ_ _ F=>zX F Z cG bC cf wy) λ_ _ _ _ _ _=>wA λ_=>rfl
 have fi:=xF.kL (mg:=mg) cG.cl (λ_ _ F=>yj F Z cG bC cf k_) λ_ _ _ _ _ _=>kI λ_ _=>rfl
 have eA:=vA.kL (mg:=mg) cG.cl (λ_ _ F=>vX F Z cG bC dz fi D9) λ_ _ _ _ _ _=>kI λ_ _=>rfl
 have qi:=qd.Qe (P:=P) (w:=w) (base:=base) az (λ_ _ F=>yf F (cL:=tH) N az aE aW aO) λ_ _ _ _ _ _=>wA λ_=>rfl
 have lS:=xE.kL (mg:=mg) az.cl (λ_ _ F=>yi F Z az aE aW aO qi oq) λ_ _ _ _ _ _=>wA λ_=>rfl
 have dY:=kS.kL (P:=P) (w:=w) (base:=base) (mg:=mg) az.cl (λ_ _ F=>kW F Z (cL:=tH) az aO gR) λ_ _ _ _ _ _=>kI λ_ _=>rfl
 have df:=tw.kL (mg:=mg) az.cl (λ_ _ F=>ud F Z az aW aE dY eA) λ_ _ _ _ _ _=>kI λ_ _=>rfl
 have dJ:=tD.kL (mg:=mg) az.cl (λ_ _ F=>ue F Z az aO aE df s_) λ_ _ _ _ _ _=>wA λ_=>rfl
 have lQ:=xC.kL (mg:=mg) az.cl (λ_ _ F=>yg F Z az aO aE aW gU jB tP gQ tE mH qk rE wy dJ) λ_ _ _ _ _ _=>O8 λ_ _ _ _=>rfl
 have bN:=vo.kL (P:=P) (w:=w) (base:=base) (mg:=mg) az.cl (λ_ _ F=>vS F Z (cL:=tH) az aE) λ_ _ _ _ _ _=>wA λ_=>rfl
 have cH:=vw.kL (P:=P) (w:=w) (base:=base) (mg:=mg) az.cl (λ_ _ F=>vW F Z (cL:=tH) az aO) λ_ _ _ _ _ _=>wA λ_=>rfl
 have gA:=qh.kL (mg:=mg) az.cl (λ_ _ F=>qD F Z N az aE aW dz fi eA k_ s_) λ_ _ _ _ _ _=>kI λ_ _=>rfl
 have vg:=vd.eK (λ_ _ F=>sy F Z k_) λ_ _ _ _ _ _=>kI λ_ _=>rfl
 have xG:=oQ.Qe (P:=P) (w:=w) (base:=base) bR (λ_ _ F=>vK F bR bc) λ_ _ _ _ _ _=>wA λ_=>rfl
 have jZ:=vh.kL (P:=P) (w:=w) (base:=base) (mg:=mg) bR.cl (λ_ _ F=>vJ F Z bR bc) λ_ _ _ _ _ _=>Fm λ_ _ _=>rfl
 have lM:=xx.kL (mg:=mg) bR.cl (λ_ _ F=>ya F Z bR bc jZ vg) λ_ _ _ _ _ _=>O8 λ_ _ _ _=>rfl
 have j0:=vi.kL (P:=P) (w:=w) (base:=base) (mg:=mg) bR.cl (λ_ _ F=>vL F Z bR bc) λ_ _ _ _ _ _=>wA λ_=>rfl
 have D_:=D5.eK (λ_ _ F=>zZ F Z N tj Cv jT) λ_ _ _ _ _ _=>kI λ_ _=>rfl
 have j_:=vt.kL (mg:=mg) az.cl (λ_ _ F=>vV F Z az aE df D_ k_) λ_ _ _ _ _ _=>Fm λ_ _ _=>rfl
 have oP:=oN.eK (λ_ _ F=>nu F Z zo) λ_ _ _ _ _ _=>wA λ_=>rfl
 have ve:=vb.eK (λ_ _ F=>so F Z lF lG oP) λ_ _ _ _ _ _=>wA λ_=>rfl
 have gy:=qg.kL (mg:=mg) az.cl (λ_ _ F=>qC F Z az aE aO fg A6 ve k_ xG j_ lM j0) λ_ _ _ _ _ _=>kI λ_ _=>rfl
 have j8:=vp.kL (mg:=mg) az.cl (λ_ _ F=>vT F Z az aE gy dJ) λ_ _ _ _ _ _=>kI λ_ _=>rfl
 have lR:=xD.kL (P:=P) (w:=w) (base:=base) (mg:=mg) az.cl (λ_ _ F=>yh F) λ_ _ _ _ _ _=>Fm λ_ _ _=>rfl
 have j9:=vq.kL (P:=P) (w:=w) (base:=base) (mg:=mg) az.cl (λ_ _ F=>vU F) λ_ _ _ _ _ _=>kI λ_ _=>rfl
 have j7:=vn.kL (P:=P) (w:=w) (base:=base) (mg:=mg) az.cl (λ_ _ F=>vR F) λ_ _ _ _ _ _=>wA λ_=>rfl
 have cJ:=oS.kL (P:=P) (w:=w) (base:=base) (mg:=mg) bx.cl (λ_ _ F=>pj F Z Rv bx dk) λ_ _ _ _ _ _=>kI λ_ _=>rfl
 have xH:=oR.Qe bx (λ_ _ F=>vM F bx bh dk cJ) λ_ _ _ _ _ _=>O8 λ_ _ _ _=>rfl
 have j5:=vj.kL (mg:=mg) bx.cl (λ_ _ F=>vN F Z bx bh cJ) λ_ _ _ _ _ _=>Fm λ_ _ _=>rfl
 have gY:=rW.kL (P:=P) (w:=w) (base:=base) (mg:=mg) bx.cl (λ_ _ F=>si F Z bx bh) λ_ _ _ _ _ _=>wA λ_=>rfl
 have i8:=tm.kL (P:=P) (w:=w) (base:=base) (mg:=mg) bx.cl (λ_ _ F=>t9 F Z bx bh) λ_ _ _ _ _ _=>wA λ_=>rfl
 have lN:=xy.kL (P:=P) (w:=w) (base:=base) (mg:=mg) bx.cl (λ_ _ F=>yb F) λ_ _ _ _ _ _=>kI λ_ _=>rfl
 have A5:=p_.Qe aA (λ_ _ F=>yd F (cC:=oU) aA aF bD b_ aT qi) λ_ _ _ _ _ _=>wA λ_=>rfl
 have bt:=qa.kL (P:=P) (w:=w) (base:=base) (mg:=mg) aA.cl (λ_ _ F=>qA F Z (cN:=A_) (cL:=tH) (cC:=oU) aA aT ql) λ_ _ _ _ _ _=>kI λ_ _=>rfl
 have j6:=nB.kL (mg:=mg) aA.cl (λ_ _ _ F=>vQ F Z Bm dX aA aF aT gQ mH gR qk rE cH bN xH) λ_ _ _ _ _ _=>Fm λ_ _ _=>rfl
 have g6:=rY.kL (mg:=mg) aA.cl (λ_ _ F=>sk F Z aA aT bt) λ_ _ _ _ _ _=>kI λ_ _=>rfl
 have gx:=qc.kL (mg:=mg) aA.cl (λ_ _ F=>qB F Z aA aF aT gA bN cH j5) λ_ _ _ _ _ _=>kI λ_ _=>rfl
 have fM:=oT.kL (mg:=mg) aA.cl (λ_ _ F=>pq F Z aA aF j8 lQ j9 lR j7 j6 g6) λ_ _ _ _ _ _=>kI λ_ _=>rfl
 have fN:=A4.kL (mg:=mg) aA.cl (λ_ _ F=>BB F Z aA b_ bD fM gx) λ_ _ _ _ _ _=>kI λ_ _=>rfl
 have lP:=xB.kL (mg:=mg) aA.cl (λ_ _ F=>ye F Z (cC:=oU) aA aF lS) λ_ _ _ _ _ _=>wA λ_=>rfl
 have lO:=xA.kL (P:=P) (w:=w) (base:=base) (mg:=mg) aA.cl (λ_ _ F=>yc F Z (cN:=A_) (cL:=tH) (cC:=oU) aA bD) λ_ _ _ _ _ _=>wA λ_=>rfl
 have gZ:=rX.kL (P:=P) (w:=w) (base:=base) (mg:=mg) aA.cl (λ_ _ F=>sj F Z (cN:=A_) (cL:=tH) (cC:=oU) aA b_) λ_ _ _ _ _ _=>wA λ_=>rfl
 have dI:=tq.kL (mg:=mg) aA.cl (λ_ _ F=>t_ F Z aA bt gY) λ_ _ _ _ _ _=>kI λ_ _=>rfl
 have eu:=vm.kL (mg:=mg) aA.cl (λ_ _ F=>vO F Z aA bt i8) λ_ _ _ _ _ _=>kI λ_ _=>rfl
 have i9:=tu.kL (mg:=mg) aA.cl (λ_ _ F=>uc F Z aA aF dz k_ bt bN lN) λ_ _ _ _ _ _=>Fm λ_ _ _=>rfl
 have O5:=SJ.eK (λ_ _ F=>Np F Z Ld) λ_ _ _ _ _ _=>kI λ_ _=>rfl
 have zl:=Ft.eK (P:=P) (w:=w) (base:=base) (λ_ _ F=>BC F Z) λ_ _ _ _ _ _=>kI λ_ _=>rfl
 have Cy:=IX.eK (λ_ _ F=>EO F Z O5 zl) λ_ _ _ _ _ _=>kI λ_ _=>rfl
 have O6:=OZ.eK (λ_ _ F=>JM F Z O5 Ld zl) λ_ _ _ _ _ _=>Fm λ_ _ _=>rfl
 have A3:=AU.eK (P:=P) (w:=w) (base:=base) (λ_ _ F=>ym F Z) λ_ _ _ _ _ _=>kI λ_ _=>rfl
 have Jd:=IW.eK (P:=P) (w:=w) (base:=base) (λ_ _ F=>EN F Z) λ_ _ _ _ _ _=>Fm λ_ _ _=>rfl
 have D':=D6.eK (λ_ _ F=>z5 F Z Cy A3 Jd) λ_ _ _ _ _ _=>UX λ_ _ _ _ _=>rfl
 have Jb:=IT.eK (P:=P) (w:=w) (base:=base) (λ_ _ F=>EK F Z) λ_ _ _ _ _ _=>UW rfl
 have O3:=OX.eK (λ_ _ F=>JK F Z O6 D' fN) λ_ _ _ _ _ _=>Fm λ_ _ _=>rfl
 have Mz:=Mt.eK (λ_ _ F=>GI F Z Cy lP lO gZ eu dI bN cH) λ_ _ _ _ _ _=>kI λ_ _=>rfl
 have I_:=IS.eK (P:=P) (w:=w) (base:=base) (λ_ _ F=>EJ F Z) λ_ _ _ _ _ _=>wA λ_=>rfl
 have O4:=OY.eK (λ_ _ F=>JL F Z fN dI eu i9) λ_ _ _ _ _ _=>Fm λ_ _ _=>rfl
 have My:=Ms.eK (λ_ _ F=>GH F Z Er O4) λ_ _ _ _ _ _=>Fm λ_ _ _=>rfl
 exact JN F Z Mw zm Jc Jb O3 Mz My I_ A5
end
end L2
structure PySem.W.Fast:Prop where
 (tw18305324750794390093 tw2067245074469000870 tw5018876898029084131 tw2691103836164578184 tw927148315057160173 tw5546736025007486338 tw6078767900401050387 tw4671364820900805275 tw3358876555254204116 tw10188835232860357278 tw982540227650187969 tw17542495275142432282 tw124891670111014207 tw11731096025171208617 tw7944378362317100122 tw16778526768184683394 tw4521412038257017934 tw5605533328423094574 tw14143049960731130320 tw199719046977954863 tw12446417414425617208 tw1353186099624016381 tw11833832759157543507 tw17300181956317313407 tw16175570094738644967 tw5409374186899269013 tw11764751320248729709 tw11074598679043797234 tw14076633293610415966 tw17661464945641532586 tw13553109598885438610 tw13973349133485314868 tw5848502052184492072 tw6843090574630935418 tw17345089211247204238 tw9357724407922688722 tw6821919918051045855 tw1559814446262050077 tw6050221019220216531 tw5200340521358542552 tw9428966935582740060 tw8092091074047081534 tw5358826469783476763 tw5337875752351736 tw18376205409010363297 tw13826658412614618615 tw4746577607421845006 tw1928938007113028023 tw16053870472674263174 tw4829114362636437170 tw3115186146939314706 tw13977761020858247109 tw10797141717636804056 tw7823544273440940605 tw1758663443235152420 tw9102633493777864712 tw15167419193197504500 tw12490745945065101985 tw3049353051865086393 tw14709679205404484736 tw3651108762862243279 tw14319085709257438173 tw7700910367489288344 tw155863327793260128 tw4708394093585394429 tw3081266822569670559 tw17077685032201559723 tw15817326427150471808 tw9023659303432843488 tw1735263464581275184 tw8445268772800104952 tw4026770371554810755 tw8328139444457457019 tw8167776067155361997 tw16343805101813424297 tw7872363999364814348 tw911789986381131799 tw12988365841919495357 tw16535289623031382773 tw10559192461131527621 tw12527952648737660284 tw3915832538738257198 tw8345288376424704578 tw11335500034122550633 tw16230065632452621746 tw537175245034696662 tw9334673086221135539 tw5391664331977428028 tw1899284248310408351 tw7925400348949851277 tw17932004081820460681 tw16931769308292313253 tw5744141986425561702 tw16573610714964955882 tw7783864684298507574 tw2793711612691582969 tw8416551801136704215 tw5458423830354678898 tw17158794510806336682 tw9449195568704918848 tw10095057336188551457 tw14427491721518880247 tw18406585389029183546 tw9935631974534293931 tw7464902016328081220 tw4625150407867768767 tw15609695274632461038 tw9545064042615783361 tw18385276365191368250 tw9752989474839587547 tw14233565402127116587 tw3499366875057361094 tw17056842039862577417 tw9353786807749231056 tw1594462739267878537 tw7036652641138361635 tw5852566719939089033 tw14109100221859486959 tw3286535716603830674 tw2760937985696608355 tw16429604458849414068 tw5732514161507448978 tw2982853704234759588 tw1707855446889131692 tw13982260132389795721 tw12777567821995779171 tw6832632398661354720 tw5139622321390211286 tw16495979237405627144 tw10999500803394420017 tw650202949589111968 tw11273321410686320693 tw17556635682215997148 tw9824081268935179869 tw18275345332229979231 tw1642935307031087086 tw12454131975278990763 tw9259543284433113075 tw2717538088938765235 tw936462900865768525 tw15803746008631414678 tw8628806303713698583 tw2598279263127038947 tw762465730157776323 tw6624822505491395583 tw14127624349331244224 tw7057810852513489796 tw6567986876457473604 tw1763711693660902479 tw2650510748895672853 tw10951667435961469535 tw12459699785039511021 tw9245402818038088374 tw3674090133628239887 tw17515863336032164989 tw6139298425638483539 tw13786616518564870988 tw13801485202840409330 tw16739763982138905907 tw11559579075240502442 tw9081074499662548526 tw18294379614198406777 tw8891905441299116878 tw10343747790237419826 tw7638858475585238731 tw13651031133088945067 tw8653465125675488431 tw3317457037451353123 tw9803405480738123413 tw1662781783575234398 tw1499717753362934286 tw16082122243846052785 tw12073854903527509183 tw2461005233282548710 tw7530342472216260669 tw10554827484857254591 tw7814161099371179943 tw17044457651186089261 tw1333956297867569263 tw9954875014120457220 tw5224112376044743233 tw13438344459103535900 tw584868880838912664 tw13804098371191485352 tw15187075337289675392 tw690117861112008785 tw17515665491220432706 tw2785179391811911502 tw2125809432916365788 tw3732764903152790227 tw17845687783193221375 tw15170501849635941815 tw3227908642925375791 tw10970336723466628391 tw7825290936071275200 tw14269584308691286161 tw10774795795547371820 tw611744274120297022 tw15748939166440798641 tw10817180395994195198 tw16470928969669267575 tw13438314549035784945 tw13685050875432244521 tw7985073622268404127 tw6844871816894335892 tw17124812740009215148 tw9008813849535182273 tw2652844410539525337 tw16145055198834872438 tw12171737396166378983 tw12160659023747877165 tw3941682602965829871 tw18342251143551354893 tw16213907090179895237 tw12703664620487953159 tw3385514619019090766 tw4249194115246897013 tw17406439858814415066 tw4681735141234861581 tw14139062947145248584 tw13113575683572512869 tw1981149737947018361 tw1039644615169554253 tw14381839284288639351 tw3215404591960447698 tw6626791078902605201 tw10781155614845591257 tw3059057971438721186 tw18063068087856108477 tw14372979796030469735 tw17341658551753177243 tw17036937352498461809 tw12997894177730806083 tw13662741735810289087 tw11778378524413112332 tw10946573720150425065 tw5320879232390493230 tw11101544418113658094 tw537434156230176214 tw16294282311669332174 tw9666897320509954199 tw4240564031179144707 tw5835800731671225905 tw5228415260908193262 tw14967847461020180649 tw11994622091331275699 tw16370517538762709345 tw15465249573579024387 tw4096954952696655889 tw2239093992790166866 tw15730429733518381590 tw6231472044291423649 tw3529954036687355464 tw1686158673310228526 tw8950821788219563523 tw11344584957596413895 tw12574421461746131921 tw4864762780920504245 tw2828477537232238433 tw9695404684635318198 tw2362400269998515630 tw15596699147852066302 tw14930826176757627747 tw12048964557607228815 tw16951928477311680699 tw13839153440094934291 tw584899097701994136 tw17179953770171977178 tw6367714722714034684 tw18238280313229768692 tw4196280212733984186 tw18010266782618696554 tw16626801759686064754 tw15821844323830918411 tw1017989594058699416 tw5301994177094471478 tw15427016989359978789 tw10293224970708278209 tw2019738454452089475 tw385916831533543591 tw1437827812156671215 tw14974325697365710021 tw12218149009408255226 tw17882372265576626212 tw1740709886012541694 tw11572548457185293584 tw4057384805416345246 tw1670977800130021709 tw4622731681193181040 tw17338631904087579050 tw15639585642573331694 tw2155036507880723587 tw115289989888218414 tw7403460099655531523 tw4293886883784761864 tw3460856970656343613 tw17151502719283544156 tw15966160224104401973 tw12010839010032296784 tw11751930254250544375 tw1045006306264343479 tw5858914128642988307 tw17375963826202202206 tw6438459694630428999 tw12828859426292161430 tw11729379004226815346 tw10920726989259600296 tw11780259949351320169 tw7462020401106219714 tw2882024830562621855 tw10069862846608752024 tw341082887102415441 tw6321167569147134793 tw13775630249694137483 tw9671641774359096526 tw16575666193829668740 tw1513976211912108314 tw694767873844898934 tw3498983697010722753 tw12293821137889395872 tw12122494677135636106 tw11349389430039327421 tw15032817022601972893 tw16365224368240910238 tw15737563074342639064 tw4187747370476795576 tw973414058624636528 tw7952257368161895800 tw7186803220146203531 tw6247180941090917686 tw3924643772328516408 tw2358154912787240282 tw1503084164049264555 tw13586052863366951654 tw13384105046675049530 tw17600391591375611917 tw16676770124767759778 tw4429682881488254153 tw14866655836218541180 tw2950992368509155400 tw15360301531936183995 tw8664626691967550326 tw1493271590402375381 tw2951182107277533415 tw18032775237880106509 tw13576645213823508683 tw15292997302608278568 tw16335012324555211157 tw18062090895586937486 tw5725822905231433633 tw11532469513317161175 tw16256297775470218817 tw14990883077653757956 tw8815433768639577808 tw10852015659399154037 tw623364714242834415 tw1413092719636156254 tw12827229923424652596 tw405767618737149039 tw5393007196119054000 tw11646034196062411304 tw12266250007163566479 tw5715559351690528196 tw12202387855508135613 tw3041013722139709342 tw13587771931132208322 tw11346708340584307446 tw16004694670036110800 tw17763935084656872038 tw16308444830587901986 tw13304752974367974416 tw1863493507130142266 tw7155287289735300910 tw3787413275342222929 tw189082406994430712 tw14205927772979392128 tw8671301504546386279 tw6481557993702166019 tw7404830777788409399 tw6784197615492520803 tw6715619180985569543 tw8758508410459222046 tw5323027007125348050 tw4695682133718499031 tw17938205390772921846 tw14299380532745563489 tw14138948311854158961 tw12083727337118097677 tw8329286697965862220 tw17884970078465903803 tw11221497676241158742 tw10279761943714708414 tw3012339366190305305 tw11149581072623035684 tw9089346134595760021 tw8312897800359158315 tw6592155402847975982 tw5754112789614411314 tw2979555922102514832 tw13695070394285106119 tw12573750904827939903 tw10731186888798743630 tw7242606955623947137 tw6907127094882006800 tw6767431439687927776 tw6431114939975077910 tw6421310102821390000 tw5819291378030052874 tw2871779269887192451 tw1679314714817688847 tw16772719016576777975 tw15674133412408066019 tw15174327348362721129 tw11524363844329540878 tw9444535388109278374 tw8963496145560456538 tw8835150187002807184 tw9248737607845714409 tw7471450464346944582 tw4290147041573757519 tw1896737698772893540 tw1841941241237823094 tw18383405949590274821 tw17960593343439749816 tw16496664214058337742 tw13713582908495869625 tw10170304449164970275 tw9339672443685683204 tw6391846452761118237 tw5252725923051004325 tw16218933339174852539 tw14977794340100428264 tw14451986382193382105 tw14187478592220351401 tw1395190439100831358 tw10161292672803000143 tw5453850773497724361 tw12818836058756908819 tw8376663329038646524 tw4471714399364695753 tw2835741554411043300 tw16183808333262858104 tw15150731609628748423 tw13525378151113902340 tw3902626653467037874 tw7580910110860812381 tw5284642265218588257 tw3230240508278798549 tw12198741417833819833 tw13776661772480284757 tw76683325157451848 tw567285254505713935 tw10614685633318460070 tw14904153371368719813 tw14351239768238392878 tw6488241011797827489 tw11143775605109074884 tw10089630271610124112 tw140334108285835249 tw15341014828716837479 tw14692217965497068403 tw8408491219876985162 tw14001794661575191983 tw4104255628501911104 tw10950699283891840359 tw15263785102067940863 tw3843985395725172731 tw15346784243908757377 tw4653687445761729705 tw9167174109006244893 tw16058792397172419500 tw18023845116006492943 tw14474173818304127275 tw6476218713125385376 tw9922600708925887446 tw3942698776163087379 tw17997229685067242844 tw9211590030834161597 tw16403194759196852282 tw14445531934378059302 tw11513872591511611796 tw953614149199916096 tw2883524816346773874 tw1480307940142595919 tw5246379290173798307 tw16212483417486647171 tw15653677433780156726 tw4366508145184070496 tw6972967778827671921 tw5902431652662643363 tw237647379636918718 tw14579385118366455356 tw1235374246971640083 tw13635749231421325294 tw1725811037514083068 tw7910293994987163310 tw12833325846800750113 tw6607571431500469105 tw14418506570201088811 tw10858129959314089803 tw8291170750851675609 tw6376378781537206325 tw2143908869824619441 tw13665680170687511708 tw4057149131750100606 tw18267260286305001889 tw4626745645164521001 tw17281006170760175994 tw409859884848402141 tw17859286315864257360 tw15004650777655249729 tw1840543904313632924 tw15961672618338714790 tw18395741152507283406 tw4603474108957816000 tw2464138579222269803 tw18061770285242504396 tw6985146384145002305 tw3833886693685374128 tw17479860535753493878 tw6057789736027211708 tw17091880721324192334 tw15385725867371702859 tw12286352194014456765 tw4886479627900379967 tw6079288822206211753 tw10759097189161152324 tw7535775154994943874 tw16978855675353207804 tw5675196364847958396 tw16435343703768328035 tw583895754244601242 tw18152556780131921190 tw4113824099689456246 tw13975657377837142609 tw16790816246884756774:True)
open PySem PySem.W PyProof.Rows
set_option hygiene false
local macro_rules | `(tactic| simp_arith)=>`(tactic| (dsimp only [L2.D8];refine' L2.MK KX G ?a ?l ?c ?k;(case a=>k_is);(case l=>k_is);(case c=>k_is);(case k=>k_is)))
local macro_rules | `(tactic| and_intros)=>`(tactic| ((all_goals (try first | k_is | (show PySem.W.findIn _ _ _=_;k_is)));(all_goals (try first | k_is | (show PySem.W.findIn _ _ _=_;k_is)))))
local macro_rules | `(tactic| o_head ($h:term $k:term $a:term $e:term))=>`(tactic| o_head (PySem.W.kmHook $k $a $e [435,735]))
set_option maxRecDepth 100000 in
set_option maxHeartbeats 0 in
theorem PySem.Challenge.cw_overhaul_k46_watches_full_and_anew_holds : PySem.Challenge.rw_overhaul_k46_watches_full_and_anew.Holds := by
 w_on;o_law;k_head;(case hw=>w_witness2)
 k_fill
 refine L2.Iy (l:=PySem.Challenge.rw_overhaul_k46_watches_full_and_anew) (n:=63) (k:=13) (x:="_law_script") (sp:=L2.HW) [435,735] rfl (by decide) rfl ⟨rfl,by decide,by decide⟩ (λw h Y=>⟨PySem.W.km_in_of Y,PySem.W.km_tabs_of Y⟩) ?F (λtabs K H a ns hl hT hS hA hK=>⟨a,ns,rfl,hS,hl,hT,hA,hK,λ_ e=>⟨rfl,e⟩⟩)
 case F =>
  intro w mg fa h KX G hmg
  have iI:L2.AY (L2.D8 KX) mg "good_name" L2.iW 435:=by
   dsimp only [L2.D8]
   refine' L2.FL KX G ?ga ?gl ?gc ?gk ?gt ?gp ?gb ?ge ?go
   (case ga=>k_is);(case gl=>k_is);(case gc=>k_is);(case gk=>k_is);(case gt=>k_is);(case gp=>rfl);(case gb=>kernel_rfl);(case ge=>decide);(case go=>kernel_rfl)
  have O0:L2.Def (L2.D8 KX) mg "law" L2.Dx:=by simp_arith
  have Z:L2.bE mg:=by
   refine' ⟨⟨?_,?_,?_,?_,?_,?_,?_,?_,?_,?_⟩,?_,?_,?_,?_,?_⟩ <;> (refine' Yr KX G ?z;(case z=>k_is))
  obtain ⟨W,c,Er⟩:∃W c,L2.D7 (L2.D8 KX) mg W c:=by
   dsimp only [L2.D8]
   refine' L2.Jp KX G ?v ?w ?a0 ?a1 ?a2 ?a3 ?a4 ?a5 ?a6 ?a7 ?a8 ?a9 ?b
   all_goals (try first | k_is | kernel_rfl)
  have N:L2.qj (L2.D8 KX) mg:=by
   dsimp only [L2.D8]
   refine' L2.EH KX G ?a ?l
   (case a=>k_is);(case l=>k_is)
  have Rv:mg "reversed"=none:=by
   refine' Yr KX G ?rv
   (case rv=>k_is)
  obtain ⟨kG,gU⟩:∃t,mg "FARTHEST"=some (.int 1000000 t):=by
   refine' L2.const_int KX G ?cz ?cw
   (case cz=>k_is);(case cw=>kernel_rfl)
  obtain ⟨m9,jB⟩:∃t,mg "FASTEST"=some (.int 1000 t):=by
   refine' L2.const_int KX G ?cz ?cw
   (case cz=>k_is);(case cw=>kernel_rfl)
  obtain ⟨pX,lF⟩:∃t,mg "FINEST"=some (.int 60 t):=by
   refine' L2.const_int KX G ?cz ?cw
   (case cz=>k_is);(case cw=>kernel_rfl)
  obtain ⟨pY,lG⟩:∃t,mg "LATEST"=some (.int 1000000 t):=by
   refine' L2.const_int KX G ?cz ?cw
   (case cz=>k_is);(case cw=>kernel_rfl)
  obtain ⟨m_,jC⟩:∃t,mg "LONGEST"=some (.int 8 t):=by
   refine' L2.const_int KX G ?cz ?cw
   (case cz=>k_is);(case cw=>kernel_rfl)
  obtain ⟨zh,tP⟩:∃t,mg "MOST"=some (.int 12 t):=by
   refine' L2.const_int KX G ?cz ?cw
   (case cz=>k_is);(case cw=>kernel_rfl)
  obtain ⟨mB,dX⟩:∃t,mg "MOST_WATCHES"=some (.int 6 t):=by
   refine' L2.const_int KX G ?cz ?cw
   (case cz=>k_is);(case cw=>kernel_rfl)
  obtain ⟨sV,o4⟩:∃t,mg "SIGNS"=some (.str "abcdefghijklmnopqrstuvwxyz0123456789" t):=by
   refine' L2.Ee KX G ?cz ?cw
   (case cz=>k_is);(case cw=>kernel_rfl)
  obtain ⟨fd,F,hb⟩:=L2.M9 O0 hmg (λ_ _ _ _ _ _ _=>rfl)
  refine ⟨fd,hb,λbase _ _ Bm=>(λh=>⟨h.1,L2.Es h.2⟩) (L2.MB Z Er N Rv gU jB lF lG jC tP dX o4 (by dsimp only [L2.D8];refine' ⟨_,L2.o7 KX G ?_ ?_ ?_ ?_ ?_ ?_ ?_,?_,?_,L2.aX ?_ ?_ ?_ ?_ ?_,L2.aX ?_ ?_ ?_ ?_ ?_,L2.aX ?_ ?_ ?_ ?_ ?_,L2.aX ?_ ?_ ?_ ?_ ?_⟩;and_intros) (by dsimp only [L2.D8];refine' ⟨_,L2.o7 KX G ?_ ?_ ?_ ?_ ?_ ?_ ?_,?_,?_,?_,L2.aX ?_ ?_ ?_ ?_ ?_,L2.aX ?_ ?_ ?_ ?_ ?_,L2.aX ?_ ?_ ?_ ?_ ?_,L2.aX ?_ ?_ ?_ ?_ ?_,L2.aX ?_ ?_ ?_ ?_ ?_,L2.aX ?_ ?_ ?_ ?_ ?_,L2.aX ?_ ?_ ?_ ?_ ?_,L2.aX ?_ ?_ ?_ ?_ ?_,L2.aX ?_ ?_ ?_ ?_ ?_,L2.aX ?_ ?_ ?_ ?_ ?_,L2.aX ?_ ?_ ?_ ?_ ?_,L2.aX ?_ ?_ ?_ ?_ ?_,L2.aX ?_ ?_ ?_ ?_ ?_,L2.aX ?_ ?_ ?_ ?_ ?_,L2.aX ?_ ?_ ?_ ?_ ?_⟩;and_intros) (by dsimp only [L2.D8];refine' ⟨_,L2.o7 KX G ?_ ?_ ?_ ?_ ?_ ?_ ?_,?_,L2.aX ?_ ?_ ?_ ?_ ?_,L2.aX ?_ ?_ ?_ ?_ ?_,L2.aX ?_ ?_ ?_ ?_ ?_,L2.aX ?_ ?_ ?_ ?_ ?_⟩;and_intros) (by dsimp only [L2.D8];refine' ⟨_,L2.o7 KX G ?_ ?_ ?_ ?_ ?_ ?_ ?_,?_,?_,L2.aX ?_ ?_ ?_ ?_ ?_,L2.aX ?_ ?_ ?_ ?_ ?_,L2.aX ?_ ?_ ?_ ?_ ?_,L2.aX ?_ ?_ ?_ ?_ ?_,L2.aX ?_ ?_ ?_ ?_ ?_,L2.aX ?_ ?_ ?_ ?_ ?_⟩;and_intros) (by dsimp only [L2.D8];refine' ⟨_,L2.o7 KX G ?_ ?_ ?_ ?_ ?_ ?_ ?_,?_,?_,?_,?_,L2.aX ?_ ?_ ?_ ?_ ?_,L2.aX ?_ ?_ ?_ ?_ ?_,L2.Gv ?_ ?_ ?_ ?_ ?_ ?_ ?p2 ?b2 ?e2 ?o2,L2.aX ?_ ?_ ?_ ?_ ?_,L2.aX ?_ ?_ ?_ ?_ ?_,L2.aX ?_ ?_ ?_ ?_ ?_,L2.aX ?_ ?_ ?_ ?_ ?_,L2.aX ?_ ?_ ?_ ?_ ?_,L2.aX ?_ ?_ ?_ ?_ ?_,L2.aX ?_ ?_ ?_ ?_ ?_,L2.aX ?_ ?_ ?_ ?_ ?_,L2.aX ?_ ?_ ?_ ?_ ?_,L2.aX ?_ ?_ ?_ ?_ ?_⟩;and_intros;(case p2=>rfl);(case b2=>kernel_rfl);(case e2=>decide);(case o2=>kernel_rfl)) ?_ ?_ ?_ ?_ ?_ ?_ ?_ ?_ ?_ iI ?_ ?_ ?_ ?_ ?_ ?_ ?_ ?_ ?_ ?_ ?_ ?_ ?_ ?_ ?_ ?_ ?_ ?_ ?_ ?_ ?_ ?_ (gI:=735) F base Bm)⟩ <;> simp_arith
