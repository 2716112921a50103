import PyProof.Rows.All
import Wide.All
import OpenK.AllK
import Wide.FinOn
import Lean
import PyProof.EqAt
import PyProof.EqKinds
import PyProof.TupleCall
import PySem.SetOps
import KE.KDictSum
import KE.KDictList
import PyProof.ZipIter
import KE.KFind
import PyProof.MaxThree
import PyProof.Rows.IntMath
import PyProof.EnumMake
import PyProof.Rows.EnumRows
import PyProof.DictWalks
import PyProof.Rows.SortRuns
import KE.KSortKey
import PySem.Challenge.RW_hookrail_k69_a_long_ring_is_a_rail
open Array renaming length_toList→zQ,getElem?_toList→za,getElem?_eq_getElem→z9,getElem?_eq_none→yh,toArray_toList→xU,size_push→wp,getElem?_push→ZG,forIn_toList→ZT,toList_push→Zc,toList→YD
open Bool renaming and_eq_true→z6,false_eq_true→yC,false_ne_true→yN,or_false→xv,and_false→wE,not_true→wQ,and_true→wR,eq_iff_iff→ww,and_eq_false_iff→wz,false_and→w8,and_eq_true_iff→ZB,not_false→ZE,false_or→ZO,true_or→Zg,true_and→YC
open Int renaming le_refl→z7,one_mul→yj,toNat_natCast→yu,le_of_lt→xG,mul_le_mul_of_nonneg_left→xM,mul_one→xQ,mul_add→xV,le_trans→xX,zero_add→xn,emod_eq_of_lt→wO,add_zero→wf,sub_self→wj,emod_nonneg→wx,toNat_of_nonneg→ZL,add_assoc→ZP,mul_zero→Zk,sub_zero→Zl,toNat→Zq,le_antisymm→Zt,reduceToNat→Zx,natCast_add→Zy,mul_nonneg→Z8
open List renaming length_map→zA,getElem?_eq_getElem→zC,mem_cons_self→zD,length_append→zE,mem_cons→zF,mem_cons_of_mem→zG,mem_append_left→zI,mem_append_right→zJ,mem_append→zK,length_cons→zL,mem_singleton→zM,size_toArray→zO,map_cons→zR,mem_map→zS,getElem?_set_ne→zU,pairwise_cons→zV,getElem?_append_right→zW,map_append→zX,getElem?_map→zY,getElem_mem→zZ,getElem?_append_left→zb,map_map→zc,length_singleton→zd,mem_map_of_mem→ze,not_mem_nil→zg,mem_iff_getElem→zi,sum_cons→zj,length_take→zn,mem_filter→zp,getD_eq_getElem?_getD→zq,getElem?_eq_none→zu,append_nil→zw,getElem?_eq_some_iff→zy,append_assoc→yB,filter_cons→yD,map_congr_left→yE,pairwise_iff_getElem→yF,length_filter_le→yG,length_range→yH,range→yI,mem_of_getElem?→yJ,length_drop→yK,mem_range→yM,filter_eq_self→yR,length_set→yS,length_zip→yT,nodup_append→yU,filter_cons_of_pos→yW,filter_cons_of_neg→yX,nil_append→yZ,getElem?_zip_eq_some→yc,nodup_cons→ye,map_nil→yf,getElem?_replicate→yg,filter_eq_nil_iff→yi,length_replicate→yk,mem_iff_getElem?→ym,lookup_cons→yn,all_eq_true→yo,getElem?_drop→yp,getElem?_take→yq,length→yr,eq_nil_of_length_eq_zero→yt,ext_getElem?→yv,getElem?_cons_succ→yw,filter_map→yy,getElem?_range→yz,getElem?_set_self→y0,perm_ext_iff_of_nodup→y9,take_append_drop→xA,sum_append→xB,flatten_cons→xH,filterMap_cons→xI,length_reverse→xJ,getElem?_cons_zero→xK,map_singleton→xN,find?_cons→xO,all_cons→xP,pairwise_append→xS,mem_flatMap→xY,drop_eq_getElem_cons→xZ,getElem?_eq_none_iff→xa,length_pos_iff→xb,map_eq_nil_iff→xf,any_cons→xg,pairwise_lt_range→xj,nodup_nil→xk,filter_congr→xo,pairwise_map→xp,take_length→xr,map_fst_zip→xt,mem_flatten→xu,of_mem_zip→xw,length_nil→xz,zipWith→wA,replicate→wB,length_eraseIdx_of_lt→wG,filter_append→wH,sum_singleton→wJ,foldl_append→wM,take_append_getElem→wP,getElem_inj→wT,pairwise_singleton→wV,cons_append→wW,getLast_mem→wX,take_of_length_le→wZ,range_succ_eq_map→wc,all_map→wd,getLast_cons_cons→wk,forIn_cons→wq,dropLast_eq_take→wy,drop_zero→ZC,reverse_reverse→ZD,replicate_succ→ZH,replicate_zero→ZI,flatten_append→ZJ,flatMap_append→ZK,map_drop→ZN,mem_filterMap→ZQ,filterMap_map→ZR,set_cons_succ→ZV,set_cons_zero→ZW,take_sublist→ZZ,getElem_take→Za,take_add_one→Ze,set_set→Zf,map_id'→Zi,drop_length→Zp,map_id→Zr,take_left'→Zv,drop_left'→Zw,forIn_nil→Z3,take_take→Z4,drop_take→Z5,drop_drop→Z6,take_zero→Z7,map_take→YA
open List.Pairwise renaming nil→xi,sublist→xq,imp_of_mem→wS
open List.Perm renaming refl→xT,trans→Zs
open List.Sublist renaming refl→Zj
open List.cons renaming inj→YB
open Nat renaming le_refl→zN,ne_of_lt→zo,lt_of_lt_of_le→zt,lt_or_ge→zx,le_trans→yA,lt_succ_of_lt→yL,le_of_lt→yP,zero_le→yQ,lt_succ_self→ya,lt_irrefl→y8,le_succ→xF,ne_of_gt→xW,zero_add→xm,not_lt_zero→xx,lt_of_le_of_lt→wF,eq_or_lt_of_le→wI,le_succ_of_le→wL,lt_trichotomy→wN,add_sub_cancel_left→wU,sub_self→we,min_le_left→wu,eq_zero_or_pos→ZS,add_sub_cancel→ZU,lt_trans→Zb,min_le_right→Zn,min_eq_left→Zu,not_lt→Z2
open Option renaming bind_some→yb,isSome_iff_exists→yd,map_some→yx,map_eq_some_iff→xl,isSome_map→Zh,getD_none→Zo,none→YE
open Option.some renaming inj→z5
open PySem.Heap renaming get?_push_of_some→zH,lt_size→zP,get?_push_size→zT,get?_update_other→zk,size_push→yV,get?_update_self→yl,SameBut→xD,size_update→xL,get?_some_iff→xh
open PySem.Heap.IsSliceOf renaming new→YF
open PySem.Heap.SameBut renaming update→ZF,refl→Zd
open PySem.W renaming Frag→zB,mg_none_of→z8,nsIn→yO,kia_one→yY,fnOf→xE,keepIn→xR,codeIn→wC,methodObj→wK,cellsFrom_some→wY,instObj→wm,OpenLaw→wo,lookIn→w9,kitOne→ZA,mg_of→ZM,kitx_list→ZX,kitx_dict→ZY,plainGet→Zm,findIn→Zz,kIn_of→Z1,WalkO→Z9
open PyProof.Rows renaming arrOf→vS,wpS_bind→vk,seqObj→vp,IntsAre→v5,wpS_pure→v7,Keyed→ub,SortedTo→uc,SortSt→ug,wpS_forRange→uq,AllBare→ux,SBase→uy,listUpdate_at→u4,subscriptTail_builtinR→tD,envOfC→tI,K_mirror_equal→tL,wpS_reverse→tM,mirror_perm→tN,subscriptTail→tU,numOf→tV,args_tuple_getitem→tW,plain_sorted→tm,entry_sorted→tq,kind_sorted→t6,NonInc→sF,wpS_mono→sG
open PySem renaming wpAny_bind→vA,Value→vB,Addr→vC,Shared→vF,wpAny_pure→vG,FuncData→vK,starEach→vL,wpAny→vM,Program→vO,Expr→vP,mainGlobals→vQ,World→vU,bootBuiltins→vX,Around→vY,Heap→vZ,wpAny_holding→vc,wpAny_newObj_type→ve,wpAny_ite_split→vf,Stmt→vg,wpAny_mono→vh,wpAny_call_entry→vi,wpAny_setState_of→vm,backTo→vn,sizeLine_eq→vo,behindInMarks→vq,foldedSetIterable→vt,swapsWith→vv,keywordEach→vz,builtinLookup_eq_fast→v3,wpAny_setField_rec→v4,codeAny_builtin→v6,sysModules→v8,wpAny_Call_Name_kw→v9,compareOp→uA,wpAny_passesOwn→uB,wpAny_updateSeq→uC,wpAny_truthy_bool→uD,assignEach→uE,plainId_quiet→uF,pyNext→uG,wpAny_field→uH,rawInt→uI,wpAny_rule→uJ,binaryOp→uK,backToKw→uL,NameKind→uM,typeLookup_type→uN,wpAny_attempt→uO,codeAny→uP,codeAny_mono→uQ,scanBound→uR,wpAny_isInstance→uS,attributeBase→uT,sliceBounds→uU,wpAny_pyIter_list→uV,Keyword→uW,wpAny_typeOf→uX,wpAny_seqItems→uY,IsPair→uZ,wpAny_nextOf_list_item→ua,Scope→ud,cLine→ue,pickOrder→uf,ZipApart→uh,wpAny_execs_nil→ui,letOwnedTupleGo→uj,wpAny_specialOf→uk,intKind→ul,getItem→um,setNext→uo,isSubtype_type→ur,wpAny_fieldsOf→ut,firstArgMember→uu,isSubtype_stop→uv,tupleKind_room_in1→uw,wpAny_standAt→uz,wpAny_newList→u0,wpAny_comprehension_free→u3,wpAny_askSetting→u5,updateSeq→u6,wpAny_pyIter_zip→u7,IsPart→u8,typeLookup→u9,wpAny_isTrue_Compare1→tE,wpAny_nextOf_list_end→tF,wpAny_pyNext_zip_item→tG,wpAny_loadName_local→tH,wpAny_newTuple→tJ,wpAny_pyNext_zip_end→tK,tupleKind→tO,PassesOwn→tP,callerA→tQ,valueAt→tS,wpAny_loadName_cell→tT,call_meets→tX,GenState→tY,Operator→tZ,BindsTo→tf,slotArgs→tj,Paired→tt,Result→tu,CmpOp→t0,seqIndex_of→t4,wpAny_of_eq→t5,atKey→t7,hashInt→t8,standAt→t9,isTrue→sA,pyIter→sB,argsOk→sC,raiseNew→sD,numAt_eq→sE
noncomputable def vH:=@if_pos
noncomputable def vJ:=@if_neg
noncomputable def vN:=@absurd
noncomputable def vT:=@decide_eq_false
noncomputable def vW:=@decide_eq_true
noncomputable def vj:=@congrArg
local macro_rules|`(∅)=>`(by omega)
local macro_rules|`(⋯)=>`(by decide +kernel)
local macro_rules|`(↥$x)=>`(some (.sh $x))
local macro_rules|`(⇑$x)=>`(by simpa using $x)
local macro_rules|`(tactic|omega)=>`(tactic|lia)
set_option Elab.async false
set_option linter.all false
set_option maxRecDepth 100000
namespace L2
open PySem PySem.Spec PyProof.Rows
noncomputable abbrev Key:=Sum Int Str
noncomputable def Wa:Key->vB->Bool
 | .inl k,v=>Value.isInt k v
 | .inr x,v=>Value.isStrOf x v
noncomputable def keyH(w:vU):Key->Int
 | .inl k=>t8 k
 | .inr x=>hashStr w x
theorem qF:∀{k:Key}{v:vB},Wa k v=true->(∃i t,k=Sum.inl i/\v=Value.int i t)\/(∃x t,k=Sum.inr x/\v=Value.str x t)
 | .inl i,v,h=>by
  obtain⟨t,e⟩:=Value.isInt_shape (k:=i) (v:=v) h;exact .inl ⟨i,t,rfl,e⟩
 | .inr x,v,h=>by
  obtain⟨t,e⟩:=Value.isStrOf_shape (x:=x) (v:=v) h;exact .inr ⟨x,t,rfl,e⟩
theorem qea(i:Int)(t:Tok):Wa (.inl i) (.int i t)=true:=by simp[Wa,Value.isInt]
theorem qds(x:Str)(t:Tok):Wa (.inr x) (.str x t)=true:=by simp[Wa,Value.isStrOf]
theorem qiq(a b:Int):decide ((Sum.inl a:Key)=Sum.inl b)=(a==b):=by
 by_cases e:a=b
 ·subst e;simp
 ·have h:¬(Sum.inl a:Key)=Sum.inl b:=λq=>e (Sum.inl.inj q)
  rw[vT h];exact(beq_eq_false_iff_ne.mpr e).symm
theorem qiF(a b:Str):decide ((Sum.inr a:Key)=Sum.inr b)=decide (a=b):=by
 by_cases e:a=b
 ·subst e;simp
 ·have h:¬(Sum.inr a:Key)=Sum.inr b:=λq=>e (Sum.inr.inj q)
  rw[vT h,vT e]
theorem qi4(a:Int)(b:Str):decide ((Sum.inl a:Key)=Sum.inr b)=false:=vT (λq=>nomatch q)
theorem qiv(a:Str)(b:Int):decide ((Sum.inr a:Key)=Sum.inl b)=false:=vT (λq=>nomatch q)
noncomputable def Ye(prog:vO)(w:vU):PySem.KeyKind prog w Key where
 is:=Wa
 hash:=keyH w
 inj:=λv a b ha hb=>by
  rcases qF ha with⟨i,t,rfl,rfl⟩|⟨x,t,rfl,rfl⟩
  ·rcases qF hb with⟨j,u,rfl,e⟩|⟨y,u,rfl,e⟩
   ·injection e with e1 _;rw[e1]
   ·exact nomatch e
  ·rcases qF hb with⟨j,u,rfl,e⟩|⟨y,u,rfl,e⟩
   ·exact nomatch e
   ·injection e with e1 _;rw[e1]
 byValue:=λk v h=>by
  rcases qF h with⟨i,t,rfl,rfl⟩|⟨x,t,rfl,rfl⟩ <;> rfl
 pyHash:=λhv h=>by
  rcases qF hv with⟨i,t,rfl,rfl⟩|⟨x,t,rfl,rfl⟩
  ·exact wpAny_pyHash_int h
  ·exact wpAny_pyHash_str h
 eqBool:=λhu hv h=>by
  rcases qF hu with⟨i,t,rfl,rfl⟩|⟨x,t,rfl,rfl⟩
  ·rcases qF hv with⟨j,u,rfl,rfl⟩|⟨y,u,rfl,rfl⟩
   ·rw[qiq]at h;exact wpAny_eqBool_int h
   ·rw[qi4]at h;exact SeqAt.EqAt.int_str i t y u _ _ _ _ h
  ·rcases qF hv with⟨j,u,rfl,rfl⟩|⟨y,u,rfl,rfl⟩
   ·rw[qiv]at h;exact SeqAt.EqAt.str_int x t j u _ _ _ _ h
   ·rw[qiF]at h;exact wpAny_eqBool_str h
 «strs»:=λk x t v h=>by
  rcases qF h with⟨i,u,rfl,e⟩|⟨y,u,rfl,e⟩
  ·exact nomatch e
  ·injection e with e1 _
   subst e1;cases v <;> rfl
theorem qac(prog:vO)(w:vU)(i:Int)(t:Tok):(Ye prog w).is (.inl i) (.int i t)=true:=qea i t
theorem qat(prog:vO)(w:vU)(x:Str)(t:Tok):(Ye prog w).is (.inr x) (.str x t)=true:=qds x t
inductive V where
 | non|bl (b:Bool)|int (i:Int)|str (x:Str)|byt (b:Array UInt8)|flt (b:UInt64)|ref (a:vC)|ty (n:String)
 deriving DecidableEq
def RelV:V->vB->Prop
 | .non,u=>u=Value.none
 | .bl b,u=>u=Value.bool b
 | .int i,u=>∃t,u=Value.int i t
 | .str x,u=>∃t,u=Value.str x t
 | .byt b,u=>∃t,u=Value.bytes b t
 | .flt b,u=>∃t,u=Value.float b t
 | .ref a,u=>u=Value.ref a
 | .ty n,u=>u=Value.type n
abbrev Yf:List V->List vB->Prop:=tt RelV
theorem Yf.length{xs:List V}{us:List vB}(r:Yf xs us):xs.length=us.length:=Paired.length r
theorem Yf.get:∀{xs:List V}{us:List vB}{i:Nat}{x:V},Yf xs us->xs[i]?=some x->∃u,us[i]?=some u/\RelV x u
 | _,_,_,_,.nil,e=>by simp at e
 | _,_,0,_,.cons r _,e=>by simp at e;subst e;exact⟨_,rfl,r⟩
 | _,_,i+1,x,.cons _ t,e=>by
  obtain⟨u,h1,h2⟩:=Yf.get (i:=i) (x:=x) t ⇑e;exact⟨u,by simpa using h1,h2⟩
theorem Yf.set{x:V}{u:vB}(r:RelV x u):∀{xs:List V}{us:List vB}(i:Nat),Yf xs us->Yf (xs.set i x) (us.set i u)
 | _,_,_,.nil=>.nil
 | _,_,0,.cons _ t=>.cons r t
 | _,_,i+1,.cons q t=>.cons q (Yf.set r i t)
theorem Yf.append:∀{xs ys:List V}{us ws:List vB},Yf xs us->Yf ys ws->Yf (xs++ys) (us++ws)
 | _,_,_,_,.nil,s=>s
 | _,_,_,_,.cons r t,s=>.cons r (Yf.append t s)
theorem Yf.take:∀{xs:List V}{us:List vB}(n:Nat),Yf xs us->Yf (xs.take n) (us.take n)
 | _,_,0,_=>.nil
 | _,_,_+1,.nil=>.nil
 | _,_,n+1,.cons r t=>.cons r (Yf.take n t)
theorem Yf.drop:∀{xs:List V}{us:List vB}(n:Nat),Yf xs us->Yf (xs.drop n) (us.drop n)
 | _,_,0,r=>r
 | _,_,_+1,.nil=>.nil
 | _,_,n+1,.cons _ t=>Yf.drop n t
def zAB:Option V->Option vB->Prop
 | some v,some u=>RelV v u
 | none,none=>True
 | _,_=>False
def KV{κ:Type}:List (κ×V)->List (κ×vB)->Prop:=tt λ(p:κ×V) (q:κ×vB)=>p.1=q.1/\RelV p.2 q.2
noncomputable def kV:Key->V
 | .inl i=>.int i
 | .inr x=>.str x
inductive HO where
 
 | lst (xs:List V)
 
 | tup (xs:List V)
 
 | dK (kvs:List (Key×V))|dT (kvs:List (List Key×V))
 
 | set (S:Int->Bool) (n:Nat)
 
 | ins (C dx:vC) (fs:List (Str×V))
 
 | own (x:vC)
 
 | xd (fs:List (Str×V))
 
 | met (f x:vC)
 
 | rng (lo hi:Int)
 
 | frz (o:Obj) (u:HO)
 
 | tbl (ps:Array vB)
 
 | ext (φ:vZ->Prop)
noncomputable abbrev Hp:=vC->Option HO
noncomputable def upd(H:Hp)(a:vC)(o:HO):Hp:=λb=>if b=a then some o else H b
theorem qg{H:Hp}{a:vC}{o:HO}:upd H a o a=some o:=by unfold upd;rw[vH rfl]
theorem qc{H:Hp}{a b:vC}{o:HO}(h:b≠a):upd H a o b=H b:=by unfold upd;rw[vJ h]
theorem qje{H:Hp}{a b:vC}{o u:HO}(h:H a=some o)(h':H b=some u)(d:o≠u):a≠b:=by
 intro e;subst e;rw[h]at h';exact d (z5 h')
theorem q0l{H:Hp}{a b:vC}{o:HO}(h:H a=some o)(h':H b=none):a≠b:=by
 intro e;subst e;rw[h]at h';cases h'
section
variable(P:vO)(w:vU)
def Yi(H:Hp)(h:vZ)(a:vC):HO->Prop
 | .lst xs=>xs.length<=sizeLine/\∃(its:List vB) (n:Nat),Yf xs its/\h.get? a=some { cls:=.type "list", data:=.seq its.toArray n }
 | .tup xs=>xs.length<=sizeLine/\∃its:List vB,Yf xs its/\IsTup h a its.toArray
 | .dK kvs=>kvs.length<=sizeLine/\(a==v8)=false/\∃vs,KV kvs vs/\h.DictOf (Ye P w) a vs
 | .dT kvs=>kvs.length<=sizeLine/\(a==v8)=false/\∃xs:List (List Key×vC×vB),
   tt (λ(p:List Key×V) (q:List Key×vC×vB)=>p.1=q.1/\H q.2.1=some (.tup (p.1.map kV))/\RelV p.2 q.2.2) kvs xs /\
   ∃o es ep,h.get? a=some o/\o.ExactDict/\o.data=.dict es ep/\es.toList=xs.map (entryOfKey (tO (Ye P w)))/\(xs.map (·.1)).Nodup
 | .set S n=>h.SetOf (ul P w) a S n
 | .ins C dx fs=>H dx=some (.own a)/\fs.length<=1000/\dx≠a/\h.get? a=some (wm C dx) /\
   ∃mA,h.Ns1 dx mA/\(∀f,zAB (fs.lookup f) (mA f))/\PySem.Within mA (fs.map (·.1))
 | .own _=>∃o,h.get? a=some o
 | .xd fs=>∃mA,h.Ns1 a mA/\∀f,zAB (fs.lookup f) (mA f)
 | .rng lo hi=>∃t u v,h.get? a=some { cls:=.type "range", data:=.fields #[.int lo t,.int hi u,.int 1 v] }
 | .frz o u=>h.get? a=some o/\Yi H h a u
 | .tbl ps=>h.get? a=some { cls:=.none,data:=.fields ps }
 | .met f x=>h.get? a=some (wK (.ref f) (.ref x))
 | .ext φ=>φ h/\(∃o,h.get? a=some o)/\∀h1 h2:vZ,φ h1->(∀o,h1.get? a=some o->h2.get? a=some o)->φ h2
def HOk(H:Hp)(h:vZ):Prop:=∀a o,H a=some o->Yi P w H h a o
end
section
variable{P:vO}{w:vU}{H H':Hp}{h h':vZ}{a:vC}{o:HO}
theorem Yi.lt(x:Yi P w H h a o):a<h.objs.size:=by
 cases o with
 | lst xs=>obtain⟨_,_,_,_,e⟩:=x;exact zP e
 | tup xs=>obtain⟨_,_,_,p⟩:=x;exact p.lt
 | dK kvs=>obtain⟨_,_,_,_,o,_,_,e,_⟩:=x;exact zP e
 | dT kvs=>obtain⟨_,_,_,_,o,_,_,e,_⟩:=x;exact zP e
 | set S n=>obtain⟨o,_,_,_,e,_⟩:=x;exact zP e
 | ins C dx fs=>obtain⟨_,_,_,e,_⟩:=x;exact zP e
 | own y=>obtain⟨_,e⟩:=x;exact zP e
 | xd fs=>obtain⟨_,⟨_,_,_,e,_⟩,_⟩:=x;exact zP e
 | rng lo hi=>obtain⟨_,_,_,e⟩:=x;exact zP e
 | frz ob u=>obtain⟨e,_⟩:=x;exact zP e
 | tbl ps=>exact zP (show h.get? a=some _ from x)
 | met f y=>exact zP (show h.get? a=some _ from x)
 | ext φ=>obtain⟨_,⟨_,e⟩,_⟩:=x;exact zP e
theorem Paired.mapP{α β:Type}{F G:α->β->Prop}:∀{l₁:List α}{l₂:List β},tt F l₁ l₂->(∀a b,F a b->G a b)->tt G l₁ l₂
 | _,_,.nil,_=>.nil
 | _,_,.cons r t,f=>.cons (f _ _ r) (Paired.mapP t f)
theorem Yi.stay(x:Yi P w H h a o)(k:∀b u,(b=a\/H b=some (.own a))->h.get? b=some u->h'.get? b=some u)(ho:∀b,H b=some (.own a)->H' b=some (.own a))(ht:∀b xs,H b=some (.tup xs)->H' b=some (.tup xs)):Yi P w H' h' a o:=by
 induction o with
 | lst xs=>obtain⟨z,its,n,r,e⟩:=x;exact⟨z,its,n,r,k _ _ (.inl rfl) e⟩
 | tup xs=>obtain⟨z,its,r,ob,e,c⟩:=x;exact⟨z,its,r,ob,k _ _ (.inl rfl) e,c⟩
 | dK kvs=>obtain⟨z,y,vs,r,ob,es,ep,e,c⟩:=x;exact⟨z,y,vs,r,ob,es,ep,k _ _ (.inl rfl) e,c⟩
 | dT kvs=>
  obtain⟨z,y,xs,r,ob,es,ep,e,c⟩:=x;exact⟨z,y,xs,Paired.mapP r λp q z=>⟨z.1,ht _ _ z.2.1,z.2.2⟩,ob,es,ep,k _ _ (.inl rfl) e,c⟩
 | set S n=>obtain⟨ob,es,ep,t,e,c⟩:=x;exact⟨ob,es,ep,t,k _ _ (.inl rfl) e,c⟩
 | ins C dx fs=>
  obtain⟨d,z,ne,e,mA,⟨od,es,ep,e2,c⟩,r⟩:=x;exact⟨ho _ d,z,ne,k _ _ (.inl rfl) e,mA,⟨od,es,ep,k _ _ (.inr d) e2,c⟩,r⟩
 | own y=>obtain⟨ob,e⟩:=x;exact⟨ob,k _ _ (.inl rfl) e⟩
 | xd fs=>obtain⟨mA,⟨od,es,ep,e,c⟩,r⟩:=x;exact⟨mA,⟨od,es,ep,k _ _ (.inl rfl) e,c⟩,r⟩
 | rng lo hi=>obtain⟨t,u,v,e⟩:=x;exact⟨t,u,v,k _ _ (.inl rfl) e⟩
 | frz ob u ih=>obtain⟨e,q⟩:=x;exact⟨k _ _ (.inl rfl) e,ih q⟩
 | tbl ps=>
  have e:h.get? a=some { cls:=.none,data:=.fields ps }:=x;show h'.get? a=some { cls:=.none,data:=.fields ps };exact k a _ (.inl rfl) e
 | met f y=>
  have e:h.get? a=some (wK (.ref f) (.ref y)):=x;show h'.get? a=some (wK (.ref f) (.ref y));exact k a _ (.inl rfl) e
 | ext φ=>obtain⟨p,⟨o,e⟩,st⟩:=x;exact⟨st _ _ p λo q=>k _ _ (.inl rfl) q,⟨o,k _ _ (.inl rfl) e⟩,st⟩
theorem HOk.lt(x:HOk P w H h)(e:H a=some o):a<h.objs.size:=(x a o e).lt
theorem HOk.fresh(x:HOk P w H h)(e:h.objs.size<=a):H a=none:=by
 cases q:H a with
 | none=>rfl
 | some u=>exact vN (zt (x.lt q) e) (y8 _)
theorem HOk.kept(x:HOk P w H h)(k:∀b u,h.get? b=some u->h'.get? b=some u):HOk P w H h':=λa o e=>
 (x a o e).stay (λb u _ q=>k b u q) (λ_ q=>q) λ_ _ q=>q
theorem HOk.laid(x:HOk P w H h)(k:∀b u,h.get? b=some u->h'.get? b=some u)(hp:h.objs.size<=a)(new:Yi P w (upd H a o) h' a o):HOk P w (upd H a o) h':=λb u e=>by
 have hn:=x.fresh hp
 by_cases hb:b=a
 ·subst hb;rw[qg]at e;cases e;exact new
 ·rw[qc hb]at e
  exact(x b u e).stay (λc v _ q=>k c v q) (λc q=>by rw[qc (q0l q hn)];exact q) λc xs q=>by rw[qc (q0l q hn)];exact q
end
def Rd(H:Hp)(a:vC)(u:HO):Prop:=H a=some u\/∃o,H a=some (.frz o u)
theorem Rd.ok{P:vO}{w:vU}{H:Hp}{h:vZ}{a:vC}{u:HO}(r:Rd H a u)(x:HOk P w H h):Yi P w H h a u:=by
 rcases r with r|⟨o,r⟩
 ·exact x a u r
 ·obtain⟨_,q⟩:=x a _ r
  exact q
def Mut:Option HO->Prop
 | some (.lst _)=>True
 | some (.dK _)=>True
 | some (.dT _)=>True
 | some (.set _ _)=>True
 | some (.ins _ _ _)=>True
 | some (.ext _)=>True
 | _=>False
section
variable{P:vO}{w:vU}{H:Hp}{h h':vZ}{x e:vC}{o':HO}
theorem HOk.write(ok:HOk P w H h)(mu:Mut (H x))(he:e=x\/H e=some (.own x))(k:∀b u,b≠e->h.get? b=some u->h'.get? b=some u)(heo:∃u,h'.get? e=some u)(new:Yi P w (upd H x o') h' x o'):HOk P w (upd H x o') h':=λb u q=>by
 have nown:∀c y,H c=some (.own y)->c≠x:=λc y r z=>by subst z;rw[r]at mu;exact mu
 have ntup:∀c xs,H c=some (.tup xs)->c≠x:=λc xs r z=>by subst z;rw[r]at mu;exact mu
 by_cases hb:b=x
 ·subst hb;rw[qg]at q;cases q;exact new
 ·rw[qc hb]at q
  by_cases hbe:b=e
  ·have q':H b=some (.own x):=by
    rcases he with z|z
    ·exact vN (hbe.trans z) hb
    ·rw[hbe];exact z
   rw[q]at q';cases q';obtain⟨v,hv⟩:=heo;exact⟨v,by rw[hbe];exact hv⟩
  ·refine(ok b u q).stay (λc v hc r=>k c v ?_ r) (λc r=>by rw[qc (nown c b r)];exact r) λc xs r=>by rw[qc (ntup c xs r)];exact r
   rcases hc with rfl|hc
   ·exact hbe
   ·rintro rfl
    rcases he with z|z
    ·exact nown c b hc z
    ·rw[hc]at z;cases z;exact hb rfl
end
structure Un (fs ex:List vC) (H H':Hp) (h h':vZ):Prop where
 keep:∀b o,h.get? b=some o->H b=none->b∉fs->b∉ex->h'.get? b=some o
 slot:∀b o,h.get? b=some o->H b=none->b∈fs->b∉ex->∃sl,h'.get? b=some { o with slots:=sl }
 free:∀b o,h.get? b=some o->H b=none->b∉ex->H' b=none
 there:∀b o,h.get? b=some o->b∉ex->∃o',h'.get? b=some o'
 tups:∀b xs,H b=some (.tup xs)->H' b=some (.tup xs)
 frzs:∀b o u,H b=some (.frz o u)->H' b=some (.frz o u)
 tbls:∀b ps,H b=some (.tbl ps)->∃more,H' b=some (.tbl (ps++more))
section
variable{fs fs' ex ex':List vC}{H H1 H2:Hp}{h h1 h2 h':vZ}{a x e:vC}{o:HO}
theorem Un.any(u:Un fs ex H H1 h h1){b:vC}{ob:Obj}(q:h.get? b=some ob)(n:H b=none)(hx:b∉ex):∃sl,h1.get? b=some { ob with slots:=sl }:=by
 by_cases hb:b∈fs
 ·exact u.slot b ob q n hb hx
 ·exact⟨ob.slots,u.keep b ob q n hb hx⟩
theorem Un.kept(k:∀b u,h.get? b=some u->h'.get? b=some u):Un fs ex H H h h' :=
 ⟨λb ob q _ _ _=>k b ob q,λb ob q _ _ _=>⟨ob.slots,k b ob q⟩,λ_ _ _ n _=>n,λb ob q _=>⟨ob,k b ob q⟩,λ_ _ q=>q,λ_ _ _ q=>q,λ_ ps q=>⟨#[],by rw[q];simp⟩⟩
theorem Un.refl:Un fs ex H H h h:=Un.kept λ_ _ q=>q
theorem Un.laid(k:∀b u,h.get? b=some u->h'.get? b=some u)(hp:h.objs.size<=a)(hn:H a=none):Un fs ex H (upd H a o) h h' where
 keep:=λb u q _ _ _=>k b u q
 slot:=λb u q _ _ _=>⟨u.slots,k b u q⟩
 free:=λb u q n _=>by rw[qc (zo (zt (zP q) hp))];exact n
 there:=λb u q _=>⟨u,k b u q⟩
 tups:=λb xs q=>by rw[qc (q0l q hn)];exact q
 frzs:=λb u xs q=>by rw[qc (q0l q hn)];exact q
 tbls:=λb ps q=>⟨#[],by rw[qc (q0l q hn),q];simp⟩
theorem Un.write(mu:Mut (H x))(he:e=x\/H e=some (.own x))(k:∀b u,b≠e->h.get? b=some u->h'.get? b=some u)(heo:∃u,h'.get? e=some u):Un fs ex H (upd H x o) h h':=by
 have hx:∀b,H b=none->b≠x:=λb n z=>by subst z;rw[n]at mu;exact mu
 have hb:∀b,H b=none->b≠e:=λb n z=>by
  subst z;rcases he with r|r
  ·exact hx b n r
  ·rw[n]at r;cases r
 have hm:∀b u,H b=some u->¬Mut (some u)->b≠x:=λb u q nm z=>by subst z;rw[q]at mu;exact nm mu
 refine⟨λb u q n _ _=>k b u (hb b n) q,λb u q n _ _=>⟨u.slots,k b u (hb b n) q⟩,λb u q n _=>by rw[qc (hx b n)];exact n,λb u q _=>?_,
  λb xs q=>by rw[qc (hm b _ q λz=>z)];exact q,λb u xs q=>by rw[qc (hm b _ q λz=>z)];exact q,λb ps q=>⟨#[],by rw[qc (hm b _ q λz=>z),q];simp⟩⟩
 by_cases hbe:b=e
 ·subst hbe;exact heo
 ·exact⟨u,k b u hbe q⟩
end
noncomputable def trk(h:vZ)(H:Hp):List vC:=(yI h.objs.size).filter λa=>(H a).isSome
noncomputable def zAJ(h:vZ)(H:Hp):vZ:=PySem.W.hideAll h (trk h H)
theorem qcP(h:vZ)(H:Hp):(zAJ h H).objs.size=h.objs.size:=PySem.W.hideAll_size _ _
theorem qfP{h:vZ}{H:Hp}{b:vC}{o:Obj}(e:h.get? b=some o)(n:H b=none):(zAJ h H).get? b=some o :=
 PySem.W.hideAll_get _ e λhm=>by
  have q:(H b).isSome=true:=(zp.mp hm).2;rw[n]at q;simp at q
theorem qhc{h:vZ}{H:Hp}{b:vC}{o:Obj}(e:(zAJ h H).get? b=some o):h.get? b=some o/\H b=none:=by
 have e':h.get? b=some o:=PySem.W.of_hideAll (trk h H) e;refine⟨e',?_⟩;cases q:H b with
 | none=>rfl
 | some x=>
  have hm:b∈trk h H:=zp.mpr ⟨yM.mpr (zP e'),by simp[q]⟩;have z:(zAJ h H).get? b=none:=PySem.W.hideAll_none (trk h H) hm;rw[z]at e;cases e
noncomputable def zAg(g h:vZ)(L:vC):List (vC×Obj):=(yI h.objs.size).filterMap λa=>if a=L\/(g.get? a).isSome=true then none else (h.get? a).map λo=>(a,o)
noncomputable def rest(g h:vZ)(L d:vC):List (vC×Obj):=(zAg g h L).filter λp=>decide (p.1≠d)
structure Mod (K:zB) (mg:Str->Option vB) (base:vZ):Prop where
 kin:K.In base
 glob:base.Ns vQ mg
 blt:∃mb,base.Ns builtinsNs mb/\∀x:Str,x ≠ "__name__" -> mb x=vX x
 nolimit:base.NoLimit
structure Cx where
 prog:vO
 w:vU
 K:zB
 mg:Str->Option vB
 base:vZ
 A:vY
 N:List Str
 s₀:vF
 H₀:Hp
 env:Env
 outer:List Env
 stack:List Env
 ex:List vC
 fn:Str->Bool
 calm:Bool
 pn:List (vC×Obj)
 xe:vB->vF->Prop
noncomputable def frs(l:List Env):List vC:=l.filterMap (·.frame)
noncomputable abbrev Cx.fs(X:Cx):List vC:=frs X.outer
def Vis(sc:ud)(x:Str):Prop:=sc.names.lookup x=some .local\/sc.names.lookup x=some .cell\/sc.names.lookup x=some .free
def Loc(sc:ud)(x:Str):Prop:=sc.names.lookup x=some .local\/sc.names.lookup x=some .cell
def Look(env:Env)(h:vZ)(m:Str->Option vB)(x:Str)(u:vB):Prop :=
 (env.kindOf x=some .local/\m x=some u)\/((env.kindOf x=some .cell\/env.kindOf x=some .free)/\∃c,env.cells.lookup x=some c/\h.IsCell c (some u))
structure Cx.Ok (X:Cx):Prop where
 mod:Mod X.K X.mg X.base
 kind:X.env.scope.kind=.function
 glob:X.env.globals=vQ
 blt:X.env.builtins=builtinsNs
 above:X.s₀.heap.objs.size<=X.env.locals
 inj:∀x y c,X.env.cells.lookup x=some c->X.env.cells.lookup y=some c->x=y
 has:∀x,(X.env.kindOf x=some .cell\/X.env.kindOf x=some .free)->∃c,X.env.cells.lookup x=some c
 cab:∀x c,X.fn x=true->X.env.cells.lookup x=some c->X.s₀.heap.objs.size<=c
 hd:X.calm=true->X.A.handled=none
 frames:X.A.frames=some X.stack
 stk:X.stack=X.outer\/(X.stack=X.env::X.outer/\X.env.frame=some X.env.locals)
 exf:∀b∈X.ex,b≠X.env.locals/\∀x c,X.env.cells.lookup x=some c->c≠b
 bs:∀b o,X.base.get? b=some o->X.s₀.heap.get? b=some o/\X.H₀ b=none
 bsz:X.base.objs.size<=X.s₀.heap.objs.size
 noex:∀b o,X.base.get? b=some o->b∉X.ex
 exfs:∀b∈X.ex,b∉X.fs
 funs:X.s₀.heap.FunFrames X.base X.outer
 frf:∀b∈X.fs,X.H₀ b=none
structure Inv (X:Cx) (pins:List (vC×Obj)) (σ:List (Option V)) (H:Hp) (s:vF):Prop where
 ok:X.Ok
 os:s.os=X.s₀.os
 bare:ux s.gens
 base:Un X.fs X.ex X.H₀ H X.s₀.heap s.heap
 loc:∃m,s.heap.Ns X.env.locals m/\∀(i:Nat)(x:Str)(v:V),X.N[i]?=some x->σ[i]?=some (some v)->Vis X.env.scope x->∃u,RelV v u/\Look X.env s.heap m x u
 cell:∀x c,X.env.cells.lookup x=some c->∃v,s.heap.IsCell c v
 free:H X.env.locals=none
 freeC:∀x c,X.env.cells.lookup x=some c->H c=none
 pin:∀p∈X.pn++pins,s.heap.get? p.1=some p.2/\H p.1=none/\p.1≠X.env.locals/\p.1∉X.fs/\∀v,p.2.data≠.cell v
 hok:HOk X.prog X.w H s.heap
 len:σ.length=X.N.length
section
variable{X:Cx}{pins:List (vC×Obj)}{σ:List (Option V)}{H H':Hp}{s:vF}{h':vZ}
theorem Cx.Ok.nofr(ok:X.Ok){b:vC}{o:Obj}(e:X.base.get? b=some o):b∉X.fs:=λhb=>by
 have:=(ok.funs.mem hb).1;rw[e]at this;cases this
theorem Inv.bs(I:Inv X pins σ H s):∀b o,X.base.get? b=some o->s.heap.get? b=some o/\H b=none:=λb o e=>
 ⟨I.base.keep b o (I.ok.bs b o e).1 (I.ok.bs b o e).2 (I.ok.nofr e) (I.ok.noex b o e),I.base.free b o (I.ok.bs b o e).1 (I.ok.bs b o e).2 (I.ok.noex b o e)⟩
theorem Inv.bk(I:Inv X pins σ H s):∀b o,X.base.get? b=some o->s.heap.get? b=some o:=λb o e=>(I.bs b o e).1
theorem Inv.mod(I:Inv X pins σ H s):Mod X.K X.mg X.base:=I.ok.mod
theorem Inv.kIn(I:Inv X pins σ H s):X.K.In s.heap:=I.ok.mod.kin.keeps I.bk
theorem Inv.lt(I:Inv X pins σ H s):X.env.locals<s.heap.objs.size:=let ⟨_,hn,_⟩:=I.loc;hn.lt
theorem Inv.sz(I:Inv X pins σ H s):X.s₀.heap.objs.size<=s.heap.objs.size:=yA I.ok.above (yP I.lt)
theorem Inv.nofs(I:Inv X pins σ H s){a:vC}(h:s.heap.objs.size<=a):a∉X.fs:=λhb=>by
 obtain⟨_,o,ho,_⟩:=I.ok.funs.mem hb;exact vN (zt (zP ho) (yA I.sz h)) (y8 _)
theorem Inv.cne(I:Inv X pins σ H s):∀x c,X.env.cells.lookup x=some c->c≠X.env.locals:=λx c e z=>by
 obtain⟨v,o,ho,hd⟩:=I.cell x c e;obtain⟨m,⟨o',es,ep,ho',hd',_⟩,_⟩:=I.loc;rw[z,ho']at ho;cases ho;rw[hd']at hd;cases hd
theorem Inv.funs(I:Inv X pins σ H s):s.heap.FunFrames X.base X.outer:=by
 have all:∀(l:List Env),(∀b∈frs l,b∈X.fs)->X.s₀.heap.FunFrames X.base l->s.heap.FunFrames X.base l:=by
  intro l
  induction l with
  | nil=>intro _ _;trivial
  | cons env r ih=>
   intro hs hl;obtain⟨hk,⟨L,o,hf,hn,ho,hd⟩,hr⟩:=hl;have hL:L∈X.fs:=hs L (by unfold frs;rw[xI,hf];exact zD);obtain⟨sl,e⟩:=I.base.slot L o ho (I.ok.frf L hL) hL λz=>I.ok.exfs L z hL;exact⟨hk,⟨L,_,hf,hn,e,hd⟩,ih (λb hb=>hs b (by unfold frs;rw[xI,hf];exact zG _ hb)) hr⟩
 exact all X.outer (λ_ hb=>hb) I.ok.funs
theorem Inv.stack(I:Inv X pins σ H s):s.heap.FunFrames X.base X.stack:=by
 rcases I.ok.stk with e|⟨e,hf⟩
 ·rw[e];exact I.funs
 ·rw[e]
  obtain⟨m,hn,_⟩:=I.loc;refine .cons (by rw[I.ok.kind];decide) hf hn ?_ I.funs;exact Heap.get?_none_of_le (yA I.ok.bsz I.ok.above)
theorem Inv.stkSub(I:Inv X pins σ H s):∀b∈frs X.stack,b∈X.env.locals::X.fs:=λb hb=>by
 rcases I.ok.stk with e|⟨e,hf⟩
 ·rw[e]at hb;exact zG _ hb
 ·rw[e]at hb
  unfold frs at hb;rw[xI,hf]at hb;exact hb
theorem Inv.stkFree(I:Inv X pins σ H s):∀b∈frs X.stack,H b=none:=λb hb=>by
 rcases zF.mp (I.stkSub b hb)with e|hb
 ·rw[e];exact I.free
 ·obtain⟨_,o,ho,_⟩:=I.ok.funs.mem hb
  exact I.base.free b o ho (I.ok.frf b hb) λz=>I.ok.exfs b z hb
theorem Inv.step{g':Array tY}{t':Nat}{d':Drawn}{ch:List vC}(I:Inv X pins σ H s)(hch:∀b∈ch,(b∈X.ex\/X.s₀.heap.objs.size<=b)/\b≠X.env.locals/\(∀x c,X.env.cells.lookup x=some c->c≠b)/\∀p∈X.pn++pins,p.1≠b)(keep:∀b o,b≠X.env.locals->b∉X.fs->b∉ch->s.heap.get? b=some o->H b=none->h'.get? b=some o)(slot:∀b o,b≠X.env.locals->b∈X.fs->b∉ch->s.heap.get? b=some o->H b=none->∃sl,h'.get? b=some { o with slots:=sl })(free:∀b o,b∉ch->s.heap.get? b=some o->H b=none->H' b=none)(there:∀b o,b∉ch->s.heap.get? b=some o->∃o',h'.get? b=some o')(tups:∀b xs,H b=some (.tup xs)->H' b=some (.tup xs))(frzs:∀b o u,H b=some (.frz o u)->H' b=some (.frz o u))(tbls:∀b ps,H b=some (.tbl ps)->∃more,H' b=some (.tbl (ps++more)))(ns:∀m,s.heap.Ns X.env.locals m->h'.Ns X.env.locals m)(hok:HOk X.prog X.w H' h')(hg:ux g'):
  Inv X pins σ H' { s with heap:=h',gens:=g',drawn:=d',toks:=t' }:=by
 have neL:∀b o,X.s₀.heap.get? b=some o->b≠X.env.locals:=λb o e=>zo (zt (zP e) I.ok.above);have neC:∀b o,X.s₀.heap.get? b=some o->b∉X.ex->b∉ch:=λb o e hx hb=>by
  rcases (hch b hb).1 with z|z
  ·exact hx z
  ·exact vN (zt (zP e) z) (y8 _)
 have cellK:∀x c,X.env.cells.lookup x=some c->∀v,s.heap.IsCell c v->h'.IsCell c v:=λx c e v ⟨o,ho,hd⟩=>by
  have nch:c∉ch:=λz=>(hch c z).2.2.1 x c e rfl
  by_cases hc:c∈X.fs
  ·obtain⟨sl,q⟩:=slot c o (I.cne x c e) hc nch ho (I.freeC x c e)
   exact⟨_,q,hd⟩
  ·exact⟨o,keep c o (I.cne x c e) hc nch ho (I.freeC x c e),hd⟩
 refine⟨I.ok,I.os,hg,⟨λb o e n hb hx=>?_,λb o e n hb hx=>?_,λb o e n hx=>?_,λb o e hx=>?_,λb xs e=>tups b xs (I.base.tups b xs e),λb o xs e=>frzs b o xs (I.base.frzs b o xs e),λb ps e=>?_⟩,?_,λx c e=>?_,?_,λx c e=>?_,λp hp=>?_,hok,I.len⟩
 ·exact keep b o (neL b o e) hb (neC b o e hx) (I.base.keep b o e n hb hx) (I.base.free b o e n hx)
 ·obtain⟨sl,e1⟩:=I.base.slot b o e n hb hx
  obtain⟨sl',e2⟩:=slot b _ (neL b o e) hb (neC b o e hx) e1 (I.base.free b o e n hx);exact⟨sl',e2⟩
 ·obtain⟨o',e1⟩:=I.base.there b o e hx
  exact free b o' (neC b o e hx) e1 (I.base.free b o e n hx)
 ·obtain⟨o',e1⟩:=I.base.there b o e hx
  exact there b o' (neC b o e hx) e1
 ·obtain⟨m1,e1⟩:=I.base.tbls b ps e
  obtain⟨m2,e2⟩:=tbls b _ e1;exact⟨m1++m2,by rw[e2,Array.append_assoc]⟩
 ·obtain⟨m,hn,hl⟩:=I.loc
  refine⟨m,ns m hn,λi x v e1 e2 e3=>?_⟩;obtain⟨u,r,l⟩:=hl i x v e1 e2 e3;refine⟨u,r,?_⟩;rcases l with l|⟨k,c,e,z⟩
  ·exact .inl l
  ·exact .inr ⟨k,c,e,cellK x c e _ z⟩
 ·obtain⟨v,z⟩:=I.cell x c e
  exact⟨v,cellK x c e v z⟩
 ·obtain⟨m,⟨o,_,_,ho,_⟩,_⟩:=I.loc
  exact free _ o (λz=>(hch _ z).2.1 rfl) ho I.free
 ·obtain⟨v,o,ho,hd⟩:=I.cell x c e
  exact free c o (λz=>(hch c z).2.2.1 x c e rfl) ho (I.freeC x c e)
 ·obtain⟨e,n,ne,nf,d⟩:=I.pin p hp
  have nch:p.1∉ch:=λz=>(hch p.1 z).2.2.2 p hp rfl;exact⟨keep p.1 p.2 ne nf nch e n,free p.1 p.2 nch e n,ne,nf,d⟩
theorem Inv.un{t':Nat}(I:Inv X pins σ H s)(u:Un X.fs [] H H' s.heap h')(hok:HOk X.prog X.w H' h'):Inv X pins σ H' { s with heap:=h',toks:=t' }:=by
 obtain⟨m,⟨o,es,ep,ho,r⟩,_⟩:=id I.loc;obtain⟨sl,hL⟩:=u.any ho I.free (by simp);exact I.step (g':=s.gens) (d':=s.drawn) (ch:=[]) (λ_ z=>nomatch z) (λb o _ hb _ e n=>u.keep b o e n hb (by simp)) (λb o _ hb _ e n=>u.slot b o e n hb (by simp)) (λb o _ e n=>u.free b o e n (by simp)) (λb o _ e=>u.there b o e (by simp)) u.tups u.frzs u.tbls (λm' hm=>by
  obtain⟨o',es',ep',ho',r'⟩:=hm;rw[ho]at ho';cases ho';exact⟨_,es',ep',hL,r'⟩) hok I.bare
theorem Inv.call{g':Array tY}{t':Nat}{d':Drawn}{ch:List vC}(I:Inv X pins σ H s)(u:Un (frs X.stack) ch H H' s.heap h')(hok:HOk X.prog X.w H' h')(hg:ux g')(hch:∀b∈ch,(b∈X.ex\/X.s₀.heap.objs.size<=b)/\b≠X.env.locals/\(∀x c,X.env.cells.lookup x=some c->c≠b)/\∀p∈X.pn++pins,p.1≠b):
  Inv X pins σ H' { s with heap:=h',gens:=g',drawn:=d',toks:=t' }:=by
 obtain⟨m,⟨o,es,ep,ho,r⟩,_⟩:=id I.loc;obtain⟨sl,hL⟩:=u.any ho I.free λz=>(hch _ z).2.1 rfl;exact I.step (ch:=ch) hch (λb o hL hb hc e n=>u.keep b o e n (λz=>(zF.mp (I.stkSub b z)).elim hL hb) hc) (λb o _ _ hc e n=>u.any e n hc) (λb o hc e n=>u.free b o e n hc) (λb o hc e=>u.there b o e hc) u.tups u.frzs u.tbls (λm' hm=>by
  obtain⟨o',es',ep',ho',r'⟩:=hm;rw[ho]at ho';cases ho';exact⟨_,es',ep',hL,r'⟩) hok hg
theorem Inv.turned{t':Nat}{it:vC}(I:Inv X pins σ H s)(k:∀b o,b≠it->s.heap.get? b=some o->h'.get? b=some o)(hn:H it=none)(hL:it≠X.env.locals)(h1:it∈X.ex\/X.s₀.heap.objs.size<=it)(h2:∀x c,X.env.cells.lookup x=some c->c≠it)(h3:∀p∈X.pn++pins,p.1≠it):Inv X pins σ H { s with heap:=h',toks:=t' }:=by
 have nit:∀b u,H b=some u->b≠it:=λb u e z=>by rw[z,hn]at e;cases e
 refine I.step (g':=s.gens) (d':=s.drawn) (ch:=[it]) (λb hb=>?_) (λb o _ _ hc e _=>k b o (λz=>hc (by simp[z])) e) (λb o _ _ hc e _=>⟨o.slots,k b o (λz=>hc (by simp[z])) e⟩) (λ_ _ _ _ n=>n)
  (λb o hc e=>⟨o,k b o (λz=>hc (by simp[z])) e⟩) (λ_ _ e=>e) (λ_ _ _ e=>e) (λb ps e=>⟨#[],by rw[e];simp⟩) (λm hm=>?_) (λb u e=>?_) I.bare
 ·have e:b=it:=by simpa using hb
  subst e;exact⟨h1,hL,h2,h3⟩
 ·obtain⟨o,es,ep,ho,r⟩:=hm
  exact⟨o,es,ep,k _ o (Ne.symm hL) ho,r⟩
 ·refine(I.hok b u e).stay (λc v hc q=>k c v ?_ q) (λ_ q=>q) λ_ _ q=>q
  rcases hc with z|z
  ·rw[z];exact nit b u e
  ·exact nit c _ z
theorem Inv.tok(I:Inv X pins σ H s)(t:Nat):Inv X pins σ H { s with toks:=t }:=I.un (h':=s.heap) (t':=t) Un.refl I.hok
theorem Inv.kept{t':Nat}(I:Inv X pins σ H s)(k:∀b u,s.heap.get? b=some u->h'.get? b=some u):Inv X pins σ H { s with heap:=h',toks:=t' }:=I.un (Un.kept k) (I.hok.kept k)
theorem Inv.laid{a:vC}{o:HO}{t':Nat}(I:Inv X pins σ H s)(k:∀b u,s.heap.get? b=some u->h'.get? b=some u)(hp:s.heap.objs.size<=a)(new:Yi X.prog X.w (upd H a o) h' a o):
  Inv X pins σ (upd H a o) { s with heap:=h',toks:=t' }:=I.un (Un.laid k hp (I.hok.fresh hp)) (I.hok.laid k hp new)
theorem Inv.write{x e:vC}{o:HO}{t':Nat}(I:Inv X pins σ H s)(mu:Mut (H x))(he:e=x\/H e=some (.own x))(k:∀b u,b≠e->s.heap.get? b=some u->h'.get? b=some u)(heo:∃u,h'.get? e=some u)(new:Yi X.prog X.w (upd H x o) h' x o):Inv X pins σ (upd H x o) { s with heap:=h',toks:=t' }:=I.un (Un.write mu he k heo) (I.hok.write mu he k heo new)
theorem Inv.pins_of{pins':List (vC×Obj)}(I:Inv X pins σ H s)(h:∀p∈pins',s.heap.get? p.1=some p.2/\H p.1=none/\p.1≠X.env.locals/\p.1∉X.fs/\∀v,p.2.data≠.cell v):Inv X pins' σ H s :=
 ⟨I.ok,I.os,I.bare,I.base,I.loc,I.cell,I.free,I.freeC,λp hp=>(zK.mp hp).elim (λz=>I.pin p (zI _ z)) (h p),I.hok,I.len⟩
theorem q9g{N:List Str}(hN:N.Nodup){i j:Nat}{x:Str}(a:N[i]?=some x)(b:N[j]?=some x):i=j:=by
 obtain⟨h1,e1⟩:=zy.mp a;obtain⟨h2,e2⟩:=zy.mp b;exact(wT hN).mp (e1.trans e2.symm)
theorem q7L{M:Model}{A:vY}{E:vB->vF->Prop}{i:Nat}{x:Str}{v:V}{u:vB}{Q:Unit->vF->Prop}(I:Inv X pins σ H s)(hN:X.N.Nodup)(hi:X.N[i]?=some x)(hx:Loc X.env.scope x)(r:RelV v u)(h:∀s',Inv X pins (σ.set i (some v)) H s'->(∃a,xD a s.heap s'.heap/\(a=X.env.locals\/X.env.cells.lookup x=some a))->Q () s')(hf:X.fn x=true\/X.env.scope.names.lookup x=some .local:=by first|exact .inl rfl|exact .inr rfl|assumption):vM M A (storeName X.env x u) Q E s:=by
 obtain⟨m,hn,hl⟩:=id I.loc;have hcls:(X.env.scope.kind == .class || (X.env.scope.kind == .module&&X.env.locals != X.env.globals))=false:=by rw[I.ok.kind];rfl
 have hiσ:i<σ.length:=by rw[I.len];exact(zy.mp hi).1
 have cne:=I.cne;have tracked:∀{a:vC}{h':vZ},(∃o,s.heap.get? a=some o/\H a=none)->xD a s.heap h'->HOk X.prog X.w H h':=λ{a h'} ha hs b ob e=>by
  obtain⟨_,_,hfree⟩:=ha;refine(I.hok b ob e).stay (λc w' hc q=>(hs.2 c ?_).trans q) (λ_ q=>q) λ_ _ q=>q;rintro rfl;rcases hc with rfl|hc
  ·rw[hfree]at e;cases e
  ·rw[hfree]at hc;cases hc
 rcases hx with hk|hk
 ·refine wpAny_storeName_local hk hn (λh' hn' hs=>?_) hcls
  obtain⟨oL,_,_,hoL,_⟩:=id hn;refine h _ ⟨I.ok,I.os,I.bare,⟨λb o e n hb hx=>?_,λb o e n hb hx=>?_,I.base.free,λb o e hx=>?_,I.base.tups,I.base.frzs,I.base.tbls⟩,⟨_,hn',λj y v' e1 e2 e3=>?_⟩,λy c e=>?_,I.free,I.freeC,λp hp=>?_,tracked ⟨oL,hoL,I.free⟩ hs,by simpa using I.len⟩ ⟨_,hs,.inl rfl⟩
  ·exact(hs.2 b (zo (zt (zP e) I.ok.above))).trans (I.base.keep b o e n hb hx)
  ·obtain⟨sl,e1⟩:=I.base.slot b o e n hb hx
   exact⟨sl,(hs.2 b (zo (zt (zP e) I.ok.above))).trans e1⟩
  ·obtain⟨o',e1⟩:=I.base.there b o e hx
   exact⟨o',(hs.2 b (zo (zt (zP e) I.ok.above))).trans e1⟩
  ·by_cases hj:j=i
   ·subst hj
    rw[hi]at e1;cases e1;rw[y0 hiσ]at e2;cases e2;exact⟨u,r,.inl ⟨hk,by simp⟩⟩
   ·rw[zU (Ne.symm hj)]at e2
    obtain⟨u',r',q⟩:=hl j y v' e1 e2 e3;refine⟨u',r',?_⟩;rcases q with⟨k,e⟩|⟨k,c,e,z⟩
    ·refine .inl ⟨k,?_⟩
     have:y≠x:=λe=>hj (q9g hN e1 (e▸hi));simp[this,e]
    ·exact .inr ⟨k,c,e,z.sameBut hs (cne y c e)⟩
  ·obtain⟨w',z⟩:=I.cell y c e
   exact⟨w',z.sameBut hs (cne y c e)⟩
  ·obtain⟨e,n,ne,nf,d⟩:=I.pin p hp
   exact⟨(hs.2 p.1 ne).trans e,n,ne,nf,d⟩
 ·have hfn:X.fn x=true:=by
   rcases hf with z|z
   ·exact z
   ·rw[z]at hk;cases hk
  obtain⟨c,hc⟩:=I.ok.has x (.inl hk);obtain⟨w',z⟩:=I.cell x c hc;refine wpAny_storeName_cell I.ok.kind hk hc z (λh' hc' hs=>?_);obtain⟨oc,hoc,hocd⟩:=id z;refine h { s with heap:=h' } ⟨I.ok,I.os,I.bare,⟨λb o e n hb hx=>?_,λb o e n hb hx=>?_,I.base.free,λb o e hx=>?_,I.base.tups,I.base.frzs,I.base.tbls⟩,⟨m,hn.sameBut hs (Ne.symm (cne x c hc)),λj y v' e1 e2 e3=>?_⟩,λy c' e=>?_,I.free,I.freeC,λp hp=>?_,tracked ⟨oc,hoc,I.freeC x c hc⟩ hs,by simpa using I.len⟩ ⟨c,hs,.inr hc⟩
  ·exact(hs.2 b (zo (zt (zP e) (I.ok.cab x c hfn hc)))).trans (I.base.keep b o e n hb hx)
  ·obtain⟨sl,e1⟩:=I.base.slot b o e n hb hx
   exact⟨sl,(hs.2 b (zo (zt (zP e) (I.ok.cab x c hfn hc)))).trans e1⟩
  ·obtain⟨o',e1⟩:=I.base.there b o e hx
   exact⟨o',(hs.2 b (zo (zt (zP e) (I.ok.cab x c hfn hc)))).trans e1⟩
  ·by_cases hj:j=i
   ·subst hj
    rw[hi]at e1;cases e1;rw[y0 hiσ]at e2;cases e2;exact⟨u,r,.inr ⟨.inl hk,c,hc,hc'⟩⟩
   ·rw[zU (Ne.symm hj)]at e2
    obtain⟨u',r',q⟩:=hl j y v' e1 e2 e3;refine⟨u',r',?_⟩;rcases q with q|⟨k,c',e,z'⟩
    ·exact .inl q
    ·refine .inr ⟨k,c',e,z'.sameBut hs ?_⟩
     rintro rfl;exact hj (q9g hN e1 (I.ok.inj _ _ _ e hc▸hi))
  ·by_cases hcc:c'=c
   ·subst hcc;exact⟨_,hc'⟩
   ·obtain⟨w2,z2⟩:=I.cell y c' e
    exact⟨w2,z2.sameBut hs hcc⟩
  ·obtain⟨e,n,ne,nf,d⟩:=I.pin p hp
   refine⟨(hs.2 p.1 ?_).trans e,n,ne,nf,d⟩;intro q;rw[q,hoc]at e;have q':oc=p.2:=z5 e;exact d w' (by rw[<- q'];exact hocd)
theorem q5Y{M:Model}{A:vY}{E:vB->vF->Prop}{i:Nat}{x:Str}{v:V}{u:vB}{Q:Unit->vF->Prop}(I:Inv X pins σ H s)(hN:X.N.Nodup)(hi:X.N[i]?=some x)(hx:Loc X.env.scope x)(r:RelV v u)(h:∀s',Inv X pins (σ.set i (some v)) H s'->Q () s')(hf:X.fn x=true\/X.env.scope.names.lookup x=some .local:=by first|exact .inl rfl|exact .inr rfl|assumption):vM M A (storeName X.env x u) Q E s :=
 q7L I hN hi hx r (λs' I' _=>h s' I') hf
theorem Inv.call'{s':vF}{ch:List vC}(I:Inv X pins σ H s)(ho:s'.os=s.os)(u:Un (frs X.stack) ch H H' s.heap s'.heap)(hok:HOk X.prog X.w H' s'.heap)(hg:ux s'.gens)(hch:∀b∈ch,(b∈X.ex\/X.s₀.heap.objs.size<=b)/\b≠X.env.locals/\(∀x c,X.env.cells.lookup x=some c->c≠b)/\∀p∈X.pn++pins,p.1≠b):Inv X pins σ H' s':=by
 obtain⟨h',g',d',t',o'⟩:=s';have e:o'=s.os:=ho;subst e;exact I.call (g':=g') (t':=t') (d':=d') u hok hg hch
end
abbrev XK:=vB->Option vC->Hp->Prop
noncomputable abbrev St:=List (Option V)
abbrev VK:=V->Hp->Prop
abbrev TE:=St->Hp->VK->Prop
abbrev TT:=St->Hp->(Bool->Hp->Prop)->Prop
abbrev TA:=St->Hp->(List V->Hp->Prop)->Prop
structure Ends where
 nx:St->Hp->Prop
 rt:VK
 bk:St->Hp->Prop:=λ_ _=>False
 ct:St->Hp->Prop:=λ_ _=>False
abbrev TS:=Ends->St->Hp->Prop
def EP(X:Cx)(pins:List (vC×Obj))(σ:St)(Q:VK)(u:vB)(s':vF):Prop:=∃v H',Inv X pins σ H' s'/\RelV v u/\Q v H'
def TP(X:Cx)(pins:List (vC×Obj))(σ:St)(Q:Bool->Hp->Prop)(b:Bool)(s':vF):Prop:=∃H',Inv X pins σ H' s'/\Q b H'
def AP(X:Cx)(pins:List (vC×Obj))(σ:St)(Q:List V->Hp->Prop)(us:List vB)(s':vF):Prop:=∃vs H',Inv X pins σ H' s'/\Yf vs us/\Q vs H'
def SP(X:Cx)(pins:List (vC×Obj))(D:Ends)(f:Flow)(s':vF):Prop :=
 match f with
 | .next=>∃σ' H',Inv X pins σ' H' s'/\D.nx σ' H'
 | .brk=>∃σ' H',Inv X pins σ' H' s'/\D.bk σ' H'
 | .cont=>∃σ' H',Inv X pins σ' H' s'/\D.ct σ' H'
 | .ret u=>∃v σ' H',Inv X pins σ' H' s'/\RelV v u/\D.rt v H'
def PE(X:Cx)(e:vP)(t:TE):Prop :=
 ∀(pins:List (vC×Obj))(s:vF)(σ:St)(H:Hp)(Q:VK),Inv X pins σ H s->t σ H Q->vM (model X.prog X.w) X.A (eval e X.env) (EP X pins σ Q) X.xe s
def PT(X:Cx)(e:vP)(t:TT):Prop :=
 ∀(pins:List (vC×Obj))(s:vF)(σ:St)(H:Hp)(Q:Bool->Hp->Prop),Inv X pins σ H s->t σ H Q->vM (model X.prog X.w) X.A (sA e X.env (eval e X.env)) (TP X pins σ Q) X.xe s
def PW(X:Cx)(e:vP)(t:TT):Prop :=
 ∀(whole:Sem vB)(pins:List (vC×Obj))(s:vF)(σ:St)(H:Hp)(Q:Bool->Hp->Prop),Inv X pins σ H s->t σ H Q->vM (model X.prog X.w) X.A (sA e X.env whole) (TP X pins σ Q) X.xe s
theorem PW.pt{X:Cx}{e:vP}{t:TT}(h:PW X e t):PT X e t:=h _
def PA(X:Cx)(es:List vP)(t:TA):Prop :=
 ∀(pos:Pos)(pins:List (vC×Obj))(s:vF)(σ:St)(H:Hp)(Q:List V->Hp->Prop),Inv X pins σ H s->t σ H Q->vM (model X.prog X.w) X.A (spliced (vn pos (vL es X.env))) (AP X pins σ Q) X.xe s
def PS(X:Cx)(st:vg)(t:TS):Prop :=
 ∀(pins:List (vC×Obj))(s:vF)(σ:St)(H:Hp)(D:Ends),Inv X pins σ H s->t D σ H->vM (model X.prog X.w) X.A (exec st X.env) (SP X pins D) X.xe s
def PSs(X:Cx)(st:List vg)(t:TS):Prop :=
 ∀(pins:List (vC×Obj))(s:vF)(σ:St)(H:Hp)(D:Ends),Inv X pins σ H s->t D σ H->vM (model X.prog X.w) X.A (execs st X.env) (SP X pins D) X.xe s
theorem thn{α:Type}{t:Sem α}{Q Q':α->vF->Prop}{M:Model}{A:vY}{E:vB->vF->Prop}{s:vF}(h:vM M A t Q E s)(hQ:∀a s,Q a s->Q' a s):vM M A t Q' E s:=vh h hQ λ_ _ x=>x
section
variable{X:Cx}
theorem bin{a b:vP}{ta tb:TE}(ha:PE X a ta)(hb:PE X b tb){pins:List (vC×Obj)}{s:vF}{σ:St}{H:Hp}{R:V->V->Hp->Prop}(I:Inv X pins σ H s)(h:ta σ H λx H1=>tb σ H1 λy H2=>R x y H2){α:Type}{Q:α->vF->Prop}{f:vB->vB->Sem α}(hf:∀v u s2 x y H2,Inv X pins σ H2 s2->RelV x v->RelV y u->R x y H2->vM (model X.prog X.w) X.A (f v u) Q X.xe s2):
  vM (model X.prog X.w) X.A (eval a X.env) (λv s₁=>vM (model X.prog X.w) X.A (eval b X.env) (λu s₂=>vM (model X.prog X.w) X.A (f v u) Q X.xe s₂) X.xe s₁) X.xe s:=by
 refine thn (ha pins s σ H _ I h) λv s1 ⟨x,H1,I1,r1,q1⟩=>?_;refine thn (hb pins s1 σ H1 _ I1 q1) λu s2 ⟨y,H2,I2,r2,q2⟩=>?_;exact hf v u s2 x y H2 I2 r1 r2 q2
noncomputable def Xh(i:Nat):TE:=λσ H Q=>∃v,σ[i]?=some (some v)/\Q v H
noncomputable def tC(v:V):TE:=λ_ H Q=>Q v H
theorem qi0{i:Nat}{x:Str}{pos:Pos}(hN:X.N[i]?=some x)(hv:Vis X.env.scope x)(hd:(x==("__debug__" : Str))=false:=by decide)(hcd:(x==("__classdict__" : Str))=false:=by decide):PE X (.Name x pos) (Xh i):=by
 intro pins s σ H Q I h;obtain⟨v,e,h⟩:=h;obtain⟨m,hn,hl⟩:=I.loc;obtain⟨u,r,l⟩:=hl i x v hN e hv;have fin:EP X pins σ Q u s:=⟨v,H,I,r,h⟩;rcases l with⟨hk,hm⟩|⟨hk,c,hc,hcell⟩
 ·exact wpAny_Name (tH I.ok.kind hk hn hm fin) hd
 ·rcases hk with hk|hk
  ·exact wpAny_Name (tT I.ok.kind hk hc hcell fin) hd
  ·exact wpAny_Name (wpAny_loadName_free I.ok.kind hk hc hcell fin hcd) hd
theorem qig{i j pos}:PE X (.Constant (.int i) j pos) (tC (.int i)):=λ_ _ _ H _ I h=>wpAny_Constant_int ⟨.int i,H,I.tok _,⟨_,rfl⟩,h⟩
theorem qjt{b j pos}:PE X (.Constant (.bool b) j pos) (tC (.bl b)):=λ_ _ _ H _ I h=>Constant_bool ⟨.bl b,H,I,rfl,h⟩
def Gl(X:Cx)(x:Str):Prop:=X.env.kindOf x=some .globalImplicit
theorem qbf{E:vB->vF->Prop}{pins:List (vC×Obj)}{s:vF}{σ:St}{H:Hp}{x:Str}{u:vB}{pos:Pos}{Q:vB->vF->Prop}(I:Inv X pins σ H s)(hg:Gl X x)(hm:X.mg x=some u)(h:Q u s)(hd:(x==("__debug__" : Str))=false:=by decide):vM (model X.prog X.w) X.A (eval (.Name x pos) X.env) Q E s :=
 Calls.Name_function_global I.ok.kind hg (Calls.loadGlobal_global (by rw[I.ok.glob];exact I.mod.glob.keeps I.bk) hm h) hd
theorem q0W{E:vB->vF->Prop}{pins:List (vC×Obj)}{s:vF}{σ:St}{H:Hp}{x:Str}{u:vB}{pos:Pos}{Q:vB->vF->Prop}(I:Inv X pins σ H s)(hg:Gl X x)(hm:X.mg x=none)(hv:vX x=some u)(h:Q u s)(hn:x ≠ "__name__" := by decide)(hd:(x==("__debug__" : Str))=false:=by decide):vM (model X.prog X.w) X.A (eval (.Name x pos) X.env) Q E s:=by
 obtain⟨mb,h1,h2⟩:=I.mod.blt;exact Calls.Name_function_global I.ok.kind hg (Calls.loadGlobal_builtin (by rw[I.ok.glob];exact I.mod.glob.keeps I.bk) hm (by rw[I.ok.blt];exact h1.keeps I.bk) ((h2 x hn).trans hv) h) hd
theorem qgU{x:Str}{v:V}{u:vB}{pos:Pos}(hg:Gl X x)(hm:X.mg x=some u)(r:RelV v u)(hd:(x==("__debug__" : Str))=false:=by decide):PE X (.Name x pos) (tC v) :=
 λ_ _ _ H _ I h=>qbf I hg hm ⟨v,H,I,r,h⟩ hd
theorem qhj{x:Str}{v:V}{u:vB}{pos:Pos}(hg:Gl X x)(hm:X.mg x=none)(hv:vX x=some u)(r:RelV v u)(hn:x ≠ "__name__" := by decide)(hd:(x==("__debug__" : Str))=false:=by decide):PE X (.Name x pos) (tC v) :=
 λ_ _ _ H _ I h=>q0W I hg hm hv ⟨v,H,I,r,h⟩ hn hd
variable{a b:vP}{ta tb:TE}{pos:Pos}
def PC(X:Cx)(op:t0)(a b:vP)(t:TE):Prop :=
 ∀(pins:List (vC×Obj))(s:vF)(σ:St)(H:Hp)(Q:VK),Inv X pins σ H s->t σ H Q ->
  vM (model X.prog X.w) X.A (eval a X.env) (λv s₁=>vM (model X.prog X.w) X.A (eval b X.env) (λu s₂=>vM (model X.prog X.w) X.A (uA op v u) (EP X pins σ Q) X.xe s₂) X.xe s₁) X.xe s
theorem zAO(b:vP){op:t0}(h:op≠.In)(h2:op≠.NotIn):vq op b=false:=by
 have e1:(op==CmpOp.In)=false:=by cases op <;> first|rfl|exact vN rfl h
 have e2:(op==CmpOp.NotIn)=false:=by cases op <;> first|rfl|exact vN rfl h2
 cases b <;> simp[vq,e1,e2]
noncomputable def tB(t:TE):TT:=λσ H Q=>t σ H λx H1=>∃c,x=.bl c/\Q c H1
theorem qiW{op:t0}{t:TE}(h:PC X op a b t)(h1:vq op b=false:=by first|exact zAO _ (by decide) (by decide)|rfl):PT X (.Compare a [op] [b] pos) (tB t):=by
 intro pins s σ H Q I hw;refine tE (thn (h pins s σ H _ I hw) λv s1 h1=>thn h1 λu s2 h2=>thn h2 λc s3 ⟨x,H1,I1,r1,q1⟩=>?_) h1;obtain⟨d,rfl,q⟩:=q1;cases r1;exact uD ⟨H1,I1,q⟩
variable{tA tB':TT}{rest:List vP}
noncomputable def tAnd(t u:TT):TT:=λσ H Q=>t σ H λc H1=>if c=true then u σ H1 Q else Q false H1
noncomputable def tOr(t u:TT):TT:=λσ H Q=>t σ H λc H1=>if c=true then Q true H1 else u σ H1 Q
noncomputable def tNot(t:TT):TT:=λσ H Q=>t σ H λc H1=>Q (!c) H1
theorem qhD(ha:PT X a tA):PW X (.BoolOp .And [a] pos) tA:=by
 intro wh pins s σ H Q I h;refine isTrue_and (thn (ha pins s σ H Q I h) λc s1 e=>?_);cases c with
 | true=>exact isTrue_and_nil e
 | false=>exact e
theorem qiO(ha:PT X a tA):PW X (.BoolOp .Or [a] pos) tA:=by
 intro wh pins s σ H Q I h;refine isTrue_or (thn (ha pins s σ H Q I h) λc s1 e=>?_);cases c with
 | false=>exact isTrue_or_nil e
 | true=>exact e
theorem qiw(ha:PT X a tA)(hb:PW X (.BoolOp .And (b::rest) pos) tB'):PW X (.BoolOp .And (a::b::rest) pos) (tAnd tA tB'):=by
 intro wh pins s σ H Q I h;refine isTrue_and (thn (ha pins s σ H _ I h) λc s1 ⟨H1,I1,q1⟩=>?_);cases c with
 | true=>exact hb wh pins s1 σ H1 Q I1 q1
 | false=>exact⟨H1,I1,q1⟩
theorem qjq(ha:PT X a tA)(hb:PW X (.BoolOp .Or (b::rest) pos) tB'):PW X (.BoolOp .Or (a::b::rest) pos) (tOr tA tB'):=by
 intro wh pins s σ H Q I h;refine isTrue_or (thn (ha pins s σ H _ I h) λc s1 ⟨H1,I1,q1⟩=>?_);cases c with
 | true=>exact⟨H1,I1,q1⟩
 | false=>exact hb wh pins s1 σ H1 Q I1 q1
theorem qiS(ha:PT X a tA):PT X (.UnaryOp .Not a pos) (tNot tA):=by
 intro pins s σ H Q I h;exact isTrue_not (ha pins s σ H (λc H1=>Q (!c) H1) I h)
noncomputable def tAndV(ta tb:TE):TE:=λσ H Q=>ta σ H λx H1=>∃c,x=.bl c/\if c=true then tb σ H1 Q else Q (.bl false) H1
noncomputable def tNotV(ta:TE):TE:=λσ H Q=>ta σ H λx H1=>∃c,x=.bl c/\Q (.bl (!c)) H1
theorem qin{op}{t:TE}(h:PE X a t):PE X (.BoolOp op [a] pos) t:=λpins s σ H Q I hw=>BoolOp_one (h pins s σ H Q I hw)
theorem qib(ha:PE X a ta)(hb:PE X (.BoolOp .And (b::rest) pos) tb):PE X (.BoolOp .And (a::b::rest) pos) (tAndV ta tb):=by
 intro pins s σ H Q I h;refine BoolOp_and (thn (ha pins s σ H _ I h) λv s1 ⟨x,H1,I1,r1,q1⟩=>?_);obtain⟨c,rfl,q1⟩:=q1;cases r1;refine uD ?_;cases c with
 | true=>exact hb pins s1 σ H1 Q I1 q1
 | false=>exact⟨.bl false,H1,I1,rfl,q1⟩
theorem qij(ha:PE X a ta):PE X (.UnaryOp .Not a pos) (tNotV ta):=by
 intro pins s σ H Q I h;refine UnaryOp_ (thn (ha pins s σ H _ I h) λv s1 ⟨x,H1,I1,r1,q1⟩=>?_);obtain⟨c,rfl,q1⟩:=q1;cases r1;exact not_of (uD ⟨.bl (!c),H1,I1,rfl,q1⟩)
noncomputable def tIf(t:TT)(ta tb:TE):TE:=λσ H Q=>t σ H λc H1=>if c=true then ta σ H1 Q else tb σ H1 Q
theorem qfq{c:vP}(hc:PT X c tA)(ha:PE X a ta)(hb:PE X b tb):PE X (.IfExp c a b pos) (tIf tA ta tb):=by
 intro pins s σ H Q I h;refine wpAny_IfExp (thn (hc pins s σ H _ I h) λd s1 ⟨H1,I1,q1⟩=>?_);cases d with
 | true=>exact ha pins s1 σ H1 Q I1 q1
 | false=>exact hb pins s1 σ H1 Q I1 q1
end
def SqL(K:zB)(H:Hp)(a:vC)(xs:List V):Prop :=
 Rd H a (.lst xs) \/
  ∃(o:Obj) (its:Array vB) (n:Nat),K.lookup a=some o/\o.cls=.type "list" /\ o.dict=none/\o.data=.seq its n/\its.size<=sizeLine/\Yf xs its.toList
def SqT(K:zB)(H:Hp)(a:vC)(xs:List V):Prop :=
 Rd H a (.tup xs) \/
  ∃(o:Obj) (its:Array vB) (n:Nat),K.lookup a=some o/\o.cls=.type "tuple" /\ o.data=.seq its n/\its.size<=sizeLine/\Yf xs its.toList
noncomputable def absV:vB->Option V
 | .none=>some .non
 | .bool b=>some (.bl b)
 | .int i _=>some (.int i)
 | .str x _=>some (.str x)
 | .bytes b _=>some (.byt b)
 | .float b _=>some (.flt b)
 | .ref a=>some (.ref a)
 | .type n=>some (.ty n)
 | _=>none
theorem RelV.abs{x:V}{u:vB}(r:RelV x u):absV u=some x:=by
 cases x with
 | non=>cases r;rfl
 | bl _=>cases r;rfl
 | int _=>obtain⟨t,rfl⟩:=r;rfl
 | str _=>obtain⟨t,rfl⟩:=r;rfl
 | byt _=>obtain⟨t,rfl⟩:=r;rfl
 | flt _=>obtain⟨t,rfl⟩:=r;rfl
 | ref _=>cases r;rfl
 | ty _=>cases r;rfl
theorem RelV.inj{x y:V}{u:vB}(r:RelV x u)(q:RelV y u):x=y:=z5 (r.abs.symm.trans q.abs)
theorem Yf.inj:∀{xs ys:List V}{us:List vB},Yf xs us->Yf ys us->xs=ys
 | _,_,_,.nil,.nil=>rfl
 | _,_,_,.cons r t,.cons r' t'=>by rw[r.inj r',Yf.inj t t']
section
variable{X:Cx}{pins:List (vC×Obj)}{σ:St}{H:Hp}{s:vF}{a:vC}{xs ys:List V}
theorem SqL.of{K:zB}(h:H a=some (.lst xs)):SqL K H a xs:=.inl (.inl h)
theorem SqT.of{K:zB}(h:H a=some (.tup xs)):SqT K H a xs:=.inl (.inl h)
theorem Inv.list(I:Inv X pins σ H s)(h:SqL X.K H a xs):∃its:List vB,Yf xs its/\PlainL s.heap a its.toArray/\xs.length<=sizeLine:=by
 rcases h with h|⟨o,its,n,hk,hc,hd,hs,hz,r⟩
 ·obtain⟨z,its,n,r,e⟩:=h.ok I.hok
  exact⟨its,r,⟨_,n,e,rfl,rfl,rfl⟩,z⟩
 ·refine⟨its.toList,r,⟨o,n,I.kIn a o hk,hc,hd,by simpa using hs⟩,?_⟩
  have e:=r.length;simp only[zQ]at e;omega
theorem Inv.tuple(I:Inv X pins σ H s)(h:SqT X.K H a xs):∃its:List vB,Yf xs its/\IsTup s.heap a its.toArray/\xs.length<=sizeLine:=by
 rcases h with h|⟨o,its,n,hk,hc,hs,hz,r⟩
 ·obtain⟨z,its,r,p⟩:=h.ok I.hok
  exact⟨its,r,p,z⟩
 ·refine⟨its.toList,r,⟨o,I.kIn a o hk,hc,n,by simpa using hs⟩,?_⟩
  have e:=r.length;simp only[zQ]at e;omega
theorem Inv.list_inj(I:Inv X pins σ H s)(h:SqL X.K H a xs)(h':SqL X.K H a ys):xs=ys:=by
 obtain⟨its,r,⟨o,n,e,_,_,d⟩,_⟩:=I.list h;obtain⟨its',r',⟨o',n',e',_,_,d'⟩,_⟩:=I.list h';rw[e]at e';cases e';rw[d]at d';injection d' with d1 _;have:its=its':=by simpa using vj YD d1
 subst this;exact r.inj r'
theorem Inv.tuple_inj(I:Inv X pins σ H s)(h:SqT X.K H a xs)(h':SqT X.K H a ys):xs=ys:=by
 obtain⟨its,r,⟨o,e,_,n,d⟩,_⟩:=I.tuple h;obtain⟨its',r',⟨o',e',_,n',d'⟩,_⟩:=I.tuple h';rw[e]at e';cases e';rw[d]at d';injection d' with d1 _;have:its=its':=by simpa using vj YD d1
 subst this;exact r.inj r'
end
noncomputable abbrev Cx.wish(X:Cx)(E:vB->vF->Prop):Cx:={ X with xe:=E }
noncomputable abbrev Cx.nox(X:Cx):Cx:=X.wish λ_ _=>False
theorem Cx.Ok.wish{X:Cx}(ok:X.Ok)(E:vB->vF->Prop):(X.wish E).Ok :=
 ⟨ok.mod,ok.kind,ok.glob,ok.blt,ok.above,ok.inj,ok.has,ok.cab,ok.hd,ok.frames,ok.stk,ok.exf,ok.bs,ok.bsz,ok.noex,ok.exfs,ok.funs,ok.frf⟩
theorem Cx.Ok.unwish{X:Cx}{E:vB->vF->Prop}(ok:(X.wish E).Ok):X.Ok :=
 ⟨ok.mod,ok.kind,ok.glob,ok.blt,ok.above,ok.inj,ok.has,ok.cab,ok.hd,ok.frames,ok.stk,ok.exf,ok.bs,ok.bsz,ok.noex,ok.exfs,ok.funs,ok.frf⟩
section
variable{X:Cx}{pins:List (vC×Obj)}{σ:St}{H:Hp}{s:vF}{E:vB->vF->Prop}
theorem Inv.wish(I:Inv X pins σ H s)(E:vB->vF->Prop):Inv (X.wish E) pins σ H s:=⟨I.ok.wish E,I.os,I.bare,I.base,I.loc,I.cell,I.free,I.freeC,I.pin,I.hok,I.len⟩
theorem Inv.unwish(I:Inv (X.wish E) pins σ H s):Inv X pins σ H s:=⟨I.ok.unwish,I.os,I.bare,I.base,I.loc,I.cell,I.free,I.freeC,I.pin,I.hok,I.len⟩
theorem SP.unwish{D:Ends}{f:Flow}{s':vF}(h:SP (X.wish E) pins D f s'):SP X pins D f s':=by
 cases f with
 | next=>obtain⟨σ',H',I,q⟩:=h;exact⟨σ',H',I.unwish,q⟩
 | brk=>obtain⟨σ',H',I,q⟩:=h;exact⟨σ',H',I.unwish,q⟩
 | cont=>obtain⟨σ',H',I,q⟩:=h;exact⟨σ',H',I.unwish,q⟩
 | ret u=>obtain⟨v,σ',H',I,r,q⟩:=h;exact⟨v,σ',H',I.unwish,r,q⟩
theorem PSs.nox{st:List vg}{t:TS}(h:PSs X.nox st t):PSs X st t:=λpins s σ H D I hw=>
 vh (h pins s σ H D (I.wish _) hw) (λ_ _ q=>q.unwish) λ_ _ z=>False.elim z
end
section
variable{X:Cx}{st:vg}{rest:List vg}{t u:TS}{e:vP}{te:TE}{pos:Pos}
noncomputable def tNext:TS:=λD σ H=>D.nx σ H
noncomputable def tSeq(t u:TS):TS:=λD σ H=>t { D with nx:=u D } σ H
theorem qgT:PSs X [] tNext:=λ_ _ σ H _ I h=>ui ⟨σ,H,I,h⟩
theorem q2L(h1:PS X st t)(h2:PSs X rest u):PSs X (st::rest) (tSeq t u):=by
 intro pins s σ H D I h;refine wpAny_execs_cons (thn (h1 pins s σ H { D with nx:=u D } I h) λf s1 q=>?_);cases f with
 | next=>
  obtain⟨σ',H',I',q⟩:=q;exact h2 pins s1 σ' H' D I' q
 | ret v=>exact q
 | brk=>exact q
 | cont=>exact q
theorem q5i(h1:PS X st t):PSs X [st] t:=by
 intro pins s σ H D I h;refine wpAny_execs_cons (thn (h1 pins s σ H D I h) λf s1 q=>?_);cases f with
 | next=>exact ui q
 | ret v=>exact q
 | brk=>exact q
 | cont=>exact q
theorem Inv.quiet{pins:List (vC×Obj)}{σ:St}{H:Hp}{s:vF}(I:Inv X pins σ H s):interactive X.env=false:=by simp[interactive,I.ok.kind]
noncomputable def tDrop(te:TE):TS:=λD σ H=>te σ H λ_ H1=>D.nx σ H1
theorem q3X(he:PE X e te)(hs:vv e none pos.line X.env=pure false:=by rfl):PS X (.Expr e pos) (tDrop te):=by
 intro pins s σ H D I h;exact wpAny_Expr_any (thn (he pins s σ H _ I h) λv s1 ⟨x,H1,I1,r1,q1⟩=>⟨σ,H1,I1,q1⟩) I.quiet hs
noncomputable def tRet(te:TE):TS:=λD σ H=>te σ H D.rt
theorem q9W(he:PE X e te):PS X (.Return (some e) pos) (tRet te):=by
 intro pins s σ H D I h;exact wpAny_Return_some (thn (he pins s σ H _ I h) λv s1 ⟨x,H1,I1,r1,q1⟩=>⟨x,σ,H1,I1,r1,q1⟩)
noncomputable def tIfS(c:TT)(t u:TS):TS:=λD σ H=>c σ H λb H1=>if b=true then t D σ H1 else u D σ H1
theorem qj3{c:vP}{a b:List vg}{tc:TT}(hc:PT X c tc)(ha:PSs X a t)(hb:PSs X b u):PS X (.If c a b pos) (tIfS tc t u):=by
 intro pins s σ H D I h;refine wpAny_If (thn (hc pins s σ H _ I h) λd s1 ⟨H1,I1,q1⟩=>?_);cases d with
 | true=>exact ha pins s1 σ H1 D I1 q1
 | false=>exact hb pins s1 σ H1 D I1 q1
noncomputable def tNever:TS:=λ_ _ _=>False
theorem qeW:PS X st tNever:=λ_ _ _ _ _ _ h=>h.elim
end
abbrev TG:=V->St->Hp->(St->Hp->Prop)->Prop
abbrev TGs:=List V->St->Hp->(St->Hp->Prop)->Prop
def PG(X:Cx)(target:vP)(t:TG):Prop :=
 ∀(pins:List (vC×Obj))(s:vF)(σ:St)(H:Hp)(v:V)(u:vB)(Q:St->Hp->Prop),Inv X pins σ H s->RelV v u->t v σ H Q ->
  vM (model X.prog X.w) X.A (assign target X.env u) (λ_ s'=>∃σ' H',Inv X pins σ' H' s'/\Q σ' H') X.xe s
def PGs(X:Cx)(ts:List vP)(t:TGs):Prop :=
 ∀(pins:List (vC×Obj))(s:vF)(σ:St)(H:Hp)(vs:List V)(us:List vB)(Q:St->Hp->Prop),Inv X pins σ H s->Yf vs us->t vs σ H Q ->
  vM (model X.prog X.w) X.A (assignInOrder ((uE ts X.env).map (·.2)) us) (λ_ s'=>∃σ' H',Inv X pins σ' H' s'/\Q σ' H') X.xe s
abbrev TSet:=V->V->V->Hp->(Hp->Prop)->Prop
def PSet(X:Cx)(t:TSet):Prop :=
 ∀(pins:List (vC×Obj))(s:vF)(σ:St)(H:Hp)(o i v:V)(ov iv u:vB)(Q:Hp->Prop),Inv X pins σ H s->RelV o ov->RelV i iv->RelV v u->t o i v H Q ->
  vM (model X.prog X.w) X.A (setItem ov iv u) (λ_ s'=>∃H',Inv X pins σ H' s'/\Q H') X.xe s
abbrev TIp:=V->V->Hp->VK->Prop
def PIp(X:Cx)(op:tZ)(t:TIp):Prop :=
 ∀(pins:List (vC×Obj))(s:vF)(σ:St)(H:Hp)(x y:V)(v u:vB)(Q:VK),Inv X pins σ H s->RelV x v->RelV y u->t x y H Q ->
  vM (model X.prog X.w) X.A (inplaceOp op v u) (EP X pins σ Q) X.xe s
section
variable{X:Cx}{pos:Pos}
noncomputable def W7(i:Nat):TG:=λv σ H Q=>Q (σ.set i (some v)) H
theorem q6Z{i:Nat}{x:Str}(hN:X.N.Nodup)(hi:X.N[i]?=some x)(hx:Loc X.env.scope x)(hf:X.fn x=true\/X.env.scope.names.lookup x=some .local:=by first|exact .inl rfl|exact .inr rfl|assumption):PG X (.Name x pos) (W7 i):=by
 intro pins s σ H v u Q I r h;exact wpAny_assign_Name (q5Y I hN hi hx r (λs' I'=>⟨_,H,I',h⟩) hf)
noncomputable def gNil:TGs:=λvs σ H Q=>vs=[]/\Q σ H
noncomputable def gCons(t:TG)(u:TGs):TGs:=λvs σ H Q=>∃v r,vs=v::r/\t v σ H λσ' H'=>u r σ' H' Q
theorem qgK:PGs X [] gNil:=by
 intro pins s σ H vs us Q I r h;obtain⟨e,h⟩:=h;subst e;cases r;exact assignInOrder_nil ⟨σ,H,I,h⟩
theorem qeU{e:vP}{es:List vP}{t:TG}{u:TGs}(h1:PG X e t)(h2:PGs X es u)(hs:(uE (e::es) X.env).map (·.2)=assign e X.env::(uE es X.env).map (·.2):=by rfl):PGs X (e::es) (gCons t u):=by
 intro pins s σ H vs us Q I r h;obtain⟨v,vr,e1,h⟩:=h;subst e1;cases r with
 | cons r rr=>
  rw[hs];refine assignInOrder_cons (thn (h1 pins s σ H _ _ _ I r h) λ_ s1 ⟨σ1,H1,I1,q1⟩=>?_);exact h2 pins s1 σ1 H1 _ _ Q I1 rr q1
noncomputable def gTup(K:zB)(n:Nat)(t:TGs):TG:=λv σ H Q=>∃a xs,v=.ref a/\SqT K H a xs/\xs.length=n/\t xs σ H Q
theorem qiJ{es:List vP}{k:Nat}{t:TGs}{n:Nat}(hc:X.calm=true)(h:PGs X es t)(hn:(uE es X.env).length=n:=by rfl)(hst:(uE es X.env).findIdx? (·.1)=none:=by rfl):PG X (.Tuple es k pos) (gTup X.K n t):=by
 intro pins s σ H v u Q I r hw;obtain⟨a,xs,e1,hq,hl,hw⟩:=hw;subst e1;cases r;obtain⟨its,rv,ht,hz⟩:=I.tuple hq;refine assign_Tuple_tuple (I.ok.hd hc) ht (by simp[hn,<- hl,rv.length]) hst λh' hx=>?_;have I1:Inv X pins σ H { s with heap:=h' }:=I.kept (t':=s.toks) λb o e=>hx b o (zo (zP e)) e;exact h pins _ σ H xs _ Q I1 ⇑rv hw
noncomputable def gSub(to ti:TE)(t:TSet):TG:=λv σ H Q=>to σ H λo H1=>ti σ H1 λi H2=>t o i v H2 λH3=>Q σ H3
theorem qir{o i:vP}{to ti:TE}{t:TSet}(ho:PE X o to)(hi:PE X i ti)(hs:PSet X t)(ha:∀v,assign (.Subscript o i pos) X.env v=(do
   let ov <- holding [v] (eval o X.env)
   let iv <- holding [v,ov] (eval i X.env)
   t9 pos
   holding [v,ov,iv] (setItem ov iv v)
   release [v,ov,iv] []):=by intro _;rfl):PG X (.Subscript o i pos) (gSub to ti t):=by
 intro pins s σ H v u Q I r h;rw[ha];refine vA (vc (thn (ho pins s σ H _ I h) λov s1 ⟨x,H1,I1,r1,q1⟩=>?_));refine vA (vc (thn (hi pins s1 σ H1 _ I1 q1) λiv s2 ⟨y,H2,I2,r2,q2⟩=>?_));refine vA (uz (vA (vc (thn (hs pins s2 σ H2 x y v ov iv u _ I2 r1 r2 r q2) λ_ s3 ⟨H3,I3,q3⟩=>?_))));exact wpAny_release ⟨σ,H3,I3,q3⟩
noncomputable def tAsg(te:TE)(g:TG):TS:=λD σ H=>te σ H λx H1=>g x σ H1 D.nx
theorem qic{tg e:vP}{te:TE}{g:TG}(he:PE X e te)(hg:PG X tg g)(hs:swapsWithSole [tg] e pos.line X.env=pure false:=by rfl)(hw:swappedStores [tg] e X.env=pure none:=by rfl)(h1:(uE [tg] X.env).map (·.2)=[assign tg X.env]:=by rfl):PS X (.Assign [tg] e pos) (tAsg te g):=by
 intro pins s σ H D I h;refine wpAny_Assign_stores (thn (he pins s σ H _ I h) λv s1 ⟨x,H1,I1,r1,q1⟩=>?_) hs hw;rw[h1];exact thn (hg pins s1 σ H1 x v _ I1 r1 q1) λ_ s2 q=>q
theorem q55{i:Nat}{x:Str}{e:vP}{te:TE}{pos':Pos}(hN:X.N.Nodup)(hi:X.N[i]?=some x)(hx:Loc X.env.scope x)(he:PE X e te)(hs:vv e (some (.Name x pos')) pos.line X.env=pure false:=by rfl)(hf:X.fn x=true\/X.env.scope.names.lookup x=some .local:=by first|exact .inl rfl|exact .inr rfl|assumption):
  PS X (.Assign [.Name x pos'] e pos) (tAsg te (W7 i)):=by
 intro pins s σ H D I h;refine wpAny_Assign_Name (thn (he pins s σ H _ I h) λv s1 ⟨y,H1,I1,r1,q1⟩=>?_) hs;exact q5Y I1 hN hi hx r1 (λs2 I2=>⟨_,H1,I2,q1⟩) hf
noncomputable def tAug(i:Nat)(te:TE)(ti:TIp):TS:=λD σ H=>∃x,σ[i]?=some (some x)/\te σ H λy H1=>ti x y H1 λz H2=>D.nx (σ.set i (some z)) H2
theorem qiM{i:Nat}{x:Str}{e:vP}{te:TE}{op:tZ}{ti:TIp}{pos':Pos}(hN:X.N.Nodup)(hi:X.N[i]?=some x)(hx:Loc X.env.scope x)(he:PE X e te)(ho:PIp X op ti)(hf:X.fn x=true\/X.env.scope.names.lookup x=some .local:=by first|exact .inl rfl|exact .inr rfl|assumption):
  PS X (.AugAssign (.Name x pos') op e pos) (tAug i te ti):=by
 intro pins s σ H D I h;obtain⟨v,e1,h⟩:=h;obtain⟨m,hn,hl⟩:=I.loc;have vis:Vis X.env.scope x:=by rcases hx with k|k;exact .inl k;exact .inr (.inl k)
 obtain⟨u,r,l⟩:=hl i x v hi e1 vis;refine wpAny_AugAssign_Name ?_;have go:vM (model X.prog X.w) X.A (eval e X.env) (λw s₂=>vM (model X.prog X.w) X.A (inplaceOp op u w) (λr s₃=>vM (model X.prog X.w) X.A (storeName X.env x r) (λ_=>SP X pins D .next) X.xe s₃) X.xe s₂) X.xe s:=by
  refine thn (he pins s σ H _ I h) λw s1 ⟨y,H1,I1,r1,q1⟩=>?_;refine thn (ho pins s1 σ H1 v y u w _ I1 r r1 q1) λz s2 ⟨zv,H2,I2,r2,q2⟩=>?_;exact q5Y I2 hN hi hx r2 (λs3 I3=>⟨_,H2,I3,q2⟩) hf
 rcases l with⟨hk,hm⟩|⟨hk,c,hc,hcell⟩
 ·exact tH I.ok.kind hk hn hm go
 ·rcases hk with hk|hk
  ·exact tT I.ok.kind hk hc hcell go
  ·rcases hx with k|k
   ·have:X.env.scope.names.lookup x=some .free:=hk
    rw[k]at this;cases this
   ·have:X.env.scope.names.lookup x=some .free:=hk
    rw[k]at this;cases this
noncomputable def ipI(f:Int->Int->Int):TIp:=λx y H Q=>∃i j,x=.int i/\y=.int j/\Q (.int (f i j)) H
theorem qi3:PIp X .Add (ipI λi j=>i+j):=by
 intro pins s σ H x y v u Q I r1 r2 h;obtain⟨i,j,e1,e2,q⟩:=h;subst e1;subst e2;obtain⟨t,rfl⟩:=r1;obtain⟨t',rfl⟩:=r2;exact iadd_int ⟨.int _,H,I.tok _,⟨_,rfl⟩,q⟩
end
section
variable{X:Cx}{pos:Pos}
noncomputable def zAQ(c:TT)(tb:TS):TS:=λD σ H=>∃W:Nat->St->Hp->Prop,(∃m,W m σ H)/\∀m σ H,W m σ H ->
 c σ H λb H1=>if b=true then ∃N:St->Hp->Prop,(∀σ' H',N σ' H'->∃m',m'<m/\W m' σ' H')/\tb { D with nx:=N,ct:=N,bk:=D.nx } σ H1 else D.nx σ H1
theorem qff{c:vP}{body:List vg}{tc:TT}{tb:TS}(hp:tP (model X.prog X.w) X.A X.env X.xe)(hc:PT X c tc)(hb:PSs X body tb):PS X (.While c body [] pos) (zAQ tc tb):=by
 intro pins s σ H D I h;obtain⟨W,⟨m0,w0⟩,turn⟩:=h;refine wpAny_While (codeAny_whileLoop (λn s'=>∃σ' H',Inv X pins σ' H' s'/\W n σ' H') ?_ m0 ⟨σ,H,I,w0⟩);rintro n s1 ⟨σ1,H1,I1,w1⟩;refine uB hp (thn (hc pins s1 σ1 H1 _ I1 (turn n σ1 H1 w1)) λb s2 ⟨H2,I2,q2⟩=>?_);cases b with
 | true=>
  obtain⟨N,hN,q2⟩:=q2;rw[vH rfl];refine uB hp (thn (hb pins s2 σ1 H2 _ I2 q2) λf s3 q3=>?_);cases f with
  | next=>
   obtain⟨σ3,H3,I3,n3⟩:=q3;obtain⟨m',hm,w3⟩:=hN σ3 H3 n3;exact⟨m',hm,σ3,H3,I3,w3⟩
  | cont=>
   obtain⟨σ3,H3,I3,n3⟩:=q3;obtain⟨m',hm,w3⟩:=hN σ3 H3 n3;exact⟨m',hm,σ3,H3,I3,w3⟩
  | brk=>exact q3
  | ret v=>exact q3
 | false=>
  rw[vJ yN];exact ui ⟨σ1,H2,I2,q2⟩
end
structure It where
 go:Nat->Hp->Prop
 yld:Nat->Hp->V->Hp->Prop
 stop:Nat->Hp->Prop
def Xc(X:Cx)(pins:List (vC×Obj))(H:Hp)(b:vC):Prop :=
 H b=none/\b≠X.env.locals/\b∉X.fs/\(b∈X.ex\/X.s₀.heap.objs.size<=b)/\(∀x c,X.env.cells.lookup x=some c->c≠b)/\∀p∈X.pn++pins,p.1≠b
theorem Inv.fpOk{X:Cx}{pins:List (vC×Obj)}{σ:St}{H H':Hp}{s:vF}{b:vC}(I:Inv X pins σ H s)(hb:s.heap.objs.size<=b)(hn:H' b=none):Xc X pins H' b:=by
 refine⟨hn,xW (zt I.lt hb),I.nofs hb,.inr (yA I.sz hb),λx c e z=>?_,λp hp z=>?_⟩
 ·obtain⟨v,q⟩:=I.cell x c e
  exact vN (zt q.lt (by rw[z];exact hb)) (y8 _)
 ·exact vN (zt (zP (I.pin p hp).1) (by rw[z];exact hb)) (y8 _)
structure Turn (P:vO) (w:vU) (K:zB) (tg:vP) (J:It) (fp:List vC) (it:vC) (tn:Nat->vZ->Prop):Prop where
 mem:it∈fp
 obj:∀i h,tn i h->∀b∈fp,∃o,h.get? b=some o/\∀v,o.data≠.cell v
 keep:∀i h h',tn i h->(∀b∈fp,∀o,h.get? b=some o->h'.get? b=some o)->tn i h'
 item:∀(X:Cx),X.prog=P->X.w=w->X.K=K->X.calm=true->∀(i:Nat)(pins:List (vC×Obj))(s:vF)(σ:St)(H:Hp)(E:vB->vF->Prop),Inv X pins σ H s->(∀b∈fp,Xc X pins H b)->tn i s.heap->J.go i H ->
  vM (model P w) X.A (uG (.ref it)) (λr s1=>∃u,r=some u /\
   vM (model P w) X.A (uj tg (.ref it) u) (λ_ s2=>∃x H',Inv X pins σ H' s2/\RelV x u/\J.yld i H x H'/\tn (i+1) s2.heap/\∀b∈fp,H' b=none) E s1) E s
 done:∀(X:Cx),X.prog=P->X.w=w->X.K=K->X.calm=true->∀(i:Nat)(pins:List (vC×Obj))(s:vF)(σ:St)(H:Hp)(E:vB->vF->Prop),Inv X pins σ H s->(∀b∈fp,Xc X pins H b)->tn i s.heap->J.stop i H ->
  vM (model P w) X.A (uG (.ref it)) (λr s1=>r=none/\Inv X pins σ H s1) E s
 self:∀(A:vY)(i:Nat)(s:vF)(Q:vB->vF->Prop)(E:vB->vF->Prop),tn i s.heap->Q (.ref it) s->vM (model P w) A (sB (.ref it)) Q E s
abbrev TI:=St->Hp->(It->Hp->Prop)->Prop
def PIE(X:Cx)(pins:List (vC×Obj))(σ:St)(tg:vP)(R:It->Hp->Prop)(itv:vB)(s2:vF):Prop :=
 ∃(it:vC) (fp:List vC) (tn:Nat->vZ->Prop) (J:It) (H':Hp),itv=.ref it/\Inv X pins σ H' s2/\Turn X.prog X.w X.K tg J fp it tn/\tn 0 s2.heap/\(∀b∈fp,Xc X pins H' b)/\R J H'
def PI(X:Cx)(tg iter:vP)(wi:TI):Prop :=
 ∀(pins:List (vC×Obj))(s:vF)(σ:St)(H:Hp)(R:It->Hp->Prop),Inv X pins σ H s->wi σ H R ->
  vM (model X.prog X.w) X.A (eval iter X.env) (λv s1=>vM (model X.prog X.w) X.A (sB v) (PIE X pins σ tg R) X.xe s1) X.xe s
theorem q8k{M:Model}{A:vY}{E:vB->vF->Prop}{s:vF}{tg:vP}{it:vC}{u:vB}{o:Obj}{n:String}{vs:Array vB}{Q:Unit->vF->Prop}(ho:s.heap.get? it=some o)(hc:o.cls=.type n)(hd:o.data=.fields vs)(hn:["enumerate", "zip", "dict_itemiterator", "dict_reverseitemiterator", "odict_iterator", "itertools.zip_longest", "itertools.pairwise"].contains n=false)(hQ:Q () s):vM M A (uj tg (.ref it) u) Q E s:=by
 unfold uj;cases tg <;> first
  | exact vG hQ
  | (cases u <;> first
    | exact vG hQ
    | (refine vA (wpAny_load ho ?_)
       rw[hc,hd];show vM M A (if (["enumerate", "zip", "dict_itemiterator", "dict_reverseitemiterator", "odict_iterator", "itertools.zip_longest", "itertools.pairwise"].contains n&&vs[0]?==some (uI _))=true then _ else _) Q E s;rw[vJ (by intro h;rw[hn,w8]at h;cases h)];exact vG hQ))
noncomputable def Itl(K:zB)(a:vC):It :=
 ⟨λi H=>∃xs x,SqL K H a xs/\xs[i]?=some x,λi H x H'=>H'=H/\∀xs,SqL K H a xs->xs[i]?=some x,λi H=>∃xs,SqL K H a xs/\xs.length<=i⟩
noncomputable def Itt(K:zB)(a:vC):It :=
 ⟨λi H=>∃xs x,SqT K H a xs/\xs[i]?=some x,λi H x H'=>H'=H/\∀xs,SqT K H a xs->xs[i]?=some x,λi H=>∃xs,SqT K H a xs/\xs.length<=i⟩
noncomputable def Itr(lo:Int)(n:Nat):It:=⟨λi _=>i<n,λi H x H'=>H'=H/\x=.int (lo+i),λi _=>n<=i⟩
theorem qdD{P:vO}{w:vU}{K:zB}{tg:vP}(a it:vC):Turn P w K tg (Itl K a) [it] it (λi h=>h.IsListIter it a i) where
 mem:=by simp
 obj:=λi h st b hb=>by
  have e:b=it:=by simpa using hb
  subst e;obtain⟨o,e,c,d⟩:=st;exact⟨o,e,λv z=>by rw[d]at z;cases z⟩
 keep:=λi h h' st k=>st.at λo e=>k it (by simp) o e
 item:=by
  intro X hP hw hK hc i pins s σ H E I hf st hg;subst hP hw hK;obtain⟨xs,x,hq,hx⟩:=hg;obtain⟨its,rv,p,hz⟩:=I.list hq;obtain⟨u,hu,ru⟩:=rv.get hx;obtain⟨f0,f1,f2,f3,f4,f5⟩:=hf it (by simp);refine wpAny_pyNext_list_item st p.isList (x:=u) ⇑hu λh' st' sb=>?_;have I1:Inv X pins σ H { s with heap:=h' }:=I.turned (t':=s.toks) (λb o hb e=>(sb.2 b hb).trans e) f0 f1 f3 f4 f5;obtain⟨o,e,c,d⟩:=id st';exact⟨u,rfl,q8k (s:={ s with heap:=h' }) e c d (by decide) ⟨x,H,I1,ru,⟨rfl,λys hy=>by rw[I.list_inj hy hq];exact hx⟩,st',λb hb=>(hf b hb).1⟩⟩
 done:=by
  intro X hP hw hK hc i pins s σ H E I hf st hg;subst hP hw hK;obtain⟨xs,hq,hx⟩:=hg;obtain⟨its,rv,p,hz⟩:=I.list hq;obtain⟨f0,f1,f2,f3,f4,f5⟩:=hf it (by simp);have hl:=rv.length;exact wpAny_pyNext_list_end (I.ok.hd hc) st p.isList (by simp;omega) λh' eb=>⟨rfl,I.turned (t':=s.toks) (λb o hb e=>eb b o hb e) f0 f1 f3 f4 f5⟩
 self:=λ_ _ _ _ _ st h=>wpAny_pyIter_listiter st h
theorem qc1{P:vO}{w:vU}{K:zB}{tg:vP}(a it:vC):Turn P w K tg (Itt K a) [it] it (λi h=>h.IsTupleIter it a i) where
 mem:=by simp
 obj:=λi h st b hb=>by
  have e:b=it:=by simpa using hb
  subst e;obtain⟨o,e,c,d⟩:=st;exact⟨o,e,λv z=>by rw[d]at z;cases z⟩
 keep:=λi h h' st k=>st.at λo e=>k it (by simp) o e
 item:=by
  intro X hP hw hK hc i pins s σ H E I hf st hg;subst hP hw hK;obtain⟨xs,x,hq,hx⟩:=hg;obtain⟨its,rv,p,hz⟩:=I.tuple hq;obtain⟨u,hu,ru⟩:=rv.get hx;obtain⟨f0,f1,f2,f3,f4,f5⟩:=hf it (by simp);refine wpAny_pyNext_tuple_item st (show s.heap.IsTuple a its.toArray from p) (x:=u) ⇑hu λh' st' sb=>?_;have I1:Inv X pins σ H { s with heap:=h' }:=I.turned (t':=s.toks) (λb o hb e=>(sb.2 b hb).trans e) f0 f1 f3 f4 f5;obtain⟨o,e,c,d⟩:=id st';exact⟨u,rfl,q8k (s:={ s with heap:=h' }) e c d (by decide) ⟨x,H,I1,ru,⟨rfl,λys hy=>by rw[I.tuple_inj hy hq];exact hx⟩,st',λb hb=>(hf b hb).1⟩⟩
 done:=by
  intro X hP hw hK hc i pins s σ H E I hf st hg;subst hP hw hK;obtain⟨xs,hq,hx⟩:=hg;obtain⟨its,rv,p,hz⟩:=I.tuple hq;obtain⟨f0,f1,f2,f3,f4,f5⟩:=hf it (by simp);have hl:=rv.length;exact wpAny_pyNext_tuple_end (I.ok.hd hc) st (show s.heap.IsTuple a its.toArray from p) (by simp;omega) λh' eb=>⟨rfl,I.turned (t':=s.toks) (λb o hb e=>eb b o hb e) f0 f1 f3 f4 f5⟩
 self:=λ_ _ _ _ _ st h=>wpAny_pyIter_tupleiter st h
theorem qcC{P:vO}{w:vU}{K:zB}{tg:vP}(it:vC)(lo:Int)(n:Nat):Turn P w K tg (Itr lo n) [it] it (λi h=>IsRangeIter h it (lo+(i:Nat)*1) ((n:Int)-(i:Nat)) 1) where
 mem:=by simp
 obj:=λi h st b hb=>by
  have e:b=it:=by simpa using hb
  subst e;exact⟨_,st,λv z=>by
   have z':Data.fields _=Data.cell v:=z;cases z'⟩
 keep:=λi h h' st k=>k it (by simp) _ st
 item:=by
  intro X hP hw hK hc i pins s σ H E I hf st hg;subst hP hw hK;obtain⟨f0,f1,f2,f3,f4,f5⟩:=hf it (by simp);have W:=Walks.range (prog:=X.prog) (w:=X.w) (I.ok.hd hc) it lo 1 n;refine W.item i s _ _ hg st λv h' tk hv st' kk=>?_;obtain⟨t,rfl⟩:=hv;have I1:Inv X pins σ H { s with heap:=h',toks:=tk }:=I.turned (λb o hb e=>kk b o (by simpa using hb) e) f0 f1 f3 f4 f5;refine⟨_,rfl,q8k (s:={ s with heap:=h',toks:=tk }) (n := "range_iterator") st' rfl rfl (by decide) ⟨.int (lo+i),H,I1,⟨t,?_⟩,⟨rfl,rfl⟩,st',λb hb=>(hf b hb).1⟩⟩;rw[xQ]
 done:=by
  intro X hP hw hK hc i pins s σ H E I hf st hg;subst hP hw hK;obtain⟨f0,f1,f2,f3,f4,f5⟩:=hf it (by simp);exact wpAny_pyNext_range_end (I.ok.hd hc) st (by have:n<=i:=hg;omega) λh' eb=>⟨rfl,I.turned (t':=s.toks) (λb o hb e=>eb b o hb e) f0 f1 f3 f4 f5⟩
 self:=λ_ _ _ _ _ st h=>wpAny_pyIter_rangeiter st h
section
variable{X:Cx}{tg:vP}
noncomputable def iList(K:zB)(tl:TE):TI:=λσ H R=>tl σ H λx H1=>∃a,x=.ref a/\(∃xs,SqL K H1 a xs)/\R (Itl K a) H1
noncomputable def iTup(K:zB)(tl:TE):TI:=λσ H R=>tl σ H λx H1=>∃a,x=.ref a/\(∃xs,SqT K H1 a xs)/\R (Itt K a) H1
theorem q6Y{l:vP}{tl:TE}(hl:PE X l tl):PI X tg l (iList X.K tl):=by
 intro pins s σ H R I h;refine thn (hl pins s σ H _ I h) λv s1 ⟨x,H1,I1,r1,q1⟩=>?_;obtain⟨a,e,⟨xs,hq⟩,q⟩:=q1;subst e;cases r1;obtain⟨its,rv,p,hz⟩:=I1.list hq;refine uV p.isList ?_;refine⟨s1.heap.objs.size,[s1.heap.objs.size],_,_,H1,rfl,I1.kept (t':=s1.toks) λb o e=>zH _ e,qdD a _,⟨_,zT _ rfl,rfl,rfl⟩,λb hb=>?_,q⟩;have e:b=s1.heap.objs.size:=by simpa using hb
 subst e;exact I1.fpOk (zN _) (I1.hok.fresh (zN _))
theorem qiN{l:vP}{tl:TE}(hl:PE X l tl):PI X tg l (iTup X.K tl):=by
 intro pins s σ H R I h;refine thn (hl pins s σ H _ I h) λv s1 ⟨x,H1,I1,r1,q1⟩=>?_;obtain⟨a,e,⟨xs,hq⟩,q⟩:=q1;subst e;cases r1;obtain⟨its,rv,p,hz⟩:=I1.tuple hq;refine wpAny_pyIter_tuple (show s1.heap.IsTuple a its.toArray from p) ?_;refine⟨s1.heap.objs.size,[s1.heap.objs.size],_,_,H1,rfl,I1.kept (t':=s1.toks) λb o e=>zH _ e,qc1 a _,⟨_,zT _ rfl,rfl,rfl⟩,λb hb=>?_,q⟩;have e:b=s1.heap.objs.size:=by simpa using hb
 subst e;exact I1.fpOk (zN _) (I1.hok.fresh (zN _))
theorem q8C{pins:List (vC×Obj)}{σ:St}{H:Hp}{s:vF}{R:It->Hp->Prop}{E:vB->vF->Prop}{lo hi:Int}{t u v:Tok}{tk:Nat}(I:Inv X pins σ H s)(h1:-(2^62)<=lo)(h2:lo<2^62)(h3:-(2^62)<=hi)(h4:hi<2^62)(q:R (Itr lo (hi-lo).toNat) H):vM (model X.prog X.w) X.A (sB (.ref s.heap.objs.size)) (PIE X pins σ tg R) E { s with heap:=s.heap.push { cls:=.type "range", data:=.fields #[.int lo t,.int hi u,.int 1 v] },toks:=tk }:=by
 refine wpAny_pyIter_range (IsRange.new ..) (small_one h1 h2 h3 h4) ?_;have I1:Inv X pins σ H { s with heap:=s.heap.push { cls:=.type "range", data:=.fields #[.int lo t,.int hi u,.int 1 v] },toks:=tk }:=I.kept λb o e=>zH _ e;refine⟨(s.heap.push { cls:=.type "range", data:=.fields #[.int lo t,.int hi u,.int 1 v] }).objs.size,[(s.heap.push { cls:=.type "range", data:=.fields #[.int lo t,.int hi u,.int 1 v] }).objs.size],_,_,H,rfl,
  I1.kept (t':=tk) λb o e=>zH _ e,qcC _ lo (hi-lo).toNat,?_,λb hb=>?_,q⟩
 ·have e1:lo+((0:Nat):Int)*1=lo:=by simp
  have e2:(((hi-lo).toNat:Nat):Int)-((0:Nat):Int)=Builtin.Range.rangeSize lo hi 1:=by rw[rangeSize_one];split <;> omega
  show IsRangeIter _ _ (lo+((0:Nat):Int)*1) ((((hi-lo).toNat:Nat):Int)-((0:Nat):Int)) 1;rw[e1,e2];exact zT _ rfl
 ·have e:b=(s.heap.push { cls:=.type "range", data:=.fields #[.int lo t,.int hi u,.int 1 v] }).objs.size:=by simpa using hb
  subst e;exact I1.fpOk (zN _) (I1.hok.fresh (zN _))
noncomputable def iRng1(ta:TA):TI:=λσ H R=>ta σ H λvs H1=>∃j:Int,vs=[.int j]/\-(2^62)<=j/\j<2^62/\R (Itr 0 j.toNat) H1
noncomputable def iRng2(ta:TA):TI:=λσ H R=>ta σ H λvs H1=>∃i j:Int,vs=[.int i,.int j]/\(-(2^62)<=i/\i<2^62/\-(2^62)<=j/\j<2^62)/\R (Itr i (j-i).toNat) H1
theorem qdn{a:vP}{ta:TA}{p pos:Pos}(hg:Gl X "range")(hm:X.mg "range" = none)(ha:PA X [a] ta)(hs:vL [a] X.env=[(false,eval a X.env)]:=by rfl):PI X tg (.Call (.Name "range" p) [a] [] pos) (iRng1 ta):=by
 intro pins s σ H R I h;refine Call_ (q0W I hg hm boot_range (PyProof.Rows.callWith_type1 (thn (ha pos pins s σ H _ I h) λus s1 ⟨vs,H1,I1,r1,q1⟩=>?_) hs rfl));obtain⟨j,e,q1,q2,q⟩:=q1;subst e;cases r1 with
 | cons r rr=>
  cases rr;obtain⟨t,rfl⟩:=r;exact call_range_1 (q8C I1 ∅ ∅ q1 q2 ⇑q)
theorem qei{a b:vP}{ta:TA}{p pos:Pos}(hg:Gl X "range")(hm:X.mg "range" = none)(ha:PA X [a,b] ta)(hs:vL [a,b] X.env=[(false,eval a X.env),(false,eval b X.env)]:=by rfl)(hs2:vL [b] X.env=[(false,eval b X.env)]:=by rfl):
  PI X tg (.Call (.Name "range" p) [a,b] [] pos) (iRng2 ta):=by
 intro pins s σ H R I h;refine Call_ (q0W I hg hm boot_range (PyProof.Rows.callWith_type1 (thn (ha pos pins s σ H _ I h) λus s1 ⟨vs,H1,I1,r1,q1⟩=>?_) (by rw[hs,hs2]) (by rw[hs2];rfl)));obtain⟨i,j,e,⟨q1,q2,q3,q4⟩,q⟩:=q1;subst e;cases r1 with
 | cons r rr=>
  cases rr with
  | cons r' rr=>
   cases rr;obtain⟨t,rfl⟩:=r;obtain⟨t',rfl⟩:=r';exact call_range_2 (q8C I1 q1 q2 q3 q4 q)
noncomputable def tFor(wi:TI)(g:TG)(tb:TS):TS:=λD σ H=>wi σ H λJ H1=>∃W:Nat->Nat->St->Hp->Prop,(∃m,W 0 m σ H1)/\∀i m σ H,W i m σ H ->
 (J.stop i H/\D.nx σ H)\/(J.go i H/\∃N:St->Hp->Prop,(∀σ' H',N σ' H'->∃m',m'<m/\W (i+1) m' σ' H')/\∀x H',J.yld i H x H'->g x σ H' λσ2 H2=>tb { D with nx:=N,ct:=N,bk:=D.nx } σ2 H2)
noncomputable def X7(fp:List vC)(h:vZ):List (vC×Obj):=fp.filterMap λb=>(h.get? b).map λo=>(b,o)
theorem q2t{fp:List vC}{h:vZ}{b:vC}{o:Obj}(hb:b∈fp)(e:h.get? b=some o):(b,o)∈X7 fp h:=ZQ.mpr ⟨b,hb,by rw[e];rfl⟩
theorem qev{fp:List vC}{h:vZ}{p:vC×Obj}(hp:p∈X7 fp h):p.1∈fp/\h.get? p.1=some p.2:=by
 obtain⟨b,hb,e⟩:=ZQ.mp hp;cases q:h.get? b with
 | none=>rw[q]at e;cases e
 | some o=>
  rw[q]at e;have e':(b,o)=p:=z5 e;subst e';exact⟨hb,q⟩
theorem Inv.pinned{pins:List (vC×Obj)}{σ:St}{H:Hp}{s:vF}{fp:List vC}(I:Inv X pins σ H s)(hf:∀b∈fp,Xc X pins H b)(ho:∀b∈fp,∃o,s.heap.get? b=some o/\∀v,o.data≠.cell v):Inv X (pins++X7 fp s.heap) σ H s :=
 I.pins_of λp hp=>(zK.mp hp).elim (λz=>I.pin p (zJ _ z)) λz=>by
  obtain⟨hb,e⟩:=qev z;obtain⟨f0,f1,f2,_⟩:=hf p.1 hb;obtain⟨o,e',d⟩:=ho p.1 hb;rw[e]at e';cases e';exact⟨e,f0,f1,f2,d⟩
theorem Inv.unpinned{pins pl:List (vC×Obj)}{σ:St}{H:Hp}{s:vF}(I:Inv X (pins++pl) σ H s):Inv X pins σ H s:=I.pins_of λp hp=>I.pin p (zJ _ (zI _ hp))
theorem q9i{iter:vP}{body:List vg}{wi:TI}{g:TG}{tb:TS}{pos:Pos}(hp:tP (model X.prog X.w) X.A X.env X.xe)(hc:X.calm=true)(hi:PI X tg iter wi)(hg:PG X tg g)(hb:PSs X body tb)(hs:∀x,vt iter X.env x=pure x:=by intro _;rfl):PS X (.For tg iter body [] pos) (tFor wi g tb):=by
 intro pins s σ H D I h;refine wpAny_For (thn (hi pins s σ H _ I h) λv s1 h1=>thn h1 λitv s2 h2=>?_) hs;obtain⟨it,fp,tn,J,H2,e,I2,T,st2,f2,W,⟨m0,w0⟩,turn⟩:=h2;subst e;have stat:∀{H':Hp},(∀b∈fp,H' b=none)->∀b∈fp,Xc X pins H' b:=λhn b hb=>⟨hn b hb,(f2 b hb).2⟩;refine codeAny_forLoop_any (λn s'=>∃i σ' H',Inv X pins σ' H' s'/\tn i s'.heap/\(∀b∈fp,H' b=none)/\W i n σ' H') ?_ m0 ⟨0,σ,H2,I2,st2,λb hb=>(f2 b hb).1,w0⟩;rintro n s3 ⟨i,σ3,H3,I3,st3,fr3,w3⟩;rcases turn i n σ3 H3 w3 with⟨stop,qn⟩|⟨go,N,hN,step⟩
 ·refine uB hp (thn (T.done X rfl rfl rfl hc i pins s3 σ3 H3 X.xe I3 (stat fr3) st3 stop) λr s4 ⟨hr,I4⟩=>?_)
  subst hr;exact ui ⟨σ3,H3,I4,qn⟩
 ·refine uB hp (thn (T.item X rfl rfl rfl hc i pins s3 σ3 H3 X.xe I3 (stat fr3) st3 go) λr s4 ⟨u,hr,h4⟩=>?_)
  subst hr;refine uB hp (thn h4 λ_ s5 ⟨x,H5,I5,r5,y5,st5,fr5⟩=>?_);have I5':=I5.pinned (stat fr5) (T.obj _ _ st5);refine uB hp (thn (hg _ s5 σ3 H5 x u _ I5' r5 (step x H5 y5)) λ_ s6 ⟨σ6,H6,I6,q6⟩=>?_);refine uB hp (thn (hb _ s6 σ6 H6 _ I6 q6) λf s7 q7=>?_);have again:∀{σ7:St}{H7:Hp},Inv X (pins++X7 fp s5.heap) σ7 H7 s7->N σ7 H7->∃m,m<n/\∃i σ' H',Inv X pins σ' H' s7/\tn i s7.heap/\(∀b∈fp,H' b=none)/\W i m σ' H':=λ{σ7 H7} I7 n7=>by
   obtain⟨m',hm,w7⟩:=hN σ7 H7 n7;refine⟨m',hm,i+1,σ7,H7,I7.unpinned,T.keep _ _ _ st5 λb hb o e=>(I7.pin (b,o) (zJ _ (zJ _ (q2t hb e)))).1,λb hb=>?_,w7⟩;obtain⟨o,e,d⟩:=T.obj _ _ st5 b hb;exact(I7.pin (b,o) (zJ _ (zJ _ (q2t hb e)))).2.1
  cases f with
  | next=>obtain⟨σ7,H7,I7,n7⟩:=q7;exact again I7 n7
  | cont=>obtain⟨σ7,H7,I7,n7⟩:=q7;exact again I7 n7
  | brk=>obtain⟨σ7,H7,I7,q7⟩:=q7;exact⟨σ7,H7,I7.unpinned,q7⟩
  | ret v=>obtain⟨x7,σ7,H7,I7,r7,q7⟩:=q7;exact⟨x7,σ7,H7,I7.unpinned,r7,q7⟩
end
abbrev R2:=V->V->Hp->VK->Prop
def OpR(X:Cx)(f:vB->vB->Sem vB)(r:R2):Prop :=
 ∀(pins:List (vC×Obj))(s:vF)(σ:St)(H:Hp)(x y:V)(v u:vB)(Q:VK),Inv X pins σ H s->RelV x v->RelV y u->r x y H Q ->
  vM (model X.prog X.w) X.A (f v u) (EP X pins σ Q) X.xe s
def UnR(X:Cx)(f:vB->Sem vB)(r:V->Hp->VK->Prop):Prop :=
 ∀(pins:List (vC×Obj))(s:vF)(σ:St)(H:Hp)(x:V)(v:vB)(Q:VK),Inv X pins σ H s->RelV x v->r x H Q ->
  vM (model X.prog X.w) X.A (f v) (EP X pins σ Q) X.xe s
def XB(X:Cx)(f:vB)(r:List V->Hp->VK->Prop):Prop :=
 ∀(pins:List (vC×Obj))(s:vF)(σ:St)(H:Hp)(xs:List V)(us:List vB)(Q:VK),Inv X pins σ H s->Yf xs us->r xs H Q ->
  vM (model X.prog X.w) X.A (call f us) (EP X pins σ Q) X.xe s
def TruR(X:Cx)(r:V->Hp->(Bool->Hp->Prop)->Prop):Prop :=
 ∀(pins:List (vC×Obj))(s:vF)(σ:St)(H:Hp)(x:V)(v:vB)(Q:Bool->Hp->Prop),Inv X pins σ H s->RelV x v->r x H Q ->
  vM (model X.prog X.w) X.A (truthy v) (TP X pins σ Q) X.xe s
noncomputable def tOp(r:R2)(ta tb:TE):TE:=λσ H Q=>ta σ H λx H1=>tb σ H1 λy H2=>r x y H2 Q
noncomputable def tUn(r:V->Hp->VK->Prop)(ta:TE):TE:=λσ H Q=>ta σ H λx H1=>r x H1 Q
noncomputable def rI(C:Int->Int->Prop)(g:Int->Int->V):R2:=λx y H Q=>∃i j,x=.int i/\y=.int j/\C i j/\Q (g i j) H
noncomputable def rI0(g:Int->Int->V):R2:=λx y H Q=>∃i j,x=.int i/\y=.int j/\Q (g i j) H
def rU(g:Int->V):V->Hp->VK->Prop:=λx H Q=>∃i,x=.int i/\Q (g i) H
section
variable{X:Cx}{a b c:vP}{ta tb tc:TE}{pos:Pos}
theorem binT(ha:PE X a ta)(hb:PE X b tb){pins:List (vC×Obj)}{s:vF}{σ:St}{H:Hp}{R:V->V->Hp->Prop}(I:Inv X pins σ H s)(h:ta σ H λx H1=>tb σ H1 λy H2=>R x y H2){Q:vB->vF->Prop}{f:vB->vB->Sem vB}(hf:∀v u s2 x y H2,Inv X pins σ H2 s2->RelV x v->RelV y u->R x y H2->vM (model X.prog X.w) X.A (f v u) Q X.xe s2):
  vM (model X.prog X.w) X.A (eval a X.env) (λv s₁=>vM (model X.prog X.w) X.A (eval b X.env) (λu s₂=>vM (model X.prog X.w) X.A (f v u) Q X.xe s₂) X.xe s₁) X.xe s:=by
 refine thn (ha pins s σ H _ I h) λv s1 ⟨x,H1,I1,r1,q1⟩=>?_;refine thn (hb pins s1 σ H1 _ I1 q1) λu s2 ⟨y,H2,I2,r2,q2⟩=>?_;exact hf v u s2 x y H2 I2 r1 r2 q2
theorem qjn{op:tZ}{r:R2}(ho:OpR X (uK op) r)(ha:PE X a ta)(hb:PE X b tb):PE X (.BinOp a op b pos) (tOp r ta tb):=by
 intro pins s σ H Q I h;exact wpAny_BinOp (binT ha hb I h λv u s2 x y H2 I2 rx ry q=>ho pins s2 σ H2 x y v u Q I2 rx ry q)
theorem qj5{op:UnaryOp}{r:V->Hp->VK->Prop}(ho:UnR X (unaryOp op) r)(ha:PE X a ta):PE X (.UnaryOp op a pos) (tUn r ta):=by
 intro pins s σ H Q I h;exact UnaryOp_ (thn (ha pins s σ H _ I h) λv s1 ⟨x,H1,I1,r1,q1⟩=>ho pins s1 σ H1 x v Q I1 r1 q1)
theorem opI{f:vB->vB->Sem vB}{C:Int->Int->Prop}{g:Int->Int->Int}(rule:∀(i j:Int)(t u:Tok)(s:vF)(Q:vB->vF->Prop)(E:vB->vF->Prop),C i j->Q (.int (g i j) s.toks) { s with toks:=s.toks+1 }->vM (model X.prog X.w) X.A (f (.int i t) (.int j u)) Q E s):
  OpR X f (rI C λi j=>.int (g i j)):=by
 intro pins s σ H x y v u Q I rx ry h;obtain⟨i,j,rfl,rfl,hc,q⟩:=h;obtain⟨t,rfl⟩:=rx;obtain⟨t',rfl⟩:=ry;exact rule i j t t' s _ _ hc ⟨.int (g i j),H,I.tok _,⟨_,rfl⟩,q⟩
theorem opI0{f:vB->vB->Sem vB}{g:Int->Int->Int}(rule:∀(i j:Int)(t u:Tok)(s:vF)(Q:vB->vF->Prop)(E:vB->vF->Prop),Q (.int (g i j) s.toks) { s with toks:=s.toks+1 }->vM (model X.prog X.w) X.A (f (.int i t) (.int j u)) Q E s):
  OpR X f (rI0 λi j=>.int (g i j)):=by
 intro pins s σ H x y v u Q I rx ry h;obtain⟨i,j,rfl,rfl,q⟩:=h;obtain⟨t,rfl⟩:=rx;obtain⟨t',rfl⟩:=ry;exact rule i j t t' s _ _ ⟨.int (g i j),H,I.tok _,⟨_,rfl⟩,q⟩
theorem opB0{f:vB->vB->Sem vB}{g:Int->Int->Bool}(rule:∀(i j:Int)(t u:Tok)(s:vF)(Q:vB->vF->Prop)(E:vB->vF->Prop),Q (.bool (g i j)) s->vM (model X.prog X.w) X.A (f (.int i t) (.int j u)) Q E s):
  OpR X f (rI0 λi j=>.bl (g i j)):=by
 intro pins s σ H x y v u Q I rx ry h;obtain⟨i,j,rfl,rfl,q⟩:=h;obtain⟨t,rfl⟩:=rx;obtain⟨t',rfl⟩:=ry;exact rule i j t t' s _ _ ⟨.bl (g i j),H,I,rfl,q⟩
def CDiv(i j:Int):Prop:=0<j/\j<1073741824
def CPow(i j:Int):Prop:=0<=j/\j<=1000000/\i.natAbs<2^64
def CMul(i j:Int):Prop:=(-(2^64)<i/\i<2^64)\/(-(2^64)<j/\j<2^64)
theorem CMul.ok{i j:Int}(h:CMul i j):IntMulOk i j:=by
 rcases h with⟨h1,h2⟩|⟨h1,h2⟩
 ·exact .of_left (intBits_le_64 h1 h2)
 ·exact .of_right (intBits_le_64 h1 h2)
theorem qiG:OpR X (uK .Add) (rI0 λi j=>.int (i+j)):=opI0 λ_ _ _ _ _ _ _ q=>add_int q
theorem qiB:OpR X (uK .Sub) (rI0 λi j=>.int (i-j)):=opI0 λ_ _ _ _ _ _ _ q=>sub_int q
theorem qhZ:OpR X (uK .Mult) (rI CMul λi j=>.int (i*j)):=opI λ_ _ _ _ _ _ _ hc q=>mul_int q hc.ok
theorem qhf:OpR X (uK .FloorDiv) (rI CDiv λi j=>.int (i/j)):=opI λi j _ _ _ _ _ hc q=>by
 have h1:(0:Int)<j:=hc.1;have h2:j<1073741824:=hc.2;exact floordiv_int ∅ (by rw[Int.fdiv_eq_ediv_of_nonneg i ∅];exact q) (.inl (PyProof.noPylong_small ∅))
theorem qiZ:OpR X (uK .Mod) (rI (λ_ j=>0<j) λi j=>.int (i%j)):=opI λi j _ _ _ _ _ hc q=>by
 have h1:(0:Int)<j:=hc;exact mod_int' ∅ (by rw[Int.fmod_eq_emod_of_nonneg i ∅];exact q)
theorem qip:OpR X (uK .Pow) (rI CPow λi j=>.int (i^j.toNat)):=opI λ_ _ _ _ _ _ _ hc q=>pow_int_small hc.1 hc.2.1 hc.2.2 q
theorem unI{f:vB->Sem vB}{g:Int->Int}(rule:∀(i:Int)(t:Tok)(s:vF)(Q:vB->vF->Prop)(E:vB->vF->Prop),Q (.int (g i) s.toks) { s with toks:=s.toks+1 }->vM (model X.prog X.w) X.A (f (.int i t)) Q E s):
  UnR X f (rU λi=>.int (g i)):=by
 intro pins s σ H x v Q I rx h;obtain⟨i,rfl,q⟩:=h;obtain⟨t,rfl⟩:=rx;exact rule i t s _ _ ⟨.int (g i),H,I.tok _,⟨_,rfl⟩,q⟩
theorem qi2:UnR X (unaryOp .USub) (rU λi=>.int (-i)):=unI λ_ _ _ _ _ q=>neg_int q
end
section
variable{X:Cx}{a b c:vP}{ta tb tc:TE}{pos:Pos}
theorem qgo:OpR X (uA .Lt) (rI0 λi j=>.bl (decide (i<j))):=opB0 λ_ _ _ _ _ _ _ q=>lt_int q
theorem qj7:OpR X (uA .LtE) (rI0 λi j=>.bl (decide (i<=j))):=opB0 λ_ _ _ _ _ _ _ q=>le_int q
theorem qjd:OpR X (uA .Gt) (rI0 λi j=>.bl (decide (j<i))):=opB0 λ_ _ _ _ _ _ _ q=>gt_int q
theorem qj6:OpR X (uA .GtE) (rI0 λi j=>.bl (decide (j<=i))):=opB0 λ_ _ _ _ _ _ _ q=>ge_int q
theorem OpR.or{f:vB->vB->Sem vB}{r r':R2}(h:OpR X f r)(h':OpR X f r'):OpR X f (λx y H Q=>r x y H Q\/r' x y H Q):=by
 intro pins s σ H x y v u Q I rx ry q;rcases q with q|q
 ·exact h pins s σ H x y v u Q I rx ry q
 ·exact h' pins s σ H x y v u Q I rx ry q
theorem XY(b:vP){op:t0}(h:op≠.In:=by decide)(h2:op≠.NotIn:=by decide):vq op b=false:=by
 have e1:(op==CmpOp.In)=false:=by cases op <;> first|rfl|exact vN rfl h
 have e2:(op==CmpOp.NotIn)=false:=by cases op <;> first|rfl|exact vN rfl h2
 cases b <;> simp[vq,e1,e2]
theorem qhw{op:t0}{r:R2}(ho:OpR X (uA op) r)(ha:PE X a ta)(hb:PE X b tb)(hm:vq op b=false):PE X (.Compare a [op] [b] pos) (tOp r ta tb):=by
 intro pins s σ H Q I h;exact wpAny_Compare1 (binT ha hb I h λv u s2 x y H2 I2 rx ry q=>ho pins s2 σ H2 x y v u Q I2 rx ry q) hm
noncomputable def tTest(t:TE):TT:=λσ H Q=>t σ H λx H'=>∃k,x=.bl k/\Q k H'
theorem qhq{op:t0}{r:R2}(ho:OpR X (uA op) r)(ha:PE X a ta)(hb:PE X b tb)(hm:vq op b=false):PT X (.Compare a [op] [b] pos) (tTest (tOp r ta tb)):=by
 intro pins s σ H Q I h;refine tE (thn (ha pins s σ H _ I h) λv s1 ⟨x,H1,I1,r1,q1⟩=>thn (hb pins s1 σ H1 _ I1 q1) λu s2 ⟨y,H2,I2,r2,q2⟩=>
  thn (ho pins s2 σ H2 x y v u _ I2 r1 r2 q2) λc s3 ⟨z,H3,I3,r3,k,e,q3⟩=>?_) hm
 subst e;cases r3;exact uD ⟨H3,I3,q3⟩
def TruV(K:zB)(x:V)(H:Hp)(k:Bool):Prop :=
 match x with
 | .non=>k=false
 | .bl b=>k=b
 | .int i=>k=(i != 0)
 | .str y=>y.length<=sizeLine/\k=((y.length:Int) != 0)
 | .byt y=>y.size<=sizeLine/\k=((y.size:Int) != 0)
 | .ref p=>(∃xs,SqL K H p xs/\k=!xs.isEmpty)\/(∃xs,SqT K H p xs/\k=!xs.isEmpty)\/∃kvs,H p=some (.dK kvs)/\k=!kvs.isEmpty
 | _=>False
theorem qch{κ:Type}{kvs:List (κ×V)}{vs:List (κ×vB)}(r:KV kvs vs):(!vs.isEmpty)=!kvs.isEmpty:=by
 cases r <;> rfl
theorem q6e{xs:List V}{its:List vB}(r:Yf xs its):(!its.toArray.isEmpty)=!xs.isEmpty:=by
 cases r <;> simp
theorem Xt:(sizeLine:Nat)<2^63:=by rw[vo];decide
theorem qiE:TruR X (λx H Q=>∃k,TruV X.K x H k/\Q k H):=by
 intro pins s σ H x v Q I rx h;obtain⟨k,e,q⟩:=h;have hl:=Xt;have hs:sizeLine=16777216:=vo;cases x with
 | non=>
  cases rx;have e':k=false:=e;subst e';exact truthy_none ⟨H,I,q⟩
 | bl b=>
  cases rx;have e':k=b:=e;subst e';exact uD ⟨H,I,q⟩
 | int i=>
  obtain⟨t,rfl⟩:=rx;have e':k=(i != 0):=e;subst e';exact PySem.P.truthy_int ⟨H,I,q⟩
 | str y=>
  obtain⟨t,rfl⟩:=rx;obtain⟨hy,e'⟩:y.length<=sizeLine/\k=((y.length:Int) != 0):=e;subst e';exact PySem.P.truthy_str ∅ ⟨H,I.tok _,q⟩
 | byt y=>
  obtain⟨t,rfl⟩:=rx;obtain⟨hy,e'⟩:y.size<=sizeLine/\k=((y.size:Int) != 0):=e;subst e';exact PySem.W.truthy_bytes ∅ ⟨H,I.tok _,q⟩
 | ref p=>
  cases rx;have e':(∃xs,SqL X.K H p xs/\k=!xs.isEmpty)\/(∃xs,SqT X.K H p xs/\k=!xs.isEmpty)\/∃kvs,H p=some (.dK kvs)/\k=!kvs.isEmpty:=e;rcases e' with⟨xs,hx,e'⟩|⟨xs,hx,e'⟩|⟨kvs,hx,e'⟩
  ·subst e'
   obtain⟨its,r,pl,hz⟩:=I.list hx;have hlen:=r.length;exact wpAny_truthy_list pl.isList (by simp only[zO];omega) ⟨H,I.tok _,by rw[q6e r];exact q⟩
  ·subst e'
   obtain⟨its,r,pl,hz⟩:=I.tuple hx;have hlen:=r.length;exact truthy_tuple pl (by simp only[zO];omega) ⟨H,I.tok _,by rw[q6e r];exact q⟩
  ·subst e'
   obtain⟨hz,hS,vs,r,m⟩:kvs.length<=sizeLine/\(p==v8)=false/\∃vs,KV kvs vs/\s.heap.DictOf (Ye X.prog X.w) p vs:=I.hok p _ hx;have hlen:kvs.length=vs.length:=Paired.length r;exact wpAny_truthy_dict hS m ∅ ⟨H,I.tok _,by rw[qch r];exact q⟩
 | _=>exact(show False from e).elim
theorem qfa(ha:PE X a ta)(he:∀whole,sA a X.env whole=(do let v <- whole;t9 a.pos;holding [v] (truthy v))):
  PT X a (λσ H Q=>ta σ H λx H'=>∃k,TruV X.K x H' k/\Q k H'):=by
 intro pins s σ H Q I h;exact isTrue_plain (thn (ha pins s σ H _ I h) λv s1 ⟨x,H1,I1,r1,q1⟩=>qiE pins s1 σ H1 x v Q I1 r1 q1) (he _)
theorem vals1{x:V}{us:List vB}(r:Yf [x] us):∃u,us=[u]/\RelV x u:=by
 cases r with
 | cons r1 r2=>cases r2;exact⟨_,rfl,r1⟩
theorem vals2{x y:V}{us:List vB}(r:Yf [x,y] us):∃u w',us=[u,w']/\RelV x u/\RelV y w':=by
 cases r with
 | cons r1 r2=>
  cases r2 with
  | cons r3 r4=>cases r4;exact⟨_,_,rfl,r1,r3⟩
theorem q9t:XB X (.builtin "abs") (λxs H Q=>∃i,xs=[.int i]/\Q (.int (if i<0 then -i else i)) H):=by
 intro pins s σ H xs us Q I r h;obtain⟨i,rfl,q⟩:=h;obtain⟨u,rfl,t,rfl⟩:=vals1 r;exact call_abs_int λu tk=>⟨.int (if i<0 then -i else i),H,I.tok _,⟨_,rfl⟩,q⟩
end
structure ObjM (h:vZ) (x dx C:vC) (mA:Str->Option vB):Prop where
 obj:h.get? x=some (wm C dx)
 ns:h.Ns1 dx mA
 ne:dx≠x
theorem qe9{h:vZ}{dx:vC}{mA:Str->Option vB}(n:h.Ns1 dx mA):∃od,h.get? dx=some od/\∀name,w9 name od=some (mA name):=by
 obtain⟨o,es,ep,ho,hd,hk,_,hm⟩:=n;refine⟨o,ho,λname=>?_⟩;have e:=hm name;unfold nsFind findBy at e;rw[<- Array.find?_toList]at e;unfold w9;rw[hd]
 dsimp only
 split
 ·rename_i y q
  rw[q]at e;exact vj some e
 ·rename_i q
  rw[q]at e;have a:es.toList.any (·.refKey)=false:=by
   rw[List.any_eq_false];intro y hy;obtain⟨z,t,hkey⟩:=hk y (Array.mem_toList_iff.mp hy);simp[DictEntry.refKey,hkey]
  have a':¬es.toList.any (·.refKey)=true:=by rw[a];exact yN
  rw[vJ a'];exact vj some e
theorem ObjM.look{h:vZ}{x dx C:vC}{mA:Str->Option vB}(I:ObjM h x dx C mA):∃od,PySem.W.InstAt h x (wm C dx) C (some od)/\∀name,w9 name od=some (mA name) :=
 let ⟨od,ho,hl⟩:=qe9 I.ns
 ⟨od,⟨I.obj,rfl,rfl,ho⟩,hl⟩
section
variable{prog:vO}{w:vU}{A:vY}{E:vB->vF->Prop}{s:vF}{K:zB}{x dx C f:vC}{mA:Str->Option vB}{name:Str}{v:vB}
end
theorem zAB.some_of{v:V}{o:Option vB}(r:zAB (some v) o):∃u,o=some u/\RelV v u:=by
 cases o with
 | none=>exact(show False from r).elim
 | some u=>exact⟨u,rfl,r⟩
section
variable{P:vO}{w:vU}{H H':Hp}{h h':vZ}{a C dx:vC}{fs fs':List (Str×V)}
theorem qgE(hok:HOk P w H h)(e:H a=some (.ins C dx fs)):∃mA,ObjM h a dx C mA/\(∀f,zAB (fs.lookup f) (mA f))/\PySem.Within mA (fs.map (·.1))/\fs.length<=1000/\H dx=some (.own a):=by
 obtain⟨d,z,ne,ob,mA,n,r,q⟩:=(show Yi P w H h a (.ins C dx fs)from hok a _ e);exact⟨mA,⟨ob,n,ne⟩,r,q,z,d⟩
end
structure Cls (K:zB) (C:vC):Prop where
 pg:Zm K C Str.empty=true
 hd:PySem.W.hasDictIn K C=true
 po:PySem.W.plainOver K C=true
 sa:Zz K (.ref C) "__setattr__" = some (some (.builtin "object.__setattr__"))
theorem Cls.get{K:zB}{C:vC}(c:Cls K C)(f:Str):Zm K C f=true:=c.pg
section
variable{X:Cx}{pins:List (vC×Obj)}{σ:St}{H:Hp}{s:vF}{a C dx:vC}{fs:List (Str×V)}{f:Str}{v:V}{A:vY}{E:vB->vF->Prop}
end
section
variable{X:Cx}{o e value:vP}{f:Str}{pos pos' tpos:Pos}{ta tv:TE}
end
section
variable{X:Cx}{pins:List (vC×Obj)}{σ:St}{H:Hp}{s:vF}{A:vY}{E:vB->vF->Prop}{Q:vB->vF->Prop}{c:vB}{b:Bool}
inductive TyOf (K:zB) (H:Hp):V->vB->Prop where
 | non:TyOf K H .non (.type "NoneType")
 | bl (x:Bool):TyOf K H (.bl x) (.type "bool")
 | int (i:Int):TyOf K H (.int i) (.type "int")
 | str (x:Str):TyOf K H (.str x) (.type "str")
 | flt (x:UInt64):TyOf K H (.flt x) (.type "float")
 | lst {a:vC} {xs:List V} (e:H a=some (.lst xs)):TyOf K H (.ref a) (.type "list")
 | frz {a:vC} {o:Obj} {xs:List V} (e:H a=some (.frz o (.lst xs))):TyOf K H (.ref a) (.type "list")
 | tup {a:vC} {xs:List V} (e:H a=some (.tup xs)):TyOf K H (.ref a) (.type "tuple")
 | dK {a:vC} {kvs:List (Key×V)} (e:H a=some (.dK kvs)):TyOf K H (.ref a) (.type "dict")
 | dT {a:vC} {kvs:List (List Key×V)} (e:H a=some (.dT kvs)):TyOf K H (.ref a) (.type "dict")
 | ins {a C dx:vC} {fs:List (Str×V)} (e:H a=some (.ins C dx fs)) (cl:Cls K C) (ha:Zz K (.ref C) "__class__" = some (some (.builtin "object.__class__")))
   (hn:PySem.W.specialIn K (.builtin "object.__class__") "__get__" = some (some (.builtin "getset_descriptor.__get__"))) (htk:PySem.W.takesIn K (.builtin "object.__class__")=some true)
   (hm:PySem.W.mroIn K C (.type "object")=some true):TyOf K H (.ref a) (.ref C)
theorem qeC{x:V}{u t:vB}(I:Inv X pins σ H s)(rx:RelV x u)(ty:TyOf X.K H x t)(e:ZA X.K t c=some b)(h:∀tk,Q (.bool b) { s with toks:=tk }):
  vM (model X.prog X.w) A (call (.builtin "isinstance") [u,c]) Q E s:=by
 cases ty with
 | non=>cases (show u=Value.none from rx);exact yY PySem.W.kitx_none I.kIn True.intro e (λz=>nomatch z) h
 | bl y=>cases (show u=Value.bool y from rx);exact yY PySem.W.kitx_bool I.kIn True.intro e (λz=>nomatch z) h
 | int i=>obtain⟨t,q⟩:=(show ∃t,u=Value.int i t from rx);cases q;exact yY PySem.W.kitx_int I.kIn True.intro e (λz=>nomatch z) h
 | str y=>obtain⟨t,q⟩:=(show ∃t,u=Value.str y t from rx);cases q;exact yY PySem.W.kitx_str I.kIn True.intro e (λz=>nomatch z) h
 | flt y=>obtain⟨t,q⟩:=(show ∃t,u=Value.float y t from rx);cases q;exact yY PySem.W.kitx_float I.kIn True.intro e (λz=>nomatch z) h
 | @lst a xs ea=>
  cases (show u=Value.ref a from rx);obtain⟨_,_,n,_,h1⟩:=(show Yi X.prog X.w H s.heap a (.lst xs)from I.hok a _ ea);exact yY ZX I.kIn ⟨_,h1,rfl⟩ e (λz=>nomatch z) h
 | @frz a ob xs ea=>
  cases (show u=Value.ref a from rx);obtain⟨_,_,_,n,_,h1⟩:=(show Yi X.prog X.w H s.heap a (.frz ob (.lst xs))from I.hok a _ ea);exact yY ZX I.kIn ⟨_,h1,rfl⟩ e (λz=>nomatch z) h
 | @tup a xs ea=>
  cases (show u=Value.ref a from rx);obtain⟨_,_,_,p⟩:=(show Yi X.prog X.w H s.heap a (.tup xs)from I.hok a _ ea);obtain⟨o,h1,h2,_⟩:=p;exact yY PySem.W.kitx_tuple I.kIn ⟨o,h1,h2⟩ e (λz=>nomatch z) h
 | @dK a kvs ea=>
  cases (show u=Value.ref a from rx);obtain⟨_,_,vs,_,p⟩:=(show Yi X.prog X.w H s.heap a (.dK kvs)from I.hok a _ ea);obtain⟨o,es,ep,h1,h2,_⟩:=p;exact yY ZY I.kIn ⟨o,h1,h2.1⟩ e (λz=>nomatch z) h
 | @dT a kvs ea=>
  cases (show u=Value.ref a from rx);obtain⟨_,_,xs,_,o,es,ep,h1,h2,_⟩:=(show Yi X.prog X.w H s.heap a (.dT kvs)from I.hok a _ ea);exact yY ZY I.kIn ⟨o,h1,h2.1⟩ e (λz=>nomatch z) h
 | @ins a C dx fs ea cl ha hn htk hm=>
  cases (show u=Value.ref a from rx);obtain⟨mA,O,_⟩:=qgE I.hok ea;obtain⟨od,J,_⟩:=O.look;exact yY (PySem.W.kitx_own (cl.get _) cl.hd ha hn htk hm) I.kIn J e (λz=>nomatch z) h
end
structure Room (k:Nat) (A:vY):Prop where
 hd:A.handled=none
 dp:A.depth+3*k+5<recursionLimit
 un:A.units+16*k+200<ue
theorem Room.mono{j k:Nat}{A:vY}(r:Room k A)(h:j<=k):Room j A:=⟨r.hd,by have:=r.dp;omega,by have:=r.un;omega⟩
theorem Room.deeper{k:Nat}{A:vY}(r:Room (k+1) A)(env:Env):Room k (A.deeper env) :=
 ⟨r.hd,by have:=r.dp;show A.depth+1+3*k+5<_;omega,by have:=r.un;show A.units+3+16*k+200<_;omega⟩
theorem Room.in1{k:Nat}{A:vY}(r:Room (k+1) A):Room k A.in1 :=
 ⟨r.hd,by have:=r.dp;show A.depth+3*k+5<_;omega,by have:=r.un;show A.units+1+16*k+200<_;omega⟩
theorem Room.depth{k:Nat}{A:vY}(r:Room k A):A.depth<recursionLimit:=by have:=r.dp;omega
theorem Room.units{k:Nat}{A:vY}(r:Room k A):A.units+64<ue:=by have:=r.un;omega
noncomputable def tNil:TA:=λ_ H Q=>Q [] H
noncomputable def zAk(ta:TE)(tr:TA):TA:=λσ H Q=>ta σ H λx H1=>tr σ H1 λxs H2=>Q (x::xs) H2
section
variable{X:Cx}{e:vP}{es:List vP}{te:TE}{t:TA}{pos:Pos}
theorem q0b:PA X [] tNil:=λ_ _ _ _ H Q I h=>Calls.spliced_nil ⟨[],H,I,.nil,h⟩
theorem qS(ha:PE X e te)(hr:PA X es t)(hs:vL (e::es) X.env=(false,eval e X.env)::vL es X.env:=by rfl):PA X (e::es) (zAk te t):=by
 intro pos pins s σ H Q I h;rw[hs];show vM _ _ (spliced ((false,eval e X.env)::vn pos (vL es X.env))) _ _ s;refine Calls.spliced_cons (thn (ha pins s σ H _ I h) λu s1 ⟨x,H1,I1,r1,q1⟩=>?_);exact thn (hr pos pins s1 σ H1 _ I1 q1) λus s2 ⟨xs,H2,I2,r2,q2⟩=>⟨x::xs,H2,I2,.cons r1 r2,q2⟩
noncomputable def tTup(t:TA):TE:=λσ H Q=>t σ H λxs H1=>xs.length<=sizeLine/\∀p,H1 p=none->Q (.ref p) (upd H1 p (.tup xs))
noncomputable def tLst(t:TA):TE:=λσ H Q=>t σ H λxs H1=>xs.length<=sizeLine/\∀p,H1 p=none->Q (.ref p) (upd H1 p (.lst xs))
theorem qix{x1}(h:PA X es t):PE X (.Tuple es x1 pos) (tTup t):=by
 intro pins s σ H Q I hq;refine wpAny_Tuple_spliced (thn (h pos pins s σ H _ I hq) λus s1 ⟨xs,H1,I1,r,z,q⟩=>⟨by rw[<- r.length];exact z,?_⟩);have hf:H1 s1.heap.objs.size=none:=I1.hok.fresh (zN _);refine⟨.ref s1.heap.objs.size,upd H1 s1.heap.objs.size (.tup xs),I1.laid (t':=s1.toks) (λb u e=>zH _ e) (zN _) ?_,rfl,q _ hf⟩;exact⟨z,us,r,⟨_,zT _ rfl,rfl,_,rfl⟩⟩
theorem qdZ(h:PA X es t):PE X (.List es pos) (tLst t):=by
 intro pins s σ H Q I hq;refine wpAny_List_spliced (thn (h pos pins s σ H _ I hq) λus s1 ⟨xs,H1,I1,r,z,q⟩=>⟨by rw[<- r.length];exact z,?_⟩);have hf:H1 s1.heap.objs.size=none:=I1.hok.fresh (zN _);refine⟨.ref s1.heap.objs.size,upd H1 s1.heap.objs.size (.lst xs),I1.laid (t':=s1.toks) (λb u e=>zH _ e) (zN _) ?_,rfl,q _ hf⟩;exact⟨z,us,0,r,zT _ rfl⟩
end
abbrev Sp:=List V->Hp->VK->XK->Prop
abbrev CXT:=List Env->Hp->vF->XK->vB->vF->Prop
structure Env0 (P:vO) (w:vU) (K:zB) (mg:Str->Option vB) (base:vZ) (A:vY) (outer:List Env) (s:vF) (H:Hp):Prop where
 frames:A.frames=some outer
 mod:Mod K mg base
 bs:∀b o,base.get? b=some o->s.heap.get? b=some o/\H b=none
 bsz:base.objs.size<=s.heap.objs.size
 funs:s.heap.FunFrames base outer
 frf:∀b∈frs outer,H b=none
 hok:HOk P w H s.heap
 bare:ux s.gens
def CE(outer:List Env)(P:vO)(w:vU)(H:Hp)(s:vF)(Q:VK)(u:vB)(s':vF):Prop :=
 ∃v H',s'.os=s.os/\ux s'.gens/\Un (frs outer) [] H H' s.heap s'.heap/\HOk P w H' s'.heap/\RelV v u/\Q v H'
def CR(CX:CXT)(outer:List Env)(P:vO)(w:vU)(H:Hp)(s:vF)(Q:VK)(E:XK)(r:tu)(s':vF):Prop :=
 match r with
 | .ok (.ret u)=>CE outer P w H s Q u s'
 | .ok _=>False
 | .error e=>CX outer H s E e s'
structure FnOk (P:vO) (w:vU) (K:zB) (mg:Str->Option vB) (base:vZ) (CX:CXT) (k:Nat) (f:vC) (fd:vK) (ps:List Str) (sp:Sp):Prop where
 len:∀vs H Q E,sp vs H Q E->vs.length=ps.length
 run:∀(A:vY)(outer:List Env)(s:vF)(H:Hp)(args:Args)(us:List vB)(vs:List V)(Q:VK)(E:XK),Room k A->Env0 P w K mg base A outer s H->tf s fd args (ps.zip us)->Yf vs us->sp vs H Q E ->
  uP (model P w) A (.call (.ref f) args) (CR CX outer P w H s Q E) s
theorem Env0.in1{P:vO}{w:vU}{K:zB}{mg:Str->Option vB}{base:vZ}{A:vY}{outer:List Env}{s:vF}{H:Hp}(e:Env0 P w K mg base A outer s H):
  Env0 P w K mg base A.in1 outer s H:=⟨e.frames,e.mod,e.bs,e.bsz,e.funs,e.frf,e.hok,e.bare⟩
section
variable{X:Cx}{pins:List (vC×Obj)}{σ:St}{H:Hp}{s s':vF}
theorem Inv.env0(I:Inv X pins σ H s):Env0 X.prog X.w X.K X.mg X.base X.A X.stack s H :=
 ⟨I.ok.frames,I.ok.mod,I.bs,yA I.ok.bsz I.sz,I.stack,I.stkFree,I.hok,I.bare⟩
theorem Inv.after{Q:VK}{u:vB}(I:Inv X pins σ H s)(h:CE X.stack X.prog X.w H s Q u s'):EP X pins σ Q u s':=by
 obtain⟨v,H',os,bare,un,hok,r,q⟩:=h;obtain⟨hh,g,d,t,os'⟩:=s';obtain rfl:os'=s.os:=os;exact⟨v,H',I.call (h':=hh) (g':=g) (d':=d) (t':=t) (ch:=[]) un hok bare (λb z=>vN z (by simp)),r,q⟩
end
noncomputable def tCall(sp:Sp)(dvs:List V)(E:XK)(t:TA):TE:=λσ H Q=>t σ H λvs H1=>sp (vs++dvs) H1 Q E
def Binds(K:zB)(fd:vK)(ps:List Str)(ds:List vB):Prop :=
 ∀(s:vF)(us:List vB),K.In s.heap->(us++ds).length=ps.length->tf s fd ⟨us,[]⟩ (ps.zip (us++ds))
theorem Binds.all{K:zB}{fd:vK}{ps:List Str}(h:∀us:List vB,us.length=ps.length->bindArgs fd ⟨us,[]⟩=pure (ps.zip us)):Binds K fd ps []:=λs us _ hl=>by
 rw[zw]at hl ⊢;exact .of_eq (h us hl)
def WT(CX:CXT)(X:Cx)(E:XK):Prop:=∀(pins:List (vC×Obj))(σ:St)(H:Hp)(s:vF)(e:vB)(s':vF),Inv X pins σ H s->CX X.stack H s E e s'->X.xe e s'
section
variable{X:Cx}{CX:CXT}{k:Nat}{f C:vC}{fd:vK}{ps:List Str}{sp:Sp}{dvs:List V}{ds:List vB}{E:XK}{x m:Str}{p pos apos:Pos}{e o:vP}{es:List vP}{ta:TE}{t:TA}
theorem qik{pins:List (vC×Obj)}{σ:St}{H:Hp}{s:vF}{Q:VK}{us:List vB}{vs:List V}(F:FnOk X.prog X.w X.K X.mg X.base CX k f fd ps sp)(hr:Room k X.A)(hb:Binds X.K fd ps ds)(hd:Yf dvs ds)(hx:WT CX X E)(I:Inv X pins σ H s)(r:Yf vs us)(h:sp (vs++dvs) H Q E):vM (model X.prog X.w) X.A (call (.ref f) us) (EP X pins σ Q) X.xe s:=by
 have r2:Yf (vs++dvs) (us++ds):=r.append hd;have hl:(us++ds).length=ps.length:=by rw[<- r2.length];exact F.len _ _ _ _ h
 refine wpAny_call (uQ (F.run X.A X.stack s H ⟨us,[]⟩ (us++ds) (vs++dvs) Q E hr I.env0 (hb s us I.kIn hl) r2 h) λr s' hq=>?_);cases r with
 | error e=>exact hx pins σ H s e s' I hq
 | ok fl=>
  cases fl with
  | ret u=>exact I.after hq
  | next=>exact False.elim hq
  | brk=>exact False.elim hq
  | cont=>exact False.elim hq
theorem qhM(F:FnOk X.prog X.w X.K X.mg X.base CX k f fd ps sp)(hr:Room k X.A)(hg:Gl X x)(hm:X.mg x=some (.ref f))(hk:xR X.K (.ref f)=true)(hb:Binds X.K fd ps ds)(hd:Yf dvs ds)(hx:WT CX X E)(ha:PA X (e::es) t)(hdb:(x==("__debug__" : Str))=false:=by decide)(he:vL (e::es) X.env=(false,eval e X.env)::vL es X.env:=by rfl)(hpl:(vn pos (vL es X.env)).any (·.1)=false:=by rfl):
  PE X (.Call (.Name x p) (e::es) [] pos) (tCall sp dvs E t):=by
 intro pins s σ H Q I h;refine v9 (qbf I hg hm ?_ hdb);refine PySem.W.callWith_K (h₀:=X.base) I.ok.mod.kin hk (thn (ha pos pins s σ H _ I h) λus s1 ⟨vs,H1,I1,r,q⟩=>⟨I1.kIn,?_⟩) he hpl;exact qik F hr hb hd hx I1 r q
end
def PK(X:Cx)(kws:List uW)(t:TA):Prop :=
 ∀(pos:Pos)(pins:List (vC×Obj))(s:vF)(σ:St)(H:Hp)(Q:List V->Hp->Prop),Inv X pins σ H s->t σ H Q->vM (model X.prog X.w) X.A (evalAll ((uL pos (vz kws X.env)).map (·.2))) (AP X pins σ Q) X.xe s
section
variable{X:Cx}{CX:CXT}{k:Nat}{f C:vC}{fd:vK}{ps ks:List Str}{sp:Sp}{E:XK}{x m:Str}{p pos apos kpos:Pos}{e o:vP}{es:List vP}{kws:List uW}{te ta:TE}{t tk:TA}{nm:Option Str}
theorem qiL:PK X [] tNil:=λ_ _ _ _ H Q I h=>wpAny_evalAll_nil ⟨[],H,I,.nil,h⟩
theorem qhu(ha:PE X e te)(hr:PK X kws t):PK X (⟨nm,e,kpos⟩::kws) (zAk te t):=by
 intro pos pins s σ H Q I h;show vM _ _ (evalAll ((do let v <- eval e X.env;t9 pos;pure v)::(uL pos (vz kws X.env)).map (·.2))) _ _ s;refine wpAny_evalAll_cons (vA (thn (ha pins s σ H _ I h) λu s1 ⟨x,H1,I1,r1,q1⟩=>vA (uz (vG ?_))));exact thn (hr pos pins s1 σ H1 _ I1 q1) λus s2 ⟨xs,H2,I2,r2,q2⟩=>⟨x::xs,H2,I2,.cons r1 r2,q2⟩
variable{g:List vB->List vB->List vB}{gV:List V->List V->List V}
end
structure FnScope (N P:List Str) (sc:ud):Prop where
 kind:sc.kind=.function
 co:sc.isCoroutine=false
 gen:sc.isGenerator=false
 nd:N.Nodup
 pre:N.take P.length=P
 par:∀x∈P,sc.names.lookup x=some .local\/sc.names.lookup x=some .cell
 nofree:∀y∈sc.names,y.2≠.free
theorem q7t{kindOf:Str->Option uM}{x:Str}:∀{binds:List (Str×vB)}{m:Str->Option vB},(∀v,(x,v)∉binds)->bindL kindOf binds m x=m x
 | [],_,_=>rfl
 | (n,v)::r,m,h=>by
  unfold bindL;rw[q7t λw hw=>h w (zG _ hw)]
  split
  ·have:x≠n:=by rintro rfl;exact h v zD
   simp[this]
  ·rfl
theorem q7H{kindOf:Str->Option uM}{x:Str}:∀{binds:List (Str×vB)}{m:Str->Option vB},(∀v,(x,v)∉binds)->bindC kindOf binds m x=m x
 | [],_,_=>rfl
 | (n,v)::r,m,h=>by
  unfold bindC;rw[q7H λw hw=>h w (zG _ hw)]
  split
  ·rfl
  ·have:x≠n:=by rintro rfl;exact h v zD
   simp[this]
theorem q7Z{kindOf:Str->Option uM}{x:Str}{v:vB}:∀{P:List Str}{vs:List vB}{i:Nat}{m:Str->Option vB},P.Nodup->P[i]?=some x->vs[i]?=some v->kindOf x=some .local ->
  bindL kindOf (P.zip vs) m x=some v
 | [],_,_,_,_,h,_,_=>by simp at h
 | _::_,[],_,_,_,_,h,_=>by simp at h
 | p::P,w::vs,0,m,nd,h1,h2,hk=>by
  simp at h1 h2;subst h1;subst h2;show bindL kindOf ((p,w)::P.zip vs) m p=_;unfold bindL;rw[q7t λv hv=>(ye.mp nd).1 (xw hv).1,vH hk];simp
 | p::P,w::vs,i+1,m,nd,h1,h2,hk=>by
  show bindL kindOf ((p,w)::P.zip vs) m x=_;unfold bindL;exact q7Z (i:=i) (ye.mp nd).2 ⇑h1 ⇑h2 hk
theorem q7K{kindOf:Str->Option uM}{x:Str}{v:vB}:∀{P:List Str}{vs:List vB}{i:Nat}{m:Str->Option vB},P.Nodup->P[i]?=some x->vs[i]?=some v->kindOf x≠some .local ->
  bindC kindOf (P.zip vs) m x=some v
 | [],_,_,_,_,h,_,_=>by simp at h
 | _::_,[],_,_,_,_,h,_=>by simp at h
 | p::P,w::vs,0,m,nd,h1,h2,hk=>by
  simp at h1 h2;subst h1;subst h2;show bindC kindOf ((p,w)::P.zip vs) m p=_;unfold bindC;rw[q7H λv hv=>(ye.mp nd).1 (xw hv).1,vJ hk];simp
 | p::P,w::vs,i+1,m,nd,h1,h2,hk=>by
  show bindC kindOf ((p,w)::P.zip vs) m x=_;unfold bindC;exact q7K (i:=i) (ye.mp nd).2 ⇑h1 ⇑h2 hk
noncomputable def start(N:List Str)(vs:List V):St:=vs.map some++wB (N.length-vs.length) none
noncomputable def zAd(CX:CXT)(P:vO)(w:vU)(K:zB)(mg:Str->Option vB)(base:vZ)(N:List Str)(qual:Str)(scope:ud)(f:vC)(cd:vB)(A:vY)(outer:List Env)(s:vF)(H:Hp)(E:XK):Cx where
 prog:=P
 w:=w
 K:=K
 mg:=mg
 base:=base
 A:=A.deeper (tI qual scope s.heap.objs.size f cd)
 N:=N
 s₀:=s
 H₀:=H
 env:=tI qual scope s.heap.objs.size f cd
 outer:=outer
 stack:=tI qual scope s.heap.objs.size f cd::outer
 ex:=[]
 calm:=true
 fn:=λ_=>true
 pn:=[]
 xe:=λe s'=>vM (model P w) (A.deeper (tI qual scope s.heap.objs.size f cd)) (leaving (tI qual scope s.heap.objs.size f cd) e) (λ_ s''=>CX outer H s E e s'') (λe' s''=>CX outer H s E e' s'') s'
theorem q8w{sc:ud}{n:Nat}{x:Str}(h:sc.names.lookup x=some .cell):∃c,(cellsFrom n sc.names []).lookup x=some c:=by
 have q:=wY sc.names n [] (.inl h);exact yd.mp q
theorem qe1{CX:CXT}{P:vO}{w:vU}{K:zB}{mg:Str->Option vB}{base:vZ}{N ps:List Str}{qual:Str}{scope:ud}{f:vC}{cd:vB}{A:vY}{outer:List Env}{s s1:vF}{H:Hp}{E:XK}{us:List vB}{vs:List V}(S:FnScope N ps scope)(hd:A.handled=none)(e0:Env0 P w K mg base A outer s H)(hl:vs.length=ps.length)(r:Yf vs us)(x:InCallC s s.heap.objs.size (bindL (tI qual scope s.heap.objs.size f cd).kindOf (ps.zip us) λ_=>none) (cellsFrom (s.heap.objs.size+1) scope.names []) (bindC (tI qual scope s.heap.objs.size f cd).kindOf (ps.zip us) λ_=>none) s1):
  Inv (zAd CX P w K mg base N qual scope f cd A outer s H E) [] (start N vs) H s1:=by
 have hpl:ps.length<=N.length:=by have:=vj yr S.pre;rw[zn]at this;omega
 obtain⟨h1,tk,rfl,hk⟩:=x.done;have noA:∀b:vC,b∉(zAd CX P w K mg base N qual scope f cd A outer s H E).ex:=λb z=>vN (show b∈([]:List vC)from z) (by simp);refine⟨⟨e0.mod,S.kind,rfl,rfl,zN _,λy z c h1 h2=>?_,λy hy=>?_,λy c _ h=>?_,λ_=>hd,Around.frames_deeper e0.frames,.inr ⟨rfl,rfl⟩,λb z=>vN z (noA b),e0.bs,e0.bsz,λb _ _=>noA b,λb z=>vN z (noA b),e0.funs,e0.frf⟩,
  rfl,e0.bare,Un.kept hk,⟨_,x.toInCall.ns,λi y v h1 h2 h3=>?_⟩,λy c h=>⟨_,x.cell y c h⟩,e0.hok.fresh (zN _),λy c h=>?_,λp hp=>vN (show p∈([]:List (vC×Obj))from hp) (by simp),e0.hok.kept hk,?_⟩
 ·exact name_of_addr x.apart (PySem.mem_of_lookup h1) (PySem.mem_of_lookup h2)
 ·have hy:scope.names.lookup y=some .cell\/scope.names.lookup y=some .free:=hy
  rcases hy with hy|hy
  ·exact q8w hy
  ·exact vN rfl (S.nofree _ (PySem.mem_of_lookup hy))
 ·exact yP (x.above y c (PySem.mem_of_lookup h))
 ·have hi:i<vs.length:=by
   unfold start at h2
   by_cases hi:i<vs.length
   ·exact hi
   ·rw[zW ⇑hi]at h2
    rw[yg]at h2
    split at h2 <;> cases h2
  have ha:vs[i]?=some v:=by
   unfold start at h2;rw[zb ⇑hi,zY]at h2;cases e:vs[i]? with
   | none=>rw[e]at h2;cases h2
   | some a=>rw[e]at h2;cases h2;rfl
  obtain⟨u,hu,rv⟩:=r.get ha;have hp:ps[i]?=some y:=by
   rw[<- S.pre,List.getElem?_take_of_lt ∅];exact h1
  have ndP:ps.Nodup:=by rw[<- S.pre];exact S.nd.sublist (ZZ _ _)
  refine⟨u,rv,?_⟩;rcases S.par y (yJ hp)with k|k
  ·exact .inl ⟨k,q7Z ndP hp hu k⟩
  ·obtain⟨c,e⟩:=q8w (n:=s.heap.objs.size+1) k
   refine .inr ⟨.inl k,c,e,?_⟩;have q:=x.cell y c e;rw[q7K ndP hp hu (by show scope.names.lookup y≠_;rw[k];decide)]at q;exact q
 ·exact e0.hok.fresh (yP (x.above y c (PySem.mem_of_lookup h)))
 ·unfold start
  show _=N.length;rw[zE,zA,yk];omega
theorem qjf{CX:CXT}{P:vO}{w:vU}{K:zB}{mg:Str->Option vB}{base:vZ}{k:Nat}{f:vC}{name qual:Str}{params:Arguments}{body:List vg}{scope:ud}{dV kV doc pm cdv ct oc:vB}{an od:Option vC}{osl:Array (Option vB)}{N ps:List Str}{sp:Sp}(lk:K.lookup f=some ⟨oc,od,.func (xE name qual params body scope dV kV doc pm an cdv ct),osl⟩)(hcd:wC K cdv qual=true)(S:FnScope N ps scope)(len:∀vs H Q E,sp vs H Q E->vs.length=ps.length)(hbody:∀(A:vY)(outer:List Env)(s:vF)(H:Hp)(vs:List V)(Q:VK)(E:XK),Room k (A.deeper (tI qual scope s.heap.objs.size f cdv))->sp vs H Q E ->
   ∃t,PSs (zAd CX P w K mg base N qual scope f cdv A outer s H E) body t/\t { nx:=λ_ H'=>Q .non H',rt:=Q } (start N vs) H) :
  FnOk P w K mg base CX (k+1) f (xE name qual params body scope dV kV doc pm an cdv ct) ps sp:=by
 refine⟨len,λA outer s H args us vs Q E hr e0 hb r hsp=>?_⟩;have hl:=len _ _ _ _ hsp;have KX:K.In s.heap:=e0.mod.kin.keeps λb o e=>(e0.bs b o e).1;have lim:s.heap.NoLimit:=e0.mod.nolimit.keeps λb o e=>(e0.bs b o e).1;have hkind:∀y∈ps.zip us,scope.names.lookup y.1=some .local\/(scope.names.lookup y.1=some .cell/\((cellsFrom (s.heap.objs.size+1) scope.names []).lookup y.1).isSome=true):=λ⟨n,v⟩ hy=>by
  rcases S.par n (xw hy).1 with q|q
  ·exact .inl q
  ·exact .inr ⟨q,wY _ _ _ (.inl q)⟩
 refine codeAny_call_function hr.depth (KX _ _ lk) rfl S.co S.gen rfl (PySem.W.codeRec_of KX hcd) (hb _ _ _ _ ?_);refine wpAny_newFunctionEnv_cells S.kind hkind λenv he s1 x=>?_;subst he;refine⟨lim.keeps x.toInCall.keep,codeAny_func ?_⟩;obtain⟨t,ht,hq⟩:=hbody A outer s H vs Q E (hr.deeper _) hsp;have I:Inv (zAd CX P w K mg base N qual scope f cdv A outer s H E) [] (start N vs) H s1:=qe1 S hr.hd e0 hl r x;refine vh (ht [] s1 (start N vs) H _ I hq) (λfl s' hs=>?_) λe s' hs=>hs;have fin:∀{σ':St}{H':Hp}{v:V}{u:vB},Inv (zAd CX P w K mg base N qual scope f cdv A outer s H E) [] σ' H' s'->RelV v u->Q v H'->CE outer P w H s Q u s' :=
  λ{σ' H' v u} J rv q=>⟨v,H',J.os,J.bare,J.base,J.hok,rv,q⟩
 cases fl with
 | ret u=>
  obtain⟨v,σ',H',J,rv,q⟩:=hs;exact fin J rv q
 | next=>
  obtain⟨σ',H',J,q⟩:=hs;exact fin (v:=V.non) (u:=Value.none) J rfl q
 | brk=>
  obtain⟨_,_,_,q⟩:=hs;exact False.elim q
 | cont=>
  obtain⟨_,_,_,q⟩:=hs;exact False.elim q
section
variable{X:Cx}{x:Str}{p pos:Pos}{e:vP}{es:List vP}{t:TA}{id T:String}{r:List V->Hp->VK->Prop}
noncomputable def tCB(r:List V->Hp->VK->Prop)(t:TA):TE:=λσ H Q=>t σ H λvs H1=>r vs H1 Q
theorem q2Y(hc:XB X (.builtin id) r)(hg:Gl X x)(hm:X.mg x=none)(hv:vX x=some (.builtin id))(ha:PA X (e::es) t)(hn:x ≠ "__name__" := by decide)(hdb:(x==("__debug__" : Str))=false:=by decide)(he:vL (e::es) X.env=(false,eval e X.env)::vL es X.env:=by rfl)(hpl:(vn pos (vL es X.env)).any (·.1)=false:=by rfl):PE X (.Call (.Name x p) (e::es) [] pos) (tCB r t):=by
 intro pins s σ H Q I h;refine v9 (q0W I hg hm hv ?_ hn hdb);exact PyProof.Rows.callWith_builtin1 (thn (ha pos pins s σ H _ I h) λus s1 ⟨vs,H1,I1,r1,q1⟩=>hc pins s1 σ H1 vs us Q I1 r1 q1) he hpl
theorem q7s(hc:XB X (.type T) r)(hg:Gl X x)(hm:X.mg x=none)(hv:vX x=some (.type T))(ha:PA X (e::es) t)(hn:x ≠ "__name__" := by decide)(hdb:(x==("__debug__" : Str))=false:=by decide)(he:vL (e::es) X.env=(false,eval e X.env)::vL es X.env:=by rfl)(hpl:(vn pos (vL es X.env)).any (·.1)=false:=by rfl):PE X (.Call (.Name x p) (e::es) [] pos) (tCB r t):=by
 intro pins s σ H Q I h;refine v9 (q0W I hg hm hv ?_ hn hdb);exact PyProof.Rows.callWith_type1 (thn (ha pos pins s σ H _ I h) λus s1 ⟨vs,H1,I1,r1,q1⟩=>hc pins s1 σ H1 vs us Q I1 r1 q1) he hpl
end
end L2
namespace HT
open PySem PyProof.Rows
section
open PySem.SeqAt
open PySem.AutoSeq1 (wpAny_loadPart')
open PySem.MeetsSeq PySem.MeetsSeq2 PySem.MeetsSeq3
end
section
variable{prog:vO}{w:vU}{A:vY}{E:vB->vF->Prop}{s:vF}
theorem qgL{t b:vC}{vs ws:List vB}{Q:vB->vF->Prop}(ht:IsTup s.heap t vs.toArray)(hb:IsTup s.heap b ws.toArray)(hv:vs≠[])(h1:ws=[]->Q (.ref t) s)(h2:ws≠[]->Q (.ref s.heap.objs.size) { s with heap:=s.heap.push { cls:=.type "tuple", data:=.seq (vs++ws).toArray } })(hsz:vs.length+ws.length<=sizeLine):vM (model prog w) A (uK .Add (.ref t) (.ref b)) Q E s:=by
 obtain⟨⟨cls,dd,data,sl⟩,ho,hc,n,hd⟩:=id ht;obtain⟨⟨cls2,dd2,data2,sl2⟩,ho2,hc2,n2,hd2⟩:=id hb;simp only at hc hd hc2 hd2;subst hc hd hc2 hd2;have e:vs.toArray++ws.toArray=(vs++ws).toArray:=by simp
 by_cases hw:ws=[]
 ·exact concat_meets ⟨_,ho,rfl⟩ ⟨_,ho2,rfl⟩ noFill_tuple_add seq_tuple_add PySem.F.slot_tuple_add PySem.F.entry_tuple_add (PySem.F.args_tuple_add_2 _ _)
   (tuple_addW1 t b vs.toArray ws.toArray n n2 dd dd2 sl sl2 ⇑hv (by simp[hw])) ⟨ho,ho2,h1 hw⟩
 ·refine concat_meets ⟨_,ho,rfl⟩ ⟨_,ho2,rfl⟩ noFill_tuple_add seq_tuple_add PySem.F.slot_tuple_add PySem.F.entry_tuple_add (PySem.F.args_tuple_add_2 _ _)
   (tuple_addW2 t b vs.toArray ws.toArray n n2 dd dd2 sl sl2 ⇑hv ⇑hw (by rw[zO,zO];exact hsz)) ⟨ho,ho2,?_⟩
  rw[e];exact h2 hw
noncomputable def sIx(n d:Nat):Option Int->Nat
 | none=>d
 | some v=>if v<0 then (v+(n:Int)).toNat else min v.toNat n
theorem q9a(n d:Nat):sIx n d none=d:=rfl
theorem q5m(n d k:Nat):sIx n d (some (k:Int))=min k n:=by
 show (if (k:Int)<0 then ((k:Int)+(n:Int)).toNat else min (k:Int).toNat n)=min k n;rw[vJ ∅,yu]
theorem qiy(n d:Nat)(hd:d<=n)(o:Option Int):sIx n d o<=n:=by
 cases o with
 | none=>exact hd
 | some v=>
  show (if v<0 then (v+(n:Int)).toNat else min v.toNat n)<=n
  by_cases hv:v<0
  ·rw[vH hv];omega
  ·rw[vJ hv];exact Zn _ _
theorem qbx(v:Int)(n d:Nat):(if v<0 then max (v+(n:Int)) 0 else min v (n:Int))=((sIx n d (some v):Nat):Int):=by
 show (if v<0 then max (v+(n:Int)) 0 else min v (n:Int))=(((if v<0 then (v+(n:Int)).toNat else min v.toNat n):Nat):Int)
 by_cases hv:v<0
 ·simp only[vH hv];omega
 ·simp only[vJ hv];omega
theorem qc0(lo hi:Option Int)(n:Nat):Builtin.Slice.sliceAdjust lo hi 1 (n:Int)=(((sIx n 0 lo:Nat):Int),((sIx n n hi:Nat):Int)):=by
 have h1:¬((1:Int)<0):=∅
 unfold Builtin.Slice.sliceAdjust;simp only[h1,if_false];refine Prod.ext ?_ ?_
 ·cases lo with
  | none=>rfl
  | some v=>exact qbx v n 0
 ·cases hi with
  | none=>rfl
  | some v=>exact qbx v n n
theorem qcr(i j:Nat):Builtin.Slice.slicePlaces (i:Int) (j:Int) 1=j-i:=by
 unfold Builtin.Slice.slicePlaces;have h1:(1:Int)>0:=∅
 simp only[h1,if_true,Int.ediv_one]
 split <;> omega
theorem q6c{v:vB}{o:Option Int}{Q:Option Int->vF->Prop}(p:u8 v o)(h:Q o s):vM (model prog w) A (Builtin.Slice.slicePartIndex v) Q E s:=by
 cases p with
 | none=>exact slicePart_none h
 | int i t=>exact slicePart_int h
theorem q38{sl:vC}{vl vu:vB}{lo hi:Option Int}{n:Nat}{Q:Int×Int×Nat->vF->Prop}(hs:s.heap.IsSliceOf sl vl vu .none)(pl:u8 vl lo)(pu:u8 vu hi)(h:Q (((sIx n 0 lo:Nat):Int),1,sIx n n hi-sIx n 0 lo) s):vM (model prog w) A (Builtin.Slice.sliceApplied (.ref sl) (pure (n:Int))) Q E s:=by
 obtain⟨os,hos,hcs,hds⟩:=id hs;unfold Builtin.Slice.sliceApplied Builtin.Slice.sliceFields;refine vA (vA (uH hos hds (x:=vl) rfl (vA (uH hos hds (x:=vu) rfl (vA (uH hos hds (x:=.none) rfl (vG ?_)))))));refine vA (slicePart_none ?_);show vM _ _ (if ((1:Int)==0)=true then _ else _) _ _ s;rw[vJ (by decide)];refine vA (q6c pl (vA (q6c pu (vA (vG ?_)))));show vM _ _ (match Builtin.Slice.sliceAdjust lo hi 1 (n:Int)with|(lo,hi)=>pure (lo,(1:Int),Builtin.Slice.slicePlaces lo hi 1)) _ _ s;rw[qc0 lo hi n];show vM _ _ (pure (((sIx n 0 lo:Nat):Int),(1:Int),Builtin.Slice.slicePlaces ((sIx n 0 lo:Nat):Int) ((sIx n n hi:Nat):Int) 1)) _ _ s;rw[qcr];exact vG h
theorem qfx(xs:Array vB)(i k:Nat):((yI k).filterMap λ(m:Nat)=>xs[((i:Int)+(m:Int)*1).toNat]?).toArray=((xs.toList.drop i).take k).toArray:=by
 have e:(λ(m:Nat)=>xs[((i:Int)+(m:Int)*1).toNat]?)=λm=>xs[i+m]?:=by
  funext m
  have:((i:Int)+(m:Int)*1).toNat=i+m:=∅
  rw[this]
 rw[e];have:=pick_run xs i k;rw[ZR]at this;have e2:((λx=>xs[x]?) ∘ λx=>i+x)=λm=>xs[i+m]?:=rfl;rw[e2]at this;rw[this]
theorem q5w{t sl:vC}{items:Array vB}{vl vu:vB}{lo hi:Option Int}{Q:vB->vF->Prop}(ht:IsTup s.heap t items)(hs:s.heap.IsSliceOf sl vl vu .none)(pl:u8 vl lo)(pu:u8 vu hi)(hw:¬(sIx items.size 0 lo=0/\sIx items.size items.size hi=items.size))(h:Q (.ref s.heap.objs.size) { s with heap:=s.heap.push { cls:=.type "tuple", data:=.seq ((items.toList.drop (sIx items.size 0 lo)).take (sIx items.size items.size hi-sIx items.size 0 lo)).toArray } })(hsz:items.size<=sizeLine):vM (model prog w) A (um (.ref t) (.ref sl)) Q E s:=by
 have htake:sizeOk (.seq ((items.toList.drop (sIx items.size 0 lo)).take (sIx items.size items.size hi-sIx items.size 0 lo)).toArray):=by
  show ((items.toList.drop (sIx items.size 0 lo)).take (sIx items.size items.size hi-sIx items.size 0 lo)).toArray.size<=sizeLine;rw[zO,zn,yK,zQ];omega
 have hj:sIx items.size items.size hi<=items.size:=qiy _ _ (zN _) hi;obtain⟨os,hos,hcs,hds⟩:=id hs;have hTs:s.TypeIs (.ref sl) "slice" := ⟨os,hos,hcs⟩;unfold um
 try with_reducible refine vc ?_
 first|refine vA (vG ?_)|skip
 refine vA (wpAny_sequenceKey ht.typeIs (by decide) ?_);refine vA (wpAny_callSpecial?_slot (name:=Str.ofString "__getitem__") ht.typeIs PyProof.Rows.slot_tuple_getitem
  (vi PyProof.Rows.slot_tuple_getitem ht.typeIs entry_tuple_getitem ?_ (tW _ _)))
 show vM _ _ (Builtin.Tuple.tupleItemsOf (.ref t) >>= _) _ _ s;refine vA (tupleItemsOf_ ht ?_);refine vA (uX hTs ?_);rw[vH (by decide)];refine vA (q38 hs pl pu ?_);have hno:¬((((sIx items.size 0 lo:Nat):Int)==0&&(1:Int)==1&&(sIx items.size items.size hi-sIx items.size 0 lo)==items.size)=true):=by
  intro q;rw[z6,z6]at q;have q1:((sIx items.size 0 lo:Nat):Int)=0:=eq_of_beq q.1.1;have q2:sIx items.size items.size hi-sIx items.size 0 lo=items.size:=eq_of_beq q.2;exact hw ⟨∅,∅⟩
 show vM _ _ (if (((sIx items.size 0 lo:Nat):Int)==0&&(1:Int)==1&&(sIx items.size items.size hi-sIx items.size 0 lo)==items.size)=true then _ else _) _ _ s;rw[vJ hno,qfx]
 first
  | exact vA (m:=Builtin.Tuple.tupleExact _) (ve (vG ⟨_,rfl,vG h⟩) htake)
  | exact vA (m:=Builtin.Tuple.tupleExact _) (ve (vA (vG (vG ⟨_,rfl,vG h⟩))) htake)
  | exact vA (vA (m:=Builtin.Tuple.tupleExact _) (ve (vG (vG ⟨_,rfl,vG h⟩)) htake))
  | exact vA (vA (m:=Builtin.Tuple.tupleExact _) (ve (vG ⟨_,rfl,vG h⟩) htake))
end
end HT
namespace L2
open PySem PySem.Spec PyProof.Rows
abbrev TO:=St->Hp->(Option Int->Hp->Prop)->Prop
def PO(X:Cx)(e:Option vP)(t:TO):Prop :=
 ∀(pins:List (vC×Obj))(s:vF)(σ:St)(H:Hp)(Q:Option Int->Hp->Prop),Inv X pins σ H s->t σ H Q ->
  vM (model X.prog X.w) X.A (evalPart e X.env) (λu s'=>∃o H',Inv X pins σ H' s'/\u8 u o/\Q o H') X.xe s
noncomputable def zAh:TO:=λ_ H Q=>Q none H
noncomputable def tPart(t:TE):TO:=λσ H Q=>t σ H λx H1=>∃i,x=.int i/\Q (some i) H1
theorem q1r{ns:List Int}:∀{us:List vB},Yf (ns.map V.int) us->v5 us ns:=by
 induction ns with
 | nil=>intro us r;rw[yf]at r;cases r;exact .nil
 | cons n ns ih=>
  intro us r;rw[zR]at r;cases r with
  | cons r1 r2=>
   obtain⟨t,e⟩:=r1;subst e;exact .cons n t (ih r2)
section
variable{X:Cx}{e:vP}{te:TE}{lo hi:Option vP}{tl th:TO}{pos p2:Pos}
theorem qh0:PO X none zAh:=by
 intro pins s σ H Q I h;rw[evalPart_none];exact vG ⟨none,H,I,.none,h⟩
theorem qhi(h:PE X e te):PO X (some e) (tPart te):=by
 intro pins s σ H Q I hw;rw[evalPart_some];refine thn (h pins s σ H _ I hw) λu s1 ⟨x,H1,I1,r1,q1⟩=>?_;obtain⟨i,rfl,q⟩:=q1;obtain⟨t,rfl⟩:=r1;exact⟨some i,H1,I1,.int i t,q⟩
def SlR(X:Cx)(r:V->Option Int->Option Int->Hp->VK->Prop):Prop :=
 ∀(pins:List (vC×Obj))(s:vF)(σ:St)(H:Hp)(x:V)(v vl vu:vB)(lo hi:Option Int)(sl:vC)(Q:VK),Inv X pins σ H s->RelV x v->s.heap.IsSliceOf sl vl vu .none->u8 vl lo->u8 vu hi->r x lo hi H Q ->
  ∃T id,u9 (.type T) "__getitem__" = pure (some (.builtin id))/\s.TypeIs v T/\vM (model X.prog X.w) X.A (um v (.ref sl)) (EP X pins σ Q) X.xe s
theorem SlR.or{r r':V->Option Int->Option Int->Hp->VK->Prop}(h:SlR X r)(h':SlR X r'):SlR X (λx lo hi H Q=>r x lo hi H Q\/r' x lo hi H Q):=by
 intro pins s σ H x v vl vu lo hi sl Q I rx hs pl pu q;rcases q with q|q
 ·exact h pins s σ H x v vl vu lo hi sl Q I rx hs pl pu q
 ·exact h' pins s σ H x v vl vu lo hi sl Q I rx hs pl pu q
noncomputable def tSl(r:V->Option Int->Option Int->Hp->VK->Prop)(te:TE)(tl th:TO):TE:=λσ H Q=>te σ H λx H1=>tl σ H1 λl H2=>th σ H2 λu H3=>r x l u H3 Q
theorem qfu{r:V->Option Int->Option Int->Hp->VK->Prop}(hr:SlR X r)(he:PE X e te)(hl:PO X lo tl)(hu:PO X hi th):PE X (.Subscript e (.Slice lo hi none p2) pos) (tSl r te tl th):=by
 intro pins s σ H Q I h;refine Subscript_ (thn (he pins s σ H _ I h) λv s1 ⟨x,H1,I1,r1,q1⟩=>?_);refine wpAny_Slice (thn (hl pins s1 σ H1 _ I1 q1) λvl s2 ⟨l,H2,I2,pl,q2⟩=>thn (hu pins s2 σ H2 _ I2 q2) λvu s3 ⟨u,H3,I3,pu,q3⟩=>?_);rw[evalPart_none];refine vG ?_;have I4:Inv X pins σ H3 { s3 with heap:=s3.heap.push { cls:=.type "slice", data:=.fields #[vl,vu,.none] } }:=I3.kept (t':=s3.toks) λb ob q=>zH _ q;obtain⟨T,id,hT,ht,hg⟩:=hr pins { s3 with heap:=s3.heap.push { cls:=.type "slice", data:=.fields #[vl,vu,.none] } } σ H3 x v vl vu l u s3.heap.objs.size Q I4 r1 (YF ..) pl pu q3;show vM (model X.prog X.w) X.A (tU e (.Slice lo hi none p2) v (.ref s3.heap.objs.size)) (EP X pins σ Q) X.xe { s3 with heap:=s3.heap.push { cls:=.type "slice", data:=.fields #[vl,vu,.none] } };exact tail_any (ops:=[.ref s3.heap.objs.size,v]) ht hT hg (by with_unfolding_all rfl)
noncomputable def Wu(xs:List V)(lo hi:Option Int):List V:=(xs.drop (HT.sIx xs.length 0 lo)).take (HT.sIx xs.length xs.length hi-HT.sIx xs.length 0 lo)
theorem q5A(xs:List V)(lo hi:Option Int):(Wu xs lo hi).length<=xs.length:=by
 unfold Wu;rw[zn,yK];omega
def rSlT(K:zB):V->Option Int->Option Int->Hp->VK->Prop:=λx lo hi H Q=>∃a xs,x=.ref a/\SqT K H a xs /\
 ¬(HT.sIx xs.length 0 lo=0/\HT.sIx xs.length xs.length hi=xs.length)/\∀p,H p=none->Q (.ref p) (upd H p (.tup (Wu xs lo hi)))
theorem qiu:SlR X (rSlT X.K):=by
 intro pins s σ H x v vl vu lo hi sl Q I rx hs pl pu h;obtain⟨a,xs,rfl,hx,hw,q⟩:=h;cases rx;obtain⟨its,r,ht,hz⟩:=I.tuple hx;have hlen:its.toArray.size=xs.length:=by rw[zO];exact r.length.symm
 refine⟨"tuple", _,PyProof.Rows.slot_tuple_getitem.lookup,ht.typeIs,?_⟩;refine HT.q5w ht hs pl pu (by rw[hlen];exact hw) ?_ (by rw[hlen];exact hz);rw[hlen];refine⟨.ref s.heap.objs.size,_,I.laid (t':=s.toks) (o:=.tup (Wu xs lo hi)) (λb ob q=>zH _ q) (zN _) ?_,rfl,q _ (I.hok.fresh (zN _))⟩;exact⟨yA (q5A xs lo hi) hz,_,(r.drop (HT.sIx xs.length 0 lo)).take (HT.sIx xs.length xs.length hi-HT.sIx xs.length 0 lo),IsTup.new _ _⟩
noncomputable def rCatT(K:zB):R2:=λx y H Q=>∃a b xs ys,x=.ref a/\y=.ref b/\SqT K H a xs/\SqT K H b ys/\xs≠[]/\xs.length+ys.length<=sizeLine /\
 (ys=[]->Q (.ref a) H)/\(ys≠[]->∀p,H p=none->Q (.ref p) (upd H p (.tup (xs++ys))))
theorem Yf.nil_iff{xs:List V}{us:List vB}(r:Yf xs us):us=[]↔xs=[]:=by
 cases r with
 | nil=>simp
 | cons _ _=>simp
theorem qh5:OpR X (uK .Add) (rCatT X.K):=by
 intro pins s σ H x y v u Q I rx ry h;obtain⟨a,b,xs,ys,rfl,rfl,ha,hb,hx,hz,q1,q2⟩:=h;cases rx;cases ry;obtain⟨its,r1,p1,_⟩:=I.tuple ha;obtain⟨its2,r2,p2,_⟩:=I.tuple hb;refine HT.qgL p1 p2 (λz=>hx (r1.nil_iff.mp z)) (λz=>⟨.ref a,H,I,rfl,q1 (r2.nil_iff.mp z)⟩) (λz=>?_) (by rw[<- r1.length,<- r2.length];exact hz);refine⟨.ref s.heap.objs.size,_,I.laid (t':=s.toks) (o:=.tup (xs++ys)) (λb ob q=>zH _ q) (zN _) ?_,rfl,q2 (λw=>z (r2.nil_iff.mpr w)) _ (I.hok.fresh (zN _))⟩;exact⟨by rw[zE];exact hz,_,r1.append r2,IsTup.new _ _⟩
end
noncomputable def ixN(n:Nat)(i:Int):Option Nat:=if 0<=i then (if i<n then some i.toNat else none)else if -(n:Int)<=i then some (i+n).toNat else none
noncomputable def atI{α:Type}(xs:List α)(i:Int):Option α:=(ixN xs.length i).bind λj=>xs[j]?
theorem qbl{n:Nat}{i:Int}{j:Nat}(h:ixN n i=some j):seqIndex? i n=some j/\j<n/\-(n:Int)<=i/\i<n:=by
 unfold ixN at h
 by_cases h0:0<=i
 ·rw[vH h0]at h
  by_cases h1:i<n
  ·rw[vH h1]at h
   have e:i.toNat=j:=z5 h;exact⟨by rw[t4 h0 h1,e],∅,∅,h1⟩
  ·rw[vJ h1]at h;cases h
 ·rw[vJ h0]at h
  by_cases h1:-(n:Int)<=i
  ·rw[vH h1]at h
   have e:(i+n).toNat=j:=z5 h;exact⟨by rw[seqIndex_neg ∅ h1,e],∅,h1,∅⟩
  ·rw[vJ h1]at h;cases h
theorem q7k{α:Type}{xs:List α}{i:Int}{v:α}(h:atI xs i=some v):∃j,seqIndex? i xs.length=some j/\xs[j]?=some v/\j<xs.length/\-(xs.length:Int)<=i/\i<xs.length:=by
 unfold atI at h;cases e:ixN xs.length i with
 | none=>rw[e]at h;cases h
 | some j=>
  rw[e]at h;obtain⟨h1,h2,h3,h4⟩:=qbl e;exact⟨j,h1,h,h2,h3,h4⟩
def WE(b:vP):Prop:=∀o i,subscripted b false o i=operate [o,i] (um o i)
def IxR(X:Cx)(r:R2):Prop :=
 ∀(value slice:vP)(pins:List (vC×Obj))(s:vF)(σ:St)(H:Hp)(x y:V)(v u:vB)(Q:VK),Inv X pins σ H s->RelV x v->RelV y u->r x y H Q ->
  subscripted slice false v u=operate [v,u] (um v u)->vM (model X.prog X.w) X.A (tU value slice v u) (EP X pins σ Q) X.xe s
def MtR(X:Cx)(id:String)(r:V->List V->Hp->VK->Prop):Prop :=
 ∀(pins:List (vC×Obj))(s:vF)(σ:St)(H:Hp)(x:V)(xs:List V)(v:vB)(us:List vB)(Q:VK),Inv X pins σ H s->RelV x v->Yf xs us->r x xs H Q ->
  vM (model X.prog X.w) X.A (call (.builtin id) (v::us)) (EP X pins σ Q) X.xe s
section
variable{X:Cx}{a b:vP}{ta tb:TE}{pos:Pos}
theorem IxR.or{r r':R2}(h:IxR X r)(h':IxR X r'):IxR X (λx y H Q=>r x y H Q\/r' x y H Q):=by
 intro value slice pins s σ H x y v u Q I rx ry q hs;rcases q with q|q
 ·exact h value slice pins s σ H x y v u Q I rx ry q hs
 ·exact h' value slice pins s σ H x y v u Q I rx ry q hs
theorem qjl{r:R2}(hr:IxR X r)(ha:PE X a ta)(hb:PE X b tb)(hs:WE b):PE X (.Subscript a b pos) (tOp r ta tb):=by
 intro pins s σ H Q I h;exact Subscript_ (binT ha hb I h λv u s2 x y H2 I2 rx ry q=>hr a b pins s2 σ H2 x y v u Q I2 rx ry q (hs _ _))
noncomputable def rIxL(K:zB):R2:=λx y H Q=>∃p xs i v,x=.ref p/\y=.int i/\SqL K H p xs/\atI xs i=some v/\Q v H
noncomputable def rIxT(K:zB):R2:=λx y H Q=>∃p xs i v,x=.ref p/\y=.int i/\SqT K H p xs/\atI xs i=some v/\Q v H
noncomputable def rIxS:R2:=λx y H Q=>∃z i c,x=.str z/\y=.int i/\z.length<=sizeLine/\atI z.cps.toList i=some c/\Q (.str ⟨#[c]⟩) H
theorem qhP:IxR X (rIxL X.K):=by
 intro value slice pins s σ H x y v u Q I rx ry h hs;obtain⟨p,xs,i,z,rfl,rfl,hq,he,q⟩:=h;cases rx;obtain⟨t,rfl⟩:=ry;obtain⟨its,r,pl,hz⟩:=I.list hq;obtain⟨j,h1,h2,h3,h4,h5⟩:=q7k he;obtain⟨w,ew,rw'⟩:=r.get h2;have hl:=r.length;have hn:=Xt;have fin:EP X pins σ Q w s:=⟨z,H,I,rw',q⟩
 by_cases h0:0<=i
 ·have hj:i.toNat=j:=by
   rw[t4 h0 h5]at h1;exact z5 h1
  exact item_listR pl.isList h0 ∅ (by rw[hj];simpa using ew) fin hs
 ·have hj:(i+(its.toArray.size:Int)).toNat=j:=by
   rw[seqIndex_neg ∅ h4]at h1;rw[zO,<- hl];exact z5 h1
  exact tD (x:=w) pl.isList.typeIs slot_list_getitem.lookup
   (wpAny_getItem_list_neg (Q:=λr s'=>r=w/\EP X pins σ Q r s') pl.isList ∅ (by rw[zO] <;> omega) ∅ (by rw[hj];simpa using ew) ⟨rfl,fin⟩) hs
theorem qiK:IxR X (rIxT X.K):=by
 intro value slice pins s σ H x y v u Q I rx ry h hs;obtain⟨p,xs,i,z,rfl,rfl,hq,he,q⟩:=h;cases rx;obtain⟨t,rfl⟩:=ry;obtain⟨its,r,pl,hz⟩:=I.tuple hq;obtain⟨j,h1,h2,h3,h4,h5⟩:=q7k he;obtain⟨w,ew,rw'⟩:=r.get h2;have hl:=r.length;have hn:=Xt;have fin:EP X pins σ Q w s:=⟨z,H,I,rw',q⟩;exact tD (x:=w) pl.typeIs slot_tuple_getitem.lookup
  (getItem_tuple (j:=j) (Q:=λr s'=>r=w/\EP X pins σ Q r s') pl ∅ ∅ (by rw[zO,<- hl];exact h1) ⇑ew ⟨rfl,fin⟩) hs
theorem qiQ:IxR X rIxS:=by
 intro value slice pins s σ H x y v u Q I rx ry h hs;obtain⟨z,i,c,rfl,rfl,hz,he,q⟩:=h;obtain⟨t,rfl⟩:=rx;obtain⟨t',rfl⟩:=ry;obtain⟨j,h1,h2,h3,h4,h5⟩:=q7k he;have hl:z.cps.toList.length=z.length:=by simp[Str.length]
 rw[hl]at h1 h4 h5;have hn:=Xt;exact tail_any (typeIs_str s z t) slot_str_getitem.lookup (getItem_str (c:=c) (by
  have e1:decide (i < -(2^63:Int))=false:=vT ∅;have e2:decide (i>=2^63)=false:=vT ∅;rw[e1,e2,xv]) (by rw[h1];simpa using h2) ⟨.str ⟨#[c]⟩,H,I.tok _,⟨_,rfl⟩,q⟩) hs
noncomputable def rIx(K:zB):R2:=λx y H Q=>rIxL K x y H Q\/rIxT K x y H Q\/rIxS x y H Q
theorem qil:IxR X (rIx X.K):=qhP.or (qiK.or qiQ)
theorem qcz(its:List vB)(n j:Nat)(u:vB):Obj.mapSeq (·.setIfInBounds j u) { cls:=.type "list", data:=.seq its.toArray n }={ cls:=.type "list", data:=.seq (its.set j u).toArray n }:=by
 simp[Obj.mapSeq]
theorem Inv.lst{pins:List (vC×Obj)}{σ:St}{H:Hp}{s:vF}{p:vC}{xs:List V}(I:Inv X pins σ H s)(h:H p=some (.lst xs)):
  ∃(its:List vB) (n:Nat),Yf xs its/\s.heap.get? p=some { cls:=.type "list", data:=.seq its.toArray n }/\xs.length<=sizeLine:=by
 obtain⟨z,its,n,r,e⟩:=I.hok p _ h;exact⟨its,n,r,e,z⟩
theorem Inv.lstUpd{pins:List (vC×Obj)}{σ:St}{H:Hp}{s:vF}{p:vC}{xs ys:List V}{its its':List vB}{n n':Nat}{f:Obj->Obj}(I:Inv X pins σ H s)(h:H p=some (.lst xs))(ho:s.heap.get? p=some { cls:=.type "list", data:=.seq its.toArray n })(hf:f { cls:=.type "list", data:=.seq its.toArray n }={ cls:=.type "list", data:=.seq its'.toArray n' })(r:Yf ys its')(hz:ys.length<=sizeLine)(t:Nat):
  Inv X pins σ (upd H p (.lst ys)) { s with heap:=s.heap.update p f,toks:=t }:=by
 have e:(s.heap.update p f).get? p=some { cls:=.type "list", data:=.seq its'.toArray n' }:=by
  rw[yl f ho (by rw[hf] <;> rfl),hf]
 refine I.write (x:=p) (e:=p) (by rw[h];trivial) (.inl rfl) (λb u hb q=>(zk _ _ (Ne.symm hb)).trans q) ⟨_,e⟩ ?_;exact⟨hz,its',n',r,e⟩
def rSetL:V->V->V->Hp->(Hp->Prop)->Prop:=λo i v H Q=>∃p xs k j,o=.ref p/\i=.int k/\H p=some (.lst xs)/\ixN xs.length k=some j/\Q (upd H p (.lst (xs.set j v)))
theorem qeR:PSet X rSetL:=by
 intro pins s σ H o i v ov iv u Q I ro ri rv h;obtain⟨p,xs,k,j,rfl,rfl,hp,hj,q⟩:=h;cases ro;obtain⟨t,rfl⟩:=ri;obtain⟨its,n,r,ho,hz⟩:=I.lst hp;obtain⟨h1,h2,h3,h4⟩:=qbl hj;have hl:=r.length;have hn:=Xt;have I':Inv X pins σ (upd H p (.lst (xs.set j v))) { s with heap:=s.heap.update p (Obj.mapSeq (·.setIfInBounds j u)) } :=
  I.lstUpd hp ho (qcz its n j u) (r.set rv j) (by rw[yS];exact hz) s.toks
 by_cases h0:0<=k
 ·have hk:k.toNat=j:=by
   rw[t4 h0 h4]at h1;exact z5 h1
  exact PySem.W.ki_setAt ho h0 ∅ (by rw[zO,<- hl];exact h4) (by rw[hk];exact⟨_,I',q⟩)
 ·have hk:(k+(its.toArray.size:Int)).toNat=j:=by
   rw[seqIndex_neg ∅ h3]at h1;rw[zO,<- hl];exact z5 h1
  exact PySem.W.ki_setBack ho ∅ (by rw[zO,<- hl];exact h3) ∅ (by rw[hk];exact⟨_,I',q⟩)
theorem q8q(lo hi:Option Int)(n:Nat):(uU lo hi none n).1=((HT.sIx n 0 lo:Nat):Int)/\(uU lo hi none n).2.1=((HT.sIx n n hi:Nat):Int)/\(uU lo hi none n).2.2=1:=by
 refine⟨?_,?_,rfl⟩
 ·cases lo with
  | none=>simp[uU,HT.sIx]
  | some i=>
   simp only[uU,HT.sIx,Zo,show (1:Int)>0 by decide,if_true]
   by_cases h:i<0
   ·simp only[h,if_true] <;> omega
   ·simp only[h,if_false] <;> omega
 ·cases hi with
  | none=>simp[uU,HT.sIx]
  | some i=>
   simp only[uU,HT.sIx,Zo,show (1:Int)>0 by decide,if_true]
   by_cases h:i<0
   ·simp only[h,if_true] <;> omega
   ·simp only[h,if_false] <;> omega
theorem q8g(its:List vB)(lo hi:Option Int):slicePick its.toArray lo hi none=((its.drop (HT.sIx its.length 0 lo)).take (HT.sIx its.length its.length hi-HT.sIx its.length 0 lo)).toArray:=by
 obtain⟨h1,h2,h3⟩:=q8q lo hi its.toArray.size;unfold slicePick;rw[h1,h2,h3];simp only[sliceRange_one,pick_run,zO] <;> rfl
def rSlL(K:zB):V->Option Int->Option Int->Hp->VK->Prop:=λx lo hi H Q=>∃a xs,x=.ref a/\SqL K H a xs/\∀p,H p=none->Q (.ref p) (upd H p (.lst (Wu xs lo hi)))
theorem qhU:SlR X (rSlL X.K):=by
 intro pins s σ H x v vl vu lo hi sl Q I rx hs pl pu h;obtain⟨a,xs,rfl,hx,q⟩:=h;cases rx;obtain⟨its,r,ht,hz⟩:=I.list hx;have hlen:=r.length;refine⟨"list", _,slot_list_getitem.lookup,ht.isList.typeIs,?_⟩;refine wpAny_getItem_list_slice ht.isList hs pl pu .none (by simp) ?_ (by rw[zO] <;> omega);rw[q8g,<- hlen];refine⟨.ref s.heap.objs.size,_,I.laid (t':=s.toks) (o:=.lst (Wu xs lo hi)) (λb ob q=>zH _ q) (zN _) ?_,rfl,q _ (I.hok.fresh (zN _))⟩;exact⟨yA (q5A xs lo hi) hz,_,0,(r.drop (HT.sIx xs.length 0 lo)).take (HT.sIx xs.length xs.length hi-HT.sIx xs.length 0 lo),zT _ rfl⟩
noncomputable def Xm:V->Bool
 | .non=>true
 | .bl _=>true
 | .int _=>true
 | .str _=>true
 | _=>false
noncomputable def eqV:V->V->Bool
 | .non,.non=>true
 | .bl a,.bl b=>a==b
 | .bl a,.int b=>(if a then 1 else 0)==b
 | .int a,.bl b=>a==(if b then 1 else 0)
 | .int a,.int b=>a==b
 | .str a,.str b=>a==b
 | _,_=>false
theorem qim{A:vY}{s:vF}{y x:V}{u v:vB}(ry:RelV y u)(rx:RelV x v)(fy:Xm y=true)(fx:Xm x=true):SeqAt.EqAt A s u v (eqV y x):=by
 cases y with
 | non=>
  cases ry;cases x with
  | non=>cases rx;exact SeqAt.EqAt.same _
  | bl b=>cases rx;exact SeqAt.EqAt.none_bool b
  | int b=>obtain⟨t,rfl⟩:=rx;exact SeqAt.EqAt.none_int b t
  | str b=>obtain⟨t,rfl⟩:=rx;exact SeqAt.EqAt.none_str b t
  | _=>exact vN (show false=true from fx) yN
 | bl a=>
  cases ry;cases x with
  | non=>cases rx;exact SeqAt.EqAt.bool_none a
  | bl b=>cases rx;exact SeqAt.EqAt.bool_bool a b
  | int b=>obtain⟨t,rfl⟩:=rx;exact SeqAt.EqAt.bool_int a b t
  | str b=>obtain⟨t,rfl⟩:=rx;exact SeqAt.EqAt.bool_str a b t
  | _=>exact vN (show false=true from fx) yN
 | int a=>
  obtain⟨t',rfl⟩:=ry;cases x with
  | non=>cases rx;exact SeqAt.EqAt.int_none a t'
  | bl b=>cases rx;exact SeqAt.EqAt.int_bool a t' b
  | int b=>obtain⟨t,rfl⟩:=rx;exact SeqAt.EqAt.int_int a t' b t
  | str b=>obtain⟨t,rfl⟩:=rx;exact SeqAt.EqAt.int_str a t' b t
  | _=>exact vN (show false=true from fx) yN
 | str a=>
  obtain⟨t',rfl⟩:=ry;cases x with
  | non=>cases rx;exact SeqAt.EqAt.str_none a t'
  | bl b=>cases rx;exact SeqAt.EqAt.str_bool a t' b
  | int b=>obtain⟨t,rfl⟩:=rx;exact SeqAt.EqAt.str_int a t' b t
  | str b=>obtain⟨t,rfl⟩:=rx;exact SeqAt.EqAt.str_str a t' b t
  | _=>exact vN (show false=true from fx) yN
 | _=>exact vN (show false=true from fy) yN
noncomputable def eqU(x:V)(u:vB):Bool:=match u with
 | .none=>eqV .non x
 | .bool b=>eqV (.bl b) x
 | .int i _=>eqV (.int i) x
 | .str z _=>eqV (.str z) x
 | _=>false
theorem qcN{x y:V}{u:vB}(r:RelV y u)(f:Xm y=true):eqU x u=eqV y x:=by
 cases y with
 | non=>cases r;rfl
 | bl b=>cases r;rfl
 | int i=>obtain⟨t,rfl⟩:=r;rfl
 | str z=>obtain⟨t,rfl⟩:=r;rfl
 | _=>exact vN (show false=true from f) yN
theorem q77{x:V}:∀{xs:List V}{us:List vB},Yf xs us->xs.all Xm=true->us.any (eqU x)=xs.any λy=>eqV y x
 | _,_,.nil,_=>rfl
 | y::xs,u::us,.cons r t,f=>by
  rw[xP,z6]at f;rw[xg,xg,qcN r f.1,q77 t f.2]
theorem q5K{A:vY}{s:vF}{x:V}{v:vB}(rx:RelV x v)(fx:Xm x=true):∀{xs:List V}{us:List vB},Yf xs us->xs.all Xm=true->∀u∈us,SeqAt.EqAt A s u v (eqU x u)
 | _,_,.nil,_=>λu hu=>by cases hu
 | y::xs,u::us,.cons r t,f=>λu' hu=>by
  rw[xP,z6]at f;rcases zF.mp hu with rfl|hu
  ·rw[qcN r f.1];exact qim r rx f.1 fx
  ·exact q5K rx fx t f.2 u' hu
noncomputable def inV(x:V)(xs:List V):Bool:=xs.any λy=>eqV y x
noncomputable def rIn(K:zB)(neg:Bool):R2:=λx y H Q=>∃p xs,y=.ref p/\(SqL K H p xs\/SqT K H p xs)/\Xm x=true/\xs.all Xm=true/\Q (.bl (if neg then !inV x xs else inV x xs)) H
theorem qcE:OpR X (uA .In) (rIn X.K false):=by
 intro pins s σ H x y v u Q I rx ry h;obtain⟨p,xs,rfl,hq,fx,fs,q⟩:=h;cases ry;rcases hq with hq|hq
 ·obtain⟨its,r,pl,hz⟩:=I.list hq
  refine SeqAt.in_listAt (eqU x) pl.isList (λw hw=>q5K rx fx r fs w ⇑hw) ⟨.bl _,H,I,rfl,?_⟩;rw[show its.toArray.any (eqU x)=its.any (eqU x) by simp,q77 r fs];exact q
 ·obtain⟨its,r,pl,hz⟩:=I.tuple hq
  refine SeqAt.in_tupleAt (eqU x) pl (λw hw=>q5K rx fx r fs w ⇑hw) ⟨.bl _,H,I,rfl,?_⟩;rw[show its.toArray.any (eqU x)=its.any (eqU x) by simp,q77 r fs];exact q
theorem qB:XB X (.builtin "len") (λxs H Q=>∃p ys,xs=[.ref p]/\(SqL X.K H p ys\/SqT X.K H p ys)/\Q (.int ys.length) H):=by
 intro pins s σ H xs us Q I r h;obtain⟨p,ys,rfl,hq,q⟩:=h;obtain⟨u,rfl,rx⟩:=vals1 r;cases rx;have hn:=Xt;rcases hq with hq|hq
 ·obtain⟨its,r',pl,hz⟩:=I.list hq
  have hlen:=r'.length;exact Calls.call_len_list pl.isList (by simp only[zO] <;> omega) ⟨.int ys.length,H,I.tok _,⟨s.toks+1,by rw[zO,hlen]⟩,q⟩
 ·obtain⟨its,r',pl,hz⟩:=I.tuple hq
  have hlen:=r'.length;exact len_tuple pl (by simp only[zO] <;> omega) ⟨.int ys.length,H,I.tok _,⟨s.toks+1,by rw[zO,hlen]⟩,q⟩
theorem q4E:XB X (.type "list") (λxs H Q=>∃p ys,xs=[.ref p]/\(SqL X.K H p ys\/SqT X.K H p ys)/\∀l,H l=none->Q (.ref l) (upd H l (.lst ys))):=by
 intro pins s σ H xs us Q I r h;obtain⟨p,ys,rfl,hq,q⟩:=h;obtain⟨u,rfl,rx⟩:=vals1 r;cases rx;have fin:∀(its:List vB),Yf ys its->ys.length<=sizeLine->∀(h':vZ)(c':Nat),(∀b o',s.heap.get? b=some o'->h'.get? b=some o') ->
   h'.get? s.heap.objs.size=some { cls:=.type "list", dict:=none,data:=.seq its.toArray c',slots:=#[] }->EP X pins σ Q (.ref s.heap.objs.size) { s with heap:=h' }:=λits r' hz h' c' kp e=>
  ⟨.ref s.heap.objs.size,_,I.laid (t':=s.toks) kp (zN _) (show Yi X.prog X.w _ h' _ (.lst ys)from ⟨hz,its,c',r',e⟩),rfl,q _ (I.hok.fresh (zN _))⟩
 rcases hq with hq|hq
 ·obtain⟨its,r',pl,hz⟩:=I.list hq
  have hlen:=r'.length;obtain⟨o,ho,hc,n,hd⟩:=pl.isList;exact call_list_seq p (.inl rfl) ho hc hd (λh' c' kp e=>fin its r' hz h' c' kp e) (by simp only[zO] <;> omega)
 ·obtain⟨its,r',pl,hz⟩:=I.tuple hq
  have hlen:=r'.length;obtain⟨o,ho,hc,n,hd⟩:=pl;exact call_list_seq p (.inr rfl) ho hc hd (λh' c' kp e=>fin its r' hz h' c' kp e) (by simp only[zO] <;> omega)
def tyV(K:zB)(T:String)(x:V)(H:Hp):Prop:=match x with
 | .str _=>T = "str"
 | .int _=>T = "int"
 | .ref p=>(T = "list" /\ ∃xs,SqL K H p xs)\/(T = "tuple" /\ ∃o,K.lookup p=some o/\o.cls=.type "tuple" /\ o.dict=none) \/
   (T = "dict" /\ ((∃kvs,H p=some (.dK kvs))\/∃kvs,H p=some (.dT kvs)))\/(T = "set" /\ ∃S n,H p=some (.set S n))
 | _=>False
theorem qdh{pins:List (vC×Obj)}{σ:St}{H:Hp}{s:vF}{T:String}{x:V}{v:vB}(I:Inv X pins σ H s)(r:RelV x v)(ty:tyV X.K T x H):
  s.TypeIs v T/\∀a,v=.ref a->∃ob,s.heap.get? a=some ob/\ob.dict=none:=by
 cases x with
 | str z=>
  obtain⟨t,rfl⟩:=r;cases (show T = "str" from ty);exact⟨typeIs_str s z t,λ_ e=>nomatch e⟩
 | int i=>
  obtain⟨t,rfl⟩:=r;cases (show T = "int" from ty);exact⟨typeIs_int s i t,λ_ e=>nomatch e⟩
 | ref p=>
  cases r;rcases ty with⟨rfl,xs,hq⟩|⟨rfl,o,hk,hc,hd⟩|⟨rfl,hk⟩|⟨rfl,S,n,hk⟩
  ·obtain⟨its,_,pl,_⟩:=I.list hq
   refine⟨pl.isList.typeIs,λa e=>?_⟩;cases e;obtain⟨o,n,e,c,hd,_⟩:=pl;exact⟨o,e,hd⟩
  ·refine⟨⟨o,I.kIn p o hk,hc⟩,λa e=>?_⟩
   cases e;exact⟨o,I.kIn _ o hk,hd⟩
  ·have z:∃o,s.heap.get? p=some o/\o.ExactDict:=by
    rcases hk with⟨kvs,hk⟩|⟨kvs,hk⟩
    ·obtain⟨_,_,_,_,o,_,_,e,ex,_⟩:=I.hok p _ hk
     exact⟨o,e,ex⟩
    ·obtain⟨_,_,_,_,o,_,_,e,ex,_⟩:=I.hok p _ hk
     exact⟨o,e,ex⟩
   obtain⟨o,e,ex⟩:=z;refine⟨⟨o,e,ex.1⟩,λa e2=>?_⟩;cases e2;exact⟨o,e,ex.2.1⟩
  ·obtain⟨o,_,_,_,e,ex,_⟩:=I.hok p _ hk
   refine⟨⟨o,e,ex.1⟩,λa e2=>?_⟩;cases e2;exact⟨o,e,ex.2.1⟩
 | _=>exact False.elim ty
noncomputable def tBM0(K:zB)(T:String)(r:V->List V->Hp->VK->Prop)(to:TE):TE:=λσ H Q=>to σ H λx H1=>tyV K T x H1/\r x [] H1 Q
noncomputable def tBM(K:zB)(T:String)(r:V->List V->Hp->VK->Prop)(to:TE)(t:TA):TE:=λσ H Q=>to σ H λx H1=>tyV K T x H1/\t σ H1 λxs H2=>r x xs H2 Q
variable{o e:vP}{es:List vP}{to:TE}{t:TA}{name:Str}{apos cpos:Pos}{T id:String}{r:V->List V->Hp->VK->Prop}
theorem qiP(pa:PlainAttrs T)(slot:Slot T name id)(hty:typeOf (.builtin id)=pure (.type "method_descriptor"))(hm:MtR X id r)(ho:PE X o to)(hbase:uT o name X.env (eval o X.env)=eval o X.env:=by rfl)(hline:(apos.endLine==cpos.line)=true:=by rfl):PE X (.Call (.Attribute o name apos) [] [] cpos) (tBM0 X.K T r to):=by
 intro pins s σ H Q I h;refine wpAny_Call_method0_late hbase hline (thn (ho pins s σ H _ I h) λv s1 ⟨x,H1,I1,r1,ty,q1⟩=>?_);obtain⟨h1,h2⟩:=qdh I1 r1 ty;exact⟨T,id,pa,slot,hty,h1,h2,Calls.callWith_builtin rfl (PySem.evalArgs_none (hm pins s1 σ H1 x [] v [] Q I1 r1 .nil q1))⟩
theorem q8n(pa:PlainAttrs T)(slot:Slot T name id)(hty:typeOf (.builtin id)=pure (.type "method_descriptor"))(hm:MtR X id r)(ho:PE X o to)(ha:PA X (e::es) t)(hbase:uT o name X.env (eval o X.env)=eval o X.env:=by rfl)(hfew:((vn cpos (vL (e::es) X.env)).all (λx=>!x.1)&&(uL cpos (vz [] X.env)).all (λx=>x.1.isSome)
   && decide ((e::es).length+([]:List uW).length+(if ([]:List uW).isEmpty then 0 else 1)<30))=true:=by rfl)
  (hline:(apos.endLine==cpos.line)=true:=by rfl) (hs:vL (e::es) X.env=(false,eval e X.env)::vL es X.env:=by rfl) (hplain:(vn cpos (vL es X.env)).any (·.1)=false:=by rfl) :
  PE X (.Call (.Attribute o name apos) (e::es) [] cpos) (tBM X.K T r to t):=by
 intro pins s σ H Q I h;refine wpAny_Call_method_late hbase hfew hline rfl (thn (ho pins s σ H _ I h) λv s1 ⟨x,H1,I1,r1,ty,q1⟩=>?_);obtain⟨h1,h2⟩:=qdh I1 r1 ty;refine⟨T,id,pa,slot,hty,h1,h2,?_⟩;have hA:=ha cpos pins s1 σ H1 _ I1 q1;rw[hs]at hA ⊢;refine Calls.callWith_builtin (by show (false || (vn cpos (vL es X.env)).any (·.1))=false;rw[hplain] <;> rfl) (Calls.evalArgs_plain ?_);exact thn hA λus s2 ⟨vs,H2,I2,r2,q2⟩=>hm pins s2 σ H2 x vs v us Q I2 r1 r2 q2
end
def MtM(X:Cx)(id:String)(r:V->List V->Hp->VK->Prop):Prop :=
 ∀(pins:List (vC×Obj))(s:vF)(σ:St)(H:Hp)(x:V)(xs:List V)(v:vB)(us:List vB)(Q:VK),Inv X pins σ H s->RelV x v->Yf xs us->r x xs H Q ->
  vM (model X.prog X.w) X.A (call (.builtin id) (v::us)) (EP X pins σ Q) X.xe s
theorem Yf.one:∀{x:V}{us:List vB},Yf [x] us->∃u,us=[u]/\RelV x u
 | _,_,.cons r .nil=>⟨_,rfl,r⟩
theorem Yf.zero:∀{us:List vB},Yf [] us->us=[]
 | _,.nil=>rfl
theorem Yf.dropLast{xs:List V}{us:List vB}(h:Yf xs us):Yf xs.dropLast us.dropLast:=by
 induction h with
 | nil=>exact .nil
 | cons r t ih=>
  cases t with
  | nil=>exact .nil
  | cons q t'=>exact .cons r ih
theorem qc5{α:Type}(l:List α):l.eraseIdx (l.length-1)=l.dropLast:=by
 induction l with
 | nil=>rfl
 | cons a r ih=>
  cases r with
  | nil=>rfl
  | cons b r=>
   have e:(a::b::r).length-1=((b::r).length-1)+1:=by
    have h1:(a::b::r).length=r.length+2:=rfl;have h2:(b::r).length=r.length+1:=rfl;omega
   rw[e,List.eraseIdx_cons_succ,ih]
   all_goals rfl
section
variable{X:Cx}{pins:List (vC×Obj)}{σ:St}{H:Hp}{s:vF}{l b:vC}{xs ys zs:List V}
theorem Inv.lset{its its':List vB}{n:Nat}{f:Array vB->Array vB}{t':Nat}(I:Inv X pins σ H s)(hH:H l=some (.lst xs))(e:s.heap.get? l=some { cls:=.type "list", data:=.seq its.toArray n })(hf:f its.toArray=its'.toArray)(hv:Yf ys its')(hz:ys.length<=sizeLine):
  Inv X pins σ (upd H l (.lst ys)) { s with heap:=s.heap.update l (Obj.mapSeq f),toks:=t' }:=by
 have q:=PySem.IsL.update e f;rw[hf]at q;refine I.write (x:=l) (e:=l) (by rw[hH];exact trivial) (.inl rfl) (λb' u hb hu=>(zk s.heap (Obj.mapSeq f) (Ne.symm hb)).trans hu) ⟨_,q⟩ ?_;exact⟨hz,its',_,hv,q⟩
theorem Inv.lnew{its:List vB}{t':Nat}(I:Inv X pins σ H s)(hv:Yf ys its)(hz:ys.length<=sizeLine):
  Inv X pins σ (upd H s.heap.objs.size (.lst ys)) { s with heap:=s.heap.push { cls:=.type "list", data:=.seq its.toArray },toks:=t' } :=
 I.laid (λ_ _ q=>zH _ q) (zN _) ⟨hz,its,0,hv,zT _ rfl⟩
theorem Inv.fresh(I:Inv X pins σ H s):H s.heap.objs.size=none:=I.hok.fresh (zN _)
theorem Inv.lstM(I:Inv X pins σ H s)(hH:H l=some (.lst xs)):xs.length<=sizeLine/\∃(its:List vB) (n:Nat),Yf xs its/\xs.length=its.length/\s.heap.get? l=some { cls:=.type "list", data:=.seq its.toArray n }:=by
 obtain⟨z,its,n,r,e⟩:=I.hok l _ hH;exact⟨z,its,n,r,r.length,e⟩
theorem WO{n:Nat}(h:n<=sizeLine):Builtin.List.listTooLong n=false:=by
 unfold Builtin.List.listTooLong;exact vT ∅
end
section
variable{X:Cx}
def Ws:V->List V->Hp->VK->Prop:=λx vs H Q=>∃l xs y,x=.ref l/\vs=[y]/\H l=some (.lst xs)/\xs.length<sizeLine/\Q .non (upd H l (.lst (xs++[y])))
theorem q3s:MtM X "list.append" Ws:=by
 intro pins s σ H x vs v us Q I rx rv h;obtain⟨l,xs,y,rfl,rfl,hH,hz,q⟩:=h;cases rx;obtain⟨u,rfl,ru⟩:=rv.one;obtain⟨z,its,n,r,hl,e⟩:=I.lstM hH;refine tX F.slot_list_append ⟨_,e,rfl⟩ F.entry_list_append (F.args_list_append_2 _ _) (PySem.list_append l its.toArray n u (by rw[zO];omega)) ⟨e,?_⟩;refine⟨.non,_,I.lset (its':=its++[u]) hH e (by simp) (r.append (.cons ru .nil)) ?_,rfl,q⟩;rw[zE,zd];omega
def W2:V->List V->Hp->VK->Prop:=λx vs H Q=>∃l b xs zs,x=.ref l/\vs=[.ref b]/\H l=some (.lst xs)/\H b=some (.lst zs)/\xs.length+zs.length<=sizeLine/\Q .non (upd H l (.lst (xs++zs)))
theorem qez:MtM X "list.extend" W2:=by
 intro pins s σ H x vs v us Q I rx rv h;obtain⟨l,b,xs,zs,rfl,rfl,hH,hB,hz,q⟩:=h;cases rx;obtain⟨u,rfl,ru⟩:=rv.one;cases ru;obtain⟨z,its,n,r,hl,e⟩:=I.lstM hH;obtain⟨z2,its2,n2,r2,hl2,e2⟩:=I.lstM hB;have hsz:its.toArray.size+its2.toArray.size<=sizeLine:=by rw[zO,zO];omega
 have hlong:¬(!its.toArray.isEmpty&&Builtin.List.listTooLong (its.toArray.size+its2.toArray.size))=true:=by
  rw[WO hsz,wE];exact yN
 refine tX F.slot_list_extend ⟨_,e,rfl⟩ F.entry_list_extend (F.args_list_extend_2 _ _)
  (AutoSeq1.list_extend_list_list_0 l its.toArray n b its2.toArray n2 hlong (by rw[zO];omega) ∅) ⟨e,e2,?_⟩
 refine⟨.non,_,I.lset (its':=its++its2) hH e (by simp) (r.append r2) ?_,rfl,q⟩;rw[zE];omega
def rPop:V->List V->Hp->VK->Prop:=λx vs H Q=>∃l xs y,x=.ref l/\vs=[]/\H l=some (.lst xs)/\xs[xs.length-1]?=some y/\Q y (upd H l (.lst xs.dropLast))
theorem qiY:MtM X "list.pop" rPop:=by
 intro pins s σ H x vs v us Q I rx rv h;obtain⟨l,xs,y,rfl,rfl,hH,hy,q⟩:=h;cases rx;have hus:=rv.zero;subst hus;obtain⟨z,its,n,r,hl,e⟩:=I.lstM hH;obtain⟨u,hu,ru⟩:=r.get hy;have hy':its.toArray[its.toArray.size-1]?=some u:=by
  show its.toArray[its.length-1]?=some u;rw[<- za,<- hl];exact hu
 refine tX F.slot_list_pop ⟨_,e,rfl⟩ F.entry_list_pop (F.args_list_pop_1 _) (MeetsSeq.list_pop_last l its.toArray n u hy' (by rw[zO];omega)) ⟨e,?_⟩;refine⟨y,_,I.lset (its':=its.dropLast) hH e ?_ r.dropLast ?_,ru,q⟩
 ·show its.toArray.eraseIdxIfInBounds (its.toArray.size-1)=its.dropLast.toArray
  rw[zO,List.eraseIdxIfInBounds_toArray,qc5]
 ·rw[List.length_dropLast]
  omega
noncomputable def rCat:R2:=λx y H Q=>∃l b xs zs,x=.ref l/\y=.ref b/\H l=some (.lst xs)/\H b=some (.lst zs)/\xs.length+zs.length<=sizeLine/\∀p,H p=none->Q (.ref p) (upd H p (.lst (xs++zs)))
theorem qiX:OpR X (uK .Add) rCat:=by
 intro pins s σ H x y v u Q I rx ry h;obtain⟨l,b,xs,zs,rfl,rfl,hH,hB,hz,q⟩:=h;cases rx;cases ry;obtain⟨z,its,n,r,hl,e⟩:=I.lstM hH;obtain⟨z2,its2,n2,r2,hl2,e2⟩:=I.lstM hB;refine PySem.P.add_list e e2 ?_ (by rw[zO,zO];omega);have ea:its.toArray++its2.toArray=(its++its2).toArray:=by simp
 rw[ea];exact⟨.ref _,_,I.lnew (t':=s.toks) (r.append r2) (by rw[zE];omega),rfl,q _ I.fresh⟩
end
section
variable{prog:vO}{w:vU}{A:vY}{E:vB->vF->Prop}{s:vF}
end
section
variable{X:Cx}
end
end L2
namespace Att
open PySem PySem.W PySem.Calls PyProof.Rows
theorem Xk{P:Params}{h:vZ}:∀(ns:List Int)(vs:List vB),WellAll P h vs (ns.map WData.int)->v5 vs ns:=by
 intro ns
 induction ns with
 | nil=>
  intro vs w;rw[yf]at w;cases w;exact .nil
 | cons n ns ih=>
  intro vs w;rw[zR]at w;cases w with
  | cons a b=>
   cases a;exact .cons _ _ (ih _ b)
theorem W8{l:OpenLaw}{n:Nat}(hn:l.most=some n){P:Params}{h:vZ}{args:List WData}{vals:List vB}(hpre:l.row.toRowW.claim.pre args=true)(hwl:WellAll P h vals args):
  ∃a vs ns,vals=[Value.ref a]/\args=[WData.list (ns.map WData.int)]/\h.get? a=some { cls:=.type "list", data:=.seq vs.toArray }/\v5 vs ns/\ns.length<=n:=by
 have hsh:WShape.hasAll [] args [.list .int]=true:=(pre_splitW hpre).1;have hc:l.pre.holds [] { args:=args }=true:=(pre_splitW hpre).2;obtain⟨d,r,rfl,h1,h2⟩:=hasAllW_cons hsh;obtain rfl:=hasAllW_nil h2;obtain⟨xs,rfl,h3⟩:=hasW_list h1;obtain⟨ns,rfl⟩:=items_int h3;have hlen:ns.length<=n:=by
  unfold OpenLaw.pre at hc;have h4:(WTm.not (.lt (.lit (.int (n:Int))) (.len (.arg 0)))).holds [] { args:=[.list (ns.map .int)] }=true:=by
   have h4:=(holds_andW hc).1;rw[hn]at h4;exact h4
  have h5:=condW_of h4 (w_not (w_lt w_lit (w_len_list (w_arg rfl))));rw[zA]at h5;refine Nat.le_of_not_lt λq=>?_;have q':(n:Int)<((ns.length:Nat):Int):=∅
  first
   | (rw[vW q']at h5;exact vN h5 (by decide))
   | (simp at h5;omega)
 cases hwl with
 | cons w1 w2=>
  cases w2;cases w1 with
  | list ho hall=>exact⟨_,_,ns,rfl,rfl,ho,Xk ns _ hall,hlen⟩
theorem zAA(l:OpenLaw)(args:List WData):l.row.toRowW.claim.post args (.bool true) args=true :=
 postW_of (r:=l.row.toRowW) (X:=(true==true))
  (show WShape.has [] (.bool true) .bool=true by first|rfl|decide|simp[WShape.has,WShape.arms,WShape.armsAll])
  (show (WTm.eq .res (.lit (.bool true))).value [] { args:=args,res:=some (.bool true),after:=args }=some (.bool (true==true))from w_eq_bool (w_res rfl) w_lit) rfl
theorem attach_call{l:OpenLaw}{n:Nat}{q:vO}{loose:List Str}{XP:(Str->Option vB)->vZ->Prop}{YP:vU->vZ->Prop}{d:DefRec}(hn:l.most=some n)(hdf:d.params.defaults=[])(call:∀(w:vU)(s₀ s₁:vF)(mg mb:Str->Option vB)(fa:vC)(o:Obj)(pm cd doc:vB)(a:vC)(vs:List vB)(ns:List Int),
   Ground q loose [] XP w s₀ mg mb s₁.heap->YP w s₁.heap ->
   s₁.heap.get? fa=some o->o.data=.func (docDef d.name d.params d.body d.scope pm cd doc)->s₁.heap.CodeRec cd d.name->mg d.name=some (.ref fa) ->
   s₁.heap.get? a=some { cls:=.type "list", data:=.seq vs.toArray }->v5 vs ns->ns.length<=n->s₁.gens=#[] ->
   uP (model l.prog w) tQ (.call (.ref fa) ⟨[.ref a],[]⟩) (λr s'=>r=.ok (.ret (.bool true))/\OldK s₁.heap s'.heap/\s'.os=s₁.os/\ux s'.gens) s₁) :
  WalkO q loose XP YP l.row.toRowW d [] (λf vs=>PySem.call f vs):=by
 intro w s₀ s₁ mg mb G Y fa o pm cd doc dV kV ho hd hcd hD hmg hg args vals as hpre hlay hrd hwl hlo;obtain rfl:dV=.none:=Dflts.none hD hdf;obtain rfl:kV=.none:=Dflts.noKw hD;obtain⟨a,vs,ns,rfl,rfl,hobj,WV,hlen⟩:=W8 hn hpre hwl;refine enter_call (uQ (call w s₀ s₁ mg mb fa o pm cd doc a vs ns G Y ho (fd_plain hd) hcd hmg hobj WV hlen hg) λr s' hq=>?_);obtain⟨rfl,h2,h3,h4⟩:=hq;exact⟨.inl ⟨.bool true,.bool true,[],rfl,λ_=>rfl,.bool true,zAA l _,λ_=>⟨xi,λ_ hm=>(nomatch hm)⟩⟩,h2,h3,h4⟩
section
variable{prog:vO}{w:vU}{A:vY}{E:vB->vF->Prop}{s:vF}{K:Frag}
end
end Att
namespace L2
open PySem PySem.Spec PyProof.Rows
theorem q2a:∀{vs:List vB}{ns:List Int},v5 vs ns->Yf (ns.map V.int) vs
 | _,_,.nil=>.nil
 | _,_,.cons n t h=>.cons ⟨t,rfl⟩ (q2a h)
def Only(H:Hp):Prop:=∀b,H b=none\/∃o xs,H b=some (.frz o (.lst xs))
theorem qfA{P:vO}{w:vU}{K:zB}{mg mb:Str->Option vB}{CX:CXT}{k:Nat}{fa a:vC}{fd:vK}{x:Str}{sp:Sp}{s₁:vF}{vs:List vB}{ns:List Int}(KX:K.In s₁.heap)(hns:s₁.heap.Ns vQ mg)(hb:s₁.heap.Ns builtinsNs mb)(hbb:∀x:Str,x ≠ "__name__" -> mb x=vX x)(hlim:s₁.heap.NoLimit)(hg:s₁.gens=#[])(ha:s₁.heap.get? a=some { cls:=.type "list", data:=.seq vs.toArray })(hi:v5 vs ns)(hl:ns.length<=sizeLine)(hr:Room k tQ)(F:∀base:vZ,K.In base->base.Ns vQ mg->FnOk P w K mg base CX k fa fd [x] sp)(hbind:∀(s:vF)(u:vB),tf s fd ⟨[u],[]⟩ [(x,u)])(hsp:∀H:Hp,Only H->SqL K H a (ns.map V.int)->sp [.ref a] H (λv _=>v=.bl true) λ_ _ _=>False)(hCX:∀H e s',CX [] H s₁ (λ_ _ _=>False) e s'->False):
  uP (model P w) tQ (.call (.ref fa) ⟨[.ref a],[]⟩) (λr s'=>r=.ok (.ret (.bool true))/\OldK s₁.heap s'.heap/\s'.os=s₁.os/\ux s'.gens) s₁:=by
 have rv:=q2a hi;have lenV:=hi.length;have core:∀H:Hp,Only H->SqL K H a (ns.map V.int)->HOk P w H s₁.heap->(∀b,H b≠none->b=a)->(H a≠none->K.lookup a=none) ->
   uP (model P w) tQ (.call (.ref fa) ⟨[.ref a],[]⟩) (λr s'=>r=.ok (.ret (.bool true))/\OldK s₁.heap s'.heap/\s'.os=s₁.os/\ux s'.gens) s₁:=by
  intro H hO hS hok hA hK;have base_of:∀{b:vC}{o:Obj},s₁.heap.get? b=some o->H b=none->(zAJ s₁.heap H).get? b=some o:=λe n=>qfP e n;have noA:∀{b:vC}{o:Obj}{es:Array DictEntry}{ep:Nat},s₁.heap.get? b=some o->o.data=.dict es ep->H b=none:=λ{b o es ep} e d=>by
   cases q:H b with
   | none=>rfl
   | some u=>
    have e':b=a:=hA b (by rw[q];simp);subst e';rw[ha]at e;cases e;have d':Data.seq vs.toArray _=Data.dict es ep:=d;cases d'
  have nsK:∀{b:vC}{m:Str->Option vB},s₁.heap.Ns b m->(zAJ s₁.heap H).Ns b m:=λ{b m} ⟨o,es,ep,e,d,r⟩=>⟨o,es,ep,base_of e (noA e d),d,r⟩;have hKb:K.In (zAJ s₁.heap H):=λb o e=>base_of (KX b o e) (by
   cases q:H b with
   | none=>rfl
   | some u=>
    have e':b=a:=hA b (by rw[q];simp);subst e';rw[hK (by rw[q];simp)]at e;cases e)
  have hM:Mod K mg (zAJ s₁.heap H):=⟨hKb,nsK hns,⟨mb,nsK hb,hbb⟩,let ⟨mc,h1,h2⟩:=hlim;⟨mc,nsK h1,h2⟩⟩;have e0:Env0 P w K mg (zAJ s₁.heap H) tQ [] s₁ H:=⟨rfl,hM,λb o e=>qhc e,Nat.le_of_eq (qcP _ _),trivial,λb hb=>vN (show b∈([]:List vC)from hb) (by simp),hok,.of_eq hg⟩;refine uQ ((F _ hKb (nsK hns)).run tQ [] s₁ H ⟨[.ref a],[]⟩ [.ref a] [.ref a] _ _ hr e0 (hbind s₁ (.ref a)) (.cons rfl .nil) (hsp H hO hS)) λr s' h=>?_;cases r with
  | error e=>exact(hCX H e s' h).elim
  | ok fl=>
   cases fl with
   | next=>exact False.elim h
   | brk=>exact False.elim h
   | cont=>exact False.elim h
   | ret u=>
    obtain⟨v,H',os,bare,un,hok',r',q⟩:=h;have q':v=.bl true:=q;subst q';obtain rfl:u=Value.bool true:=r';refine⟨rfl,OldK.of_keep λb o e=>?_,os,bare⟩;cases q:H b with
    | none=>exact un.keep b o e q (by intro z;exact vN (show b∈([]:List vC)from z) (by simp)) (by simp)
    | some u=>
     rcases hO b with z|⟨ob,xs,z⟩
     ·rw[q]at z;cases z
     ·have z2:=un.frzs b ob _ z
      obtain⟨e1,_⟩:=hok b _ z;obtain⟨e2,_⟩:=hok' b _ z2;rw[e]at e1;cases e1;exact e2
 cases hk:K.lookup a with
 | some o=>
  have e:=KX a o hk;rw[ha]at e;cases e;refine core (λ_=>none) (λ_=>.inl rfl) (.inr ⟨_,vs.toArray,_,hk,rfl,rfl,rfl,by rw[zO,lenV];exact hl,by simpa using rv⟩) (λb u z=>by have z':(none:Option HO)=some u:=z;cases z') (λb z=>vN rfl z) λz=>vN rfl z
 | none=>
  refine core (λb=>if b=a then some (.frz { cls:=.type "list", data:=.seq vs.toArray } (.lst (ns.map V.int)))else none) (λb=>?_) (.inl (.inr ⟨{ cls:=.type "list", data:=.seq vs.toArray },vH rfl⟩)) (λb u z=>?_) (λb z=>?_) λ_=>hk
  ·by_cases hb:b=a
   ·exact .inr ⟨_,_,vH hb⟩
   ·exact .inl (vJ hb)
  ·by_cases hb:b=a
   ·have z':=(vH hb).symm.trans z
    cases z';subst hb;exact⟨ha,by rw[zA];exact hl,vs,_,rv,ha⟩
   ·have z':=(vJ hb).symm.trans z
    cases z'
  ·by_cases hb:b=a
   ·exact hb
   ·exact vN (vJ hb) z
noncomputable abbrev KOf{K:zB}{h:vZ}(_:K.In h):zB:=K
theorem qbL{l:wo}{n k:Nat}{q:vO}{loose:List Str}{XP:(Str->Option vB)->vZ->Prop}{YP:vU->vZ->Prop}{d:DefRec}{K:Params->zB}{CX:vU->CXT}{sp:vU->Sp}{x:Str}(hn:l.most=some n)(hn2:n<=sizeLine)(hdf:d.params.defaults=[])(hr:Room k tQ)(hY:∀(w:vU)(h:vZ),YP w h->(K w.params).In h)(F:∀(w:vU)(mg:Str->Option vB)(fa:vC)(h:vZ),(K w.params).In h->h.Ns vQ mg->mg d.name=some (.ref fa) ->
   ∃fd:vK,(∀(s:vF)(u:vB),tf s fd ⟨[u],[]⟩ [(x,u)]) /\
    ∀base:vZ,(K w.params).In base->base.Ns vQ mg->FnOk l.prog w (K w.params) mg base (CX w) k fa fd [x] (sp w))
  (hsp:∀(w:vU)(H:Hp)(a:vC)(ns:List Int),ns.length<=n->Only H->SqL (K w.params) H a (ns.map V.int)->sp w [.ref a] H (λv _=>v=.bl true) λ_ _ _=>False)
  (hCX:∀(w:vU)(H:Hp)(s:vF)(e:vB)(s':vF),CX w [] H s (λ_ _ _=>False) e s'->False) :
  Z9 q loose XP YP l.row.toRowW d [] (λf vs=>PySem.call f vs):=by
 refine Att.attach_call hn hdf λw s₀ s₁ mg mb fa o pm cd doc a vs ns G Y ho hd hcd hmg hobj WV hlen hg=>?_;have KX:=hY w _ Y;obtain⟨fd,hb,hF⟩:=F w mg fa _ KX G.T.g hmg;exact qfA KX G.T.g G.T.b G.T.builtins G.T.nolimit hg hobj WV (yA hlen hn2) hr hF hb (λH hO hS=>hsp w H a ns hlen hO hS) λH e s'=>hCX w H s₁ e s'
end L2
namespace L2
open PySem PySem.Spec PyProof.Rows
noncomputable def XH(s:vg):Arguments:=match s with
 | .FunctionDef _ a _ _ _ _ _ _ _ _=>a
 | _=>{ posonlyargs:=[],args:=[],vararg:=none,kwonlyargs:=[],kw_defaults:=[],kwarg:=none,defaults:=[] }
noncomputable def Y0(s:vg):List vg:=match s with
 | .FunctionDef _ _ b _ _ _ _ _ _ _=>b
 | _=>[]
noncomputable def YL(s:vg):ud:=match s with
 | .FunctionDef _ _ _ _ _ _ sc _ _ _=>sc
 | _=>{ kind:=.function,names:=[],isGenerator:=false,isCoroutine:=false }
noncomputable abbrev CX0:CXT:=λ_ _ _ _ _ _=>False
noncomputable abbrev E0:XK:=λ_ _ _=>False
theorem pass0{X:Cx}:WT CX0 X E0:=λ_ _ _ _ _ _ _ h=>h.elim
structure Fun (K:zB) (x qual:Str) (st:vg) (f:vC) (fd:vK):Prop where
 ex:∃(oc:vB) (od:Option vC) (kV doc pm:vB) (an:Option vC) (cdv ct:vB) (osl:Array (Option vB)),
  fd=xE x qual (XH st) (Y0 st) (YL st) .none kV doc pm an cdv ct/\K.lookup f=some ⟨oc,od,.func fd,osl⟩/\wC K cdv qual=true
 kp:xR K (.ref f)=true
section
variable{P:vO}{w:vU}{K:zB}{mg:Str->Option vB}{base:vZ}
theorem Fun.ok{x qual:Str}{st:vg}{f:vC}{fd:vK}{N ps:List Str}{k:Nat}{sp:Sp}(F:Fun K x qual st f fd)(S:FnScope N ps (YL st))(len:∀vs H Q E,sp vs H Q E->vs.length=ps.length)(hbody:∀(cdv:vB)(A:vY)(outer:List Env)(s:vF)(H:Hp)(vs:List V)(Q:VK)(E:XK),Room k (A.deeper (tI qual (YL st) s.heap.objs.size f cdv))->sp vs H Q E ->
   ∃t,PSs (zAd CX0 P w K mg base N qual (YL st) f cdv A outer s H E).nox (Y0 st) t/\t { nx:=λ_ H'=>Q .non H',rt:=Q } (start N vs) H):FnOk P w K mg base CX0 (k+1) f fd ps sp:=by
 obtain⟨oc,od,kV,doc,pm,an,cdv,ct,osl,rfl,lk,hcd⟩:=F.ex;refine qjf lk hcd S len λA outer s H vs Q E hr hsp=>?_;obtain⟨t,h,q⟩:=hbody cdv A outer s H vs Q E hr hsp;exact⟨t,h.nox,q⟩
theorem Fun.binds{x qual:Str}{st:vg}{f:vC}{fd:vK}{ps:List Str}(F:Fun K x qual st f fd)(h:∀(kV doc pm:vB)(an:Option vC)(cdv ct:vB)(us:List vB),us.length=ps.length->bindArgs (xE x qual (XH st) (Y0 st) (YL st) .none kV doc pm an cdv ct) ⟨us,[]⟩=pure (ps.zip us)):Binds K fd ps []:=by
 obtain⟨oc,od,kV,doc,pm,an,cdv,ct,osl,rfl,lk,hcd⟩:=F.ex;exact .all (h kV doc pm an cdv ct)
theorem qif{x qual:Str}{st:vg}{f:vC}{oc:vB}{od an:Option vC}{osl:Array (Option vB)}{kV doc pm cdv ct:vB}(l:K.lookup f=some ⟨oc,od,.func (xE x qual (XH st) (Y0 st) (YL st) .none kV doc pm an cdv ct),osl⟩)(c:wC K cdv qual=true)(k:xR K (.ref f)=true):Fun K x qual st f (xE x qual (XH st) (Y0 st) (YL st) .none kV doc pm an cdv ct):=⟨⟨oc,od,kV,doc,pm,an,cdv,ct,osl,rfl,l,c⟩,k⟩
end
theorem zAD{n:Nat}(h:n<=1000):n<sizeLine:=wF h (by decide)
section
variable{X:Cx}
theorem pv(i:Nat){x:Str}{pos:Pos}(hN:X.N[i]?=some x:=by rfl)(hv:Vis X.env.scope x:=by first|exact Or.inl rfl|exact Or.inr (Or.inl rfl)|exact Or.inr (Or.inr rfl))(hd:(x==("__debug__" : Str))=false:=by decide)(hcd:(x==("__classdict__" : Str))=false:=by decide):PE X (.Name x pos) (Xh i):=qi0 hN hv hd hcd
end
def Yd(H H':Hp):Prop:=∀b o,H b=some o->H' b=some o
theorem Yd.refl(H:Hp):Yd H H:=λ_ _ h=>h
theorem Yd.trans{H H1 H2:Hp}(a:Yd H H1)(b:Yd H1 H2):Yd H H2:=λc o h=>b c o (a c o h)
theorem Yd.free{H H':Hp}(e:Yd H H'){l:vC}(h:H' l=YE):H l=YE:=by
 cases q:H l with
 | none=>rfl
 | some o=>
  rw[e l o q]at h;cases h
theorem Yd.seq{K:zB}{H H':Hp}{a:vC}{xs:List V}(e:Yd H H')(h:SqL K H a xs):SqL K H' a xs:=by
 rcases h with (h|⟨o,h⟩)|h
 ·exact .inl (.inl (e _ _ h))
 ·exact .inl (.inr ⟨o,e _ _ h⟩)
 ·exact .inr h
end L2
namespace Hk
open PySem
def Wm(xs:Array Nat):Prop:=xs.toList.Pairwise (· < ·)
theorem q5d{l:List Nat}(h:l.Pairwise (· < ·)){i j:Nat}(hi:i<l.length)(hj:j<l.length)(hij:i<j):l[i]<l[j]:=yF.mp h i j hi hj hij
theorem qf2{xs:Array Nat}{j:Nat}(h:Wm xs):∀(fuel lo hi:Nat),lo<=hi->hi<=xs.size->hi-lo<=fuel->(∀k(z:k<xs.toList.length),k<lo->xs.toList[k]<j)->(∀k(z:k<xs.toList.length),hi<=k->j<=xs.toList[k]) ->
  SetTable.below.go xs j fuel lo hi<=xs.size/\(∀k(z:k<xs.toList.length),k<SetTable.below.go xs j fuel lo hi->xs.toList[k]<j)/\(∀k(z:k<xs.toList.length),SetTable.below.go xs j fuel lo hi<=k->j<=xs.toList[k]):=by
 intro fuel
 induction fuel with
 | zero=>
  intro lo hi h1 h2 h3 h4 h5;have e:lo=hi:=∅
  subst e;exact⟨h2,h4,h5⟩
 | succ n ih=>
  intro lo hi h1 h2 h3 h4 h5;unfold SetTable.below.go
  by_cases hl:lo<hi
  ·rw[vH hl]
   have hm:(lo+hi)/2<xs.toList.length:=by rw[zQ];omega
   have hg:xs.getD ((lo+hi)/2) j=xs.toList[(lo+hi)/2]:=by
    rw[Array.getD_eq_getD_getElem?,<- za,zC hm];rfl
   by_cases hc:xs.getD ((lo+hi)/2) j<j
   ·simp only[hc,if_true]
    refine ih _ _ ∅ h2 ∅ (λk z hk=>?_) h5
    by_cases e:k=(lo+hi)/2
    ·subst e;rw[hg]at hc;exact hc
    ·have:=q5d h z hm ∅
     rw[hg]at hc;omega
   ·simp only[hc,if_false]
    refine ih _ _ ∅ ∅ ∅ h4 (λk z hk=>?_)
    by_cases e:k=(lo+hi)/2
    ·subst e;rw[hg]at hc;omega
    ·have:=q5d h hm z ∅
     rw[hg]at hc;omega
  ·rw[vJ hl]
   have e:lo=hi:=∅
   subst e;exact⟨h2,h4,h5⟩
theorem q9p{xs:Array Nat}(h:Wm xs)(j:Nat):SetTable.below xs j<=xs.size/\(∀k(z:k<xs.toList.length),k<SetTable.below xs j->xs.toList[k]<j)/\(∀k(z:k<xs.toList.length),SetTable.below xs j<=k->j<=xs.toList[k]) :=
 qf2 h xs.size 0 xs.size (yQ _) (zN _) ∅ (λk z hk=>vN hk (xx _)) (λk z hk=>by rw[zQ]at z;omega)
theorem q4y{α:Type}(xs:Array α)(p:Nat)(x:α):(SetTable.insertAt xs p x).toList=xs.toList.take p++x::xs.toList.drop p:=by
 unfold SetTable.insertAt;simp[Array.toList_extract,wZ]
theorem qae{xs:Array Nat}(h:Wm xs){j:Nat}(hn:xs[SetTable.below xs j]?≠some j):Wm (SetTable.insertAt xs (SetTable.below xs j) j):=by
 obtain⟨h1,h2,h3⟩:=q9p h j;unfold Wm;rw[q4y,xS];have lt:∀y∈xs.toList.drop (SetTable.below xs j),j<y:=by
  intro y hy;obtain⟨k,hk,e⟩:=zi.mp hy;rw[yK]at hk;rw[List.getElem_drop]at e;have hb:SetTable.below xs j<xs.toList.length:=∅
  have hh:=h3 _ hb (zN _);have ne:xs.toList[SetTable.below xs j]≠j:=λz=>hn (by rw[<- za,zC hb,z]);have hle:xs.toList[SetTable.below xs j]<=y:=by
   by_cases e0:k=0
   ·subst e0;rw[<- e];simp
   ·rw[<- e];exact yP (q5d h hb ∅ ∅)
  omega
 refine⟨xq (ZZ _ _) h,zV.mpr ⟨lt,xq (List.drop_sublist _ _) h⟩,λa ha b hb=>?_⟩;have haj:a<j:=by
  obtain⟨k,hk,e⟩:=zi.mp ha;rw[zn]at hk;rw[Za]at e;rw[<- e];exact h2 k ∅ ∅
 rcases zF.mp hb with rfl|hb
 ·exact haj
 ·exact Zb haj (lt b hb)
structure Tb (t:SetTable) (n:Nat):Prop where
 fits:t.fits n=true
 rise:Wm t.place
 dum:t.dummies=#[]
theorem q9e{t:SetTable}(hd:t.dummies=#[])(j:Nat):t.slot j≠.dummy:=by
 unfold SetTable.slot;rw[hd]
 dsimp only
 split
 ·exact λz=>nomatch z
 ·have:SetTable.has #[] j=false:=by simp[SetTable.has]
  rw[this];exact λz=>nomatch z
theorem qam{t:SetTable}(hd:t.dummies=#[]){h:Int}:∀(fuel:Nat)(p:SetTable.Probe)(m:SetTable.Met),p.dummy=none->SetTable.probe.go t (λ_=>h+1) h fuel p=some m->∃j,m=.empty j none/\t.slot j=.empty:=by
 intro fuel
 induction fuel with
 | zero=>intro p m _ e;cases e
 | succ n ih=>
  intro p m hp e;unfold SetTable.probe.go at e;cases hs:t.slot p.j with
  | empty=>
   rw[hs]at e;cases e;exact⟨p.j,by rw[hp],hs⟩
  | dummy=>exact vN hs (q9e hd _)
  | live i=>
   rw[hs]at e;have hne:(h+1==h)=false:=by simp only[beq_eq_false_iff_ne,ne_eq];omega
   dsimp only at e
   rw[hne]at e;refine ih _ m ?_ e;unfold SetTable.advance
   split
   ·exact hp
   ·exact hp
theorem qa9{t:SetTable}(hd:t.dummies=#[]){h:Int}{slot:Nat}{b:Bool}(e:t.freeSlot h=some (slot,b)):b=false/\t.place[SetTable.below t.place slot]?≠some slot:=by
 unfold SetTable.freeSlot at e;cases q:t.probe (λ_=>h+1) h (t.probeStart h)with
 | none=>rw[q]at e;cases e
 | some m=>
  rw[q]at e;obtain⟨j,rfl,hs⟩:=qam hd _ _ m (by rfl) q;cases e;refine⟨rfl,λz=>?_⟩;unfold SetTable.slot at hs
  dsimp only at hs
  have:(t.place[SetTable.below t.place j]?==some j)=true:=by
   rw[show t.place[SetTable.below t.place j]?=some j from z];simp
  rw[vH this]at hs;cases hs
theorem qc4(n:Nat):Wm (Array.range n):=by
 unfold Wm;rw[Array.toList_range];exact xj
theorem q2p(t:SetTable)(n:Nat):Tb (t.standIn n) n:=by
 refine⟨?_,qc4 n,rfl⟩;unfold SetTable.fits SetTable.standIn SetTable.fill;simp;omega
theorem qjm{t:SetTable}{n:Nat}(h:Wm t.place)(hd:t.dummies=#[]):Tb (t.orStandIn n) n:=by
 unfold SetTable.orStandIn
 by_cases z:t.fits n=true
 ·rw[vH z];exact⟨z,h,hd⟩
 ·rw[vJ z];exact q2p t n
theorem qiU(t:SetTable)(n:Nat):(t.orStandIn n).led=t.led:=by
 unfold SetTable.orStandIn
 split <;> rfl
theorem qcW{t:SetTable}{es:Array (Int×vB)}{h:Int}{x:vB}(T:Tb t es.size):
  (layNew t es h x).2.2.1=false/\Tb (layNew t es h x).2.1 (layNew t es h x).1.size/\(layNew t es h x).2.1.led=t.led/\(layNew t es h x).1.toList.Perm ((h,x)::es.toList):=by
 unfold layNew;cases q:t.freeSlot h with
 | none=>
  refine⟨rfl,?_,rfl,?_⟩
  ·rw[wp];exact q2p t _
  ·rw[Zc]
   exact List.perm_append_singleton _ _
 | some p=>
  obtain⟨slot,b⟩:=p;obtain⟨rfl,hn⟩:=qa9 T.dum q;have hd:(t.put slot).1.dummies=#[]:=by
   unfold SetTable.put
   dsimp only
   rw[T.dum];simp[SetTable.has]
  refine⟨rfl,qjm (qae T.rise hn) hd,(qiU _ _).trans rfl,?_⟩;rw[q4y];refine Zs List.perm_middle ?_;rw[xA]
theorem q69{α:Type}{f:α->Option α}(h:∀x y,f x=some y->y=x):∀l:List α,(l.filterMap f).Sublist l
 | []=>by simp
 | a::r=>by
  rw[xI];cases q:f a with
  | none=>exact(q69 h r).cons a
  | some b=>rw[h a b q];exact(q69 h r).cons_cons a
theorem q6i{α:Type}:∀l:List α,(yI l.length).filterMap (λi=>l[i]?)=l
 | []=>rfl
 | a::r=>by
  rw[zL,wc,xI];simp only[xK];rw[ZR];have e:((λi=>(a::r)[i]?) ∘ Nat.succ)=λi=>r[i]?:=by funext i;simp
  rw[e,q6i r]
theorem qhB{mask finger moves:Nat}{led plain:Bool}{hs:Array Int}{t:SetTable}{o:Array Nat}(e:SetTable.laid mask finger moves led plain hs=some (t,o)):Wm t.place/\t.dummies=#[]/\t.led=led:=by
 unfold SetTable.laid at e;cases q:SetTable.layClean mask hs with
 | none=>rw[q]at e;cases e
 | some owner=>
  rw[q]at e;cases e;refine⟨?_,rfl,rfl⟩;unfold Wm
  dsimp only
  rw[List.map_filterMap];refine xq (q69 (λx y z=>?_) _) xj;cases q2:owner.getD x none with
  | none=>rw[q2]at z;cases z
  | some c=>rw[q2]at z;exact(z5 z).symm
theorem qf0{t:SetTable}{es:Array (Int×vB)}(w:Nat):Tb (relayAll t es w).2.1 (relayAll t es w).1.size/\(relayAll t es w).2.1.led=t.led/\(relayAll t es w).1.toList.Perm es.toList:=by
 unfold relayAll;cases q:t.relaid (es.map (·.1)) w with
 | none=>exact⟨q2p t _,rfl,xT _⟩
 | some p=>
  obtain⟨t',order⟩:=p
  dsimp only
  obtain⟨h1,h2,h3⟩:=qhB q
  by_cases z:(coversAll order es.size&&t'.fits (order.filterMap (es[·]?)).size)=true
  ·rw[vH z]
   rw[z6]at z;refine⟨⟨z.2,h1,h2⟩,h3,?_⟩;have hp:order.toList.Perm (yI es.size):=List.isPerm_iff.mp z.1;rw[Array.toList_filterMap];have e:(λ(i:Nat)=>es[i]?)=λ(i:Nat)=>es.toList[i]?:=by funext i;simp
   rw[e];have q2:=hp.filterMap λi=>es.toList[i]?;rw[<- zQ,q6i]at q2;exact q2
  ·rw[vJ z]
   exact⟨q2p t _,rfl,xT _⟩
end Hk
namespace Hk
open PySem PySem.Spec PyProof.Rows
noncomputable def vI:vB->Int
 | .int i _=>i
 | _=>0
def Xw(e:Int×vB):Prop:=∃x t,e=(t8 x,Value.int x t)
theorem qci{prog:vO}{w:vU}{l:List (Int×vB)}(h:∀e∈l,Xw e):ElemsOf (ul prog w) l:=λe he=>by
 obtain⟨x,t,rfl⟩:=h e he;exact⟨⟨x,intKind_is _ _ _ _,rfl⟩,rfl⟩
def WH(h:vZ)(a:vC)(led:Bool)(xs:List Int):Prop:=∃o es ep t,h.get? a=some o/\o.ExactSet/\o.data=.set es ep t/\Tb t es.size/\t.led=led/\es.size<uR /\
 (∀e∈es.toList,Xw e)/\es.toList.map (λe=>vI e.2)=xs/\xs.Nodup
theorem WH.len{h:vZ}{a:vC}{led:Bool}{xs:List Int}(S:WH h a led xs):xs.length<uR:=by
 obtain⟨o,es,ep,t,_,_,_,_,_,z,_,e,_⟩:=S;rw[<- e,zA,zQ];exact z
theorem WH.at{h h':vZ}{a:vC}{led:Bool}{xs:List Int}(S:WH h a led xs)(k:∀o,h.get? a=some o->h'.get? a=some o):WH h' a led xs:=by
 obtain⟨o,es,ep,t,e,r⟩:=S;exact⟨o,es,ep,t,k o e,r⟩
theorem qbb{prog:vO}{w:vU}{e:Int×vB}(h:Xw e)(x:Int):(ul prog w).is x e.2=decide (vI e.2=x):=by
 obtain⟨y,t,rfl⟩:=h;show Value.isInt x (.int y t)=decide (y=x)
 by_cases z:y=x
 ·subst z;simp[Value.isInt]
 ·simp[Value.isInt,z]
theorem qes{prog:vO}{w:vU}{l:List (Int×vB)}(h:∀e∈l,Xw e){x:Int}(q:l.findIdx? (λe=>(ul prog w).is x e.2)=none):x∉l.map (λe=>vI e.2):=λz=>by
 obtain⟨e,he,ex⟩:=zS.mp z;have:=List.findIdx?_eq_none_iff.mp q e he;rw[qbb (h e he),ex]at this;simp at this
theorem qek{prog:vO}{w:vU}{l:List (Int×vB)}(h:∀e∈l,Xw e){x:Int}{j:Nat}(q:l.findIdx? (λe=>(ul prog w).is x e.2)=some j):x∈l.map (λe=>vI e.2):=by
 obtain⟨hj,hp,_⟩:=List.findIdx?_eq_some_iff_getElem.mp q;rw[qbb (h _ (zZ hj))]at hp;exact zS.mpr ⟨_,zZ hj,of_decide_eq_true hp⟩
section
variable{prog:vO}{w:vU}{A:vY}{E:vB->vF->Prop}{s:vF}
theorem qaU{h:vZ}{a:vC}{o:Obj}{es es':Array (Int×vB)}{ep:Nat}{t t':SetTable}{led:Bool}{xs:List Int}(go:h.get? a=some o)(gx:o.ExactSet)(gd:o.data=.set es ep t)(T:Tb t' es'.size)(gl:t'.led=led)(gb:es'.size<uR)(gg:∀e∈es'.toList,Xw e)(gv:es'.toList.map (λe=>vI e.2)=xs)(gn:xs.Nodup):
  (h.update a (Obj.putSet es' t')).get? a=some { o with data:=.set es' (ep+1) t' }/\WH (h.update a (Obj.putSet es' t')) a led xs:=by
 have q:=yl (Obj.putSet es' t') go (by rw[putSet_of es' t' gd];rfl);rw[putSet_of es' t' gd]at q;exact⟨q,_,es',ep+1,t',q,gx,rfl,T,gl,gb,gg,gv,gn⟩
theorem qe7{g:Bool->Sem Unit}(gw:∀(b:Bool)(s1:vF)(Q':Unit->vF->Prop),Q' () s1->vM (model prog w) A (g b) Q' E s1){a:vC}{o:Obj}{es es1:Array (Int×vB)}{ep:Nat}{t t2:SetTable}{led:Bool}{xs:List Int}(go:s.heap.get? a=some o)(gx:o.ExactSet)(gd:o.data=.set es ep t)(T:Tb t2 es1.size)(gl:t2.led=led)(gb:es1.size<uR)(gg:∀e∈es1.toList,Xw e)(gv:es1.toList.map (λe=>vI e.2)=xs)(gn:xs.Nodup){dm:Bool}{R:Option Bool->vF->Prop}(k:∀h' ys,xD a s.heap h'->WH h' a led ys->ys.Perm xs->R (some true) { s with heap:=h' }):
  vM (model prog w) A (do
    storeSet a es1 t2
    if (!dm&&t2.tooFull)=true then do
      g (relayAll t2 es1 (SetTable.grown es1.size)).2.2
      storeSet a (relayAll t2 es1 (SetTable.grown es1.size)).1 (relayAll t2 es1 (SetTable.grown es1.size)).2.1
      pure (some true)
     else pure (some true)) R E s:=by
 refine vA (wpAny_storeSet_of go gd ?_ (fits_of_scanBound gb));obtain⟨g1,S1⟩:=qaU go gx gd T gl gb gg gv gn;have sb:=ZF s.heap a (Obj.putSet es1 t2)
 split
 ·obtain⟨T2,l2,p2⟩:=qf0 (t:=t2) (es:=es1) (SetTable.grown es1.size)
  generalize relayAll t2 es1 (SetTable.grown es1.size)=rl at T2 l2 p2 ⊢;obtain⟨es2,t3,gv2⟩:=rl
  dsimp only at T2 l2 p2 ⊢
  have hz:es2.size=es1.size:=by rw[<- zQ,p2.length_eq,zQ]
  have gb2:es2.size<uR:=by rw[hz];exact gb
  have pv:(es2.toList.map λe=>vI e.2).Perm xs:=by rw[<- gv];exact p2.map _
  refine vA (gw _ _ _ ?_);refine vA (wpAny_storeSet_of g1 rfl ?_ (fits_of_scanBound gb2));obtain⟨_,S2⟩:=qaU g1 gx rfl T2 (l2.trans gl) gb2 (λe he=>gg e (p2.mem_iff.mp he)) rfl (pv.nodup_iff.mpr gn);exact vG (k _ _ (sb.trans (ZF _ a _)) S2 pv)
 ·exact vG (k _ _ sb S1 (xT _))
theorem qjh{a:vC}{led:Bool}{xs:List Int}{x:Int}{tk:Tok}{Q:Bool->vF->Prop}(S:WH s.heap a led xs)(room:xs.length+1<uR)(k:∀b h' ys,xD a s.heap h'->WH h' a led ys->(x∈xs->ys=xs)->(x∉xs->ys.Perm (x::xs))->Q b { s with heap:=h' }):
  vM (model prog w) A (setAddHashed a (.int x tk) (t8 x)) Q E s:=by
 obtain⟨o,es,ep,t,go,gx,gd,T,gl,gb,gg,gv,gn⟩:=id S;have hl:es.size=xs.length:=by rw[<- gv,zA,zQ]
 have el:ElemsOf (ul prog w) es.toList:=qci gg;unfold setAddHashed setAddHashedIn;refine vc (vA (vm go gd T.fits ?_))
 dsimp only
 rw[byScan_of (knd:=ul prog w) (x:=.int x tk) rfl gb el];simp only[↓reduceIte];unfold setAddByScan;refine vA (vA (uJ (vA (wpAny_setScan_of (knd:=ul prog w) (k:=x) (intKind_is _ _ _ _) go gd T.fits el ?_))));cases q:List.findIdx? (λe=>(ul prog w).is x e.2) es.toList with
 | some j=>
  dsimp only
  have hx:x∈xs:=by rw[<- gv];exact qek gg q
  refine vG (vG ?_);exact k false s.heap xs (Zd a s.heap) S (λ_=>rfl) λz=>vN hx z
 | none=>
  dsimp only
  have hx:x∉xs:=by rw[<- gv];exact qes gg q
  obtain⟨d0,T1,l1,p1⟩:=qcW (t:=t) (es:=es) (h:=t8 x) (x:=.int x tk) T;generalize layNew t es (t8 x) (.int x tk)=ly at d0 T1 l1 p1 ⊢;obtain⟨es1,t1,dm,gave⟩:=ly
  dsimp only at d0 T1 l1 p1 ⊢
  have gg1:∀e∈es1.toList,Xw e:=λe he=>by
   rcases zF.mp (p1.mem_iff.mp he)with rfl|he
   ·exact⟨x,tk,rfl⟩
   ·exact gg e he
  have pv:(es1.toList.map λe=>vI e.2).Perm (x::xs):=by rw[<- gv];exact p1.map _
  have gn1:(es1.toList.map λe=>vI e.2).Nodup:=pv.nodup_iff.mpr (ye.mpr ⟨hx,gn⟩);have gb1:es1.size<uR:=by
   have:=pv.length_eq;rw[zA,zQ,zL]at this;omega
  have gw:∀(b:Bool)(s1:vF)(Q':Unit->vF->Prop),Q' () s1->vM (model prog w) A (match b with|true=>rule "set.scan.the-table-gave-way" | false=>pure ()) Q' E s1 :=
   λb s1 Q' z=>by cases b <;> first|exact vG z|exact uJ z
  refine vA (gw _ _ _ ?_);have fin:∀h' ys,xD a s.heap h'->WH h' a led ys->ys.Perm (es1.toList.map λe=>vI e.2)->Q true { s with heap:=h' }:=λh' ys sb S' p=>k true h' ys sb S' (λz=>vN z hx) λ_=>p.trans pv
  split
  ·refine vA ?_
   rw[hashByValue_scannable 8 (x:=Value.int x tk) rfl];refine vG ?_;refine qe7 (λb s1 Q' z=>by cases b <;> first|exact vG z|exact uJ z) go gx gd T1 (l1.trans gl) gb1 gg1 rfl gn1 λh' ys sb S' p=>?_;exact vG (fin h' ys sb S' p)
  ·refine vA (vG ?_)
   simp only[↓reduceIte];refine qe7 (λb s1 Q' z=>by cases b <;> first|exact vG z|exact uJ z) go gx gd T1 (l1.trans gl) gb1 gg1 rfl gn1 λh' ys sb S' p=>?_;exact vG (fin h' ys sb S' p)
end
def zAP(h:vZ)(S:vC)(led:Bool)(val:Nat->Int)(m:Nat):Prop:=∃xs,WH h S led xs/\xs.length<=m/\∀x,x∈xs↔∃i,i<m/\val i=x
theorem zAP.at{h h':vZ}{a:vC}{led:Bool}{val:Nat->Int}{m:Nat}(S:zAP h a led val m)(k:∀o,h.get? a=some o->h'.get? a=some o):zAP h' a led val m:=by
 obtain⟨xs,q,r⟩:=S;exact⟨xs,q.at k,r⟩
section
variable{prog:vO}{w:vU}{A:vY}{R:tu->vF->Prop}{I:vC}{fp wr:List vC}{G:Array tY->Array tY->Prop}{n:Nat}{P:Nat->vB->Prop}{St:Nat->vF->Prop}
theorem zAl(W:WalksS prog w A.in1 I fp wr G n P St)(S:vC)(hS:S∉fp){led:Bool}(val:Nat->Int)(hv:∀i v,P i v->∃t,v=.int (val i) t)(hb:n+1<uR):
  ∀(k i:Nat)(s:vF),n-i=k->i<=n->St i s->zAP s.heap S led val i->(∀s',Moved (S::wr) G s s'->zAP s'.heap S led val n->R (.ok (.ret .none)) s') ->
   uP (model prog w) A (.builtin "set.update.loop" ⟨[.ref S,.ref I],[]⟩) R s:=by
 have hw:S∉wr:=λz=>hS (W.sub _ z);have hsub:∀b∈wr,b∈S::wr:=λb z=>zG _ z;intro k
 induction k with
 | zero=>
  intro i s hk hi st SV hR;have hin:i=n:=∅
  subst hin;refine v6 PyProof.Rows.F.entry_set_update_loop ?_;rw[Around.under_plainId PyProof.Rows.F.plain_set_update_loop _];show vM _ A.in1 (uG (.ref I) >>= _) _ _ s;refine vA (W.done s _ _ st λs' hm=>?_);show vM _ A.in1 (ret Value.none) _ _ s';exact vG (hR s' (hm.mono hsub) (SV.at λo e=>hm.heap S o hw e))
 | succ k ih=>
  intro i s hk hi st SV hR;have hlt:i<n:=∅
  refine v6 PyProof.Rows.F.entry_set_update_loop ?_;rw[Around.under_plainId PyProof.Rows.F.plain_set_update_loop _];show vM _ A.in1 (uG (.ref I) >>= _) _ _ s;refine vA (W.item i s _ _ hlt st λv s1 hP st1 hm=>?_);obtain⟨t,rfl⟩:=hv i v hP;obtain⟨xs,S1,hl,hx⟩:=SV.at (h':=s1.heap) λo e=>hm.heap S o hw e;show vM _ A.in1 (holding [Value.int (val i) t] (setAdd S (.int (val i) t)) >>= _) _ _ s1;refine vA (vc ?_);unfold setAdd;refine vc ?_;refine vA ((ul prog w).pyHash (k:=val i) (intKind_is _ _ _ _) ?_);refine qjh (s:={ s1 with toks:=s1.toks+1 }) (x:=val i) S1 ∅ λb h' ys sb S2 y1 y2=>?_;have SV2:zAP h' S led val (i+1):=by
   refine⟨ys,S2,?_,λx=>?_⟩
   ·by_cases z:val i∈xs
    ·rw[y1 z];omega
    ·rw[(y2 z).length_eq,zL];omega
   ·by_cases z:val i∈xs
    ·rw[y1 z,hx]
     refine⟨λ⟨j,h1,h2⟩=>⟨j,∅,h2⟩,λ⟨j,h1,h2⟩=>?_⟩
     by_cases e:j=i
     ·subst e;exact(hx x).mp (by rw[<- h2];exact z)
     ·exact⟨j,∅,h2⟩
    ·rw[(y2 z).mem_iff,zF,hx]
     refine⟨λh=>?_,λ⟨j,h1,h2⟩=>?_⟩
     ·rcases h with h|⟨j,h1,h2⟩
      ·exact⟨i,∅,h.symm⟩
      ·exact⟨j,∅,h2⟩
     ·by_cases e:j=i
      ·subst e;exact .inl h2.symm
      ·exact .inr ⟨j,∅,h2⟩
  refine vG ⟨uF PyProof.Rows.F.plain_set_update_loop _,ih (i+1) _ ∅ hlt (W.frame _ s1 _ _ st1 (xF _) λb z o e=>?_) SV2 λs2 hm2 S3=>?_⟩
  ·rw[sb.2 b (λy:b=S=>hS (by rw[<- y];exact z))];exact e
  ·refine hR s2 (Moved.trans W.gtrans ((hm.mono hsub).then_heap (xF _) λb o z e=>?_) hm2) S3
   rw[sb.2 b (λy:b=S=>z (by rw[y];exact zD))];exact e
end
noncomputable abbrev Y1(w:vU):Bool:=!w.params.followText "set-order"
section
variable{prog:vO}{w:vU}{A:vY}{E:vB->vF->Prop}{s:vF}
theorem qhp(a:vB){Q1:vB->vF->Prop}(h:Q1 (.ref s.heap.objs.size) { s with heap:=s.heap.push { cls:=.type "set", data:=.set #[] 0 (.fresh 0 0 (Y1 w)) } }):
  uP (model prog w) A (.call (.builtin "set.__new__") ⟨[.type "set", a],[]⟩) (wants Q1 E) s:=by
 refine codeAny_of_tree ?_;show vM _ A.in1 (checkBuiltinCall "set.__new__" ⟨[.type "set", a],[]⟩ >>= λ_=>again (.builtin "set.__new__" ⟨[.type "set", a],[]⟩)) _ _ s;refine vA (t5 (PySem.F.newCall_set_1 a) (vG ⟨uF PySem.F.plain_set_new _,v6 PySem.F.entry_set_new ?_⟩));rw[Around.under_plainId PySem.F.plain_set_new _];unfold Builtin.«set.__new__» Builtin.Frozenset.newClass;have p1:=sub_set_self;obtain⟨hp,g,d,tk,os⟩:=s
 dsimp only
 wp_walk
 refine u5 (vG ?_)
 dsimp only
 simp only[newObj];refine vA (wpAny_alloc (vG ?_));exact vG h
set_option maxHeartbeats 3200000 in
theorem qag{l:vC}{items:Array vB}{ns:List Int}{Q:vB->vF->Prop}(hh:A.handled=none)(il:s.heap.IsList l items)(ia:v5 items.toList ns)(hb:items.size+1<uR)(k:∀(h':vZ)(tk:Nat),zAP h' s.heap.objs.size (Y1 w) (λi=>ns.getD i 0) items.size->(∀b o,b<s.heap.objs.size->s.heap.get? b=some o->h'.get? b=some o)->Q (.ref s.heap.objs.size) { s with heap:=h',toks:=tk }):
  vM (model prog w) A (call (.type "set") [.ref l]) Q E s:=by
 obtain⟨c,tl,c1⟩:=PySem.F.called_set.mro;have c2:=PySem.F.called_set.made;have c3:=PySem.F.called_set.sub;refine wpAny_call (codeAny_of_tree ?_);show vM _ _ (callAny (.type "set") _) _ _ _;refine vG ⟨Code.quiet_builtin _ ⋯,v6 PySem.F.entry_type_call ?_⟩;rw[Around.under_plain (weight_type_call_type "set" [.ref l] []) rfl];have c4:=PySem.F.called_set.notType;have c5:=PySem.F.called_set.canCreate;have c6:=PySem.F.typeCall_set_1 (.ref l)
 repeat (any_goals (first|assumption|wp_step))
 refine uQ (qhp (.ref l) (E:=E) (Q1:=λobj s1=>obj=.ref s.heap.objs.size/\s1={ s with heap:=s.heap.push { cls:=.type "set", data:=.set #[] 0 (.fresh 0 0 (Y1 w)) } }) ⟨rfl,rfl⟩) λr s1 hr=>?_;cases r with
 | error e=>exact hr
 | ok fl=>
  cases fl with
  | ret obj=>
   obtain⟨rfl,rfl⟩:=hr;have hS:(s.heap.push { cls:=.type "set", data:=.set #[] 0 (.fresh 0 0 (Y1 w)) }).get? s.heap.objs.size=some { cls:=.type "set", data:=.set #[] 0 (.fresh 0 0 (Y1 w)) }:=zT _ rfl;have hT:Shared.TypeIs { s with heap:=s.heap.push { cls:=.type "set", data:=.set #[] 0 (.fresh 0 0 (Y1 w)) } } (.ref s.heap.objs.size) "set" := ⟨_,hS,rfl⟩;have c7:=PySem.F.called_set.init.lookup;have c8:=PySem.F.called_set.init.bind (.ref s.heap.objs.size)
   repeat (any_goals (first|assumption|wp_step))
   refine uQ (codeAny_call_builtin (R:=wants (λr s2=>r=.none/\∃h' tk,s2={ s with heap:=h',toks:=tk }/\zAP h' s.heap.objs.size (Y1 w) (λi=>ns.getD i 0) items.size /\
     (∀b o,b<s.heap.objs.size->s.heap.get? b=some o->h'.get? b=some o)) E) PySem.F.called_set.init.plain PySem.F.entry_set_init (check_set_init_1 hT ?_)) λr2 s2 hr2=>?_
   ·obtain⟨ol,e1,e2,nl,e3⟩:=il
    obtain⟨ocls,odict,odata,oslots⟩:=ol;simp only at e2 e3;subst e2;subst e3;have e1':(s.heap.push { cls:=.type "set", data:=.set #[] 0 (.fresh 0 0 (Y1 w)) }).get? l=some { cls:=.type "list", dict:=odict,data:=.seq items nl,slots:=oslots }:=zH _ e1;have d1:=PySem.F.sub_list_set;have d2:=PySem.F.sub_list_frozenset;have d3:(Value.type "list" == Value.type "dict")=false:=by decide
    have il1:(s.heap.push { cls:=.type "set", data:=.set #[] 0 (.fresh 0 0 (Y1 w)) }).IsList l items:=⟨_,e1',rfl,nl,rfl⟩;unfold Builtin.«set.__init__» noKeywords Builtin.Frozenset.updateFrom;generalize hPI:sB=PI
    wp_walk
    subst hPI;refine uV il1 ?_;refine vA (wpAny_runValue ?_);have lS:l<s.heap.objs.size:=zP e1;have h3:A.in1.in1.in1.handled=none:=by simp[hh]
    have nI:l≠(s.heap.push { cls:=.type "set", data:=.set #[] 0 (.fresh 0 0 (Y1 w)) }).objs.size:=by rw[yV];exact zo (yL lS)
    have nS:s.heap.objs.size∉[(s.heap.push { cls:=.type "set", data:=.set #[] 0 (.fresh 0 0 (Y1 w)) }).objs.size,l]:=by
     rw[yV];simp only[zF,zM,zg,or_false,not_or];exact⟨zo (ya _),xW lS⟩
    have hv:∀(i:Nat)(v:vB),items[i]?=some v->∃t,v=.int ((λi=>ns.getD i 0) i) t:=λi v z=>IntsAre.int_at ia i v (by rw[za];exact z);refine zAl ((Walks.list h3 _ l nI items).toS) s.heap.objs.size nS (led:=Y1 w) (λi=>ns.getD i 0) hv hb (items.size-0) 0 _ ∅ (yQ _) ⟨⟨_,zT _ rfl,rfl,rfl⟩,(il1.push _)⟩ ?S0 ?RR
    case S0=>
     refine⟨[],⟨_,#[],0,.fresh 0 0 (Y1 w),zH _ hS,⟨rfl,rfl,rfl⟩,rfl,⟨rfl,xi,rfl⟩,rfl,by show 0<uR;decide,λe z=>by simp at z,rfl,xk⟩,zN _,λx=>⟨λz=>(by cases z),λ⟨i,z,_⟩=>vN z (xx _)⟩⟩
    case RR=>
     intro s' hm S';obtain⟨h',g',d',tk',os'⟩:=s';have eg:g'=s.gens:=hm.gens;have ed:d'=s.drawn:=hm.drawn;have eos:os'=s.os:=hm.os;subst eg;subst ed;subst eos;show vM _ _ _ _ _ _;refine vG ?_;show vM _ _ (ret Value.none) _ _ _;refine vG ⟨rfl,h',tk',rfl,S',λb o z y=>?_⟩;refine hm.heap b o ?_ (zH _ (zH _ y));simp only[zF,zM,zg,or_false,not_or];exact⟨zo z,by rw[yV];exact zo (yL z)⟩
   ·cases r2 with
    | error e=>exact hr2
    | ok fl2=>
     cases fl2 with
     | ret r=>
      obtain⟨rfl,h',tk,rfl,S',kp⟩:=hr2
      repeat (any_goals (first|assumption|wp_step))
      exact k _ _ S' kp
     | next=>exact hr2.elim
     | brk=>exact hr2.elim
     | cont=>exact hr2.elim
  | next=>exact hr.elim
  | brk=>exact hr.elim
  | cont=>exact hr.elim
end
end Hk
namespace PySem.F
theorem slotSetNext:Slot "set_iterator" "__next__" "set_iterator.__next__" := .of (owner := "set_iterator") (n := "__next__") (by rw[uN,v3];kernel_rfl) ⋯ ⋯ ⋯ (by first|exact .inl ⋯|exact .inr ⋯) (by rw[ur];kernel_rfl)
theorem slotSetIt:Slot "set_iterator" "__iter__" "set_iterator.__iter__" := .of (owner := "set_iterator") (n := "__iter__") (by rw[uN,v3];kernel_rfl) ⋯ ⋯ ⋯ (by first|exact .inl ⋯|exact .inr ⋯) (by rw[ur];kernel_rfl)
theorem WP:Manifest.owners.lookup (String.ofList ['r','o','t','a','r','e','t','i','_','t','e','s'].reverse)=some Manifest.sig_set_iterator:=by kernel_rfl
theorem argsSetNext(a:vB):sC "set_iterator.__next__" ⟨[a],[]⟩:=by
 unfold sC;rw[signature?_of (id := "set_iterator.__next__") (n:=['_','_','t','x','e','n','_','_']) (o:=['r','o','t','a','r','e','t','i','_','t','e','s']) (by kernel_rfl) WP]
 kernel_rfl
theorem argsSetIt(a:vB):sC "set_iterator.__iter__" ⟨[a],[]⟩:=by
 unfold sC;rw[signature?_of (id := "set_iterator.__iter__") (n:=['_','_','r','e','t','i','_','_']) (o:=['r','o','t','a','r','e','t','i','_','t','e','s']) (by kernel_rfl) WP]
 kernel_rfl
theorem entSetNext:entryFor table "set_iterator.__next__" = some Builtin.«set_iterator.__next__»:=entryFor_of_tree (by kernel_rfl)
theorem entSetIter:entryFor table "set.__iter__" = some Builtin.«frozenset.__iter__»:=entryFor_alias (id' := "frozenset.__iter__") (by kernel_rfl) rfl ⋯ (by kernel_rfl)
theorem entSetIt:entryFor table "set_iterator.__iter__" = some Builtin.«dict_keyiterator.__iter__»:=entryFor_alias (id' := "dict_keyiterator.__iter__") (by kernel_rfl) rfl ⋯ (by kernel_rfl)
end PySem.F
namespace Hk
open PySem PySem.Spec PyProof.Rows
section
variable{prog:vO}{w:vU}{A:vY}{E:vB->vF->Prop}{s:vF}
theorem q4p{α:Type}:∀(l:List α)(k:Nat)(h:k<l.length),(l[k]::l.eraseIdx k).Perm l
 | a::r,0,_=>xT _
 | a::r,k+1,h=>by
  have h':k<r.length:=by simpa using h
  show (r[k]::a::r.eraseIdx k).Perm (a::r);exact(List.Perm.swap a r[k] _).trans ((q4p r k h').cons a)
theorem qaM{α:Type}(next:Nat->Nat):∀(fuel k:Nat)(left:List α)(out:Array α),left.length=fuel->(pickOrder.go next fuel k left out).toList.Perm (out.toList++left)
 | 0,k,left,out,h=>by
  have e:left=[]:=yt h;subst e;unfold pickOrder.go;rw[zw]
 | fuel+1,k,left,out,h=>by
  unfold pickOrder.go;have hlt:next k%left.length<left.length:=Nat.mod_lt _ ∅
  rw[zC hlt]
  dsimp only
  refine(qaM next fuel (k+1) _ _ (by rw[wG hlt,h];rfl)).trans ?_;rw[Zc,yB];exact List.Perm.append_left _ (q4p left _ hlt)
theorem qd5{α:Type}(next:Nat->Nat)(xs:Array α):(uf next xs).toList.Perm xs.toList:=by
 have:=qaM next xs.size 0 xs.toList #[] (by simp)
 simpa [uf]using this
theorem qdx{M:Model}{src:Source}{n:Nat}{Q:Nat->vF->Prop}(hn:n≠0)(h:Q (M.w.draws src (s.drawn.get src)%n) { s with drawn:=s.drawn.bump src }):vM M A (choose src n) Q E s:=λ_ _ _=>⟨hn,h⟩
theorem q4C{M:Model}{α:Type}:∀(n:Nat)(xs:List α)(s:vF)(Q:List α->vF->Prop),xs.length=n->(∀ys d,ys.Perm xs->Q ys { s with drawn:=d })->vM M A (drawOrder n xs) Q E s
 | 0,xs,s,Q,hl,h=>by
  have e:xs=[]:=yt hl;subst e;exact vG (h [] s.drawn (xT _))
 | n+1,[],s,Q,hl,h=>by cases hl
 | n+1,x::r,s,Q,hl,h=>by
  unfold drawOrder;refine vA (qdx (by simp) ?_);generalize hk:M.w.draws Source.order (s.drawn.get Source.order)%(x::r).length=k;have hlt:k<(x::r).length:=by rw[<- hk];exact Nat.mod_lt _ (by simp)
  rw[zC hlt]
  dsimp only
  have hl2:((x::r).eraseIdx k).length=n:=by rw[wG hlt,hl];rfl
  refine vA (q4C n _ _ _ hl2 λys d p=>vG (h _ d ?_));refine Zs (p.cons _) ?_;exact q4p _ k hlt
end
noncomputable abbrev XU(f:vB)(i:Nat)(a:vC)(n ep:Nat):Obj:={ cls:=.type "set_iterator", data:=.fields #[f,.int i 0,.ref a,.int n 0,.int ep 0] }
section
variable{prog:vO}{w:vU}{A:vY}{E:vB->vF->Prop}{s:vF}
theorem q1t{a:vC}{o:Obj}{es:Array (Int×vB)}{ep:Nat}{t:SetTable}{Q:Array (Int×vB)->vF->Prop}(go:s.heap.get? a=some o)(gd:o.data=.set es ep t)(gf:t.fits es.size=true)(h:Q es s):vM (model prog w) A (setEntries a) Q E s:=by
 unfold setEntries;exact vA (vm go gd gf (vG h))
theorem qdC{it a:vC}{slot i n ep:Nat}{o:Obj}{es:Array (Int×vB)}{t:SetTable}{x:vB}{nxt:Nat}{Q:Option vB->vF->Prop}(e:s.heap.get? it=some (XU (.int slot 0) i a n ep))(go:s.heap.get? a=some o)(gd:o.data=.set es ep t)(gf:t.fits es.size=true)(hn:es.size=n)(hnext:∀A' Q' E',Q' (some (x,nxt)) s->vM (model prog w) A' (uo a slot i ep) Q' E' s)(k:∀h',h'.get? it=some (XU (.int nxt 0) (i+1) a n ep)->xD it s.heap h'->Q (some x) { s with heap:=h' }):
  vM (model prog w) A (uG (.ref it)) Q E s:=by
 have hT:s.TypeIs (.ref it) "set_iterator" := ⟨_,e,rfl⟩;unfold uG;refine vA (uO (wpAny_callSpecial?_slot (name:=Str.ofString "__next__") hT F.slotSetNext (vi F.slotSetNext hT F.entSetNext ?_ (F.argsSetNext _))));unfold Builtin.«set_iterator.__next__»;refine vA (m:=tj "__next__" 0 ⟨[.ref it],[]⟩) (vG ?_);refine vA (ut e rfl ?_)
 dsimp only
 refine vA (q1t go gd gf ?_);rw[vJ (by rw[hn];simp)];simp only[yu];refine vA (hnext _ _ _ ?_)
 dsimp only
 refine vA (v4 e (by simp) λh1 e1 sb1=>?_);refine vA (v4 (s:={ s with heap:=h1 }) e1 (by simp) λh2 e2 sb2=>?_);refine vG ⟨_,rfl,vG (k h2 ?_ (sb1.trans sb2))⟩;rw[e2];simp[uI]
theorem qep{it a:vC}{slot i n ep:Nat}{o:Obj}{es:Array (Int×vB)}{t:SetTable}{Q:Option vB->vF->Prop}(hh:A.handled=none)(e:s.heap.get? it=some (XU (.int slot 0) i a n ep))(go:s.heap.get? a=some o)(gd:o.data=.set es ep t)(gf:t.fits es.size=true)(hn:es.size=n)(hnext:∀A' Q' E',Q' none s->vM (model prog w) A' (uo a slot i ep) Q' E' s)(k:∀h',Heap.ExtBut it s.heap h'->Q none { s with heap:=h' }):
  vM (model prog w) A (uG (.ref it)) Q E s:=by
 have hT:s.TypeIs (.ref it) "set_iterator" := ⟨_,e,rfl⟩;unfold uG;refine vA (uO (wpAny_callSpecial?_slot (name:=Str.ofString "__next__") hT F.slotSetNext (vi F.slotSetNext hT F.entSetNext ?_ (F.argsSetNext _))));unfold Builtin.«set_iterator.__next__»;refine vA (m:=tj "__next__" 0 ⟨[.ref it],[]⟩) (vG ?_);refine vA (ut e rfl ?_)
 dsimp only
 refine vA (q1t go gd gf ?_);rw[vJ (by rw[hn];simp)];simp only[yu];refine vA (hnext _ _ _ ?_)
 dsimp only
 refine vA (v4 e (by simp) λh1 e1 sb1=>?_);show vM _ _ (newExc (.type "StopIteration") [] >>= λx=>sD x) _ _ _;refine vA ?_;simp only[newExc,newTuple];refine vA (ve ?_ (by size_fits));refine vA (m:=uu _ _) (t5 (a:=Value.none) (by first|rfl|(simp only[uu];rfl)) ?_);refine ve ?_ (by size_fits);simp only[sD];refine vA (wpAny_handled ?_);rw[show A.in1.handled=none from hh];refine vA (vG (wpAny_throw ?_));refine vA (uS (T := "StopIteration") (b:=true) ⟨_,zT _ rfl,rfl⟩ uv ?_);exact vG (k _ ((sb1.extBut.push _).push _))
end
section
variable{prog:vO}{w:vU}{A:vY}{E:vB->vF->Prop}{s:vF}
theorem q3j{Q:Bool->vF->Prop}(h:Q (w.params.followText "set-order") s):vM (model prog w) A setsByText Q E s:=by
 unfold setsByText;exact vA (u5 (vG h))
theorem q6m{a:vC}{o:Obj}{es:Array (Int×vB)}{ep:Nat}{t:SetTable}{slot i:Nat}{r:Option (vB×Nat)}{Q:Option (vB×Nat)->vF->Prop}(go:s.heap.get? a=some o)(gd:o.data=.set es ep t)(gf:t.fits es.size=true)(hB:w.params.followText "set-order" = false)(hl:t.led=true)(hd:(!t.plain&&decide (es.size>1))=false)(hr:(match es[SetTable.below t.place slot]?,t.place[SetTable.below t.place slot]? with|some (_,x),some j=>some (x,j+1)|_,_=>none)=r)(h:Q r s):vM (model prog w) A (uo a slot i ep) Q E s:=by
 unfold uo;refine vA (vm go gd gf ?_)
 dsimp only
 refine vA (q3j ?_);rw[hB];refine vf (λz=>vN z (by decide)) (λ_=>?_);refine vf (λz=>vN ((show (!t.plain&&decide (es.size>1))=true from z).symm.trans hd) (by decide)) (λ_=>?_);refine vA ?_;refine vf (λz=>?_) (λ_=>?_)
 ·have z':(!t.led && !es.isEmpty)=true:=z
  rw[hl]at z';exact vN z' (by simp)
 ·refine vG ?_
  refine vG ?_;rw[<- hr]at h;exact h
theorem qed{a:vC}{o:Obj}{es:Array (Int×vB)}{ep:Nat}{t:SetTable}{Q:Array (Int×vB)->vF->Prop}(go:s.heap.get? a=some o)(gd:o.data=.set es ep t)(gf:t.fits es.size=true)(hB:w.params.followText "set-order" = true)(h:Q (uf (w.params.setOrder a ep) es) s):vM (model prog w) A (setWalk a) Q E s:=by
 unfold setWalk;refine vA (vm go gd gf ?_)
 dsimp only
 refine vA (q3j ?_);rw[hB];refine vf (λ_=>?_) (λz=>vN rfl z);exact vA (u5 (vG h))
theorem q7C{a:vC}{o:Obj}{es:Array (Int×vB)}{ep:Nat}{t:SetTable}{slot i:Nat}{Q:Option (vB×Nat)->vF->Prop}(go:s.heap.get? a=some o)(gd:o.data=.set es ep t)(gf:t.fits es.size=true)(hB:w.params.followText "set-order" = true)(h:Q (((uf (w.params.setOrder a ep) es)[i]?).map λe=>(e.2,slot)) s):vM (model prog w) A (uo a slot i ep) Q E s:=by
 unfold uo;refine vA (vm go gd gf ?_)
 dsimp only
 refine vA (q3j ?_);rw[hB];refine vf (λ_=>?_) (λz=>vN rfl z);refine vf (λz=>vN z (by simp)) (λ_=>?_);exact vA (qed go gd gf hB (vG h))
theorem qbU{it:vC}{f:vB}{i:Nat}{a:vC}{n ep:Nat}{Q:vB->vF->Prop}(e:s.heap.get? it=some (XU f i a n ep))(h:Q (.ref it) s):vM (model prog w) A (sB (.ref it)) Q E s:=by
 have hT:s.TypeIs (.ref it) "set_iterator" := ⟨_,e,rfl⟩;refine wpAny_pyIter_slot hT F.slotSetIt (vi F.slotSetIt hT F.entSetIt ?_ (F.argsSetIt _));show vM _ _ (ret (.ref it)) _ _ s;exact vG ⟨_,rfl, "set_iterator", _,hT,F.slotSetNext.lookup,h⟩
theorem qcv(hh:A.handled=none){I a:vC}(hne:a≠I){o:Obj}{es:Array (Int×vB)}{ep:Nat}{t:SetTable}(gd:o.data=.set es ep t)(gf:t.fits es.size=true)(slot:Nat->Nat)(val:Nat->vB)(hn:∀(i:Nat)(s:vF),i<es.size->s.heap.get? a=some o->∀A' Q' E',Q' (some (val i,slot (i+1))) s->vM (model prog w) A' (uo a (slot i) i ep) Q' E' s)(hz:∀(s:vF),s.heap.get? a=some o->∀A' Q' E',Q' none s->vM (model prog w) A' (uo a (slot es.size) es.size ep) Q' E' s):
  Walks prog w A I [I,a] [I] es.size (λi v=>v=val i) (λi h=>h.get? I=some (XU (.int (slot i) 0) i a es.size ep)/\h.get? a=some o) where
 sub:=λb hb=>by simp at hb;simp[hb]
 frame:=λ_ _ _ st hk=>⟨hk I (by simp) _ st.1,hk a (by simp) _ st.2⟩
 item:=λi s Q E hi st hQ=>by
  refine qdC st.1 st.2 gd gf rfl (hn i s hi st.2) λh' e' sb=>?_;exact hQ _ h' s.toks rfl ⟨e',sb.extBut a o hne st.2⟩ λb u hb e=>sb.extBut b u (λz=>hb (by simp[z])) e
 done:=λs Q E st hQ=>qep hh st.1 st.2 gd gf rfl (hz s st.2) λh' eb=>hQ h' s.toks λb u hb e=>eb b u (λz=>hb (by simp[z])) e
 self:=λ_ _ _ _ st hQ=>qbU st.1 hQ
theorem qcq{it a tp:vC}{i n ep p:Nat}{o:Obj}{es:Array (Int×vB)}{t:SetTable}{x:Int×vB}{ps:Array vB}{ot:Obj}{nt:Nat}{Q:Option vB->vF->Prop}(e:s.heap.get? it=some (XU (.ref tp) i a n ep))(go:s.heap.get? a=some o)(gd:o.data=.set es ep t)(gf:t.fits es.size=true)(hn:es.size=n)(gt:s.heap.get? tp=some ot)(gtd:ot.data=.seq ps nt)(hp:ps[i]?=some (.int p 0))(hx:es[p]?=some x)(k:∀h',h'.get? it=some (XU (.ref tp) (i+1) a n ep)->xD it s.heap h'->Q (some x.2) { s with heap:=h' }):
  vM (model prog w) A (uG (.ref it)) Q E s:=by
 have hT:s.TypeIs (.ref it) "set_iterator" := ⟨_,e,rfl⟩;unfold uG;refine vA (uO (wpAny_callSpecial?_slot (name:=Str.ofString "__next__") hT F.slotSetNext (vi F.slotSetNext hT F.entSetNext ?_ (F.argsSetNext _))));unfold Builtin.«set_iterator.__next__»;refine vA (m:=tj "__next__" 0 ⟨[.ref it],[]⟩) (vG ?_);refine vA (ut e rfl ?_)
 dsimp only
 refine vA (q1t go gd gf ?_);rw[vJ (by rw[hn];simp)];refine vA (uY gt gtd ?_)
 dsimp only
 simp only[yu];rw[hp]
 dsimp only
 unfold setNextDrawn;refine vA (vA (vm go gd gf ?_))
 dsimp only
 refine vf (λz=>vN z (by simp)) (λ_=>?_);simp only[yu];rw[hx];refine vG ?_;refine vA (v4 e (by simp) λh1 e1 sb1=>?_);refine vG ⟨_,rfl,vG (k h1 ?_ sb1)⟩;rw[e1];simp[uI]
theorem qcg{it a tp:vC}{i n ep:Nat}{o:Obj}{es:Array (Int×vB)}{t:SetTable}{ps:Array vB}{ot:Obj}{nt:Nat}{Q:Option vB->vF->Prop}(hh:A.handled=none)(e:s.heap.get? it=some (XU (.ref tp) i a n ep))(go:s.heap.get? a=some o)(gd:o.data=.set es ep t)(gf:t.fits es.size=true)(hn:es.size=n)(gt:s.heap.get? tp=some ot)(gtd:ot.data=.seq ps nt)(hp:ps[i]?=none)(k:∀h',Heap.ExtBut it s.heap h'->Q none { s with heap:=h' }):
  vM (model prog w) A (uG (.ref it)) Q E s:=by
 have hT:s.TypeIs (.ref it) "set_iterator" := ⟨_,e,rfl⟩;unfold uG;refine vA (uO (wpAny_callSpecial?_slot (name:=Str.ofString "__next__") hT F.slotSetNext (vi F.slotSetNext hT F.entSetNext ?_ (F.argsSetNext _))));unfold Builtin.«set_iterator.__next__»;refine vA (m:=tj "__next__" 0 ⟨[.ref it],[]⟩) (vG ?_);refine vA (ut e rfl ?_)
 dsimp only
 refine vA (q1t go gd gf ?_);rw[vJ (by rw[hn];simp)];refine vA (uY gt gtd ?_)
 dsimp only
 simp only[yu];rw[hp]
 dsimp only
 refine vA (v4 e (by simp) λh1 e1 sb1=>?_);refine vA (v4 (s:={ s with heap:=h1 }) e1 (by simp) λh2 e2 sb2=>?_);show vM _ _ (newExc (.type "StopIteration") [] >>= λx=>sD x) _ _ _;refine vA ?_;simp only[newExc,newTuple];refine vA (ve ?_ (by size_fits));refine vA (m:=uu _ _) (t5 (a:=Value.none) (by first|rfl|(simp only[uu];rfl)) ?_);refine ve ?_ (by size_fits);simp only[sD];refine vA (wpAny_handled ?_);rw[show A.in1.handled=none from hh];refine vA (vG (wpAny_throw ?_));refine vA (uS (T := "StopIteration") (b:=true) ⟨_,zT _ rfl,rfl⟩ uv ?_);exact vG (k _ (((sb1.trans sb2).extBut.push _).push _))
theorem qaa(hh:A.handled=none){I a tp:vC}(hne:a≠I)(htp:tp≠I){o:Obj}{es:Array (Int×vB)}{ep:Nat}{t:SetTable}(gd:o.data=.set es ep t)(gf:t.fits es.size=true){ot:Obj}{nt:Nat}(ord:List Nat)(hp:ord.Perm (yI es.size))(gtd:ot.data=.seq (ord.map λ(i:Nat)=>uI i).toArray nt):
  Walks prog w A I [I,a,tp] [I] es.size (λi v=>∃p x,ord[i]?=some p/\es[p]?=some x/\v=x.2) (λi h=>h.get? I=some (XU (.ref tp) i a es.size ep)/\h.get? a=some o/\h.get? tp=some ot) where
 sub:=λb hb=>by simp at hb;simp[hb]
 frame:=λ_ _ _ st hk=>⟨hk I (by simp) _ st.1,hk a (by simp) _ st.2.1,hk tp (by simp) _ st.2.2⟩
 item:=λi s Q E hi st hQ=>by
  have hl:ord.length=es.size:=by rw[hp.length_eq,yH]
  have ho:ord[i]?=some (ord[i]'∅):=zC _;have hlt:ord[i]'∅<es.size:=yM.mp (hp.mem_iff.mp (zZ _));refine qcq (p:=ord[i]'∅) (x:=es[ord[i]'∅]) st.1 st.2.1 gd gf rfl st.2.2 gtd (by simp[uI,ho]) (by simp[hlt]) λh' e' sb=>?_;exact hQ _ h' s.toks ⟨_,_,ho,by simp[hlt],rfl⟩ ⟨e',sb.extBut a o hne st.2.1,sb.extBut tp ot htp st.2.2⟩ λb u hb e=>sb.extBut b u (λz=>hb (by simp[z])) e
 done:=λs Q E st hQ=>qcg hh st.1 st.2.1 gd gf rfl st.2.2 gtd (by simp[hp.length_eq]) λh' eb=>hQ h' s.toks λb u hb e=>eb b u (λz=>hb (by simp[z])) e
 self:=λ_ _ _ _ st hQ=>qbU st.1 hQ
end
end Hk
namespace PySem.F
theorem slotSetLen:u9 (.type "set") "__len__" = pure (some (.builtin "set.__len__")):=by rw[uN,v3];kernel_rfl
theorem slotSetIter:Slot "set" "__iter__" "set.__iter__" := .of (owner := "set") (n := "__iter__") (by rw[uN,v3];kernel_rfl) ⋯ ⋯ ⋯ (by first|exact .inl ⋯|exact .inr ⋯) (by rw[ur];kernel_rfl)
theorem argsSetIter(a:vB):sC "set.__iter__" ⟨[a],[]⟩:=by
 unfold sC;kernel_rfl
end PySem.F
namespace Hk
open PySem PySem.Spec PyProof.Rows
noncomputable def slotAt(xs:Array Nat):Nat->Nat
 | 0=>0
 | i+1=>xs.toList.getD i 0+1
theorem q6D{xs:Array Nat}(h:Wm xs):∀i,i<=xs.size->SetTable.below xs (slotAt xs i)=i:=by
 intro i hi;obtain⟨h1,h2,h3⟩:=q9p h (slotAt xs i);have hz:xs.toList.length=xs.size:=zQ;cases i with
 | zero=>
  rcases ZS (SetTable.below xs (slotAt xs 0))with z|z
  ·exact z
  ·exact vN (h2 0 ∅ z) (xx _)
 | succ i=>
  have hlt:i<xs.toList.length:=∅
  have e:slotAt xs (i+1)=xs.toList[i]+1:=by
   show xs.toList.getD i 0+1=_;rw[zq,zC hlt];rfl
  rw[e]at h2 h3 h1 ⊢;generalize SetTable.below xs (xs.toList[i]+1)=b at h1 h2 h3 ⊢;have a1:i<b:=by
   rcases zx i b with z|z
   ·exact z
   ·have:=h3 i hlt z;omega
  have a2:b<=i+1:=by
   rcases zx (i+1) b with z|z
   ·have y:=h2 (i+1) ∅ z
    have y':=q5d h hlt (show i+1<xs.toList.length by omega) (ya i);omega
   ·exact z
  omega
theorem qex{val:Nat->vB}{n:Nat}{acc:Array vB}(h:ItemsOf (λi v=>v=val i) acc n):acc.toList=(yI n).map val:=by
 apply yv;intro i;rw[za,zY];rcases zx i n with z|z
 ·rw[yz z]
  have hz:i<acc.size:=by rw[h.1];exact z
  have:acc[i]?=some acc[i]:=z9 hz;rw[this,h.2 i _ this];rfl
 ·rw[zu (by rw[yH];exact z),yh (by rw[h.1];exact z)];rfl
theorem q7P:∀{l:List (Int×vB)},(∀e∈l,Xw e)->v5 (l.map (·.2)) (l.map λe=>vI e.2)
 | [],_=>.nil
 | e::r,h=>by
  obtain⟨x,t,rfl⟩:=h e zD;exact .cons _ _ (q7P λe he=>h e (zG _ he))
section
variable{prog:vO}{w:vU}{A:vY}{E:vB->vF->Prop}{s:vF}
theorem qft{r:vC}{Q:Bool->vF->Prop}(hT:s.TypeIs (.ref r) "set")(h:Q false s):vM (model prog w) A (Builtin.List.listLengthHint (.ref r)) Q E s:=by
 unfold Builtin.List.listLengthHint;refine vA (uk hT F.slotSetLen ?_);generalize hid:("set.__len__" : String)=id0
 wp_delta
 rw[show splitId id0=some ("set", "__len__")from by subst hid;decide +kernel];subst hid;refine vA (uS (T := "set") (b:=true) hT (by rw[ur];kernel_rfl) ?_);refine vf (λhab=>vN hab (by decide)) (λ_=>?_);refine vf (λ_=>?_) (λhab=>vN ⋯ hab);refine vA (uX hT ?_);exact vG h
theorem qfJ{a:vC}{xs:List Int}{Q:vB->vF->Prop}(S:WH s.heap a (Y1 w) xs)(k:∀(h':vZ)(d:Drawn)(I:vC)(fp:List vC)(P:Nat->vB->Prop)(St:Nat->vZ->Prop),(∀b o,s.heap.get? b=some o->h'.get? b=some o)->s.heap.objs.size<=I->(∀b∈fp,b=a\/s.heap.objs.size<=b) ->
   (∀A:vY,A.handled=none->Walks prog w A I fp [I] xs.length P St)->St 0 h'->(∀acc:Array vB,ItemsOf P acc xs.length->∃ys,v5 acc.toList ys/\ys.Perm xs)->(∀b∈fp,b<h'.objs.size)->Q (.ref I) { s with heap:=h',drawn:=d }) :
  vM (model prog w) A (sB (.ref a)) Q E s:=by
 obtain⟨o,es,ep,t,go,gx,gd,T,gl,gb,gg,gv,gn⟩:=id S;have hl:es.size=xs.length:=by rw[<- gv,zA,zQ]
 have hlt:a<s.heap.objs.size:=zP go;have hps:t.place.size=es.size:=by
  have:=T.fits;unfold SetTable.fits at this;simp only[z6,beq_iff_eq]at this;exact this.1
 have hT:s.TypeIs (.ref a) "set" := ⟨o,go,gx.1⟩;refine wpAny_pyIter_slot hT F.slotSetIter (vi F.slotSetIter hT F.entSetIter ?_ (F.argsSetIter _));unfold Builtin.«frozenset.__iter__» Builtin.Frozenset.slot0 Builtin.Frozenset.sizeOf;refine vA ?_;refine vA (m:=tj "__iter__" 0 ⟨[.ref a],[]⟩) (vG ?_);show vM _ _ (pure a) _ _ s;refine vG ?_;refine vA (vA (q1t go gd T.fits (vG ?_)));refine vA ?_;unfold setDrawn;refine vA (vm go gd T.fits ?_)
 dsimp only
 refine vA (q3j (vG ?_));have perm_ok:∀(l:List (Int×vB)),l.Perm es.toList->∃ys,v5 (l.map (·.2)) ys/\ys.Perm xs:=λl p=>
  ⟨_,q7P λe he=>gg e (p.mem_iff.mp he),by rw[<- gv];exact p.map _⟩
 have slots:∀(slot:Nat->Nat)(l:List (Int×vB)),slot 0=0->l.Perm es.toList ->
   (∀(i:Nat)(s:vF),i<es.size->s.heap.get? a=some o->∀A' Q' E',Q' (some ((l.map (·.2)).getD i .none,slot (i+1))) s->vM (model prog w) A' (uo a (slot i) i ep) Q' E' s) ->
   (∀(s:vF),s.heap.get? a=some o->∀A' Q' E',Q' none s->vM (model prog w) A' (uo a (slot es.size) es.size ep) Q' E' s) ->
   Q (.ref s.heap.objs.size) { s with heap:=s.heap.push (XU (.int (slot 0:Nat) 0) 0 a es.size ep) }:=λslot l h0 p hn hz=>by
  have:=k (s.heap.push (XU (.int (slot 0:Nat) 0) 0 a es.size ep)) s.drawn s.heap.objs.size [s.heap.objs.size,a] (λi v=>v=(l.map (·.2)).getD i .none) (λi h=>h.get? s.heap.objs.size=some (XU (.int (slot i) 0) i a es.size ep)/\h.get? a=some o)
   (λb u e=>zH _ e) (zN _) (λb hb=>by
    simp only[zF,zg,or_false]at hb;rcases hb with rfl|rfl
    ·exact .inr (zN _)
    ·exact .inl rfl) (λA hh=>by rw[<- hl];exact qcv hh (zo hlt) gd T.fits slot _ hn hz) ⟨zT _ rfl,zH _ go⟩ (λacc hacc=>by
    rw[qex hacc];obtain⟨ys,y1,y2⟩:=perm_ok l p;have e:(yI xs.length).map (λi=>(l.map (·.2)).getD i .none)=l.map (·.2):=by
     apply yv;intro i;have hll:l.length=xs.length:=by rw[p.length_eq,zQ,hl]
     rw[zY];rcases zx i xs.length with z|z
     ·rw[yz z]
      show some ((l.map (·.2)).getD i .none)=_;rw[zq,zC (by rw[zA,hll];exact z)];rfl
     ·rw[zu (by rw[yH];exact z),zu (by rw[zA,hll];exact z)];rfl
    rw[e];exact⟨ys,y1,y2⟩) (λb hb=>by
    rw[yV];simp only[zF,zg,or_false]at hb;rcases hb with rfl|rfl
    ·exact ya _
    ·exact yL hlt)
  exact this
 have getD_at:∀(l:List (Int×vB))(i:Nat)(e:Int×vB),l[i]?=some e->(l.map (·.2)).getD i .none=e.2:=λl i e h=>by
  rw[zq,zY,h];rfl
 cases hB:w.params.followText "set-order" with
 | true=>
  refine vA (vG ?_);refine vA ?_;unfold setEpoch;refine vA (vm go gd T.fits (vG ?_));refine vA (ve (vG ⟨_,rfl, "set_iterator", _,⟨_,zT _ rfl,rfl⟩,F.slotSetNext.lookup,?_⟩));have pp:=qd5 (w.params.setOrder a ep) es;have hpl:(uf (w.params.setOrder a ep) es).size=es.size:=by rw[<- zQ,pp.length_eq,zQ]
  refine slots (λ_=>0) _ rfl pp (λi s hi go' A' Q' E' q=>?_) λs go' A' Q' E' q=>?_
  ·refine q7C go' gd T.fits hB ?_
   have hz:i<(uf (w.params.setOrder a ep) es).size:=by rw[hpl];exact hi
   rw[z9 hz];have:=getD_at (uf (w.params.setOrder a ep) es).toList i (uf (w.params.setOrder a ep) es)[i] (by rw[za,z9 hz]);rw[this]at q;exact q
  ·refine q7C go' gd T.fits hB ?_
   rw[yh (by rw[hpl];exact zN _)];exact q
 | false=>
  have led:t.led=true:=by rw[gl];unfold Y1;rw[hB];rfl
  cases hD:(!t.plain&&decide (es.size>1))with
  | false=>
   refine vf (λz=>vN ((show (!false&&(!t.plain&&decide (es.size>1)))=true from z)) (by rw[hD];decide)) (λ_=>?_);refine vA (vG ?_);refine vA ?_;unfold setEpoch;refine vA (vm go gd T.fits (vG ?_));refine vA (ve (vG ⟨_,rfl, "set_iterator", _,⟨_,zT _ rfl,rfl⟩,F.slotSetNext.lookup,?_⟩));refine slots (slotAt t.place) es.toList rfl (xT _) (λi s hi go' A' Q' E' q=>?_) λs go' A' Q' E' q=>?_
   ·refine q6m go' gd T.fits hB led hD rfl ?_
    rw[q6D T.rise i ∅,z9 hi,z9 (show i<t.place.size by omega)];have:=getD_at es.toList i es[i] (by rw[za,z9 hi]);rw[this]at q;have e2:slotAt t.place (i+1)=t.place[i]'∅+1:=by
     show t.place.toList.getD i 0+1=_;rw[zq,za,z9 (show i<t.place.size by omega)];rfl
    rw[e2]at q;exact q
   ·refine q6m go' gd T.fits hB led hD rfl ?_
    rw[q6D T.rise es.size ∅,yh (zN _)];exact q
  | true=>
   refine vf (λ_=>?_) (λz=>vN (show (!false&&(!t.plain&&decide (es.size>1)))=true by rw[hD];rfl) z);refine vA (q4C es.size (yI es.size) _ _ yH λord d po=>?_);have hol:ord.length=es.size:=by rw[po.length_eq,yH]
   refine vA (tJ ?_ (by rw[zA,hol];exact yA (yP gb) (by decide)));refine vA ?_;unfold setEpoch;have go2:(s.heap.push { cls:=.type "tuple", data:=.seq (ord.map λ(i:Nat)=>uI i).toArray }).get? a=some o:=zH _ go;refine vA (vm go2 gd T.fits (vG ?_));refine vA (ve (vG ⟨_,rfl, "set_iterator", _,⟨_,zT _ rfl,rfl⟩,F.slotSetNext.lookup,?_⟩));have hs1:(s.heap.push { cls:=.type "tuple", data:=.seq (ord.map λ(i:Nat)=>uI i).toArray }).objs.size=s.heap.objs.size+1:=yV _ _;have ht1:(s.heap.push { cls:=.type "tuple", data:=.seq (ord.map λ(i:Nat)=>uI i).toArray }).get? s.heap.objs.size=some { cls:=.type "tuple", data:=.seq (ord.map λ(i:Nat)=>uI i).toArray }:=zT _ rfl;refine k _ d _ [(s.heap.push { cls:=.type "tuple", data:=.seq (ord.map λ(i:Nat)=>uI i).toArray }).objs.size,a,s.heap.objs.size] (λi v=>∃p x,ord[i]?=some p/\es[p]?=some x/\v=x.2)
    (λi h=>h.get? (s.heap.push { cls:=.type "tuple", data:=.seq (ord.map λ(i:Nat)=>uI i).toArray }).objs.size=some (XU (.ref s.heap.objs.size) i a es.size ep)/\h.get? a=some o/\h.get? s.heap.objs.size=some { cls:=.type "tuple", data:=.seq (ord.map λ(i:Nat)=>uI i).toArray }) (λb u e=>zH _ (zH _ e)) (by rw[hs1];exact xF _) (λb hb=>?_) (λA hh=>by
    rw[<- hl];exact qaa (tp:=s.heap.objs.size) hh (by rw[hs1];exact zo (yL hlt)) (by rw[hs1];exact zo (ya _)) gd T.fits ord po rfl)
    ⟨zT _ rfl,zH _ go2,zH _ ht1⟩ (λacc hacc=>?_) (λb hb=>?_)
   ·simp only[zF,zg,or_false]at hb
    rcases hb with rfl|rfl|rfl
    ·exact .inr (by rw[hs1];exact xF _)
    ·exact .inl rfl
    ·exact .inr (zN _)
   ·have e:acc.toList=(ord.map λp=>es.toList.getD p (0,.none)).map (·.2):=by
     apply yv;intro i;rw[za,zY,zY];rcases zx i acc.size with z|z
     ·obtain⟨p,x,h1,h2,h3⟩:=hacc.2 i acc[i] (z9 z)
      rw[z9 z,h1,h3];show _=some (es.toList.getD p (0,.none)).2;rw[zq,za,h2];rfl
     ·rw[yh z,zu (by rw[hol,hl,<- hacc.1];exact z)];rfl
    have p2:(ord.map λp=>es.toList.getD p (0,.none)).Perm es.toList:=by
     refine(po.map _).trans ?_;have:(yI es.size).map (λp=>es.toList.getD p (0,Value.none))=es.toList:=by
      apply yv;intro i;rw[zY];rcases zx i es.size with z|z
      ·rw[yz z]
       show some (es.toList.getD i (0,Value.none))=_;rw[zq,zC (by rw[zQ];exact z)];rfl
      ·rw[zu (by rw[yH];exact z),zu (by rw[zQ];exact z)];rfl
     rw[this]
    rw[e];exact perm_ok _ p2
   ·rw[yV,hs1]
    simp only[zF,zg,or_false]at hb;rcases hb with rfl|rfl|rfl
    ·rw[hs1];exact ya _
    ·exact yL (yL hlt)
    ·exact yL (ya _)
end
section
variable{prog:vO}{w:vU}{A:vY}{E:vB->vF->Prop}{s:vF}
theorem qcl{R:tu->vF->Prop}{a:vC}{xs:List Int}(hh:A.handled=none)(SI:WH s.heap a (Y1 w) xs)(S:vC)(hSa:S≠a)(res:vB)(c₀:Nat)(hS:s.heap.get? S=some { cls:=.type "list", data:=.seq #[] c₀ })(hR:∀h' tk d acc' c',(∀b o,b≠S->s.heap.get? b=some o->h'.get? b=some o)->h'.get? S=some { cls:=.type "list", dict:=none,data:=.seq acc' c',slots:=#[] }->(∃ys,v5 acc'.toList ys/\ys.Perm xs)->R (.ok (.ret res)) { s with heap:=h',toks:=tk,drawn:=d }):
  vM (model prog w) A.in1 (Builtin.List.listExtendWith (.ref S) (.ref a) res)
   (λfin s'=>match fin with|.done f=>R (.ok f) s'|.again c'=>c'.quiet=true/\uP (model prog w) A c' R s') (λe s'=>R (.error e) s') s:=by
 have hn:xs.length<=sizeLine:=yA (yP SI.len) (by decide);obtain⟨o,es,ep,t,go,gx,gd,T,gl,gb,gg,gv,gn⟩:=id SI;have hTy:∀h:vZ,h.get? a=some o->Shared.TypeIs { s with heap:=h } (.ref a) "set" := λh e=>⟨o,e,gx.1⟩;unfold Builtin.List.listExtendWith;refine vA (uX (T := "set") ⟨o,go,gx.1⟩ ?_);have h1:Builtin.List.listSameRef (.ref S) (.ref a)=false:=by simp[Builtin.List.listSameRef,hSa]
 have h2:(Value.type "set" == Value.type "list")=false:=by decide
 have h3:(Value.type "set" == Value.type "tuple")=false:=by decide
 simp only[h1,h2,h3,xv,yC,if_false];refine vA (qfJ SI λh1 d I fp P St keep hI hfp W st items hlt=>?_);have hS1:h1.get? S=some { cls:=.type "list", data:=.seq #[] c₀ }:=keep _ _ hS;have hSlt:S<s.heap.objs.size:=zP hS;have hSf:S∉fp:=λhm=>by
  rcases hfp S hm with z|z
  ·exact hSa z
  ·exact vN hSlt (Z2.mpr z)
 have key:∀(h:vZ)(c₁ tk:Nat),St 0 h->(∀b o,b≠S->s.heap.get? b=some o->h.get? b=some o) ->
   h.get? S=some { cls:=.type "list", data:=.seq #[] c₁ }->uP (model prog w) A (.builtin "list.extend.loop" ⟨[.ref S,.ref I,res],[]⟩) R { s with heap:=h,toks:=tk,drawn:=d }:=by
  intro h c₁ tk hst hk hS₁;refine codeAny_extend_loopS (W A.in1 hh).toS hn S hSf res xs.length 0 _ #[] c₁ rfl (yQ _) hst hS₁ (ItemsOf.nil _) λs' acc' c' hm hS' hacc=>?_;rw[Moved.eq_with hm];refine hR s'.heap s'.toks d acc' c' (λb o hb e=>hm.heap b o (λhmem=>?_) (hk b o hb e)) hS' (items acc' hacc);rcases zF.mp hmem with e'|hmem
  ·exact hb e'
  ·exact vN (zP e) (by rw[zM.mp hmem];exact Z2.mpr hI)
 refine vA (vc (qft ⟨o,keep _ _ go,gx.1⟩ ?_));refine vf (λ_=>?_) (λ_=>vG ⟨uF PySem.F.plain_extend_loop _,key _ c₀ _ st (λb o _ e=>keep b o e) hS1⟩);refine vA (uJ ?_);refine vA ?_;show vM _ _ (u6 S (·.push .none) >>= λ_=>u6 S (·.pop)) _ _ _;refine vA (uC hS1 rfl ?_);have hS₂:=yl (Obj.mapSeq (·.push Value.none)) hS1 rfl;refine uC (hz:=by seq_fits) hS₂ rfl ?_;have hS₃:=yl (Obj.mapSeq (·.pop)) hS₂ rfl;refine vG ⟨uF PySem.F.plain_extend_loop _,key _ _ _ ?_ (λb o hb e=>?_) hS₃⟩
 ·refine(W A.in1 hh).frame 0 _ _ st λb hb o e=>?_
  have hbS:b≠S:=λh=>hSf (h▸hb);exact(zk _ _ (Ne.symm hbS)).trans ((zk _ _ (Ne.symm hbS)).trans e)
 ·exact(zk _ _ (Ne.symm hb)).trans ((zk _ _ (Ne.symm hb)).trans (keep b o e))
theorem qal{R:List vB->vF->Prop}{a:vC}{xs:List Int}(hh:A.handled=none)(SI:WH s.heap a (Y1 w) xs)(h:∀(h':vZ)(tk:Nat)(d:Drawn)(vs:List vB)(ys:List Int),(∀b o,s.heap.get? b=some o->h'.get? b=some o)->s.heap.objs.size<h'.objs.size->v5 vs ys->ys.Perm xs->R vs { s with heap:=h',toks:=tk,drawn:=d }):
  vM (model prog w) A (collect (.ref a)) R E s:=by
 obtain⟨o,es,ep,t,go,gx,gd,T,gl,gb,gg,gv,gn⟩:=id SI;have hlt:a<s.heap.objs.size:=zP go;unfold collect;refine vA (wpAny_runValue (v6 entry_proto_collect' ?_));rw[Around.under_plainId PySem.F.plain_proto_collect _];show vM _ A.in1 (newList [] >>= λl=>again (.builtin "list.__iadd__" ⟨[l,.ref a],[]⟩)) _ _ s;refine vA (ve ?_);refine vG ⟨uF PySem.F.plain_list_iadd _,v6 entry_list_iadd' ?_⟩;rw[Around.under_plainId PySem.F.plain_list_iadd _];have hS₁:(s.heap.push { cls:=.type "list", data:=.seq ([]:List vB).toArray }).get? s.heap.objs.size=some { cls:=.type "list", data:=.seq #[] }:=zT _ rfl;show vM _ A.in1 (Builtin.List.listExtendWith (.ref s.heap.objs.size) (.ref a) (.ref s.heap.objs.size)) _ _ _;have key:=qcl (prog:=prog) (A:=A) (s:={ s with heap:=s.heap.push { cls:=.type "list", data:=.seq ([]:List vB).toArray } })
  (R:=λ(q:tu) (s':vF)=>∃(h':vZ) (tk:Nat) (d:Drawn) (acc':Array vB) (c':Nat),q=.ok (.ret (.ref s.heap.objs.size))/\s'={ s with heap:=h',toks:=tk,drawn:=d } /\
   (∀b o,s.heap.get? b=some o->h'.get? b=some o)/\h'.get? s.heap.objs.size=some { cls:=.type "list", dict:=none,data:=.seq acc' c',slots:=#[] }/\∃ys,v5 acc'.toList ys/\ys.Perm xs)
  hh (SI.at λo e=>zH _ e) s.heap.objs.size (xW hlt) (.ref s.heap.objs.size) 0 hS₁
  (λh' tk d acc' c' hk hS' hacc=>⟨h',tk,d,acc',c',rfl,rfl,λb o e=>hk b o (zo (zP e)) (zH _ e),hS',hacc⟩)
 refine vh key (λfin s' x=>?_) λe s' x=>?_
 ·cases fin with
  | done f=>
   obtain⟨h',tk,d,acc',c',e,rfl,hk,hS',ys,y1,y2⟩:=x;cases e;show vM _ A (load s.heap.objs.size >>= _) _ _ _;refine vA (wpAny_load hS' ?_);exact vG (h h' tk d _ ys hk (zP hS') y1 y2)
  | again c₁=>
   refine⟨x.1,uQ x.2 λq s₂ y=>?_⟩;obtain⟨h',tk,d,acc',c',rfl,rfl,hk,hS',ys,y1,y2⟩:=y;show vM _ A (load s.heap.objs.size >>= _) _ _ _;refine vA (wpAny_load hS' ?_);exact vG (h h' tk d _ ys hk (zP hS') y1 y2)
 ·obtain⟨_,_,_,_,_,e',_⟩:=x
  cases e'
theorem qcu{a:vC}{xs:List Int}{Q:vB->vF->Prop}(hh:A.handled=none)(SI:WH s.heap a (Y1 w) xs)(h64:xs.length<64)(h:∀(D:vC)(h':vZ)(tk:Nat)(d:Drawn)(vs:List vB)(ys:List Int)(n:Nat),(∀b o,s.heap.get? b=some o->h'.get? b=some o)->s.heap.objs.size<=D->h'.get? D=some (vp "list" vs.toArray n)->v5 vs ys->ys.Perm xs->ys.Pairwise (· <= ·)->Q (.ref D) { s with heap:=h',toks:=tk,drawn:=d }):
  vM (model prog w) A (call (.builtin "sorted") [.ref a]) Q E s:=by
 refine Calls.call_function_entry t6 tm tq (args_sorted1 _) ?_;unfold Builtin.«sorted»;refine vA (m:=checkCount "sorted" 1 1 _) (vG ?_);refine vA (qal (A:=A.in1) hh SI λh1 tk d vs ys hk hz y1 y2=>?_);have hlen:vs.length=xs.length:=by rw[IntsAre.length y1,y2.length_eq]
 refine vA (u0 ?_ (yA (by rw[hlen];exact yP h64) (by decide)));have hoL:(h1.push (vp "list" vs.toArray 0)).get? h1.objs.size=some (vp "list" vs.toArray 0):=zT _ rfl;refine vA (vc (vi slot_list_sort ⟨_,hoL,rfl⟩ entry_list_sort (list_sort_tree hoL y1 (by rw[hlen];exact h64) λout ns' a1 a2 a3=>⟨_,rfl,?_⟩) (args_list_sort _)));obtain⟨n,hn⟩:=sortedHeap_at (vs:=vs) (out:=out) hoL;refine vG ⟨_,rfl,h h1.objs.size _ tk d out.toList ns' n (λb o e=>?_) ?_ ?_ a1 (a2.trans y2) a3⟩
 ·have e1:=hk b o e
  rw[sortedHeap_old (zo (zP e1)) (by rw[yV];exact yL (zP e1))];exact zH _ e1
 ·exact yP hz
 ·rw[xU];exact hn
end
end Hk
namespace L2
open PySem PySem.Spec PyProof.Rows
noncomputable def Xd(names:List (Str×uM))(cells:List (Str×vC))(cs:List (Str×vC)):List (Str×vC) :=
 match names with
 | []=>cs
 | p::r=>Xd r cells (if p.2 == .free then (p.1,(cells.lookup p.1).getD 0)::cs else cs)
theorem q4A{scope:ud}{env:Env}(h:∀p∈scope.names,p.2=NameKind.free->(env.cells.lookup p.1).isSome=true):
  closureFor scope env=pure (Xd scope.names env.cells []):=by
 simp only[closureFor];generalize scope.names=l at h ⊢;have key:∀(l:List (Str×uM))(cs:List (Str×vC)),(∀p∈l,p.2=NameKind.free->(env.cells.lookup p.1).isSome=true) ->
   (forIn l cs (λ(p:Str×uM) (r:List (Str×vC))=>if (p.2==NameKind.free)=true then (do let a <- cellOf env p.1;pure (ForInStep.yield ((p.1,a)::r)))else pure (ForInStep.yield r)):Sem _)=pure (Xd l env.cells cs):=by
  intro l
  induction l with
  | nil=>intro cs _;rfl
  | cons p r ih=>
   intro cs hp;rw[wq];have hr:=λq hq=>hp q (zG _ hq)
   by_cases hf:p.2=NameKind.free
   ·have hs:=hp p zD hf
    obtain⟨a,ha⟩:=yd.mp hs;have e:cellOf env p.1=pure a:=by unfold cellOf;rw[ha]
    have hb:(p.2==NameKind.free)=true:=by rw[hf];rfl
    rw[vH hb,e,pure_bind,pure_bind];show forIn r _ _=_;rw[ih _ hr];show _=pure (Xd r env.cells (if p.2 == .free then _ else _));rw[vH hb,ha];rfl
   ·have hb:¬(p.2==NameKind.free)=true:=by intro z;exact hf (by cases hk:p.2 <;> simp_all)
    rw[vJ hb,pure_bind];show forIn r _ _=_;rw[ih _ hr];show _=pure (Xd r env.cells (if p.2 == .free then _ else _));rw[vJ hb]
 rw[key l [] h];rfl
theorem qaV{k:uM}(h:(k==NameKind.free)=true):k=NameKind.free:=by cases k <;> first|rfl|cases h
theorem q5b{cells:List (Str×vC)}:∀(l:List (Str×uM))(cs:List (Str×vC)),(∀p∈l,p.2=NameKind.free->(cells.lookup p.1).isSome=true) ->
  (∀x c,cs.lookup x=some c->cells.lookup x=some c)->∀x c,(Xd l cells cs).lookup x=some c->cells.lookup x=some c
 | [],cs,_,h,x,c,e=>h x c e
 | p::r,cs,hp,h,x,c,e=>by
  refine q5b r _ (λq hq=>hp q (zG _ hq)) (λy d hy=>?_) x c e
  by_cases hb:(p.2==NameKind.free)=true
  ·rw[vH hb,yn]at hy
   cases hyp:y==p.1 with
   | true=>
    rw[hyp]at hy;have hy':(cells.lookup p.1).getD 0=d:=z5 hy;obtain⟨a,ha⟩:=yd.mp (hp p zD (qaV hb));rw[ha]at hy';rw[eq_of_beq hyp,ha,<- hy'];rfl
   | false=>rw[hyp]at hy;exact h y d hy
  ·rw[vJ hb]at hy;exact h y d hy
theorem q4M{cells:List (Str×vC)}:∀(l:List (Str×uM))(cs:List (Str×vC))(x:Str),((x,NameKind.free)∈l\/(cs.lookup x).isSome=true)->((Xd l cells cs).lookup x).isSome=true
 | [],cs,x,h=>by
  rcases h with h|h
  ·cases h
  ·exact h
 | p::r,cs,x,h=>by
  refine q4M r _ x ?_;rcases h with h|h
  ·rcases zF.mp h with rfl|h
   ·right
    show (List.lookup x (if (NameKind.free==NameKind.free)=true then _ else _)).isSome=true;rw[vH (by rfl),yn,beq_self_eq_true];rfl
   ·exact .inl h
  ·right
   by_cases hb:(p.2==NameKind.free)=true
   ·rw[vH hb,yn]
    cases hx:x==p.1 with
    | true=>rfl
    | false=>exact h
   ·rw[vJ hb];exact h
noncomputable def XF(X:Cx)(N:List Str)(scope:ud)(C:vC)(s:vF)(H:Hp)(fp:List vC):Cx :=
 { X with N:=N,s₀:=s,H₀:=H,env:=compEnvC scope (Xd scope.names X.env.cells []) C X.env,outer:=X.stack,stack:=X.stack,ex:=fp,fn:=λ_=>false,pn:=[],xe:=λ_ _=>False }
noncomputable def zAE(M:Nat)(frees:List Nat)(σ:St):St:=wB M none++frees.map λj=>(σ[j]?).getD none
structure BlkOk (X:Cx) (N:List Str) (M:Nat) (frees:List Nat) (scope:ud):Prop where
 kind:scope.kind=.function
 nocell:∀y∈scope.names,y.2≠.cell
 own:∀y∈scope.names,y.2=.local->scope.names.lookup y.1=some .local
 cells:∀p∈scope.names,p.2=NameKind.free->(X.env.cells.lookup p.1).isSome=true
 fr:∀(k:Nat)(x:Str),N[M+k]?=some x->∃j,frees[k]?=some j/\X.N[j]?=some x/\(X.env.kindOf x=some .cell\/X.env.kindOf x=some .free)/\scope.names.lookup x=some .free
 len:N.length=M+frees.length
theorem q2V{env:Env}{x:Str}:∀{names:List (Str×uM)}{k:uM},(∀y∈names,y.2≠.cell)->(k=.cell\/k=.free) ->
  (names.map λ(n,k)=>if (k==NameKind.free&&env.scope.kind == .function&&env.kindOf n==some .cell)then (n,NameKind.cell)else (n,k)).lookup x=some k->(x,NameKind.free)∈names
 | [],_,_,_,h=>by cases h
 | (n,k0)::r,k,hc,hk,h=>by
  have ih:=@q2V env x r k (λy hy=>hc y (zG _ hy)) hk;rw[zR]at h
  by_cases hb:(k0==NameKind.free&&env.scope.kind == .function&&env.kindOf n==some .cell)=true
  ·have hf:k0=NameKind.free:=qaV (by rw[z6,z6]at hb;exact hb.1.1)
   dsimp only at h
   rw[vH hb,yn]at h;cases hx:x==n with
   | true=>rw[eq_of_beq hx,hf];exact zD
   | false=>rw[hx]at h;exact zG _ (ih h)
  ·dsimp only at h
   rw[vJ hb,yn]at h;cases hx:x==n with
   | true=>
    rw[hx]at h;have e:k0=k:=z5 h;have z:=hc (n,k0) zD;rw[eq_of_beq hx];rcases hk with rfl|rfl
    ·exact vN e z
    ·rw[e];exact zD
   | false=>rw[hx]at h;exact zG _ (ih h)
theorem q50{env:Env}{x:Str}:∀{names:List (Str×uM)},names.lookup x=some .free ->
  (names.map λ(n,k)=>if (k==NameKind.free&&env.scope.kind == .function&&env.kindOf n==some .cell)then (n,NameKind.cell)else (n,k)).lookup x=some .cell \/
  (names.map λ(n,k)=>if (k==NameKind.free&&env.scope.kind == .function&&env.kindOf n==some .cell)then (n,NameKind.cell)else (n,k)).lookup x=some .free
 | [],h=>by cases h
 | (n,k0)::r,h=>by
  have ih:=@q50 env x r;rw[zR]
  dsimp only
  rw[yn]at h
  by_cases hb:(k0==NameKind.free&&env.scope.kind == .function&&env.kindOf n==some .cell)=true
  ·rw[vH hb,yn]
   cases hx:x==n with
   | true=>exact .inl rfl
   | false=>rw[hx]at h;exact ih h
  ·rw[vJ hb,yn]
   cases hx:x==n with
   | true=>rw[hx]at h;exact .inr h
   | false=>rw[hx]at h;exact ih h
section
variable{X:Cx}{pins:List (vC×Obj)}{σ:St}{H:Hp}{s:vF}{N:List Str}{M:Nat}{frees:List Nat}{scope:ud}{fp:List vC}
theorem Inv.enter{h1:vZ}{C D tk:Nat}{m1:Str->Option vB}(I:Inv X pins σ H s)(B:BlkOk X N M frees scope)(f:∀b∈fp,Xc X pins H b)(lt:∀b∈fp,b<s.heap.objs.size)(hC:s.heap.objs.size<C)(hD:s.heap.objs.size<=D)(hDC:C≠D)(k:∀b u,s.heap.get? b=some u->h1.get? b=some u)(hns:h1.Ns C m1)(hl:h1.get? D=some { cls:=.type "list", data:=.seq ([]:List vB).toArray }):
  Inv (XF X N scope C s H fp) [] (zAE M frees σ) (upd H D (.lst [])) { s with heap:=h1,toks:=tk }:=by
 have sub:=q5b (cells:=X.env.cells) scope.names [] B.cells (λx c e=>by cases e);have hfr:H D=none:=I.hok.fresh hD;have hfc:H C=none:=I.hok.fresh (yP hC);have clt:∀x c,(Xd scope.names X.env.cells []).lookup x=some c->c<s.heap.objs.size:=λx c e=>by
  obtain⟨v,q⟩:=I.cell x c (sub x c e);exact q.lt
 refine⟨⟨I.ok.mod,B.kind,I.ok.glob,I.ok.blt,yP hC,λx y c e1 e2=>I.ok.inj x y c (sub x c e1) (sub y c e2),λx hx=>?_,λx c e=>vN e (by intro z;cases z),I.ok.hd,I.ok.frames,.inl rfl,λb hb=>?_,I.bs,yA I.ok.bsz I.sz,λb o e hb=>?_,
  λb hb hf=>?_,I.stack,I.stkFree⟩,rfl,I.bare,Un.laid k hD hfr,⟨m1,hns,λi x v e1 e2 e3=>?_⟩,λx c e=>?_,?_,λx c e=>?_,λp hp=>vN (show p∈([]:List (vC×Obj))from hp) (by simp),I.hok.laid k hD ⟨yQ _,[],0,.nil,hl⟩,?_⟩
 ·have hm:(x,NameKind.free)∈scope.names:=by
   rcases hx with hx|hx
   ·exact q2V B.nocell (.inl rfl) hx
   ·exact q2V B.nocell (.inr rfl) hx
  exact yd.mp (q4M scope.names [] x (.inl hm))
 ·exact⟨zo (Zb (lt b hb) hC),λx c e=>(f b hb).2.2.2.2.1 x c (sub x c e)⟩
 ·rcases (f b hb).2.2.2.1 with z|z
  ·exact I.ok.noex b o e z
  ·exact vN (zt (zP e) (yA I.ok.bsz z)) (y8 _)
 ·rcases zF.mp (I.stkSub b hf)with z|z
  ·exact(f b hb).2.1 z
  ·exact(f b hb).2.2.1 z
 ·have hi:M<=i:=by
   rcases zx i M with z|z
   ·unfold zAE at e2
    rw[zb ⇑z,yg,vH z]at e2;cases e2
   ·exact z
  obtain⟨q,rfl⟩:∃q,i=M+q:=⟨i-M,∅⟩;obtain⟨j,h1',h2',h3',h4'⟩:=B.fr q x e1;have ev:σ[j]?=some (some v):=by
   unfold zAE at e2;rw[zW (by simp),yk,wU,zY,h1']at e2;cases e:σ[j]? with
   | none=>rw[yx,e]at e2;cases e2
   | some o=>rw[yx,e]at e2;exact e2
  obtain⟨m,hn,hl'⟩:=I.loc;have vis:Vis X.env.scope x:=by
   rcases h3' with z|z
   ·exact .inr (.inl z)
   ·exact .inr (.inr z)
  obtain⟨u,ru,lk⟩:=hl' j x v h2' ev vis;refine⟨u,ru,.inr ?_⟩;rcases lk with⟨z,_⟩|⟨_,c,ec,ic⟩
  ·rcases h3' with y|y <;> (rw[z]at y;cases y)
  ·obtain⟨c',ec'⟩:=yd.mp (q4M (cells:=X.env.cells) scope.names [] x (.inl (PySem.mem_of_lookup h4')))
   have:c'=c:=z5 ((sub x c' ec').symm.trans ec);subst this;exact⟨q50 h4',c',ec',ic.keeps k⟩
 ·obtain⟨v,q⟩:=I.cell x c (sub x c e)
  exact⟨v,q.keeps k⟩
 ·show upd H D (.lst []) C=none
  rw[qc hDC];exact hfc
 ·show upd H D (.lst []) c=none
  rw[qc (zo (zt (clt x c e) hD))];exact I.freeC x c (sub x c e)
 ·show (zAE M frees σ).length=N.length
  unfold zAE;rw[zE,yk,zA,B.len]
end
section
variable{prog:vO}{w:vU}{A:vY}{R:tu->vF->Prop}{s:vF}
theorem qah{elt target iter:vP}{ifs:List vP}{scope:ud}{pos:Pos}{it acc:vB}{env:Env}(J:Nat->vF->Prop)(turn:∀n s,J n s->vM (model prog w) A (uG it) (λr s1=>match r with
   | none=>R (.ok .next) s1
   | some v=>vM (model prog w) A (uj target it v) (λ_ s2=>vM (model prog w) A (assign target env v) (λ_ s3=>
     vM (model prog w) A (forIn ifs true λc r=>if r=true then do let ok <- sA c env (eval c env);pure (ForInStep.yield ok)else pure (ForInStep.yield r)) (λok s4=>
      if ok=true then vM (model prog w) A (eval elt env) (λx s5=>vM (model prog w) A (call (.builtin "list.append") [acc,x]) (λ_ s6=>∃m,m<n/\J m s6) (λ_ _=>False) s5) (λ_ _=>False) s4
      else ∃m,m<n/\J m s4) (λ_ _=>False) s3) (λ_ _=>False) s2) (λ_ _=>False) s1) (λ_ _=>False) s)
  (n:Nat) (h:J n s):uP (model prog w) A (.compLoop (.ListComp elt [⟨target,iter,ifs,0⟩] scope pos) 0 it acc env) R s:=by
 refine codeAny_loop rfl J (λn s hJ=>?_) n h;show vM _ A ((compTurn (.ListComp elt [⟨target,iter,ifs,0⟩] scope pos) 0 it acc env).onRaise (λx=>do noteFrame x env;theTreesLotGoes x)) _ _ s;refine wpAny_noted (vh (Q:=λfin s'=>match fin with|.done f=>R (.ok f) s'|.again c'=>c'=.compLoop (.ListComp elt [⟨target,iter,ifs,0⟩] scope pos) 0 it acc env/\∃m,m<n/\J m s') ?_ (λ_ _ q=>q) λ_ _ (z:False)=>z.elim);rw[compTurn_list];refine vA (uz (vA (vh (turn n s hJ) (λr s1 h1=>?_) λ_ _ q=>q)));cases r with
 | none=>exact vG h1
 | some v=>
  refine vA (vh h1 (λ_ s2 h2=>vA (vh h2 (λ_ s3 h3=>vA (vh h3 (λok s4 h4=>?_) λ_ _ q=>q)) λ_ _ q=>q)) λ_ _ q=>q);cases ok with
  | false=>exact vG ⟨rfl,h4⟩
  | true=>exact vA (vA (vh h4 (λx s5 h5=>vA (vh h5 (λ_ s6 h6=>vG (vG ⟨rfl,h6⟩)) λ_ _ q=>q)) λ_ _ q=>q))
end
def PTs(X:Cx)(ifs:List vP)(t:TT):Prop :=
 ∀(pins:List (vC×Obj))(s:vF)(σ:St)(H:Hp)(Q:Bool->Hp->Prop),Inv X pins σ H s->t σ H Q ->
  vM (model X.prog X.w) X.A (forIn ifs true λc r=>if r=true then do let ok <- sA c X.env (eval c X.env);pure (ForInStep.yield ok)else pure (ForInStep.yield r)) (TP X pins σ Q) X.xe s
theorem qhm{X:Cx}:PTs X [] (λ_ H Q=>Q true H):=λ_ _ _ H _ I q=>wpAny_tests_nil ⟨H,I,q⟩
theorem qhs{X:Cx}{c:vP}{t:TT}(h:PT X c t):PTs X [c] t:=λpins s σ H Q I q=>wpAny_tests_one (h pins s σ H Q I q)
noncomputable def zAc(M:Nat)(frees:List Nat)(wi:TI)(g:TG)(tc:TT)(te:TE):TE:=λσ H Q=>wi σ H λJ H1=>∀D,H1 D=none ->
 ∃W:Nat->Nat->St->Hp->Prop,(∃m,W 0 m (zAE M frees σ) (upd H1 D (.lst [])))/\∀i m σ' H',W i m σ' H' ->
  (J.stop i H'/\Q (.ref D) H')\/(J.go i H'/\∀x H2,J.yld i H' x H2->g x σ' H2 λσ2 H3=>tc σ2 H3 λb H4=>
   if b=true then te σ2 H4 λv H5=>∃acc,H5 D=some (.lst acc)/\acc.length<sizeLine/\∃m',m'<m/\W (i+1) m' σ2 (upd H5 D (.lst (acc++[v])))
   else ∃m',m'<m/\W (i+1) m' σ2 H4)
section
variable{X:Cx}{N:List Str}{M:Nat}{frees:List Nat}{scope:ud}{tg iter elt:vP}{ifs:List vP}{pos:Pos}{wi:TI}{g:TG}{tc:TT}{te:TE}
theorem qa0(hc:X.calm=true)(B:BlkOk X N M frees scope)(hb:∀C s H fp,PG (XF X N scope C s H fp) tg g/\PTs (XF X N scope C s H fp) ifs tc/\PE (XF X N scope C s H fp) elt te){pins:List (vC×Obj)}{σ:St}{Q:VK}{s2:vF}{itv:vB}{E:vB->vF->Prop}{RR:vB->vC->tu->vF->Prop}(h2:PIE X pins σ tg (λJ H1=>∀D,H1 D=none ->
   ∃W:Nat->Nat->St->Hp->Prop,(∃m,W 0 m (zAE M frees σ) (upd H1 D (.lst [])))/\∀i m σ' H',W i m σ' H' ->
    (J.stop i H'/\Q (.ref D) H')\/(J.go i H'/\∀x H2,J.yld i H' x H2->g x σ' H2 λσ2 H3=>tc σ2 H3 λb H4=>
     if b=true then te σ2 H4 λv H5=>∃acc,H5 D=some (.lst acc)/\acc.length<sizeLine/\∃m',m'<m/\W (i+1) m' σ2 (upd H5 D (.lst (acc++[v])))
     else ∃m',m'<m/\W (i+1) m' σ2 H4)) itv s2)
  (hR:∀D C s' H' m,Inv X pins σ H' s'->Q (.ref D) H'->s'.heap.Ns C m->H' C=none->C≠X.env.locals->X.s₀.heap.objs.size<=C->(∀x c,X.env.cells.lookup x=some c->c≠C)->(∀p∈X.pn++pins,p.1≠C)->RR (.ref D) C (.ok .next) s') :
  vM (model X.prog X.w) X.A (newList []) (λacc s3=>vM (model X.prog X.w) X.A (newFunctionEnv scope X.env.globals (Xd scope.names X.env.cells []) [] X.env.qual none .none (some X.env)) (λcenv s4=>
   uP (model X.prog X.w) X.A (.compStart (.ListComp elt [⟨tg,iter,ifs,0⟩] scope pos) 0 itv acc { cenv with scope:=relabel scope X.env }) (RR acc cenv.locals) s4) E s3) E s2:=by
 obtain⟨it,fp,tn,J,H2,e,I2,T,st2,f2,q⟩:=h2;subst e;refine ve (wpAny_newFunctionEnv B.nocell (by intro y hy;simp at hy) (λh1 hns hsb=>?_) B.kind)
 dsimp only at hns hsb ⊢
 generalize hP:s2.heap.push { cls:=.type "list", dict:=none,data:=.seq ([]:List vB).toArray }=P1 at hns hsb ⊢;have hsz:P1.objs.size=s2.heap.objs.size+1:=by rw[<- hP,yV]
 have below:∀b,b<s2.heap.objs.size->b≠P1.objs.size:=λb z=>by rw[hsz];exact zo (yL z)
 have keep:∀b u,s2.heap.get? b=some u->h1.get? b=some u:=λb u z=>hsb.extBut b u (below b (zP z)) (zH _ (hP▸zH _ z));have hne:s2.heap.objs.size≠P1.objs.size:=by rw[hsz];exact zo (ya _)
 have hl:h1.get? s2.heap.objs.size=some { cls:=.type "list", data:=.seq ([]:List vB).toArray }:=hsb.extBut _ _ hne (zH _ (hP▸zT _ rfl));have lt2:∀b∈fp,b<s2.heap.objs.size:=λb z=>by
  obtain⟨o,eo,_⟩:=T.obj _ _ st2 b z;exact zP eo
 have hD0:H2 s2.heap.objs.size=none:=I2.hok.fresh (zN _);obtain⟨W,⟨m0,w0⟩,turn⟩:=q s2.heap.objs.size hD0;have I4:=I2.enter (N:=N) (M:=M) (frees:=frees) (scope:=scope) (fp:=fp) (h1:=h1) (C:=P1.objs.size) (D:=s2.heap.objs.size) (tk:=s2.toks+([]:List (Str×vB)).length) B f2 lt2 (by rw[hsz];exact ya _) (zN _) (Ne.symm hne) keep hns hl;have hcx:∀(C:vC),(XF X N scope C s2 H2 fp).calm=true:=λ_=>hc;have stat:∀{H':Hp},(∀b∈fp,H' b=none)->∀b∈fp,Xc (XF X N scope P1.objs.size s2 H2 fp) [] H' b:=λ{H'} hn b z=>by
  refine⟨hn b z,below b (lt2 b z),λy=>?_,.inl z,λx c y=>?_,λp y=>vN (show p∈([]:List (vC×Obj))from y) (by simp)⟩
  ·rcases zF.mp (I2.stkSub b y)with u|u
   ·exact(f2 b z).2.1 u
   ·exact(f2 b z).2.2.1 u
  ·exact(f2 b z).2.2.2.2.1 x c (q5b (cells:=X.env.cells) scope.names [] B.cells (λx c e=>by cases e) x c y)
 have fr4:∀b∈fp,(upd H2 s2.heap.objs.size (HO.lst [])) b=none:=λb z=>by
  rw[qc (zo (lt2 b z))];exact(f2 b z).1
 have st4:tn 0 h1:=T.keep _ _ _ st2 λb _ o z=>keep b o z;have fin:∀(s':vF)(σ':St)(H':Hp),Inv (XF X N scope P1.objs.size s2 H2 fp) [] σ' H' s'->Q (.ref s2.heap.objs.size) H'->RR (.ref s2.heap.objs.size) P1.objs.size (.ok .next) s':=λs' σ' H' I' q'=>by
  obtain⟨m,hm,_⟩:=I'.loc;have u':Un (frs X.stack) fp H2 H' s2.heap s'.heap:=I'.base;have I0:Inv X pins σ H' s':=I2.call' (ch:=fp) I'.os u' I'.hok I'.bare λb z=>⟨(f2 b z).2.2.2.1,(f2 b z).2.1,(f2 b z).2.2.2.2.1,(f2 b z).2.2.2.2.2⟩;refine hR _ _ s' H' m I0 q' hm I'.free (xW (zt I2.lt (by rw[hsz];exact xF _))) (yA I2.sz (by rw[hsz];exact xF _)) (λx c z=>?_) λp z=>?_
  ·obtain⟨v,y⟩:=I2.cell x c z
   exact below c y.lt
  ·exact below p.1 (zP (I2.pin p z).1)
 have loop:∀s4:vF,s4={ s2 with heap:=h1,toks:=s2.toks+([]:List (Str×vB)).length } ->
   uP (model X.prog X.w) X.A (.compLoop (.ListComp elt [⟨tg,iter,ifs,0⟩] scope pos) 0 (.ref it) (.ref s2.heap.objs.size) (compEnvC scope (Xd scope.names X.env.cells []) P1.objs.size X.env)) (RR (.ref s2.heap.objs.size) P1.objs.size) s4:=by
  rintro s4 rfl;refine qah (λn s'=>∃i σ' H',Inv (XF X N scope P1.objs.size s2 H2 fp) [] σ' H' s'/\tn i s'.heap/\(∀b∈fp,H' b=none)/\W i n σ' H') ?_ m0 ⟨0,_,_,I4,st4,fr4,w0⟩;rintro n s5 ⟨i,σ5,H5,I5,st5,fr5,w5⟩;rcases turn i n σ5 H5 w5 with⟨stop,qn⟩|⟨go,step⟩
  ·refine thn (T.done (XF X N scope P1.objs.size s2 H2 fp) rfl rfl rfl hc i [] s5 σ5 H5 _ I5 (stat fr5) st5 stop) λr s6 ⟨hr,I6⟩=>?_
   subst hr;exact fin s6 σ5 H5 I6 qn
  ·refine thn (T.item (XF X N scope P1.objs.size s2 H2 fp) rfl rfl rfl hc i [] s5 σ5 H5 _ I5 (stat fr5) st5 go) λr s6 ⟨u,hr,h6⟩=>?_
   subst hr;refine thn h6 λ_ s7 ⟨x,H7,I7,r7,y7,st7,fr7⟩=>?_;have I7':=I7.pinned (stat fr7) (T.obj _ _ st7);have B7:=hb P1.objs.size s2 H2 fp;refine thn (B7.1 _ s7 σ5 H7 x u _ I7' r7 (step x H7 y7)) λ_ s8 ⟨σ8,H8,I8,q8⟩=>?_;refine thn (B7.2.1 _ s8 σ8 H8 _ I8 q8) λok s9 ⟨H9,I9,q9⟩=>?_;have again:∀{σa:St}{Ha:Hp}{sa:vF},Inv (XF X N scope P1.objs.size s2 H2 fp) ([]++X7 fp s7.heap) σa Ha sa->(∃m',m'<n/\W (i+1) m' σa Ha) ->
     ∃m,m<n/\∃i σ' H',Inv (XF X N scope P1.objs.size s2 H2 fp) [] σ' H' sa/\tn i sa.heap/\(∀b∈fp,H' b=none)/\W i m σ' H':=λ{σa Ha sa} Ia ⟨m',hm,wa⟩=>by
    refine⟨m',hm,i+1,σa,Ha,Ia.unpinned,T.keep _ _ _ st7 λb z o eo=>(Ia.pin (b,o) (zJ _ (zJ _ (q2t z eo)))).1,λb z=>?_,wa⟩;obtain⟨o,eo,d⟩:=T.obj _ _ st7 b z;exact(Ia.pin (b,o) (zJ _ (zJ _ (q2t z eo)))).2.1
   cases ok with
   | false=>exact again I9 q9
   | true=>
    rw[vH rfl];refine thn (B7.2.2 _ s9 σ8 H9 _ I9 q9) λy s10 ⟨v,H10,I10,r10,acc,ha,hz,m',hm,wn⟩=>?_;refine thn (q3s (X:=XF X N scope P1.objs.size s2 H2 fp) _ s10 σ8 H10 (.ref s2.heap.objs.size) [v] (.ref s2.heap.objs.size) [y] (λ_ Hn=>∃m',m'<n/\W (i+1) m' σ8 Hn) I10 rfl (.cons r10 .nil) ⟨_,acc,v,rfl,rfl,ha,hz,m',hm,wn⟩) λ_ s11 ⟨_,H11,I11,_,q11⟩=>?_;exact again I11 q11
 exact codeAny_compStart_list (loop _ rfl) (T.self _ 0 _ _ _ st4 (loop _ rfl))
theorem qhy(hc:X.calm=true)(B:BlkOk X N M frees scope)(hi:PI X tg iter wi)(hb:∀C s H fp,PG (XF X N scope C s H fp) tg g/\PTs (XF X N scope C s H fp) ifs tc/\PE (XF X N scope C s H fp) elt te)(hs:∀x,vt iter X.env x=pure x:=by intro _;rfl):PE X (.ListComp elt [⟨tg,iter,ifs,0⟩] scope pos) (zAc M frees wi g tc te):=by
 intro pins s σ H Q I h;rw[eval_ListComp];refine u3 (use:=none) rfl hs (q4A B.cells) B.kind B.own (vh (hi pins s σ H _ I h) (λv s1 h1=>vh h1 (λitv s2 h2=>?_) λ_ _ q=>q) λ_ _ q=>q);refine qa0 (RR:=λacc C=>compPost (model X.prog X.w) X.A X.xe none (EP X pins σ Q) acc C) hc B hb h2 λD C s' H' m I' q' hm hC h1 h3 h4 h5=>?_;exact⟨m,hm,λh' hs'=>⟨.ref D,H',I'.turned (t':=s'.toks) (λb o z y=>hs'.extBut b o z y) hC h1 (.inr h3) h4 h5,rfl,q'⟩⟩
theorem qgG{i:Nat}{x:Str}{pos' spos:Pos}(hc:X.calm=true)(hN:X.N.Nodup)(hi':X.N[i]?=some x)(hx:X.env.scope.names.lookup x=some .local)(B:BlkOk X N M frees scope)(hi:PI X tg iter wi)(hb:∀C s H fp,PG (XF X N scope C s H fp) tg g/\PTs (XF X N scope C s H fp) ifs tc/\PE (XF X N scope C s H fp) elt te)(hsw:vv (.ListComp elt [⟨tg,iter,ifs,0⟩] scope pos) (some (.Name x pos')) spos.line X.env=pure true:=by rfl)(hs:∀x,vt iter X.env x=pure x:=by intro _;rfl):PS X (.Assign [.Name x pos'] (.ListComp elt [⟨tg,iter,ifs,0⟩] scope pos) spos) (tAsg (zAc M frees wi g tc te) (W7 i)):=by
 intro pins s σ H D I h;rw[exec_Assign_Name_used _ _ _ _ hsw];refine vA (uz (vA ?_));show vM _ X.A (do let _ <- comprehension (.ListComp elt [⟨tg,iter,ifs,0⟩] scope pos) scope X.env _ (newList []) false (eval iter X.env) (some (assign (.Name x pos') X.env))) _ _ s;refine vA (vh (u3 (use:=some (assign (.Name x pos') X.env)) (Q:=λ_ s'=>SP X pins D .next s') rfl hs (q4A B.cells) B.kind B.own
  (vh (hi pins s σ H _ I h) (λv s1 h1=>vh h1 (λitv s2 h2=>?_) λ_ _ q=>q) λ_ _ q=>q)) (λ_ s' hq=>vG (vG hq)) λ_ _ q=>q)
 refine qa0 (Q:=λy H1=>W7 i y σ H1 D.nx) (RR:=λacc C=>compPost (model X.prog X.w) X.A X.xe (some (assign (.Name x pos') X.env)) (λ_ s'=>SP X pins D .next s') acc C) hc B hb h2 λDd C s' H' m I' q' hm hC h1 h3 h4 h5=>?_;show vM _ X.A (assign (.Name x pos') X.env (.ref Dd)) _ _ _;refine wpAny_assign_Name (q7L I' hN hi' (.inl hx) (v:=.ref Dd) (u:=.ref Dd) rfl (λs'' I'' ⟨a,hsb,ha⟩=>?_) (.inr hx));have hCa:C≠a:=by
  rcases ha with rfl|ha
  ·exact h1
  ·exact Ne.symm (h4 x a ha)
 refine⟨m,hm.sameBut hsb hCa,λh' hs'=>⟨_,H',I''.turned (t':=s''.toks) (λb o z y=>hs'.extBut b o z y) hC h1 (.inr h3) h4 h5,q'⟩⟩
end
end L2
namespace Hk
open PySem L2
inductive D where
 | non|bl (b:Bool)|int (i:Int)|str (x:Str)|lst (xs:List D)|tup (xs:List D)|scr (ns:List Int)|exc (c:Str)|dic (ks:List Int) (xs:List D)
noncomputable def kvsOf:List Int->List V->List (Key×V)
 | k::ks,v::vs=>(.inl k,v)::kvsOf ks vs
 | _,_=>[]
def excP(a C:vC)(h:vZ):Prop:=∃o,h.get? a=some o/\o.cls=.ref C
mutual
def Rep(K:zB)(H:Hp):D->V->Prop
 | .non,v=>v=.non
 | .bl b,v=>v=.bl b
 | .int i,v=>v=.int i
 | .str x,v=>v=.str x
 | .lst ds,v=>∃a vs,v=.ref a/\H a=some (.lst vs)/\YX K H ds vs
 | .tup ds,v=>∃a vs,v=.ref a/\H a=some (.tup vs)/\YX K H ds vs
 | .scr ns,v=>∃a,v=.ref a/\SqL K H a (ns.map V.int)
 | .exc c,v=>∃a C,v=.ref a/\yO K vQ c=some (some (.ref C))/\H a=some (.ext (excP a C))
 | .dic ks ds,v=>∃a vs,v=.ref a/\(∃o,H a=some (.frz o (.dK (kvsOf ks vs))))/\ks.length=ds.length/\YX K H ds vs
def YX(K:zB)(H:Hp):List D->List V->Prop
 | [],vs=>vs=[]
 | d::ds,vs=>∃v r,vs=v::r/\Rep K H d v/\YX K H ds r
end
mutual
theorem Rep.mono{K:zB}{H H':Hp}(e:Yd H H'):∀{d:D}{v:V},Rep K H d v->Rep K H' d v
 | .non,_,h=>h
 | .bl _,_,h=>h
 | .int _,_,h=>h
 | .str _,_,h=>h
 | .lst _,_,⟨a,vs,h1,h2,h3⟩=>⟨a,vs,h1,e _ _ h2,YX.mono e h3⟩
 | .tup _,_,⟨a,vs,h1,h2,h3⟩=>⟨a,vs,h1,e _ _ h2,YX.mono e h3⟩
 | .scr _,_,⟨a,h1,h2⟩=>⟨a,h1,e.seq h2⟩
 | .exc _,_,⟨a,C,h1,h2,h3⟩=>⟨a,C,h1,h2,e _ _ h3⟩
 | .dic _ _,_,⟨a,vs,h1,⟨o,h2⟩,h4,h3⟩=>⟨a,vs,h1,⟨o,e _ _ h2⟩,h4,YX.mono e h3⟩
theorem YX.mono{K:zB}{H H':Hp}(e:Yd H H'):∀{ds:List D}{vs:List V},YX K H ds vs->YX K H' ds vs
 | [],_,h=>h
 | _::_,_,⟨v,r,h1,h2,h3⟩=>⟨v,r,h1,Rep.mono e h2,YX.mono e h3⟩
end
section
variable{K:zB}{H:Hp}
theorem YX.nil:YX K H [] []:=rfl
theorem YX.cons{d:D}{ds:List D}{v:V}{vs:List V}(h:Rep K H d v)(t:YX K H ds vs):YX K H (d::ds) (v::vs):=⟨v,vs,rfl,h,t⟩
theorem YX.len:∀{ds:List D}{vs:List V},YX K H ds vs->ds.length=vs.length
 | [],_,h=>by cases (show _=_ from h);rfl
 | _::_,_,⟨v,r,h1,_,h3⟩=>by rw[h1,zL,zL,YX.len h3]
theorem YX.app:∀{ds es:List D}{vs us:List V},YX K H ds vs->YX K H es us->YX K H (ds++es) (vs++us)
 | [],_,_,_,h,t=>by cases (show _=_ from h);exact t
 | _::_,_,_,_,⟨v,r,h1,h2,h3⟩,t=>by rw[h1];exact⟨v,_,rfl,h2,YX.app h3 t⟩
theorem YX.get:∀{ds:List D}{vs:List V}{i:Nat}{d:D},YX K H ds vs->ds[i]?=some d->∃v,vs[i]?=some v/\Rep K H d v
 | [],_,_,_,_,e=>by simp at e
 | _::_,_,0,_,⟨v,r,h1,h2,h3⟩,e=>by simp at e;subst e;rw[h1];exact⟨v,rfl,h2⟩
 | _::_,_,i+1,d,⟨v,r,h1,h2,h3⟩,e=>by
  obtain⟨u,e1,e2⟩:=YX.get (i:=i) (d:=d) h3 ⇑e;exact⟨u,by rw[h1];simpa using e1,e2⟩
theorem YX.take:∀{ds:List D}{vs:List V}(n:Nat),YX K H ds vs->YX K H (ds.take n) (vs.take n)
 | _,_,0,_=>rfl
 | [],_,_+1,h=>by cases (show _=_ from h);rfl
 | _::_,_,n+1,⟨v,r,h1,h2,h3⟩=>by rw[h1];exact⟨v,_,rfl,h2,YX.take n h3⟩
theorem YX.drop:∀{ds:List D}{vs:List V}(n:Nat),YX K H ds vs->YX K H (ds.drop n) (vs.drop n)
 | _,_,0,h=>h
 | [],_,_+1,h=>by cases (show _=_ from h);rfl
 | _::_,_,n+1,⟨v,r,h1,h2,h3⟩=>by rw[h1];exact YX.drop n h3
theorem YX.ints:∀(ns:List Int),YX K H (ns.map D.int) (ns.map V.int)
 | []=>rfl
 | n::r=>⟨.int n,_,rfl,rfl,YX.ints r⟩
theorem YX.of_ints:∀{ns:List Int}{vs:List V},YX K H (ns.map D.int) vs->vs=ns.map V.int
 | [],_,h=>h
 | n::r,_,⟨v,vs,h1,h2,h3⟩=>by
  have:=YX.of_ints h3;have e:v=.int n:=h2;rw[h1,this,e];rfl
end
structure Ext (G H G' H':Hp):Prop where
 gg:Yd G G'
 gh:Yd G' H'
 hh:Yd H H'
 new:∀b,G b=none->H b≠none->G' b=none
theorem Ext.refl{G H:Hp}(h:Yd G H):Ext G H G H:=⟨Yd.refl _,h,Yd.refl _,λ_ e _=>e⟩
theorem Ext.trans{G H G1 H1 G2 H2:Hp}(a:Ext G H G1 H1)(b:Ext G1 H1 G2 H2):Ext G H G2 H2:=by
 refine⟨a.gg.trans b.gg,b.gh,a.hh.trans b.hh,λc h1 h2=>?_⟩;have e1:=a.new c h1 h2;refine b.new c e1 λz=>h2 ?_;exact a.hh.free z
theorem Y2{H:Hp}{p:vC}(h:H p=none)(o:HO):Yd H (upd H p o):=λb u q=>by rw[qc (q0l q h)];exact q
theorem X6{G H:Hp}{p:vC}(e:Yd G H)(o:HO):Yd (upd G p o) (upd H p o):=λb u q=>by
 by_cases z:b=p
 ·subst z;rw[qg]at q ⊢;exact q
 ·rw[qc z]at q ⊢;exact e b u q
theorem Yb{G H:Hp}{p:vC}(e:Yd G H)(h:G p=none)(o:HO):Yd G (upd H p o):=λb u q=>by rw[qc (q0l q h)];exact e b u q
theorem Ext.lay{G H:Hp}{p:vC}(e:Yd G H)(h:H p=none)(o:HO):Ext G H (upd G p o) (upd H p o):=by
 have g:G p=none:=e.free h;refine⟨Y2 g o,X6 e o,Y2 h o,λb h1 h2=>?_⟩
 by_cases z:b=p
 ·subst z;exact vN h h2
 ·rw[qc z];exact h1
theorem Ext.hide{G H:Hp}{p:vC}(e:Yd G H)(h:H p=none)(o:HO):Ext G H G (upd H p o) :=
 ⟨Yd.refl _,Yb e (e.free h) o,Y2 h o,λ_ z _=>z⟩
inductive W where
 | sh (d:D)|ow (ds:List D)|od (ks:List Int) (ds:List D)|pw (ds:List D)
noncomputable abbrev WSt:=List (Option W)
structure Fr where
 hp:Hp
 pin:Nat->vC
noncomputable instance:CoeFun Fr λ_=>Hp:=⟨Fr.hp⟩
noncomputable instance:Coe Fr Hp:=⟨Fr.hp⟩
noncomputable def fr(H:Hp):Fr:=⟨H,λ_=>0⟩
def Y6(K:zB)(F:Fr)(G:Hp)(ω:WSt)(σ:St)(H:Hp):Prop:=∀(i:Nat)ds,ω[i]?=some (some (.pw ds))->∃vs,σ[i]?=some (some (.ref (F.pin i)))/\H (F.pin i)=some (.lst vs)/\G (F.pin i)=none/\F.hp (F.pin i)=none/\YX K G ds vs /\
 (∀(j:Nat)es,ω[j]?=some (some (.pw es))->F.pin j=F.pin i->j=i)/\∀(j:Nat)es,ω[j]?=some (some (.ow es))->σ[j]?≠some (some (.ref (F.pin i)))
theorem Y6.keep{K:zB}{F:Fr}{G G':Hp}{ω:WSt}{σ:St}{H H':Hp}(o:Y6 K F G ω σ H)(e:Ext G H G' H'):Y6 K F G' ω σ H':=λi ds h=>by
 obtain⟨vs,h1,h2,h3,h4,h5,h6⟩:=o i ds h;exact⟨vs,h1,e.hh _ _ h2,e.new _ h3 (by rw[h2];exact λz=>by cases z),h4,h5.mono e.gg,h6⟩
theorem Y6.no{K:zB}{F:Fr}{G:Hp}{ω:WSt}{σ:St}{H:Hp}(h:∀(i:Nat)ds,ω[i]?≠some (some (.pw ds))):Y6 K F G ω σ H:=λi ds e=>vN e (h i ds)
structure Own (K:zB) (G0:Hp) (H0:Fr) (G:Hp) (ω:WSt) (σ:St) (H:Hp):Prop where
 ext:Ext G0 H0.hp G H
 len:ω.length=σ.length
 sh:∀(i:Nat)d,ω[i]?=some ↥d->∃v,σ[i]?=some (some v)/\Rep K G d v
 ow:∀(i:Nat)ds,ω[i]?=some (some (.ow ds))->∃l vs,σ[i]?=some (some (.ref l))/\H l=some (.lst vs)/\G l=none/\H0 l=none/\YX K G ds vs
 nd:∀(i j:Nat)ds es l,ω[i]?=some (some (.ow ds))->ω[j]?=some (some (.ow es))->σ[i]?=some (some (.ref l))->σ[j]?=some (some (.ref l))->i=j
 od:∀(i:Nat)ks ds,ω[i]?=some (some (.od ks ds))->∃p vs,σ[i]?=some (some (.ref p))/\H p=some (.dK (kvsOf ks vs))/\G p=none/\H0 p=none/\ks.length=ds.length/\YX K G ds vs /\
  ∀(j:Nat)ks' es,ω[j]?=some (some (.od ks' es))->σ[j]?=some (some (.ref p))->i=j
 pw:Y6 K H0 G ω σ H
inductive R where
 | sh (d:D)|fr (ds:List D)|vw (ds:List D)
noncomputable def R.d:R->D
 | .sh d=>d
 | .fr ds=>.lst ds
 | .vw ds=>.lst ds
def zAW(K:zB)(H G' H':Hp):R->V->Prop
 | .sh d,v=>Rep K G' d v
 | .fr ds,v=>∃l vs,v=.ref l/\H l=none/\G' l=none/\H' l=some (.lst vs)/\YX K G' ds vs
 | .vw ds,v=>∃l vs,v=.ref l/\H' l=some (.lst vs)/\YX K G' ds vs
def Vw(K:zB)(G H:Hp)(d:D)(v:V):Prop:=Rep K G d v\/∃ds l vs,d=.lst ds/\v=.ref l/\H l=some (.lst vs)/\YX K G ds vs
theorem Own.keep{K:zB}{G0:Hp}{H0:Fr}{G G':Hp}{ω:WSt}{σ:St}{H H':Hp}(o:Own K G0 H0 G ω σ H)(e:Ext G H G' H'):Own K G0 H0 G' ω σ H':=by
 refine⟨o.ext.trans e,o.len,λi d h=>?_,λi ds h=>?_,o.nd,λi ks ds h=>?_,o.pw.keep e⟩
 ·obtain⟨v,h1,h2⟩:=o.sh i d h
  exact⟨v,h1,h2.mono e.gg⟩
 ·obtain⟨l,vs,h1,h2,h3,h4,h5⟩:=o.ow i ds h
  exact⟨l,vs,h1,e.hh _ _ h2,e.new l h3 (by rw[h2];exact λz=>by cases z),h4,h5.mono e.gg⟩
 ·obtain⟨l,vs,h1,h2,h3,h4,h6,h5,h7⟩:=o.od i ks ds h
  exact⟨l,vs,h1,e.hh _ _ h2,e.new l h3 (by rw[h2];exact λz=>by cases z),h4,h6,h5.mono e.gg,h7⟩
theorem Own.gh{K:zB}{G0:Hp}{H0:Fr}{G:Hp}{ω:WSt}{σ:St}{H:Hp}(o:Own K G0 H0 G ω σ H):Yd G H:=o.ext.gh
noncomputable abbrev FE:=WSt->Option R
noncomputable abbrev FD:=WSt->Option D
noncomputable abbrev FT:=WSt->Option Bool
noncomputable abbrev FA:=WSt->Option (List D)
def zAw(K:zB)(t:TE)(f:FE):Prop:=∀G0 H0 G ω σ H r(Q:VK),Own K G0 H0 G ω σ H->f ω=some r ->
 (∀v G' H',Ext G H G' H'->zAW K H G' H' r v->Q v H')->t σ H Q
def zAx(K:zB)(t:TE)(f:FD):Prop:=∀G0 H0 G ω σ H d(Q:VK),Own K G0 H0 G ω σ H->f ω=some d ->
 (∀v G' H',Ext G H G' H'->Rep K G' d v->Q v H')->t σ H Q
def SimV(K:zB)(t:TE)(f:FD):Prop:=∀G0 H0 G ω σ H d(Q:VK),Own K G0 H0 G ω σ H->f ω=some d ->
 (∀v G' H',Ext G H G' H'->Vw K G' H' d v->Q v H')->t σ H Q
def WL(K:zB)(t:TT)(f:FT):Prop:=∀G0 H0 G ω σ H b(Q:Bool->Hp->Prop),Own K G0 H0 G ω σ H->f ω=some b ->
 (∀G' H',Ext G H G' H'->Q b H')->t σ H Q
def SimA(K:zB)(t:TA)(f:FA):Prop:=∀G0 H0 G ω σ H ds(Q:List V->Hp->Prop),Own K G0 H0 G ω σ H->f ω=some ds ->
 (∀vs G' H',Ext G H G' H'->YX K G' ds vs->Q vs H')->t σ H Q
def XE(X:Cx)(e:vP)(f:FE):Prop:=∃t,PE X e t/\zAw X.K t f
def XD(X:Cx)(e:vP)(f:FD):Prop:=∃t,PE X e t/\zAx X.K t f
def XV(X:Cx)(e:vP)(f:FD):Prop:=∃t,PE X e t/\SimV X.K t f
def XT(X:Cx)(e:vP)(f:FT):Prop:=∃t,PT X e t/\WL X.K t f
def XW(X:Cx)(e:vP)(f:FT):Prop:=∃t,PW X e t/\WL X.K t f
def XA(X:Cx)(es:List vP)(f:FA):Prop:=(∃t,PA X es t/\SimA X.K t f)/\∀ω ds,f ω=some ds->ds.length=es.length
noncomputable def eOf(f:FD):FE:=λω=>(f ω).map R.sh
noncomputable def dOf(f:FE):FD:=λω=>match f ω with
 | ↥d=>some d
 | some (.fr ds)=>some (.lst ds)
 | _=>none
noncomputable def vOf(f:FE):FD:=λω=>(f ω).map R.d
section
variable{X:Cx}{e:vP}
theorem XD.toE{f:FD}(h:XD X e f):XE X e (eOf f):=by
 obtain⟨t,h1,h2⟩:=h;refine⟨t,h1,λG0 H0 G ω σ H r Q o e k=>?_⟩;unfold eOf at e;cases q:f ω with
 | none=>rw[q]at e;cases e
 | some d=>rw[q]at e;cases e;exact h2 G0 H0 G ω σ H d Q o q k
theorem XE.toD{f:FE}(h:XE X e f):XD X e (dOf f):=by
 obtain⟨t,h1,h2⟩:=h;refine⟨t,h1,λG0 H0 G ω σ H d Q o e k=>?_⟩;unfold dOf at e;cases q:f ω with
 | none=>rw[q]at e;cases e
 | some r=>
  rw[q]at e;cases r with
  | sh d'=>cases e;exact h2 G0 H0 G ω σ H _ Q o q k
  | fr ds=>
   cases e;refine h2 G0 H0 G ω σ H _ Q o q λv G' H' x ⟨l,vs,e1,e2,e3,e4,e5⟩=>?_;have s1:Yd G' (upd G' l (.lst vs)):=Y2 e3 _;refine k v (upd G' l (.lst vs)) H' ⟨x.gg.trans s1,λb u z=>?_,x.hh,λb z1 z2=>?_⟩ ⟨l,vs,e1,qg,e5.mono s1⟩
   ·by_cases hb:b=l
    ·subst hb;rw[qg]at z;rw[e4];exact z
    ·rw[qc hb]at z;exact x.gh b u z
   ·rw[qc (λhb=>z2 (by rw[hb];exact e2))];exact x.new b z1 z2
  | vw ds=>cases e
theorem XE.toV{f:FE}(h:XE X e f):XV X e (vOf f):=by
 obtain⟨t,h1,h2⟩:=h;refine⟨t,h1,λG0 H0 G ω σ H d Q o e k=>?_⟩;unfold vOf at e;cases q:f ω with
 | none=>rw[q]at e;cases e
 | some r=>
  rw[q]at e;have e':r.d=d:=z5 e;subst e';refine h2 G0 H0 G ω σ H r Q o q λv G' H' x y=>k v G' H' x ?_;cases r with
  | sh d'=>exact .inl y
  | fr ds=>obtain⟨l,vs,e1,e2,e3,e4,e5⟩:=y;exact .inr ⟨ds,l,vs,rfl,e1,e4,e5⟩
  | vw ds=>obtain⟨l,vs,e1,e2,e3⟩:=y;exact .inr ⟨ds,l,vs,rfl,e1,e2,e3⟩
theorem XD.toV{f:FD}(h:XD X e f):XV X e f:=by
 obtain⟨t,h1,h2⟩:=h;exact⟨t,h1,λG0 H0 G ω σ H d Q o e k=>h2 G0 H0 G ω σ H d Q o e λv G' H' x y=>k v G' H' x (.inl y)⟩
end
noncomputable def YI(i:Nat):FE:=λω=>match ω[i]? with
 | some ↥d=>↥d
 | some (some (.ow ds))=>some (.vw ds)
 | some (some (.pw ds))=>some (.vw ds)
 | _=>none
noncomputable def fC(d:D):FD:=λ_=>some d
section
variable{X:Cx}
theorem Wq{e:vP}(i:Nat)(h:PE X e (Xh i)):XE X e (YI i):=by
 refine⟨_,h,λG0 H0 G ω σ H r Q o e k=>?_⟩;unfold YI at e;cases q:ω[i]? with
 | none=>rw[q]at e;cases e
 | some w=>
  rw[q]at e;cases w with
  | none=>cases e
  | some w=>
   cases w with
   | sh d=>
    cases e;obtain⟨v,h1,h2⟩:=o.sh i d q;exact⟨v,h1,k v G H (Ext.refl o.gh) h2⟩
   | ow ds=>
    cases e;obtain⟨l,vs,h1,h2,h3,h4,h5⟩:=o.ow i ds q;exact⟨_,h1,k _ G H (Ext.refl o.gh) ⟨l,vs,rfl,h2,h5⟩⟩
   | od ks ds=>cases e
   | pw ds=>
    cases e;obtain⟨vs,h1,h2,h3,h4,h5,_⟩:=o.pw i ds q;exact⟨_,h1,k _ G H (Ext.refl o.gh) ⟨_,vs,rfl,h2,h5⟩⟩
theorem xd_c{e:vP}{v:V}{d:D}(h:PE X e (tC v))(hr:∀K H,Rep K H d v):XD X e (fC d):=by
 refine⟨_,h,λG0 H0 G ω σ H r Q o e k=>?_⟩;cases e;exact k v G H (Ext.refl o.gh) (hr _ _)
theorem YK{i j pos}:XD X (.Constant (.int i) j pos) (fC (.int i)):=xd_c qig λ_ _=>rfl
theorem XZ{b j pos}:XD X (.Constant (.bool b) j pos) (fC (.bl b)):=xd_c qjt λ_ _=>rfl
end
theorem bnd{α β:Type}{o:Option α}{f:α->Option β}{r:β}(h:o.bind f=some r):∃a,o=some a/\f a=some r:=Option.bind_eq_some_iff.mp h
theorem mpd{α β:Type}{o:Option α}{f:α->β}{r:β}(h:o.map f=some r):∃a,o=some a/\f a=r:=xl.mp h
noncomputable def YS:FA:=λ_=>some []
noncomputable def YH(f:FD)(g:FA):FA:=λω=>(f ω).bind λd=>(g ω).map λds=>d::ds
section
variable{X:Cx}{e:vP}{es:List vP}
theorem YJ:XA X [] YS:=⟨⟨_,q0b,λG0 H0 G ω σ H ds Q o e k=>by cases e;exact k [] G H (Ext.refl o.gh) rfl⟩,λω ds e=>by cases e;rfl⟩
theorem YG{f:FD}{g:FA}(h:XD X e f)(hr:XA X es g)(hs:vL (e::es) X.env=(false,eval e X.env)::vL es X.env:=by rfl):XA X (e::es) (YH f g):=by
 obtain⟨t,h1,h2⟩:=h;obtain⟨⟨u,h3,h4⟩,h5⟩:=hr;refine⟨⟨_,qS h1 h3 hs,λG0 H0 G ω σ H ds Q o e k=>?_⟩,λω ds e=>?_⟩
 ·obtain⟨d,q,e⟩:=bnd e
  obtain⟨r,q2,e⟩:=mpd e;subst e;refine h2 G0 H0 G ω σ H d _ o q λv G1 H1 x1 y1=>?_;refine h4 G0 H0 G1 ω σ H1 r _ (o.keep x1) q2 λvs G2 H2 x2 y2=>?_;exact k _ G2 H2 (x1.trans x2) (YX.cons (y1.mono x2.gg) y2)
 ·obtain⟨d,q,e⟩:=bnd e
  obtain⟨r,q2,e⟩:=mpd e;subst e;rw[zL,zL,h5 ω r q2]
noncomputable def X9(g:FA):FD:=λω=>(g ω).map D.tup
noncomputable def X3(g:FA):FE:=λω=>(g ω).map R.fr
theorem W6{n:Nat}(h:n<=1000):n<=sizeLine:=yP (zAD h)
theorem Yw{x1 pos}{g:FA}(h:XA X es g)(hl:es.length<=1000:=by decide):XD X (.Tuple es x1 pos) (X9 g):=by
 obtain⟨⟨t,h1,h2⟩,h5⟩:=h;refine⟨_,qix h1,λG0 H0 G ω σ H d Q o e k=>?_⟩;obtain⟨ds,q,e⟩:=mpd e;subst e;refine h2 G0 H0 G ω σ H ds _ o q λvs G1 H1 x1 y1=>⟨W6 (by rw[<- y1.len,h5 ω ds q];exact hl),λp hp=>?_⟩;have x2:=Ext.lay x1.gh hp (.tup vs);exact k _ _ _ (x1.trans x2) ⟨p,vs,rfl,qg,y1.mono x2.gg⟩
theorem Yt{pos}{g:FA}(h:XA X es g)(hl:es.length<=1000:=by decide):XE X (.List es pos) (X3 g):=by
 obtain⟨⟨t,h1,h2⟩,h5⟩:=h;refine⟨_,qdZ h1,λG0 H0 G ω σ H d Q o e k=>?_⟩;obtain⟨ds,q,e⟩:=mpd e;subst e;refine h2 G0 H0 G ω σ H ds _ o q λvs G1 H1 x1 y1=>⟨W6 (by rw[<- y1.len,h5 ω ds q];exact hl),λp hp=>?_⟩;have x2:=Ext.hide x1.gh hp (.lst vs);exact k _ _ _ (x1.trans x2) ⟨p,vs,rfl,x1.hh.free hp,x1.gh.free hp,qg,y1⟩
inductive O where
 | sh (d:D)|fr (ds:List D)
noncomputable def O.r:O->R
 | .sh d=>.sh d
 | .fr ds=>.fr ds
noncomputable def spD(K:zB)(n:Nat)(m:List D->Option O):Sp:=λvs H Q _=>∃G ds r,m ds=some r/\ds.length=n/\Yd G H/\YX K G ds vs/\∀v G' H',Ext G H G' H'->zAW K H G' H' r.r v->Q v H'
noncomputable def YQ(m:List D->Option O)(g:FA):FE:=λω=>(g ω).bind λds=>(m ds).map O.r
theorem zAm{CX:CXT}{k:Nat}{f:vC}{fd:vK}{ps:List Str}{m:List D->Option O}{E:XK}{x:Str}{p pos:Pos}{g:FA}(F:FnOk X.prog X.w X.K X.mg X.base CX k f fd ps (spD X.K (e::es).length m))(hr:Room k X.A)(hg:Gl X x)(hm:X.mg x=some (.ref f))(hk:xR X.K (.ref f)=true)(hb:Binds X.K fd ps [])(hx:WT CX X E)(ha:XA X (e::es) g)(hdb:(x==("__debug__" : Str))=false:=by decide)(he:vL (e::es) X.env=(false,eval e X.env)::vL es X.env:=by rfl)(hpl:(vn pos (vL es X.env)).any (·.1)=false:=by rfl):
  XE X (.Call (.Name x p) (e::es) [] pos) (YQ m g):=by
 obtain⟨⟨t,h1,h2⟩,h5⟩:=ha;refine⟨_,qhM F hr hg hm hk hb .nil hx h1 hdb he hpl,λG0 H0 G ω σ H r Q o e k=>?_⟩;obtain⟨ds,q,e⟩:=bnd e;obtain⟨r',q2,e⟩:=mpd e;subst e;refine h2 G0 H0 G ω σ H ds _ o q λvs G1 H1 x1 y1=>?_;refine⟨G1,ds,r',q2,h5 ω ds q,x1.gh,by rw[zw];exact y1,λv G2 H2 x2 y2=>k v G2 H2 (x1.trans x2) ?_⟩;cases r' with
 | sh d=>exact y2
 | fr ds=>obtain⟨l,vs,e1,e2,e3⟩:=y2;exact⟨l,vs,e1,x1.hh.free e2,e3⟩
end
open PySem.Spec PyProof.Rows PySem.SeqAt PySem.MeetsSeq PySem.MeetsSeq2 PySem.MeetsSeq3 in
theorem q86{prog:vO}{w:vU}{A:vY}{E:vB->vF->Prop}{s:vF}{t sl:vC}{items:Array vB}{vl vu:vB}{lo hi:Option Int}{Q:vB->vF->Prop}(ht:IsTup s.heap t items)(hs:s.heap.IsSliceOf sl vl vu .none)(pl:u8 vl lo)(pu:u8 vu hi)(hw:HT.sIx items.size 0 lo=0/\HT.sIx items.size items.size hi=items.size)(h:Q (.ref t) s):vM (model prog w) A (um (.ref t) (.ref sl)) Q E s:=by
 obtain⟨os,hos,hcs,hds⟩:=id hs;have hTs:s.TypeIs (.ref sl) "slice" := ⟨os,hos,hcs⟩;unfold um
 try with_reducible refine vc ?_
 first|refine vA (vG ?_)|skip
 refine vA (wpAny_sequenceKey ht.typeIs (by decide) ?_);refine vA (wpAny_callSpecial?_slot (name:=Str.ofString "__getitem__") ht.typeIs PyProof.Rows.slot_tuple_getitem
  (vi PyProof.Rows.slot_tuple_getitem ht.typeIs entry_tuple_getitem ?_ (tW _ _)))
 show vM _ _ (Builtin.Tuple.tupleItemsOf (.ref t) >>= _) _ _ s;refine vA (tupleItemsOf_ ht ?_);refine vA (uX hTs ?_);rw[vH (by decide)];refine vA (HT.q38 hs pl pu ?_);have hy:(((HT.sIx items.size 0 lo:Nat):Int)==0&&(1:Int)==1&&(HT.sIx items.size items.size hi-HT.sIx items.size 0 lo)==items.size)=true:=by
  rw[hw.1,hw.2];simp
 show vM _ _ (if (((HT.sIx items.size 0 lo:Nat):Int)==0&&(1:Int)==1&&(HT.sIx items.size items.size hi-HT.sIx items.size 0 lo)==items.size)=true then _ else _) _ _ s;rw[vH hy];have hb:∀{R:Bool->vF->Prop},R true s->vM (model prog w) A.in1 (Builtin.Tuple.tupleIsExact (.ref t)) R E s:=λr=>by
  unfold Builtin.Tuple.tupleIsExact;refine vA (uX ht.typeIs ?_);exact vG r
 refine vA (hb ?_);rw[vH rfl];refine vA (uJ ?_);exact vG ⟨_,rfl,vG h⟩
section
variable{X:Cx}
def rSlW(K:zB):V->Option Int->Option Int->Hp->VK->Prop:=λx lo hi H Q=>∃a xs,x=.ref a/\SqT K H a xs /\
 (HT.sIx xs.length 0 lo=0/\HT.sIx xs.length xs.length hi=xs.length)/\Q (.ref a) H
theorem qfh:SlR X (rSlW X.K):=by
 intro pins s σ H x v vl vu lo hi sl Q I rx hs pl pu h;obtain⟨a,xs,rfl,hx,hw,q⟩:=h;cases rx;obtain⟨its,r,ht,hz⟩:=I.tuple hx;have hlen:its.toArray.size=xs.length:=by rw[zO];exact r.length.symm
 refine⟨"tuple", _,PyProof.Rows.slot_tuple_getitem.lookup,ht.typeIs,?_⟩;exact q86 ht hs pl pu (by rw[hlen];exact hw) ⟨.ref a,H,I,rfl,q⟩
end
theorem Vw.rep{K:zB}{G H:Hp}{d:D}{v:V}(h:Vw K G H d v)(e:Yd G H):Rep K H d v:=by
 rcases h with h|⟨ds,l,vs,rfl,rfl,h1,h2⟩
 ·exact h.mono e
 ·exact⟨l,vs,rfl,h1,h2.mono e⟩
theorem Vw.keep{K:zB}{G H G' H':Hp}{d:D}{v:V}(h:Vw K G H d v)(e:Ext G H G' H'):Vw K G' H' d v:=by
 rcases h with h|⟨ds,l,vs,h0,h1,h2,h3⟩
 ·exact .inl (h.mono e.gg)
 ·exact .inr ⟨ds,l,vs,h0,h1,e.hh _ _ h2,h3.mono e.gg⟩
theorem Vw.lst{K:zB}{G H:Hp}{ds:List D}{v:V}(h:Vw K G H (.lst ds) v)(e:Yd G H):∃a vs,v=.ref a/\H a=some (.lst vs)/\YX K G ds vs:=by
 rcases h with⟨a,vs,h1,h2,h3⟩|⟨ds',l,vs,h0,h1,h2,h3⟩
 ·exact⟨a,vs,h1,e _ _ h2,h3⟩
 ·cases h0;exact⟨l,vs,h1,h2,h3⟩
theorem Vw.of_ne{K:zB}{G H:Hp}{d:D}{v:V}(h:Vw K G H d v)(n:∀ds,d≠.lst ds):Rep K G d v:=by
 rcases h with h|⟨ds',l,vs,h0,h1,h2,h3⟩
 ·exact h
 ·exact vN h0 (n _)
def VwA(K:zB)(G H:Hp):List D->List V->Prop
 | [],vs=>vs=[]
 | d::ds,vs=>∃v r,vs=v::r/\Vw K G H d v/\VwA K G H ds r
def SimVA(K:zB)(t:TA)(f:FA):Prop:=∀G0 H0 G ω σ H ds(Q:List V->Hp->Prop),Own K G0 H0 G ω σ H->f ω=some ds ->
 (∀vs G' H',Ext G H G' H'->VwA K G' H' ds vs->Q vs H')->t σ H Q
def XVA(X:Cx)(es:List vP)(f:FA):Prop:=∃t,PA X es t/\SimVA X.K t f
section
variable{X:Cx}{e:vP}{es:List vP}
theorem ql:XVA X [] YS:=⟨_,q0b,λG0 H0 G ω σ H ds Q o e k=>by cases e;exact k [] G H (Ext.refl o.gh) rfl⟩
theorem qi{f:FD}{g:FA}(h:XV X e f)(hr:XVA X es g)(hs:vL (e::es) X.env=(false,eval e X.env)::vL es X.env:=by rfl):XVA X (e::es) (YH f g):=by
 obtain⟨t,h1,h2⟩:=h;obtain⟨u,h3,h4⟩:=hr;refine⟨_,qS h1 h3 hs,λG0 H0 G ω σ H ds Q o e k=>?_⟩;obtain⟨d,q,e⟩:=bnd e;obtain⟨r,q2,e⟩:=mpd e;subst e;refine h2 G0 H0 G ω σ H d _ o q λv G1 H1 x1 y1=>?_;refine h4 G0 H0 G1 ω σ H1 r _ (o.keep x1) q2 λvs G2 H2 x2 y2=>?_;exact k _ G2 H2 (x1.trans x2) ⟨v,vs,rfl,y1.keep x2,y2⟩
noncomputable def YR(op:D->D->Option R)(f g:FD):FE:=λω=>(f ω).bind λx=>(g ω).bind λy=>op x y
def OpV(K:zB)(r:R2)(op:D->D->Option R):Prop:=∀G H x y d v u(Q:VK),Yd G H->op x y=some d->Vw K G H x v->Vw K G H y u ->
 (∀w G' H',Ext G H G' H'->zAW K H G' H' d w->Q w H')->r v u H Q
theorem q5e{r:R2}{o:D->D->Option R}{f g:FD}{t u:TE}(hd:OpV X.K r o)(h2:SimV X.K t f)(h4:SimV X.K u g):zAw X.K (tOp r t u) (YR o f g):=by
 intro G0 H0 G ω σ H d Q ow e k;obtain⟨x,q,e⟩:=bnd e;obtain⟨y,q2,e⟩:=bnd e;refine h2 G0 H0 G ω σ H x _ ow q λv G1 H1 x1 y1=>?_;refine h4 G0 H0 G1 ω σ H1 y _ (ow.keep x1) q2 λv2 G2 H2 x2 y2=>?_;refine hd G2 H2 x y d v v2 Q x2.gh e (y1.keep x2) y2 λw G3 H3 x3 z=>k w G3 H3 ((x1.trans x2).trans x3) ?_;cases d with
 | sh d=>exact z
 | fr ds=>obtain⟨l,vs,e1,e2,e3⟩:=z;exact⟨l,vs,e1,(x1.trans x2).hh.free e2,e3⟩
 | vw ds=>exact z
variable{a b:vP}{pos:Pos}{f g:FD}
theorem q41{op:tZ}{r:R2}{o:D->D->Option R}(ho:OpR X (uK op) r)(hd:OpV X.K r o)(ha:XV X a f)(hb:XV X b g):XE X (.BinOp a op b pos) (YR o f g):=by
 obtain⟨t,h1,h2⟩:=ha;obtain⟨u,h3,h4⟩:=hb;exact⟨_,qjn ho h1 h3,q5e hd h2 h4⟩
theorem q47{op:t0}{r:R2}{o:D->D->Option R}(ho:OpR X (uA op) r)(hd:OpV X.K r o)(ha:XV X a f)(hb:XV X b g)(hm:vq op b=false):XE X (.Compare a [op] [b] pos) (YR o f g):=by
 obtain⟨t,h1,h2⟩:=ha;obtain⟨u,h3,h4⟩:=hb;exact⟨_,qhw ho h1 h3 hm,q5e hd h2 h4⟩
theorem qji{r:R2}{o:D->D->Option R}(ho:IxR X r)(hd:OpV X.K r o)(ha:XV X a f)(hb:XV X b g)(hs:WE b):XE X (.Subscript a b pos) (YR o f g):=by
 obtain⟨t,h1,h2⟩:=ha;obtain⟨u,h3,h4⟩:=hb;exact⟨_,qjl ho h1 h3 hs,q5e hd h2 h4⟩
noncomputable def tOf(f:FE):FT:=λω=>match f ω with
 | ↥(.bl k)=>some k
 | _=>none
theorem qda{t:TE}{f:FE}(h:zAw X.K t f):WL X.K (tTest t) (tOf f):=by
 intro G0 H0 G ω σ H b Q o e k;unfold tOf at e;cases q:f ω with
 | none=>rw[q]at e;cases e
 | some r=>
  rw[q]at e;cases r with
  | sh d=>
   cases d with
   | bl c=>
    cases e;refine h G0 H0 G ω σ H _ _ o q λv G' H' x y=>?_;cases (show v=V.bl b from y);exact⟨b,rfl,k G' H' x⟩
   | _=>cases e
  | _=>cases e
theorem q98{op:t0}{r:R2}{o:D->D->Option R}(ho:OpR X (uA op) r)(hd:OpV X.K r o)(ha:XV X a f)(hb:XV X b g)(hm:vq op b=false):XT X (.Compare a [op] [b] pos) (tOf (YR o f g)):=by
 obtain⟨t,h1,h2⟩:=ha;obtain⟨u,h3,h4⟩:=hb;exact⟨_,qhq ho h1 h3 hm,qda (q5e hd h2 h4)⟩
noncomputable def Wl(c:Int->Int->Bool)(g:Int->Int->D):D->D->Option R
 | .int i,.int j=>if c i j=true then ↥(g i j)else none
 | _,_=>none
theorem Vw.int{K:zB}{G H:Hp}{i:Int}{v:V}(h:Vw K G H (.int i) v):v=.int i:=h.of_ne (λ_ z=>by cases z)
theorem Vw.bl{K:zB}{G H:Hp}{i:Bool}{v:V}(h:Vw K G H (.bl i) v):v=.bl i:=h.of_ne (λ_ z=>by cases z)
theorem Vw.str{K:zB}{G H:Hp}{i:Str}{v:V}(h:Vw K G H (.str i) v):v=.str i:=h.of_ne (λ_ z=>by cases z)
theorem Vw.non{K:zB}{G H:Hp}{v:V}(h:Vw K G H .non v):v=.non:=h.of_ne (λ_ z=>by cases z)
theorem Vw.tup{K:zB}{G H:Hp}{ds:List D}{v:V}(h:Vw K G H (.tup ds) v):∃a vs,v=.ref a/\G a=some (.tup vs)/\YX K G ds vs:=h.of_ne (λ_ z=>by cases z)
theorem Vw.scr{K:zB}{G H:Hp}{ns:List Int}{v:V}(h:Vw K G H (.scr ns) v):∃a,v=.ref a/\SqL K G a (ns.map V.int):=h.of_ne (λ_ z=>by cases z)
theorem q5n{K:zB}{C:Int->Int->Prop}{c:Int->Int->Bool}{gV:Int->Int->V}{g:Int->Int->D}(hc:∀i j,c i j=true->C i j)(hg:∀H i j,Rep K H (g i j) (gV i j)):OpV K (rI C gV) (Wl c g):=by
 intro G H x y d v u Q s e hx hy k;cases x with
 | int i=>
  cases y with
  | int j=>
   cases hx.int;cases hy.int;unfold Wl at e
   dsimp only at e
   by_cases z:c i j=true
   ·rw[vH z]at e
    cases e;exact⟨i,j,rfl,rfl,hc i j z,k _ G H (Ext.refl s) (hg _ i j)⟩
   ·rw[vJ z]at e;cases e
  | _=>cases e
 | _=>cases e
theorem q1T{K:zB}{gV:Int->Int->V}{g:Int->Int->D}(hg:∀H i j,Rep K H (g i j) (gV i j)):OpV K (rI0 gV) (Wl (λ_ _=>true) g):=by
 intro G H x y d v u Q s e hx hy k;cases x with
 | int i=>
  cases y with
  | int j=>
   cases hx.int;cases hy.int;cases e;exact⟨i,j,rfl,rfl,k _ G H (Ext.refl s) (hg _ i j)⟩
  | _=>cases e
 | _=>cases e
noncomputable def zAe(i j:Int):Bool:=(decide (-(2^64)<i)&&decide (i<2^64)) || (decide (-(2^64)<j)&&decide (j<2^64))
noncomputable def cDiv(_ j:Int):Bool:=decide (0<j)&&decide (j<1073741824)
noncomputable def cMod(_ j:Int):Bool:=decide (0<j)
noncomputable def cPow(i j:Int):Bool:=decide (0<=j)&&decide (j<=1000000)&&decide (i.natAbs<2^64)
noncomputable abbrev Wk:D->D->Option R:=Wl (λ_ _=>true) λi j=>.int (i-j)
noncomputable abbrev WA:D->D->Option R:=Wl zAe λi j=>.int (i*j)
noncomputable abbrev oDiv:D->D->Option R:=Wl cDiv λi j=>.int (i/j)
noncomputable abbrev oMod:D->D->Option R:=Wl cMod λi j=>.int (i%j)
noncomputable abbrev oPow:D->D->Option R:=Wl cPow λi j=>.int (i^j.toNat)
noncomputable abbrev oLt:D->D->Option R:=Wl (λ_ _=>true) λi j=>.bl (decide (i<j))
noncomputable abbrev oLe:D->D->Option R:=Wl (λ_ _=>true) λi j=>.bl (decide (i<=j))
noncomputable abbrev oGt:D->D->Option R:=Wl (λ_ _=>true) λi j=>.bl (decide (j<i))
noncomputable abbrev oGe:D->D->Option R:=Wl (λ_ _=>true) λi j=>.bl (decide (j<=i))
noncomputable def Yv:D->D->Option R
 | .int i,.int j=>↥(.int (i+j))
 | .lst xs,.lst ys=>if xs.length+ys.length<=1000000 then some (.fr (xs++ys))else none
 | .tup [],.tup ys=>↥(.tup ys)
 | .tup (x::xs),.tup ys=>if (x::xs).length+ys.length<=1000000 then ↥(.tup ((x::xs)++ys))else none
 | _,_=>none
theorem q64{n:Nat}(h:n<=1000000):n<=sizeLine:=by rw[vo];omega
noncomputable def rCat0(K:zB):R2:=λx y H Q=>∃a b ys,x=.ref a/\y=.ref b/\SqT K H a []/\SqT K H b ys/\Q (.ref b) H
theorem qh9:OpR X (uK .Add) (rCat0 X.K):=by
 intro pins s σ H x y v u Q I rx ry h;obtain⟨a,b,ys,rfl,rfl,ha,hb,q⟩:=h;cases rx;cases ry;obtain⟨its,r1,p1,_⟩:=I.tuple ha;obtain⟨its2,r2,p2,_⟩:=I.tuple hb;have e0:its=[]:=r1.nil_iff.mpr rfl;subst e0;obtain⟨⟨cls,dd,data,sl⟩,ho,hc,n,hd⟩:=id p1;obtain⟨⟨cls2,dd2,data2,sl2⟩,ho2,hc2,n2,hd2⟩:=id p2;simp only at hc hd hc2 hd2;subst hc hd hc2 hd2;exact PySem.concat_meets ⟨_,ho,rfl⟩ ⟨_,ho2,rfl⟩ PySem.noFill_tuple_add PySem.seq_tuple_add PySem.F.slot_tuple_add PySem.F.entry_tuple_add (PySem.F.args_tuple_add_2 _ _)
  (PyProof.Rows.tuple_addW0 a b _ its2.toArray n n2 dd dd2 sl sl2 (by simp)) ⟨ho,ho2,⟨.ref b,H,I,rfl,q⟩⟩
noncomputable def W5(K:zB):R2:=λx y H Q=>rI0 (λi j=>.int (i+j)) x y H Q\/rCat x y H Q\/rCatT K x y H Q\/rCat0 K x y H Q
theorem qe5:OpR X (uK .Add) (W5 X.K):=qiG.or (qiX.or (qh5.or qh9))
theorem qhn{K:zB}:OpV K (W5 K) Yv:=by
 intro G H x y d v u Q s e hx hy k;cases x with
 | int i=>
  cases y with
  | int j=>
   cases hx.int;cases hy.int;cases e;exact .inl ⟨i,j,rfl,rfl,k _ G H (Ext.refl s) rfl⟩
  | _=>cases e
 | lst xs=>
  cases y with
  | lst ys=>
   unfold Yv at e
   dsimp only at e
   by_cases z:xs.length+ys.length<=1000000
   ·rw[vH z]at e
    cases e;obtain⟨a,vs,rfl,h1,h2⟩:=hx.lst s;obtain⟨b,us,rfl,h3,h4⟩:=hy.lst s;refine .inr (.inl ⟨a,b,vs,us,rfl,rfl,h1,h3,q64 (by rw[<- h2.len,<- h4.len];exact z),λp hp=>?_⟩);exact k _ G _ (Ext.hide s hp _) ⟨p,_,rfl,hp,s.free hp,qg,h2.app h4⟩
   ·rw[vJ z]at e;cases e
  | _=>cases e
 | tup xs=>
  cases y with
  | tup ys=>
   obtain⟨a,vs,rfl,h1,h2⟩:=hx.tup;obtain⟨b,us,rfl,h3,h4⟩:=hy.tup;cases xs with
   | nil=>
    cases e;have ev:vs=[]:=yt h2.len.symm;subst ev;exact .inr (.inr (.inr ⟨a,b,us,rfl,rfl,SqT.of (s _ _ h1),SqT.of (s _ _ h3),k _ G H (Ext.refl s) ⟨b,us,rfl,h3,h4⟩⟩))
   | cons x0 xs=>
    unfold Yv at e
    dsimp only at e
    by_cases z:(x0::xs).length+ys.length<=1000000
    ·rw[vH z]at e
     cases e;refine .inr (.inr (.inl ⟨a,b,vs,us,rfl,rfl,SqT.of (s _ _ h1),SqT.of (s _ _ h3),λw=>?_,q64 (by rw[<- h2.len,<- h4.len];exact z),λw=>?_,λ_ p hp=>?_⟩))
     ·have:=h2.len
      rw[w]at this;cases this
     ·have:=h4.len
      rw[w]at this;have ey:ys=[]:=yt this;subst ey;rw[zw]at k;exact k _ G H (Ext.refl s) ⟨a,vs,rfl,h1,h2⟩
     ·have x2:=Ext.lay s hp (.tup (vs++us))
      exact k _ _ _ x2 ⟨p,_,rfl,qg,(h2.app h4).mono x2.gg⟩
    ·rw[vJ z]at e;cases e
  | _=>cases xs <;> cases e
 | _=>cases e
theorem qv(ha:XV X a f)(hb:XV X b g):XE X (.BinOp a .Add b pos) (YR Yv f g):=q41 qe5 qhn ha hb
theorem q0R(ha:XV X a f)(hb:XV X b g):XE X (.BinOp a .Sub b pos) (YR Wk f g):=q41 qiB (q1T λ_ _ _=>rfl) ha hb
theorem mulOk{i j:Int}(h:zAe i j=true):CMul i j:=by
 unfold zAe at h;rw[Bool.or_eq_true,z6,z6,decide_eq_true_iff,decide_eq_true_iff,decide_eq_true_iff,decide_eq_true_iff]at h;exact h
theorem divOk{i j:Int}(h:cDiv i j=true):CDiv i j:=by
 unfold cDiv at h;rw[z6,decide_eq_true_iff,decide_eq_true_iff]at h;exact h
theorem powOk{i j:Int}(h:cPow i j=true):CPow i j:=by
 unfold cPow at h;rw[z6,z6,decide_eq_true_iff,decide_eq_true_iff,decide_eq_true_iff]at h;exact⟨h.1.1,h.1.2,h.2⟩
theorem q48(ha:XV X a f)(hb:XV X b g):XE X (.BinOp a .Mult b pos) (YR WA f g):=q41 qhZ (q5n (λ_ _ h=>mulOk h) λ_ _ _=>rfl) ha hb
theorem q1h(ha:XV X a f)(hb:XV X b g):XE X (.BinOp a .FloorDiv b pos) (YR oDiv f g):=q41 qhf (q5n (λ_ _ h=>divOk h) λ_ _ _=>rfl) ha hb
theorem qJ(ha:XV X a f)(hb:XV X b g):XE X (.BinOp a .Mod b pos) (YR oMod f g):=q41 qiZ (q5n (λ_ _ h=>of_decide_eq_true h) λ_ _ _=>rfl) ha hb
theorem qeK(ha:XV X a f)(hb:XV X b g):XE X (.BinOp a .Pow b pos) (YR oPow f g):=q41 qip (q5n (λ_ _ h=>powOk h) λ_ _ _=>rfl) ha hb
noncomputable def oNeg:D->Option R
 | .int i=>↥(.int (-i))
 | _=>none
noncomputable def zAy(f:FD):FE:=λω=>(f ω).bind oNeg
theorem q6L(ha:XV X a f):XE X (.UnaryOp .USub a pos) (zAy f):=by
 obtain⟨t,h1,h2⟩:=ha;refine⟨_,qj5 qi2 h1,λG0 H0 G ω σ H d Q ow e k=>?_⟩;obtain⟨x,q,e⟩:=bnd e;refine h2 G0 H0 G ω σ H x _ ow q λv G1 H1 x1 y1=>?_;cases x with
 | int i=>cases e;cases y1.int;exact⟨i,rfl,k _ G1 H1 x1 rfl⟩
 | _=>cases e
theorem qcn(ha:XV X a f)(hb:XV X b g):XE X (.Compare a [.Lt] [b] pos) (YR oLt f g):=q47 qgo (q1T λ_ _ _=>rfl) ha hb (XY _)
theorem qgh(ha:XV X a f)(hb:XV X b g):XE X (.Compare a [.LtE] [b] pos) (YR oLe f g):=q47 qj7 (q1T λ_ _ _=>rfl) ha hb (XY _)
theorem qja(ha:XV X a f)(hb:XV X b g):XE X (.Compare a [.Gt] [b] pos) (YR oGt f g):=q47 qjd (q1T λ_ _ _=>rfl) ha hb (XY _)
theorem qjo(ha:XV X a f)(hb:XV X b g):XE X (.Compare a [.GtE] [b] pos) (YR oGe f g):=q47 qj6 (q1T λ_ _ _=>rfl) ha hb (XY _)
theorem q8l(ha:XV X a f)(hb:XV X b g):XT X (.Compare a [.Lt] [b] pos) (tOf (YR oLt f g)):=q98 qgo (q1T λ_ _ _=>rfl) ha hb (XY _)
end
mutual
noncomputable def D.py:D->PyData
 | .non=>.none
 | .bl b=>.bool b
 | .int i=>.int i
 | .str x=>.str x
 | .lst xs=>.list (D.pys xs)
 | .tup xs=>.tuple (D.pys xs)
 | .scr ns=>.list (ns.map PyData.int)
 | .exc _=>.dict []
 | .dic _ _=>.dict []
noncomputable def D.pys:List D->List PyData
 | []=>[]
 | d::ds=>d.py::D.pys ds
end
section
variable{X:Cx}{pins:List (vC×Obj)}{σ:St}{H:Hp}{s:vF}
theorem Xr{h:vZ}:∀{ns:List Int}{us:List vB},Yf (ns.map V.int) us->∃as,ReadsAll h us (ns.map PyData.int) as
 | [],_,r=>by cases r;exact⟨_,.nil⟩
 | n::ns,_,r=>by
  rw[zR]at r;cases r with
  | cons r1 r2=>
   obtain⟨t,rfl⟩:=r1;obtain⟨as,q⟩:=Xr (h:=h) r2;exact⟨_,.cons (.int n t) q⟩
mutual
theorem XN(I:Inv X pins σ H s):∀{d:D}{v:V}{u:vB},d.py.canLay0=true->Rep X.K H d v->RelV v u->∃as,Reads s.heap u d.py as
 | .non,_,_,_,h,r=>by cases (show _=V.non from h);cases r;exact⟨_,.none⟩
 | .bl b,_,_,_,h,r=>by cases (show _=V.bl b from h);cases r;exact⟨_,.bool b⟩
 | .int i,_,_,_,h,r=>by cases (show _=V.int i from h);obtain⟨t,rfl⟩:=r;exact⟨_,.int i t⟩
 | .str x,_,_,_,h,r=>by cases (show _=V.str x from h);obtain⟨t,rfl⟩:=r;exact⟨_,.str x t⟩
 | .lst ds,_,_,hc,⟨a,vs,rfl,h2,h3⟩,r=>by
  cases r;obtain⟨its,n,rv,e,_⟩:=I.lst h2;obtain⟨as,q⟩:=Xg I (show PyData.canLayAll0 (D.pys ds)=true from hc) h3 rv;exact⟨_,.list e rfl rfl ⇑q⟩
 | .tup ds,_,_,hc,⟨a,vs,rfl,h2,h3⟩,r=>by
  cases r;obtain⟨its,rv,⟨o,e,c,n,dd⟩,_⟩:=I.tuple (SqT.of h2);obtain⟨as,q⟩:=Xg I (show PyData.canLayAll0 (D.pys ds)=true from hc) h3 rv;exact⟨_,.tuple e c dd ⇑q⟩
 | .exc _,_,_,hc,_,_=>by cases hc
 | .dic _ _,_,_,hc,_,_=>by cases hc
 | .scr ns,_,_,_,⟨a,rfl,h2⟩,r=>by
  cases r;obtain⟨its,rv,pl,_⟩:=I.list h2;obtain⟨o,e,c,n,dd⟩:=pl.isList;obtain⟨as,q⟩:=Xr (h:=s.heap) rv;exact⟨_,.list e c dd ⇑q⟩
theorem Xg(I:Inv X pins σ H s):∀{ds:List D}{vs:List V}{us:List vB},PyData.canLayAll0 (D.pys ds)=true->YX X.K H ds vs->Yf vs us->∃as,ReadsAll s.heap us (D.pys ds) as
 | [],_,_,_,h,r=>by cases (show _=[]from h);cases r;exact⟨_,.nil⟩
 | d::ds,_,_,hc,⟨v,vr,h1,h2,h3⟩,r=>by
  have hc':=ZB.mp (show (d.py.canLay0&&PyData.canLayAll0 (D.pys ds))=true from hc);subst h1;cases r with
  | cons r1 r2=>
   obtain⟨as,q1⟩:=XN I hc'.1 h2 r1;obtain⟨bs,q2⟩:=Xg I hc'.2 h3 r2;exact⟨_,.cons q1 q2⟩
end
end
noncomputable def shp(d:D):Bool:=SeqAt.shaped d.py
noncomputable def eqD(x y:D):Bool:=PyData.eqv x.py y.py
noncomputable def rEqD(K:zB)(neg:Bool):R2:=λx y H Q=>∃d e,Rep K H d x/\Rep K H e y/\shp d=true/\shp e=true/\Q (.bl (if neg then !eqD d e else eqD d e)) H
noncomputable def oEq(neg:Bool):D->D->Option R:=λx y=>if shp x&&shp y then ↥(.bl (if neg then !eqD x y else eqD x y))else none
section
variable{X:Cx}{a b:vP}{pos:Pos}{f g:FD}
theorem zAX(hu:X.A.units+64<ue):OpR X (uA .Eq) (rEqD X.K false):=by
 intro pins s σ H x y v u Q I rx ry h;obtain⟨d,e,h1,h2,h3,h4,q⟩:=h;obtain⟨as,ra⟩:=XN I (SeqAt.canLay_of_shaped h3) h1 rx;obtain⟨bs,rb⟩:=XN I (SeqAt.canLay_of_shaped h4) h2 ry;exact SeqAt.compareEq_shaped ra rb h3 h4 hu ⟨.bl _,H,I,rfl,q⟩
theorem op_neD(hu:X.A.units+64<ue):OpR X (uA .NotEq) (rEqD X.K true):=by
 intro pins s σ H x y v u Q I rx ry h;obtain⟨d,e,h1,h2,h3,h4,q⟩:=h;obtain⟨as,ra⟩:=XN I (SeqAt.canLay_of_shaped h3) h1 rx;obtain⟨bs,rb⟩:=XN I (SeqAt.canLay_of_shaped h4) h2 ry;exact SeqAt.compareNe_shaped ra rb h3 h4 hu ⟨.bl _,H,I,rfl,q⟩
theorem Wy{K:zB}{neg:Bool}:OpV K (rEqD K neg) (oEq neg):=by
 intro G H x y d v u Q s e hx hy k;unfold oEq at e
 by_cases z:(shp x&&shp y)=true
 ·rw[vH z]at e
  cases e;rw[z6]at z;exact⟨x,y,hx.rep s,hy.rep s,z.1,z.2,k _ G H (Ext.refl s) rfl⟩
 ·rw[vJ z]at e;cases e
theorem Wn(hu:X.A.units+64<ue)(ha:XV X a f)(hb:XV X b g):XE X (.Compare a [.Eq] [b] pos) (YR (oEq false) f g):=q47 (zAX hu) Wy ha hb (XY _)
theorem WC(hu:X.A.units+64<ue)(ha:XV X a f)(hb:XV X b g):XT X (.Compare a [.Eq] [b] pos) (tOf (YR (oEq false) f g)):=q98 (zAX hu) Wy ha hb (XY _)
theorem We(hu:X.A.units+64<ue)(ha:XV X a f)(hb:XV X b g):XT X (.Compare a [.NotEq] [b] pos) (tOf (YR (oEq true) f g)):=q98 (op_neD hu) Wy ha hb (XY _)
noncomputable def XR:D->Bool
 | .non=>true
 | .bl _=>true
 | .int _=>true
 | .str _=>true
 | _=>false
noncomputable def D.v:D->V
 | .bl b=>.bl b
 | .int i=>.int i
 | .str x=>.str x
 | _=>.non
theorem Xz{K:zB}{H:Hp}{d:D}{v:V}(h:Rep K H d v)(f:XR d=true):v=d.v/\Xm v=true:=by
 cases d with
 | non=>cases (show v=V.non from h);exact⟨rfl,rfl⟩
 | bl b=>cases (show v=V.bl b from h);exact⟨rfl,rfl⟩
 | int b=>cases (show v=V.int b from h);exact⟨rfl,rfl⟩
 | str b=>cases (show v=V.str b from h);exact⟨rfl,rfl⟩
 | _=>cases f
theorem Xf{K:zB}{H:Hp}:∀{ds:List D}{vs:List V},YX K H ds vs->ds.all XR=true->vs=ds.map D.v/\vs.all Xm=true
 | [],_,h,_=>by cases (show _=[]from h);exact⟨rfl,rfl⟩
 | d::ds,_,⟨v,r,h1,h2,h3⟩,f=>by
  rw[xP,z6]at f;obtain⟨e1,e2⟩:=Xz h2 f.1;obtain⟨e3,e4⟩:=Xf h3 f.2;subst h1;refine⟨by rw[zR,<- e1,<- e3],by rw[xP,e2,e4];rfl⟩
noncomputable def inD(x:D)(ds:List D):Bool:=inV x.v (ds.map D.v)
noncomputable def oIn(neg:Bool):D->D->Option R
 | x,.lst ys=>if XR x&&ys.all XR then ↥(.bl (if neg then !inD x ys else inD x ys))else none
 | x,.tup ys=>if XR x&&ys.all XR then ↥(.bl (if neg then !inD x ys else inD x ys))else none
 | _,_=>none
theorem opv_in{K:zB}{neg:Bool}:OpV K (rIn K neg) (oIn neg):=by
 intro G H x y d v u Q s e hx hy k;cases y with
 | lst ys=>
  unfold oIn at e
  dsimp only at e
  by_cases z:(XR x&&ys.all XR)=true
  ·rw[vH z]at e
   cases e;rw[z6]at z;obtain⟨p,vs,rfl,h1,h2⟩:=hy.lst s;obtain⟨e1,e2⟩:=Xz (hx.rep s) z.1;obtain⟨e3,e4⟩:=Xf h2 z.2;refine⟨p,vs,rfl,.inl (SqL.of h1),e2,e4,?_⟩;rw[e1,e3];exact k _ G H (Ext.refl s) rfl
  ·rw[vJ z]at e;cases e
 | tup ys=>
  unfold oIn at e
  dsimp only at e
  by_cases z:(XR x&&ys.all XR)=true
  ·rw[vH z]at e
   cases e;rw[z6]at z;obtain⟨p,vs,rfl,h1,h2⟩:=hy.tup;obtain⟨e1,e2⟩:=Xz (hx.rep s) z.1;obtain⟨e3,e4⟩:=Xf h2 z.2;refine⟨p,vs,rfl,.inr (SqT.of (s _ _ h1)),e2,e4,?_⟩;rw[e1,e3];exact k _ G H (Ext.refl s) rfl
  ·rw[vJ z]at e;cases e
 | _=>cases x <;> cases e
theorem xe_in(ha:XV X a f)(hb:XV X b g)(hm:vq .In b=false:=by with_unfolding_all rfl):XE X (.Compare a [.In] [b] pos) (YR (oIn false) f g):=q47 qcE opv_in ha hb hm
noncomputable def oIx:D->D->Option R
 | .lst ds,.int i=>(atI ds i).map R.sh
 | .tup ds,.int i=>(atI ds i).map R.sh
 | .scr ns,.int i=>(atI ns i).map λn=>.sh (.int n)
 | _,_=>none
theorem WI{K:zB}{H:Hp}{ds:List D}{vs:List V}{i:Int}{d:D}(h:YX K H ds vs)(e:atI ds i=some d):∃v,atI vs i=some v/\Rep K H d v:=by
 unfold atI at e ⊢;rw[<- h.len];cases q:ixN ds.length i with
 | none=>rw[q]at e;cases e
 | some j=>
  rw[q]at e;obtain⟨v,e1,e2⟩:=h.get e;exact⟨v,e1,e2⟩
theorem zAN{ns:List Int}{i n:Int}(e:atI ns i=some n):atI (ns.map V.int) i=some (.int n):=by
 unfold atI at e ⊢;rw[zA];cases q:ixN ns.length i with
 | none=>rw[q]at e;cases e
 | some j=>
  rw[q]at e;have e':ns[j]?=some n:=e;show (ns.map V.int)[j]?=_;rw[zY,e'];rfl
theorem opv_ix{K:zB}:OpV K (rIx K) oIx:=by
 intro G H x y d v u Q s e hx hy k;cases y with
 | int i=>
  cases hy.int;cases x with
  | lst ds=>
   obtain⟨d',q,e'⟩:=mpd e;subst e';obtain⟨p,vs,rfl,h1,h2⟩:=hx.lst s;obtain⟨w,e1,e2⟩:=WI h2 q;exact .inl ⟨p,vs,i,w,rfl,rfl,SqL.of h1,e1,k _ G H (Ext.refl s) e2⟩
  | tup ds=>
   obtain⟨d',q,e'⟩:=mpd e;subst e';obtain⟨p,vs,rfl,h1,h2⟩:=hx.tup;obtain⟨w,e1,e2⟩:=WI h2 q;exact .inr (.inl ⟨p,vs,i,w,rfl,rfl,SqT.of (s _ _ h1),e1,k _ G H (Ext.refl s) e2⟩)
  | scr ns=>
   obtain⟨n,q,e'⟩:=mpd e;subst e';obtain⟨p,rfl,h1⟩:=hx.scr;exact .inl ⟨p,_,i,.int n,rfl,rfl,s.seq h1,zAN q,k _ G H (Ext.refl s) rfl⟩
  | _=>cases e
 | _=>cases x <;> cases e
theorem YN(ha:XV X a f)(hb:XV X b g)(hs:WE b:=by exact λ_ _=>rfl):XE X (.Subscript a b pos) (YR oIx f g):=qji qil opv_ix ha hb hs
noncomputable abbrev FO:=WSt->Option (Option Int)
def SimO(K:zB)(t:TO)(f:FO):Prop:=∀G0 H0 G ω σ H o(Q:Option Int->Hp->Prop),Own K G0 H0 G ω σ H->f ω=some o->(∀G' H',Ext G H G' H'->Q o H')->t σ H Q
def XO(X:Cx)(e:Option vP)(f:FO):Prop:=∃t,PO X e t/\SimO X.K t f
noncomputable def pNo:FO:=λ_=>some none
noncomputable def pAt(f:FD):FO:=λω=>(f ω).bind λd=>match d with|.int i=>some (some i)|_=>none
theorem Xe:XO X none pNo:=⟨_,qh0,λG0 H0 G ω σ H o Q ow e k=>by cases e;exact k G H (Ext.refl ow.gh)⟩
theorem XJ(h:XV X a f):XO X (some a) (pAt f):=by
 obtain⟨t,h1,h2⟩:=h;refine⟨_,qhi h1,λG0 H0 G ω σ H o Q ow e k=>?_⟩;obtain⟨d,q,e⟩:=bnd e;refine h2 G0 H0 G ω σ H d _ ow q λv G1 H1 x1 y1=>?_;cases d with
 | int i=>cases e;cases y1.int;exact⟨i,rfl,k G1 H1 x1⟩
 | _=>cases e
noncomputable def cutD{α:Type}(xs:List α)(lo hi:Option Int):List α:=(xs.drop (HT.sIx xs.length 0 lo)).take (HT.sIx xs.length xs.length hi-HT.sIx xs.length 0 lo)
theorem WS{K:zB}{H:Hp}{ds:List D}{vs:List V}(h:YX K H ds vs)(lo hi:Option Int):YX K H (cutD ds lo hi) (Wu vs lo hi):=by
 unfold cutD Wu;rw[h.len];exact(h.drop _).take _
theorem zAI(ns:List Int)(lo hi:Option Int):Wu (ns.map V.int) lo hi=(cutD ns lo hi).map V.int:=by
 unfold cutD Wu;rw[zA,YA,ZN]
noncomputable def oSl:D->Option Int->Option Int->Option R
 | .lst ds,lo,hi=>some (.fr (cutD ds lo hi))
 | .scr ns,lo,hi=>some (.fr ((cutD ns lo hi).map D.int))
 | .tup ds,lo,hi=>if HT.sIx ds.length 0 lo=0/\HT.sIx ds.length ds.length hi=ds.length then ↥(.tup ds)else ↥(.tup (cutD ds lo hi))
 | _,_,_=>none
noncomputable def fSl(f:FD)(l h:FO):FE:=λω=>(f ω).bind λd=>(l ω).bind λlo=>(h ω).bind λhi=>oSl d lo hi
theorem Y9{lo hi:Option vP}{l h:FO}{p2:Pos}(ha:XV X a f)(hl:XO X lo l)(hh:XO X hi h):XE X (.Subscript a (.Slice lo hi none p2) pos) (fSl f l h):=by
 obtain⟨t,h1,h2⟩:=ha;obtain⟨tl,h3,h4⟩:=hl;obtain⟨th,h5,h6⟩:=hh;refine⟨_,qfu (qhU.or (qiu.or qfh)) h1 h3 h5,λG0 H0 G ω σ H r Q ow e k=>?_⟩;obtain⟨d,q,e⟩:=bnd e;obtain⟨lo',q2,e⟩:=bnd e;obtain⟨hi',q3,e⟩:=bnd e;refine h2 G0 H0 G ω σ H d _ ow q λv G1 H1 x1 y1=>?_;refine h4 G0 H0 G1 ω σ H1 lo' _ (ow.keep x1) q2 λG2 H2 x2=>?_;refine h6 G0 H0 G2 ω σ H2 hi' _ ((ow.keep x1).keep x2) q3 λG3 H3 x3=>?_;have y3:=(y1.keep x2).keep x3;have x13:=(x1.trans x2).trans x3;cases d with
 | lst ds=>
  cases e;obtain⟨p,vs,rfl,h1,h2⟩:=y3.lst x3.gh;refine .inl ⟨p,vs,rfl,SqL.of h1,λn hn=>?_⟩;exact k _ G3 _ (x13.trans (Ext.hide x3.gh hn _)) ⟨n,_,rfl,x13.hh.free hn,x3.gh.free hn,qg,WS h2 _ _⟩
 | scr ns=>
  cases e;obtain⟨p,rfl,h1⟩:=y3.scr;refine .inl ⟨p,_,rfl,x3.gh.seq h1,λn hn=>?_⟩;refine k _ G3 _ (x13.trans (Ext.hide x3.gh hn _)) ⟨n,_,rfl,x13.hh.free hn,x3.gh.free hn,qg,?_⟩;rw[zAI];exact YX.ints _
 | tup ds=>
  unfold oSl at e
  dsimp only at e
  obtain⟨p,vs,rfl,h1,h2⟩:=y3.tup
  by_cases z:HT.sIx ds.length 0 lo'=0/\HT.sIx ds.length ds.length hi'=ds.length
  ·rw[vH z]at e
   cases e;exact .inr (.inr ⟨p,vs,rfl,SqT.of (x3.gh _ _ h1),by rw[<- h2.len];exact z,k _ G3 H3 x13 ⟨p,vs,rfl,h1,h2⟩⟩)
  ·rw[vJ z]at e
   cases e;refine .inr (.inl ⟨p,vs,rfl,SqT.of (x3.gh _ _ h1),by rw[<- h2.len];exact z,λn hn=>?_⟩);have x4:=Ext.lay x3.gh hn (.tup (Wu vs lo' hi'));exact k _ _ _ (x13.trans x4) ⟨n,_,rfl,qg,(WS h2 _ _).mono x4.gg⟩
 | _=>cases e
end
section
variable{X:Cx}{a b c:vP}{pos:Pos}{rest:List vP}{f g:FT}
noncomputable def Wd(f g:FT):FT:=λω=>(f ω).bind λc=>if c=true then g ω else some false
noncomputable def Wg(f g:FT):FT:=λω=>(f ω).bind λc=>if c=true then some true else g ω
noncomputable def Yz(f:FT):FT:=λω=>(f ω).map (!·)
theorem qfl{t u:TT}(h:WL X.K t f)(h':WL X.K u g):WL X.K (tAnd t u) (Wd f g):=by
 intro G0 H0 G ω σ H b Q o e k;obtain⟨c,q,e⟩:=bnd e;refine h G0 H0 G ω σ H c _ o q λG1 H1 x1=>?_;cases c with
 | true=>rw[vH rfl]at e ⊢;exact h' G0 H0 G1 ω σ H1 b Q (o.keep x1) e λG2 H2 x2=>k G2 H2 (x1.trans x2)
 | false=>cases e;exact k G1 H1 x1
theorem qhC{t u:TT}(h:WL X.K t f)(h':WL X.K u g):WL X.K (tOr t u) (Wg f g):=by
 intro G0 H0 G ω σ H b Q o e k;obtain⟨c,q,e⟩:=bnd e;refine h G0 H0 G ω σ H c _ o q λG1 H1 x1=>?_;cases c with
 | true=>cases e;exact k G1 H1 x1
 | false=>exact h' G0 H0 G1 ω σ H1 b Q (o.keep x1) e λG2 H2 x2=>k G2 H2 (x1.trans x2)
theorem q6R(h:XT X a f):XW X (.BoolOp .And [a] pos) f:=let ⟨t,h1,h2⟩:=h;⟨t,qhD h1,h2⟩
theorem q2H(h:XT X a f):XW X (.BoolOp .Or [a] pos) f:=let ⟨t,h1,h2⟩:=h;⟨t,qiO h1,h2⟩
theorem q91(h:XT X a f)(h':XW X (.BoolOp .And (b::rest) pos) g):XW X (.BoolOp .And (a::b::rest) pos) (Wd f g):=let ⟨_,h1,h2⟩:=h;let ⟨_,h3,h4⟩:=h';⟨_,qiw h1 h3,qfl h2 h4⟩
theorem q20(h:XT X a f)(h':XW X (.BoolOp .Or (b::rest) pos) g):XW X (.BoolOp .Or (a::b::rest) pos) (Wg f g):=let ⟨_,h1,h2⟩:=h;let ⟨_,h3,h4⟩:=h';⟨_,qjq h1 h3,qhC h2 h4⟩
theorem XW.toT(h:XW X a f):XT X a f:=let ⟨t,h1,h2⟩:=h;⟨t,h1.pt,h2⟩
theorem qK(h:XT X a f):XT X (.UnaryOp .Not a pos) (Yz f):=by
 obtain⟨t,h1,h2⟩:=h;refine⟨_,qiS h1,λG0 H0 G ω σ H b Q o e k=>?_⟩;obtain⟨c,q,e⟩:=mpd e;subst e;exact h2 G0 H0 G ω σ H c _ o q k
noncomputable def truD:D->Option Bool
 | .non=>some false
 | .bl b=>some b
 | .int i=>some (i != 0)
 | .lst xs=>some (!xs.isEmpty)
 | .tup xs=>some (!xs.isEmpty)
 | _=>none
noncomputable def XX(f:FD):FT:=λω=>(f ω).bind truD
theorem q5C{α β:Type}{xs:List α}{ys:List β}(h:xs.length=ys.length):xs.isEmpty=ys.isEmpty:=by
 cases xs <;> cases ys <;> first|rfl|cases h
theorem qz{f:FD}(h:XV X a f)(he:∀whole,sA a X.env whole=(do let v <- whole;t9 a.pos;holding [v] (truthy v)):=by intro _;rfl):XT X a (XX f):=by
 obtain⟨t,h1,h2⟩:=h;refine⟨_,qfa h1 he,λG0 H0 G ω σ H b Q o e k=>?_⟩;obtain⟨d,q,e⟩:=bnd e;refine h2 G0 H0 G ω σ H d _ o q λv G1 H1 x1 y1=>⟨b,?_,k G1 H1 x1⟩;cases d with
 | non=>cases e;cases y1.non;rfl
 | bl c=>cases e;cases y1.bl;rfl
 | int i=>cases e;cases y1.int;rfl
 | lst xs=>
  cases e;obtain⟨p,vs,rfl,h1,h2⟩:=y1.lst x1.gh;exact .inl ⟨vs,SqL.of h1,by rw[q5C h2.len]⟩
 | tup xs=>
  cases e;obtain⟨p,vs,rfl,h1,h2⟩:=y1.tup;exact .inr (.inl ⟨vs,SqT.of (x1.gh _ _ h1),by rw[q5C h2.len]⟩)
 | _=>cases e
noncomputable def blOf:D->Option Bool
 | .bl b=>some b
 | _=>none
noncomputable def X5(f g:FD):FD:=λω=>(f ω).bind λd=>(blOf d).bind λc=>if c=true then g ω else some (.bl false)
noncomputable def vNot(f:FD):FD:=λω=>(f ω).bind λd=>(blOf d).map λc=>.bl (!c)
noncomputable def fIte(c:FT)(f g:FE):FE:=λω=>(c ω).bind λk=>if k=true then f ω else g ω
variable{fa fb:FD}
theorem q0V{op}(h:XD X a fa):XD X (.BoolOp op [a] pos) fa:=let ⟨t,h1,h2⟩:=h;⟨t,qin h1,h2⟩
theorem qX(h:XD X a fa)(h':XD X (.BoolOp .And (b::rest) pos) fb):XD X (.BoolOp .And (a::b::rest) pos) (X5 fa fb):=by
 obtain⟨t,h1,h2⟩:=h;obtain⟨u,h3,h4⟩:=h';refine⟨_,qib h1 h3,λG0 H0 G ω σ H d Q o e k=>?_⟩;obtain⟨x,q,e⟩:=bnd e;obtain⟨c,q2,e2⟩:=bnd e;clear e;refine h2 G0 H0 G ω σ H x _ o q λv G1 H1 x1 y1=>?_;cases x with
 | bl z=>
  cases q2;cases (show v=V.bl c from y1);refine⟨c,rfl,?_⟩;cases c with
  | true=>rw[vH rfl]at e2 ⊢;exact h4 G0 H0 G1 ω σ H1 d Q (o.keep x1) e2 λv G2 H2 x2 y2=>k v G2 H2 (x1.trans x2) y2
  | false=>cases e2;exact k _ G1 H1 x1 rfl
 | _=>cases q2
theorem qit(h:XD X a fa):XD X (.UnaryOp .Not a pos) (vNot fa):=by
 obtain⟨t,h1,h2⟩:=h;refine⟨_,qij h1,λG0 H0 G ω σ H d Q o e k=>?_⟩;obtain⟨x,q,e⟩:=bnd e;obtain⟨c,q2,e⟩:=mpd e;subst e;refine h2 G0 H0 G ω σ H x _ o q λv G1 H1 x1 y1=>?_;cases x with
 | bl z=>cases q2;cases (show v=V.bl c from y1);exact⟨c,rfl,k _ G1 H1 x1 rfl⟩
 | _=>cases q2
theorem zAW.after{K:zB}{G H G1 H1 G2 H2:Hp}{r:R}{v:V}(x:Ext G H G1 H1)(y:zAW K H1 G2 H2 r v):zAW K H G2 H2 r v:=by
 cases r with
 | sh d=>exact y
 | fr ds=>obtain⟨l,vs,e1,e2,e3⟩:=y;exact⟨l,vs,e1,x.hh.free e2,e3⟩
 | vw ds=>exact y
theorem q9Z{fc:FT}{f g:FE}(hc:XT X c fc)(ha:XE X a f)(hb:XE X b g):XE X (.IfExp c a b pos) (fIte fc f g):=by
 obtain⟨t,h1,h2⟩:=hc;obtain⟨u,h3,h4⟩:=ha;obtain⟨w,h5,h6⟩:=hb;refine⟨_,qfq h1 h3 h5,λG0 H0 G ω σ H r Q o e k=>?_⟩;obtain⟨z,q,e⟩:=bnd e;refine h2 G0 H0 G ω σ H z _ o q λG1 H1 x1=>?_;cases z with
 | true=>rw[vH rfl]at e ⊢;exact h4 G0 H0 G1 ω σ H1 r Q (o.keep x1) e λv G2 H2 x2 y2=>k v G2 H2 (x1.trans x2) (y2.after x1)
 | false=>exact h6 G0 H0 G1 ω σ H1 r Q (o.keep x1) e λv G2 H2 x2 y2=>k v G2 H2 (x1.trans x2) (y2.after x1)
end
def Xi(K:zB)(r:List V->Hp->VK->Prop)(op:List D->Option R):Prop:=∀G H ds vs d(Q:VK),Yd G H->op ds=some d->VwA K G H ds vs ->
 (∀w G' H',Ext G H G' H'->zAW K H G' H' d w->Q w H')->r vs H Q
noncomputable def Y4(op:List D->Option R)(g:FA):FE:=λω=>(g ω).bind op
section
variable{X:Cx}{e:vP}{es:List vP}{x:Str}{p pos:Pos}{r:List V->Hp->VK->Prop}{op:List D->Option R}{g:FA}{id T:String}
theorem q7l{t:TA}(hd:Xi X.K r op)(h:SimVA X.K t g):zAw X.K (tCB r t) (Y4 op g):=by
 intro G0 H0 G ω σ H d Q o e k;obtain⟨ds,q,e⟩:=bnd e;refine h G0 H0 G ω σ H ds _ o q λvs G1 H1 x1 y1=>?_;exact hd G1 H1 ds vs d Q x1.gh e y1 λw G2 H2 x2 y2=>k w G2 H2 (x1.trans x2) (y2.after x1)
theorem qu(hc:XB X (.builtin id) r)(hd:Xi X.K r op)(hg:Gl X x)(hm:X.mg x=none)(hv:vX x=some (.builtin id))(ha:XVA X (e::es) g)(hn:x ≠ "__name__" := by decide)(hdb:(x==("__debug__" : Str))=false:=by decide)(he:vL (e::es) X.env=(false,eval e X.env)::vL es X.env:=by rfl)(hpl:(vn pos (vL es X.env)).any (·.1)=false:=by rfl):XE X (.Call (.Name x p) (e::es) [] pos) (Y4 op g):=by
 obtain⟨t,h1,h2⟩:=ha;exact⟨_,q2Y hc hg hm hv h1 hn hdb he hpl,q7l hd h2⟩
theorem qg2(hc:XB X (.type T) r)(hd:Xi X.K r op)(hg:Gl X x)(hm:X.mg x=none)(hv:vX x=some (.type T))(ha:XVA X (e::es) g)(hn:x ≠ "__name__" := by decide)(hdb:(x==("__debug__" : Str))=false:=by decide)(he:vL (e::es) X.env=(false,eval e X.env)::vL es X.env:=by rfl)(hpl:(vn pos (vL es X.env)).any (·.1)=false:=by rfl):XE X (.Call (.Name x p) (e::es) [] pos) (Y4 op g):=by
 obtain⟨t,h1,h2⟩:=ha;exact⟨_,q7s hc hg hm hv h1 hn hdb he hpl,q7l hd h2⟩
theorem VwA.one{K:zB}{G H:Hp}{d:D}{vs:List V}(h:VwA K G H [d] vs):∃v,vs=[v]/\Vw K G H d v:=by
 obtain⟨v,r,h1,h2,h3⟩:=h;cases (show r=[]from h3);exact⟨v,h1,h2⟩
theorem VwA.two{K:zB}{G H:Hp}{d e:D}{vs:List V}(h:VwA K G H [d,e] vs):∃v u,vs=[v,u]/\Vw K G H d v/\Vw K G H e u:=by
 obtain⟨v,r,h1,h2,h3⟩:=h;obtain⟨u,rfl,h4⟩:=VwA.one h3;exact⟨v,u,h1,h2,h4⟩
noncomputable def WG:List D->Option R
 | [.lst ds]=>↥(.int ds.length)
 | [.tup ds]=>↥(.int ds.length)
 | [.scr ns]=>↥(.int ns.length)
 | _=>none
theorem q0F{K:zB}:Xi K (λxs H Q=>∃p ys,xs=[.ref p]/\(SqL K H p ys\/SqT K H p ys)/\Q (.int ys.length) H) WG:=by
 intro G H ds vs d Q s e hv k
 match ds,e with
 | [.lst ds],e=>
  cases e;obtain⟨v,rfl,h⟩:=hv.one;obtain⟨p,us,rfl,h1,h2⟩:=h.lst s;exact⟨p,us,rfl,.inl (SqL.of h1),k _ G H (Ext.refl s) (by show V.int _=V.int _;rw[h2.len])⟩
 | [.tup ds],e=>
  cases e;obtain⟨v,rfl,h⟩:=hv.one;obtain⟨p,us,rfl,h1,h2⟩:=h.tup;exact⟨p,us,rfl,.inr (SqT.of (s _ _ h1)),k _ G H (Ext.refl s) (by show V.int _=V.int _;rw[h2.len])⟩
 | [.scr ns],e=>
  cases e;obtain⟨v,rfl,h⟩:=hv.one;obtain⟨p,rfl,h1⟩:=h.scr;exact⟨p,_,rfl,.inl (s.seq h1),k _ G H (Ext.refl s) (by show V.int _=V.int _;rw[zA])⟩
noncomputable def bAbs:List D->Option R
 | [.int i]=>↥(.int (if i<0 then -i else i))
 | _=>none
theorem qdj{K:zB}:Xi K (λxs H Q=>∃i,xs=[.int i]/\Q (.int (if i<0 then -i else i)) H) bAbs:=by
 intro G H ds vs d Q s e hv k
 match ds,e with
 | [.int i],e=>
  cases e;obtain⟨v,rfl,h⟩:=hv.one;cases h.int;exact⟨i,rfl,k _ G H (Ext.refl s) rfl⟩
noncomputable def W9:List D->Option R
 | [.lst ds]=>some (.fr ds)
 | [.tup ds]=>some (.fr ds)
 | _=>none
theorem qbh{K:zB}:Xi K (λxs H Q=>∃p ys,xs=[.ref p]/\(SqL K H p ys\/SqT K H p ys)/\∀l,H l=none->Q (.ref l) (upd H l (.lst ys))) W9:=by
 intro G H ds vs d Q s e hv k
 match ds,e with
 | [.lst ds],e=>
  cases e;obtain⟨v,rfl,h⟩:=hv.one;obtain⟨p,us,rfl,h1,h2⟩:=h.lst s;exact⟨p,us,rfl,.inl (SqL.of h1),λl hl=>k _ G _ (Ext.hide s hl _) ⟨l,us,rfl,hl,s.free hl,qg,h2⟩⟩
 | [.tup ds],e=>
  cases e;obtain⟨v,rfl,h⟩:=hv.one;obtain⟨p,us,rfl,h1,h2⟩:=h.tup;exact⟨p,us,rfl,.inr (SqT.of (s _ _ h1)),λl hl=>k _ G _ (Ext.hide s hl _) ⟨l,us,rfl,hl,s.free hl,qg,h2⟩⟩
noncomputable def allB:List D->Option Bool
 | []=>some true
 | .bl b::r=>(allB r).map λc=>b&&c
 | _=>none
noncomputable def X1:List D->Option R
 | [.lst ds]=>(allB ds).map λb=>.sh (.bl b)
 | _=>none
noncomputable def zAv:List D->Option Int
 | []=>some 0
 | .int i::r=>(zAv r).map λc=>i+c
 | _=>none
noncomputable def zAt:List D->Option R
 | [.lst ds]=>(zAv ds).map λb=>.sh (.int b)
 | _=>none
end
def rAll:List V->Hp->VK->Prop:=λxs H Q=>∃(p:vC) (bs:List Bool),xs=[.ref p]/\H p=some (.lst (bs.map V.bl))/\Q (.bl (bs.all id)) H
def rSum:List V->Hp->VK->Prop:=λxs H Q=>∃(p:vC) (ns:List Int),xs=[.ref p]/\H p=some (.lst (ns.map V.int))/\Q (.int ns.sum) H
section
variable{X:Cx}
theorem qbC:∀{bs:List Bool}{us:List vB},Yf (bs.map V.bl) us->us=bs.map Value.bool
 | [],_,r=>by cases r;rfl
 | b::bs,_,r=>by
  rw[zR]at r;cases r with
  | cons r1 r2=>cases r1;rw[qbC r2];rfl
theorem qef{bs:List Bool}:(yI bs.length).all (λi=>bs.getD i false)=bs.all id:=by
 induction bs with
 | nil=>rfl
 | cons b r ih=>
  rw[zL,wc,xP,wd,xP];have e:((λi=>(b::r).getD i false) ∘ Nat.succ)=λi=>r.getD i false:=by funext i;rfl
  rw[e,ih];rfl
theorem q0j(hc:X.calm=true):XB X (.builtin "all") rAll:=by
 intro pins s σ H xs us Q I r h;obtain⟨p,bs,rfl,hp,q⟩:=h;obtain⟨u,rfl,rx⟩:=vals1 r;cases rx;obtain⟨its,n,rv,e,hz⟩:=I.lst hp;have ei:=qbC rv;have hlt:p<s.heap.objs.size:=zP e;refine call_all_walk (uV (items:=its.toArray) ⟨_,e,rfl,n,rfl⟩ ?_);refine⟨s.heap.objs.size,_,_,its.toArray.size,_,_,λi=>bs.getD i false,rfl,Walks.list (by first|exact I.ok.hd hc|(show X.A.handled=none;exact I.ok.hd hc)) _ p (zo hlt) its.toArray,⟨⟨_,zT _ rfl,rfl,rfl⟩,⟨_,zH _ e,rfl,n,rfl⟩⟩,λi v s' Q' E' hv hq=>?_,λh' tk hk=>?_⟩
 ·have hv':its[i]?=some v:=by simpa using hv
  rw[ei,zY]at hv';cases eb:bs[i]? with
  | none=>rw[eb]at hv';cases hv'
  | some b=>
   rw[eb]at hv';cases hv';have:bs.getD i false=b:=by rw[zq,eb];rfl
   have hq':Q' b s':=by rw[<- this];exact hq
   exact uD hq'
 ·have hl:its.toArray.size=bs.length:=by rw[zO,ei,zA]
  rw[hl,qef];exact⟨.bl _,H,I.kept (λb o z=>hk b o (λhm=>by
   have:b=s.heap.objs.size:=by simpa using hm
   subst this;exact vN (zP z) (y8 _)) (zH _ z)),rfl,q⟩
theorem qbw:∀{ds:List D}{b:Bool},allB ds=some b->∃bs:List Bool,ds=bs.map D.bl/\bs.all id=b
 | [],_,e=>by cases e;exact⟨[],rfl,rfl⟩
 | .bl c::r,b,e=>by
  obtain⟨k,q,e⟩:=mpd e;obtain⟨bs,h1,h2⟩:=qbw q;exact⟨c::bs,by rw[h1];rfl,by rw[xP,h2];exact e⟩
 | .non::_,_,e=>by cases e
 | .int _::_,_,e=>by cases e
 | .str _::_,_,e=>by cases e
 | .lst _::_,_,e=>by cases e
 | .tup _::_,_,e=>by cases e
 | .scr _::_,_,e=>by cases e
 | .exc _::_,_,e=>by cases e
 | .dic _ _::_,_,e=>by cases e
theorem qaX:∀{ds:List D}{b:Int},zAv ds=some b->∃bs:List Int,ds=bs.map D.int/\bs.sum=b
 | [],_,e=>by cases e;exact⟨[],rfl,rfl⟩
 | .int c::r,b,e=>by
  obtain⟨k,q,e⟩:=mpd e;obtain⟨bs,h1,h2⟩:=qaX q;exact⟨c::bs,by rw[h1];rfl,by rw[zj,h2];exact e⟩
 | .non::_,_,e=>by cases e
 | .bl _::_,_,e=>by cases e
 | .str _::_,_,e=>by cases e
 | .lst _::_,_,e=>by cases e
 | .tup _::_,_,e=>by cases e
 | .scr _::_,_,e=>by cases e
 | .exc _::_,_,e=>by cases e
 | .dic _ _::_,_,e=>by cases e
theorem qaK{K:zB}{H:Hp}:∀{bs:List Bool}{vs:List V},YX K H (bs.map D.bl) vs->vs=bs.map V.bl
 | [],_,h=>h
 | n::r,_,⟨v,vs,h1,h2,h3⟩=>by
  have:=qaK h3;have e:v=.bl n:=h2;rw[h1,this,e];rfl
theorem q25{K:zB}:Xi K rAll X1:=by
 intro G H ds vs d Q s e hv k
 match ds,e with
 | [.lst ds],e=>
  obtain⟨b,q,e⟩:=mpd e;subst e;obtain⟨bs,rfl,rfl⟩:=qbw q;obtain⟨v,rfl,h⟩:=hv.one;obtain⟨p,us,rfl,h1,h2⟩:=h.lst s;exact⟨p,bs,rfl,by rw[h1,qaK h2],k _ G H (Ext.refl s) rfl⟩
theorem q6f:∀(ns:List Int)(k:Nat),k<=ns.length->preSum (λi=>ns.getD i 0) k=(ns.take k).sum
 | _,0,_=>rfl
 | ns,k+1,h=>by
  have e:ns.take (k+1)=ns.take k++[ns.getD k 0]:=by
   rw[Ze,zC ∅,zq,zC ∅];rfl
  show preSum (λi=>ns.getD i 0) k+ns.getD k 0=_;rw[q6f ns k ∅,e,xB];simp
theorem q3p(hc:X.calm=true):XB X (.builtin "sum") rSum:=by
 intro pins s σ H xs us Q I r h;obtain⟨p,ns,rfl,hp,q⟩:=h;obtain⟨u,rfl,rx⟩:=vals1 r;cases rx;obtain⟨its,n,rv,e,hz⟩:=I.lst hp;have ia:=q1r rv;have hlen:its.length=ns.length:=by rw[<- rv.length,zA]
 have hlt:p<s.heap.objs.size:=zP e;refine call_sum_walkAnyS (uV (items:=its.toArray) ⟨_,e,rfl,n,rfl⟩ ?_);refine⟨s.heap.objs.size,_,_,_,its.toArray.size,_,_,λi=>ns.getD i 0,rfl,(Walks.list (by first|exact I.ok.hd hc|(show X.A.handled=none;exact I.ok.hd hc)) _ p (zo hlt) its.toArray).toS,⟨⟨_,zT _ rfl,rfl,rfl⟩,⟨_,zH _ e,rfl,n,rfl⟩⟩,λb hb=>?_,λi v hv=>PyProof.Rows.IntsAre.int_at ia i v ⇑hv,λs' t' hm=>?_⟩
 ·show b<(s.heap.push _).objs.size
  rw[yV];rcases zF.mp hb with rfl|hb
  ·exact ya _
  ·rw[zM.mp hb];exact yL hlt
 ·rw[Moved.eq_with hm]
  have es:preSum (λi=>ns.getD i 0) its.toArray.size=ns.sum:=by
   rw[zO,hlen,q6f ns _ (zN _),xr]
  rw[es];exact⟨.int _,H,I.kept (λb o z=>hm.heap b o (λhmm=>by
   have:b=s.heap.objs.size:=by simpa using hmm
   subst this;exact vN (zP z) (y8 _)) (zH _ z)),⟨_,rfl⟩,q⟩
theorem q6g{K:zB}:Xi K rSum zAt:=by
 intro G H ds vs d Q s e hv k
 match ds,e with
 | [.lst ds],e=>
  obtain⟨b,q,e⟩:=mpd e;subst e;obtain⟨bs,rfl,rfl⟩:=qaX q;obtain⟨v,rfl,h⟩:=hv.one;obtain⟨p,us,rfl,h1,h2⟩:=h.lst s;exact⟨p,bs,rfl,by rw[h1,h2.of_ints],k _ G H (Ext.refl s) rfl⟩
end
inductive Ty where
 | non|bl|int|str|lst|tup|dic
noncomputable def Ty.n:Ty->String
 | .non => "NoneType"
 | .bl => "bool"
 | .int => "int"
 | .str => "str"
 | .lst => "list"
 | .tup => "tuple"
 | .dic => "dict"
noncomputable def tyD:D->Ty
 | .non=>.non
 | .bl _=>.bl
 | .int _=>.int
 | .str _=>.str
 | .lst _=>.lst
 | .tup _=>.tup
 | .scr _=>.lst
 | .exc _=>.non
 | .dic _ _=>.non
noncomputable def WX:Ty->Ty->Bool
 | .non,.non=>true
 | .bl,.bl=>true
 | .bl,.int=>true
 | .int,.int=>true
 | .str,.str=>true
 | .lst,.lst=>true
 | .tup,.tup=>true
 | _,_=>false
noncomputable def WZ(c:Ty)(f:FD):FE:=λω=>(f ω).bind λd=>match d with
 | .scr _=>none
 | .exc _=>none
 | .dic _ _=>none
 | d=>↥(.bl (WX (tyD d) c))
def IsT(K:zB)(c:Ty):Prop:=∀t:Ty,t≠.dic->ZA K (.type t.n) (.type c.n)=some (WX t c)
def rIsi(K:zB):List V->Hp->VK->Prop:=λxs H Q=>∃x c T b,xs=[x,.ty c]/\TyOf K H x (.type T)/\ZA K (.type T) (.type c)=some b/\Q (.bl b) H
section
variable{X:Cx}{a:vP}{f:FD}
theorem qeN:XB X (.builtin "isinstance") (rIsi X.K):=by
 intro pins s σ H xs us Q I r h;obtain⟨x,c,T,b,rfl,ty,e,q⟩:=h;obtain⟨u1,u2,rfl,r2,r3⟩:=vals2 r;cases (show u2=Value.type c from r3);exact qeC I r2 ty e λtk=>⟨.bl b,H,I.tok tk,rfl,q⟩
theorem qhg{K:zB}{G H:Hp}{d:D}{v:V}(h:Vw K G H d v)(s:Yd G H)(n:∀ns,d≠.scr ns)(n':∀c,d≠.exc c)(n'':∀ks ds,d≠.dic ks ds):TyOf K H v (.type (tyD d).n):=by
 cases d with
 | non=>cases h.non;exact .non
 | bl b=>cases h.bl;exact .bl b
 | int i=>cases h.int;exact .int i
 | str x=>cases h.str;exact .str x
 | lst ds=>obtain⟨p,us,rfl,h1,_⟩:=h.lst s;exact .lst h1
 | tup ds=>obtain⟨p,us,rfl,h1,_⟩:=h.tup;exact .tup (s _ _ h1)
 | scr ns=>exact vN rfl (n ns)
 | exc c=>exact vN rfl (n' c)
 | dic ks ds=>exact vN rfl (n'' ks ds)
theorem qi1(d:D):tyD d≠.dic:=by cases d <;> exact λz=>nomatch z
theorem q0A{c:Ty}{x:Str}{p q pos:Pos}(ha:XV X a f)(hk:IsT X.K c)(hg:Gl X "isinstance")(hm:X.mg "isinstance" = none)(hgc:Gl X x)(hmc:X.mg x=none)(hvc:vX x=some (.type c.n))(hnx:x ≠ "__name__" := by decide)(hdx:(x==("__debug__" : Str))=false:=by decide)(he:vL [a,.Name x q] X.env=(false,eval a X.env)::vL [.Name x q] X.env:=by rfl)(he2:vL [.Name x q] X.env=(false,eval (.Name x q) X.env)::vL [] X.env:=by rfl)(hpl:(vn pos (vL [.Name x q] X.env)).any (·.1)=false:=by rfl):
  XE X (.Call (.Name "isinstance" p) [a,.Name x q] [] pos) (WZ c f):=by
 obtain⟨t,h1,h2⟩:=ha;refine⟨_,q2Y qeN hg hm PyProof.Rows.boot_isinstance (qS h1 (qS (qhj hgc hmc hvc (v:=.ty c.n) rfl hnx hdx) q0b he2) he) (by decide) (by decide) he hpl,λG0 H0 G ω σ H r Q o e k=>?_⟩;obtain⟨d,q,e⟩:=bnd e;refine h2 G0 H0 G ω σ H d _ o q λv G1 H1 x1 y1=>?_;have n:∀ns,d≠.scr ns:=λns z=>by subst z;cases e
 have n':∀c,d≠.exc c:=λns z=>by subst z;cases e
 have n'':∀ks ds,d≠.dic ks ds:=λks ds z=>by subst z;cases e
 have e':r=.sh (.bl (WX (tyD d) c)):=by
  cases d <;> first|(cases e;rfl)|cases e
 subst e';exact⟨v,c.n,(tyD d).n,WX (tyD d) c,rfl,qhg y1 x1.gh n n' n'',hk _ (qi1 d),k _ G1 H1 x1 rfl⟩
end
inductive Out where
 | nx|bk|ct|rt (r:O)
noncomputable abbrev FS:=WSt->Option (Out×WSt)
def Post(K:zB)(H0 G':Hp)(E:Ends):Out->St->Hp->Prop
 | .nx,σ,H=>E.nx σ H
 | .bk,σ,H=>E.bk σ H
 | .ct,σ,H=>E.ct σ H
 | .rt r,_,H=>∀v,zAW K H0 G' H r.r v->E.rt v H
def SimS(K:zB)(t:TS)(f:FS):Prop:=∀G0 H0 G ω σ H out ω'(E:Ends),Own K G0 H0 G ω σ H->f ω=some (out,ω') ->
 (∀G' σ' H',Own K G0 H0 G' ω' σ' H'->Yd G G'->Post K H0.hp G' E out σ' H')->t E σ H
def XS(X:Cx)(st:vg)(f:FS):Prop:=∃t,PS X st t/\SimS X.K t f
def XSs(X:Cx)(st:List vg)(f:FS):Prop:=∃t,PSs X st t/\SimS X.K t f
noncomputable def Xq:FS:=λω=>some (.nx,ω)
noncomputable def Ya(f g:FS):FS:=λω=>(f ω).bind λp=>match p.1 with
 | .nx=>g p.2
 | o=>some (o,p.2)
section
variable{X:Cx}{st:vg}{rest:List vg}{f g:FS}
theorem qE:XSs X [] Xq:=⟨_,qgT,λG0 H0 G ω σ H out ω' E o e k=>by cases e;exact k G σ H o (Yd.refl _)⟩
theorem qb(h:XS X st f):XSs X [st] f:=let ⟨t,h1,h2⟩:=h;⟨t,q5i h1,h2⟩
theorem q0(h:XS X st f)(h':XSs X rest g):XSs X (st::rest) (Ya f g):=by
 obtain⟨t,h1,h2⟩:=h;obtain⟨u,h3,h4⟩:=h';refine⟨_,q2L h1 h3,λG0 H0 G ω σ H out ω' E o e k=>?_⟩;obtain⟨⟨o1,ω1⟩,q,e⟩:=bnd e;refine h2 G0 H0 G ω σ H o1 ω1 _ o q λG1 σ1 H1 w1 g1=>?_;cases o1 with
 | nx=>exact h4 G0 H0 G1 ω1 σ1 H1 out ω' E w1 e λG2 σ2 H2 w2 g2=>k G2 σ2 H2 w2 (g1.trans g2)
 | bk=>cases e;exact k G1 σ1 H1 w1 g1
 | ct=>cases e;exact k G1 σ1 H1 w1 g1
 | rt r=>cases e;exact k G1 σ1 H1 w1 g1
end
section
variable{K:zB}{G0:Hp}{H0:Fr}{G:Hp}{ω:WSt}{σ:St}{H:Hp}
theorem qe{α:Type}{l:List α}{i j:Nat}{x y:α}(h:(l.set i x)[j]?=some y):(i=j/\i<l.length/\y=x)\/(i≠j/\l[j]?=some y):=by
 rw[List.getElem?_set]at h
 by_cases e:i=j
 ·rw[vH e]at h
  by_cases z:i<l.length
  ·rw[vH z]at h;exact .inl ⟨e,z,(z5 h).symm⟩
  ·rw[vJ z]at h;cases h
 ·rw[vJ e]at h;exact .inr ⟨e,h⟩
theorem q1L{α:Type}{l:List α}{i:Nat}{x:α}(h:i<l.length):(l.set i x)[i]?=some x:=y0 h
theorem Y6.set{i:Nat}{w:Option W}{v:Option V}(o:Y6 K H0 G ω σ H)(hw:∀ds,w≠some (.pw ds))(hv:∀ds,w=some (.ow ds)->∀(j:Nat)es,ω[j]?=some (some (.pw es))->v≠some (.ref (H0.pin j))):Y6 K H0 G (ω.set i w) (σ.set i v) H:=by
 intro j ds hj;rcases qe hj with⟨rfl,hl,z⟩|⟨ne,z⟩
 ·exact vN z.symm (hw ds)
 ·obtain⟨vs,h1,h2,h3,h4,h5,h6,h7⟩:=o j ds z
  refine⟨vs,by rw[zU ne];exact h1,h2,h3,h4,h5,λk es hk=>?_,λk es hk sk=>?_⟩
  ·rcases qe hk with⟨rfl,hl',z'⟩|⟨ne',z'⟩
   ·exact vN z'.symm (hw es)
   ·exact h6 k es z'
  ·rcases qe hk with⟨rfl,hl',z'⟩|⟨ne',z'⟩
   ·rcases qe sk with⟨_,_,e⟩|⟨ne2,_⟩
    ·exact hv es z'.symm j ds z e.symm
    ·exact ne2 rfl
   ·rw[zU ne']at sk;exact h7 k es z' sk
theorem Y6.setW{i:Nat}{w:Option W}(o:Y6 K H0 G ω σ H)(hw:∀ds,w≠some (.pw ds))(ho:∀ds,w≠some (.ow ds)):Y6 K H0 G (ω.set i w) σ H:=by
 intro j ds hj;rcases qe hj with⟨rfl,hl,z⟩|⟨ne,z⟩
 ·exact vN z.symm (hw ds)
 ·obtain⟨vs,h1,h2,h3,h4,h5,h6,h7⟩:=o j ds z
  refine⟨vs,h1,h2,h3,h4,h5,λk es hk=>?_,λk es hk=>?_⟩
  ·rcases qe hk with⟨rfl,hl',z'⟩|⟨ne',z'⟩
   ·exact vN z'.symm (hw es)
   ·exact h6 k es z'
  ·rcases qe hk with⟨rfl,hl',z'⟩|⟨ne',z'⟩
   ·exact vN z'.symm (ho es)
   ·exact h7 k es z'
theorem Y6.upd{p:vC}{ob:HO}(o:Y6 K H0 G ω σ H)(hp:∀(j:Nat)es,ω[j]?=some (some (.pw es))->H0.pin j≠p):Y6 K H0 G ω σ (upd H p ob):=by
 intro j ds hj;obtain⟨vs,h1,h2,h3⟩:=o j ds hj;exact⟨vs,h1,by rw[qc (hp j ds hj)];exact h2,h3⟩
theorem Y6.grow{p:vC}{ob:HO}(o:Y6 K H0 G ω σ H)(g:G p=none)(hp:∀(j:Nat)es,ω[j]?=some (some (.pw es))->H0.pin j≠p):Y6 K H0 (L2.upd G p ob) ω σ H:=by
 intro j ds hj;obtain⟨vs,h1,h2,h3,h4,h5,h6⟩:=o j ds hj;exact⟨vs,h1,h2,by rw[qc (hp j ds hj)];exact h3,h4,h5.mono (Y2 g _),h6⟩
theorem Y6.ne_ow{i:Nat}{ds:List D}{l:vC}(o:Y6 K H0 G ω σ H)(hi:ω[i]?=some (some (.ow ds)))(hσ:σ[i]?=some (some (.ref l))):∀(j:Nat)es,ω[j]?=some (some (.pw es))->H0.pin j≠l:=λj es hj y=>by
 obtain⟨_,_,_,_,_,_,_,h7⟩:=o j es hj;exact h7 i ds hi (by rw[y];exact hσ)
theorem Y6.ne_ob{l:vC}(o:Y6 K H0 G ω σ H)(h:∀vs,H l≠some (.lst vs)):∀(j:Nat)es,ω[j]?=some (some (.pw es))->H0.pin j≠l:=λj es hj y=>by
 obtain⟨vs,_,h2,_⟩:=o j es hj;exact h vs (by rw[<- y];exact h2)
theorem Y6.setL{i:Nat}{ds es:List D}(o:Y6 K H0 G ω σ H)(hi:ω[i]?=some (some (.ow ds))):Y6 K H0 G (ω.set i (some (.ow es))) σ H:=by
 intro j ds' hj;rcases qe hj with⟨rfl,hl,z⟩|⟨ne,z⟩
 ·cases z
 ·obtain⟨vs,h1,h2,h3,h4,h5,h6,h7⟩:=o j ds' z
  refine⟨vs,h1,h2,h3,h4,h5,λk es hk=>?_,λk es hk=>?_⟩
  ·rcases qe hk with⟨rfl,hl',z'⟩|⟨ne',z'⟩
   ·cases z'
   ·exact h6 k es z'
  ·rcases qe hk with⟨rfl,hl',z'⟩|⟨ne',z'⟩
   ·exact h7 i ds hi
   ·exact h7 k es z'
theorem Own.od_set{i:Nat}{w:Option W}{v:Option V}(o:Own K G0 H0 G ω σ H)(h:∀ks ds,w≠some (.od ks ds)):∀(j:Nat)ks ds,(ω.set i w)[j]?=some (some (.od ks ds))->∃p vs,(σ.set i v)[j]?=some (some (.ref p))/\H p=some (.dK (kvsOf ks vs))/\G p=none/\H0 p=none/\ks.length=ds.length/\YX K G ds vs /\
  ∀(k:Nat)ks' es,(ω.set i w)[k]?=some (some (.od ks' es))->(σ.set i v)[k]?=some (some (.ref p))->j=k:=by
 intro j ks ds hj;rcases qe hj with⟨rfl,hl,z⟩|⟨ne,z⟩
 ·exact vN z.symm (h ks ds)
 ·obtain⟨p,vs,h1,h2,h3,h4,h5,h6,h7⟩:=o.od j ks ds z
  refine⟨p,vs,by rw[zU ne];exact h1,h2,h3,h4,h5,h6,λk ks' es hk sk=>?_⟩;rcases qe hk with⟨rfl,hl',z'⟩|⟨ne',z'⟩
  ·exact vN z'.symm (h ks' es)
  ·rw[zU ne']at sk
   exact h7 k ks' es z' sk
theorem Own.setSh{i:Nat}{d:D}{v:V}(o:Own K G0 H0 G ω σ H)(h:Rep K G d v):Own K G0 H0 G (ω.set i ↥d) (σ.set i (some v)) H:=by
 refine⟨o.ext,by rw[yS,yS,o.len],λj e hj=>?_,λj ds hj=>?_,λj k ds es l hj hk sj sk=>?_,o.od_set (λ_ _ z=>by cases z),o.pw.set (λ_ z=>by cases z) (λ_ z=>by cases z)⟩
 ·rcases qe hj with⟨rfl,hl,z⟩|⟨ne,z⟩
  ·cases z;exact⟨v,q1L (by rw[<- o.len];exact hl),h⟩
  ·obtain⟨u,h1,h2⟩:=o.sh j e z
   exact⟨u,by rw[zU ne];exact h1,h2⟩
 ·rcases qe hj with⟨rfl,hl,z⟩|⟨ne,z⟩
  ·cases z
  ·obtain⟨l,vs,h1,h2⟩:=o.ow j ds z
   exact⟨l,vs,by rw[zU ne];exact h1,h2⟩
 ·rcases qe hj with⟨rfl,hl,z⟩|⟨ne,z⟩
  ·cases z
  ·rcases qe hk with⟨rfl,hl',z'⟩|⟨ne',z'⟩
   ·cases z'
   ·rw[zU ne]at sj
    rw[zU ne']at sk;exact o.nd j k ds es l z z' sj sk
theorem Own.setOw{i:Nat}{ds:List D}{l:vC}{vs:List V}(o:Own K G0 H0 G ω σ H)(h1:H l=some (.lst vs))(h2:G l=none)(h3:H0 l=none)(h4:YX K G ds vs)(h5:∀(j:Nat)es,ω[j]?=some (some (.ow es))->σ[j]?≠some (some (.ref l)))(h6:∀(j:Nat)es,ω[j]?=some (some (.pw es))->H0.pin j≠l):Own K G0 H0 G (ω.set i (some (.ow ds))) (σ.set i (some (.ref l))) H:=by
 refine⟨o.ext,by rw[yS,yS,o.len],λj e hj=>?_,λj es hj=>?_,λj k es fs m hj hk sj sk=>?_,o.od_set (λ_ _ z=>by cases z),o.pw.set (λ_ z=>by cases z) (λ_ _ j es hj y=>h6 j es hj (by cases y;rfl))⟩
 ·rcases qe hj with⟨rfl,hl,z⟩|⟨ne,z⟩
  ·cases z
  ·obtain⟨u,q1,q2⟩:=o.sh j e z
   exact⟨u,by rw[zU ne];exact q1,q2⟩
 ·rcases qe hj with⟨rfl,hl,z⟩|⟨ne,z⟩
  ·cases z;exact⟨l,vs,q1L (by rw[<- o.len];exact hl),h1,h2,h3,h4⟩
  ·obtain⟨m,us,q1,q2⟩:=o.ow j es z
   exact⟨m,us,by rw[zU ne];exact q1,q2⟩
 ·rcases qe hj with⟨e1,hl,z⟩|⟨ne,z⟩
  ·rcases qe hk with⟨e2,hl',z'⟩|⟨ne',z'⟩
   ·exact e1.symm.trans e2
   ·rw[zU ne']at sk
    subst e1;rw[q1L (by rw[<- o.len];exact hl)]at sj;cases sj;exact vN sk (h5 k fs z')
  ·rcases qe hk with⟨e2,hl',z'⟩|⟨ne',z'⟩
   ·rw[zU ne]at sj
    subst e2;rw[q1L (by rw[<- o.len];exact hl')]at sk;cases sk;exact vN sj (h5 j es z)
   ·rw[zU ne]at sj
    rw[zU ne']at sk;exact o.nd j k es fs m z z' sj sk
theorem Own.mut{i:Nat}{ds es:List D}{l:vC}{vs us:List V}(o:Own K G0 H0 G ω σ H)(hi:ω[i]?=some (some (.ow ds)))(hσ:σ[i]?=some (some (.ref l)))(h1:H l=some (.lst vs))(h2:G l=none)(h3:H0 l=none)(h4:YX K G es us):
  Own K G0 H0 G (ω.set i (some (.ow es))) σ (upd H l (.lst us)):=by
 have ho:i<ω.length:=(zy.mp hi).1;refine⟨⟨o.ext.gg,Yb o.ext.gh h2 _,Yb o.ext.hh h3 _,o.ext.new⟩,by rw[yS,o.len],λj e hj=>?_,λj fs hj=>?_,λj k fs gs m hj hk sj sk=>?_,λj ks fs hj=>?_,(o.pw.upd (o.pw.ne_ow hi hσ)).setL hi⟩
 ·rcases qe hj with⟨rfl,hl,z⟩|⟨ne,z⟩
  ·cases z
  ·exact o.sh j e z
 ·rcases qe hj with⟨rfl,hl,z⟩|⟨ne,z⟩
  ·cases z;exact⟨l,us,hσ,qg,h2,h3,h4⟩
  ·obtain⟨m,ws,q1,q2,q3,q4,q5⟩:=o.ow j fs z
   have hm:m≠l:=λy=>ne (o.nd i j ds fs l hi z hσ (by rw[<- y];exact q1));exact⟨m,ws,q1,by rw[qc hm];exact q2,q3,q4,q5⟩
 ·rcases qe hj with⟨e1,hl,z⟩|⟨ne,z⟩
  ·rcases qe hk with⟨e2,hl',z'⟩|⟨ne',z'⟩
   ·exact e1.symm.trans e2
   ·subst e1;exact o.nd i k ds gs m hi z' sj sk
  ·rcases qe hk with⟨e2,hl',z'⟩|⟨ne',z'⟩
   ·subst e2;exact o.nd j i fs ds m z hi sj sk
   ·exact o.nd j k fs gs m z z' sj sk
 ·rcases qe hj with⟨e1,hl,z⟩|⟨ne,z⟩
  ·cases z
  ·obtain⟨p,ws,q1,q2,q3,q4,q5,q6,q7⟩:=o.od j ks fs z
   have hp:p≠l:=λy=>by rw[y,h1]at q2;cases q2
   refine⟨p,ws,q1,by rw[qc hp];exact q2,q3,q4,q5,q6,λk ks' es hk sk=>?_⟩;rcases qe hk with⟨e2,hl',z'⟩|⟨ne',z'⟩
   ·cases z'
   ·exact q7 k ks' es z' sk
theorem Own.setOd{i:Nat}{ks:List Int}{ds:List D}{p:vC}{vs:List V}(o:Own K G0 H0 G ω σ H)(h1:H p=some (.dK (kvsOf ks vs)))(h2:G p=none)(h3:H0 p=none)(h4:ks.length=ds.length)(h5:YX K G ds vs)(h6:∀(j:Nat)ks' es,ω[j]?=some (some (.od ks' es))->σ[j]?≠some (some (.ref p))):Own K G0 H0 G (ω.set i (some (.od ks ds))) (σ.set i (some (.ref p))) H:=by
 refine⟨o.ext,by rw[yS,yS,o.len],λj e hj=>?_,λj es hj=>?_,λj k es fs m hj hk sj sk=>?_,λj ks' es hj=>?_,o.pw.set (λ_ z=>by cases z) (λ_ z=>by cases z)⟩
 ·rcases qe hj with⟨rfl,hl,z⟩|⟨ne,z⟩
  ·cases z
  ·obtain⟨u,q1,q2⟩:=o.sh j e z
   exact⟨u,by rw[zU ne];exact q1,q2⟩
 ·rcases qe hj with⟨rfl,hl,z⟩|⟨ne,z⟩
  ·cases z
  ·obtain⟨m,us,q1,q2⟩:=o.ow j es z
   exact⟨m,us,by rw[zU ne];exact q1,q2⟩
 ·rcases qe hj with⟨e1,hl,z⟩|⟨ne,z⟩
  ·cases z
  ·rcases qe hk with⟨e2,hl',z'⟩|⟨ne',z'⟩
   ·cases z'
   ·rw[zU ne]at sj
    rw[zU ne']at sk;exact o.nd j k es fs m z z' sj sk
 ·rcases qe hj with⟨rfl,hl,z⟩|⟨ne,z⟩
  ·cases z
   refine⟨p,vs,q1L (by rw[<- o.len];exact hl),h1,h2,h3,h4,h5,λk ks'' fs hk sk=>?_⟩;rcases qe hk with⟨e2,hl',z'⟩|⟨ne',z'⟩
   ·exact e2
   ·rw[zU ne']at sk
    exact vN sk (h6 k ks'' fs z')
  ·obtain⟨p',vs',q1,q2,q3,q4,q5,q6,q7⟩:=o.od j ks' es z
   refine⟨p',vs',by rw[zU ne];exact q1,q2,q3,q4,q5,q6,λk ks'' fs hk sk=>?_⟩;rcases qe hk with⟨e2,hl',z'⟩|⟨ne',z'⟩
   ·subst e2
    rw[q1L (by rw[<- o.len];exact hl')]at sk;cases sk;exact vN q1 (h6 j ks' es z)
   ·rw[zU ne']at sk
    exact q7 k ks'' fs z' sk
theorem Own.mutD{i:Nat}{ks ks2:List Int}{ds es:List D}{p:vC}{vs us:List V}(o:Own K G0 H0 G ω σ H)(hi:ω[i]?=some (some (.od ks ds)))(hσ:σ[i]?=some (some (.ref p)))(h1:H p=some (.dK (kvsOf ks vs)))(h2:G p=none)(h3:H0 p=none)(h4:ks2.length=es.length)(h5:YX K G es us):
  Own K G0 H0 G (ω.set i (some (.od ks2 es))) σ (upd H p (.dK (kvsOf ks2 us))):=by
 have ho:i<ω.length:=(zy.mp hi).1;refine⟨⟨o.ext.gg,Yb o.ext.gh h2 _,Yb o.ext.hh h3 _,o.ext.new⟩,by rw[yS,o.len],λj e hj=>?_,λj fs hj=>?_,λj k fs gs m hj hk sj sk=>?_,λj ks' fs hj=>?_,(o.pw.upd (o.pw.ne_ob λvs z=>by rw[h1]at z;cases z)).setW (λ_ z=>by cases z) (λ_ z=>by cases z)⟩
 ·rcases qe hj with⟨rfl,hl,z⟩|⟨ne,z⟩
  ·cases z
  ·exact o.sh j e z
 ·rcases qe hj with⟨rfl,hl,z⟩|⟨ne,z⟩
  ·cases z
  ·obtain⟨m,ws,q1,q2,q3,q4,q5⟩:=o.ow j fs z
   have hm:m≠p:=λy=>by rw[y,h1]at q2;cases q2
   exact⟨m,ws,q1,by rw[qc hm];exact q2,q3,q4,q5⟩
 ·rcases qe hj with⟨e1,hl,z⟩|⟨ne,z⟩
  ·cases z
  ·rcases qe hk with⟨e2,hl',z'⟩|⟨ne',z'⟩
   ·cases z'
   ·exact o.nd j k fs gs m z z' sj sk
 ·obtain⟨p0,vs0,r1,r2,r3,r4,r5,r6,r7⟩:=o.od i ks ds hi
  rw[hσ]at r1;cases r1;rcases qe hj with⟨rfl,hl,z⟩|⟨ne,z⟩
  ·cases z
   refine⟨p,us,hσ,qg,h2,h3,h4,h5,λk ks'' gs hk sk=>?_⟩;rcases qe hk with⟨e2,hl',z'⟩|⟨ne',z'⟩
   ·exact e2
   ·exact r7 k ks'' gs z' sk
  ·obtain⟨q,ws,q1,q2,q3,q4,q5,q6,q7⟩:=o.od j ks' fs z
   have hp:q≠p:=λy=>ne (r7 j ks' fs z (by rw[<- y];exact q1));refine⟨q,ws,q1,by rw[qc hp];exact q2,q3,q4,q5,q6,λk ks'' gs hk sk=>?_⟩;rcases qe hk with⟨e2,hl',z'⟩|⟨ne',z'⟩
   ·subst e2
    rw[hσ]at sk;cases sk;exact vN rfl hp
   ·exact q7 k ks'' gs z' sk
noncomputable def share(i:Nat)(ω:WSt):WSt:=match ω[i]? with
 | some (some (.ow ds))=>ω.set i ↥(.lst ds)
 | some (some (.od ks ds))=>ω.set i ↥(.dic ks ds)
 | _=>ω
theorem Own.share(i:Nat)(o:Own K G0 H0 G ω σ H):(∃G',Yd G G'/\Own K G0 H0 G' (share i ω) σ H)\/∃p kvs,σ[i]?=some (some (.ref p))/\H p=some (.dK kvs)/\∀ob,∃G',Yd G G'/\Own K G0 H0 G' (share i ω) σ (upd H p (.frz ob (.dK kvs))):=by
 unfold Hk.share;cases q:ω[i]? with
 | none=>exact .inl ⟨G,Yd.refl _,o⟩
 | some w=>
  cases w with
  | none=>exact .inl ⟨G,Yd.refl _,o⟩
  | some w=>
   cases w with
   | sh d=>exact .inl ⟨G,Yd.refl _,o⟩
   | pw ds=>exact .inl ⟨G,Yd.refl _,o⟩
   | ow ds=>
    obtain⟨l,vs,q1,q2,q3,q4,q5⟩:=o.ow i ds q;have s1:Yd G (upd G l (.lst vs)):=Y2 q3 _;have ho:i<ω.length:=(zy.mp q).1;refine .inl ⟨upd G l (.lst vs),s1,⟨o.ext.gg.trans s1,λb u z=>?_,o.ext.hh,λb z1 z2=>?_⟩,by rw[yS,o.len],λj e hj=>?_,λj fs hj=>?_,λj k fs gs m hj hk sj sk=>?_,λj ks fs hj=>?_,(o.pw.grow q3 (o.pw.ne_ow q q1)).setW (λ_ z=>by cases z) (λ_ z=>by cases z)⟩
    ·by_cases hb:b=l
     ·subst hb;rw[qg]at z;rw[q2];exact z
     ·rw[qc hb]at z;exact o.ext.gh b u z
    ·rw[qc (λhb=>z2 (by rw[hb];exact q4))];exact o.ext.new b z1 z2
    ·rcases qe hj with⟨rfl,hl,z⟩|⟨ne,z⟩
     ·cases z;exact⟨_,q1,l,vs,rfl,qg,q5.mono s1⟩
     ·obtain⟨u,r1,r2⟩:=o.sh j e z
      exact⟨u,r1,r2.mono s1⟩
    ·rcases qe hj with⟨rfl,hl,z⟩|⟨ne,z⟩
     ·cases z
     ·obtain⟨m,ws,r1,r2,r3,r4,r5⟩:=o.ow j fs z
      have hm:m≠l:=λy=>ne (o.nd i j ds fs l q z q1 (by rw[<- y];exact r1));exact⟨m,ws,r1,r2,by rw[qc hm];exact r3,r4,r5.mono s1⟩
    ·rcases qe hj with⟨e1,hl,z⟩|⟨ne,z⟩
     ·cases z
     ·rcases qe hk with⟨e2,hl',z'⟩|⟨ne',z'⟩
      ·cases z'
      ·exact o.nd j k fs gs m z z' sj sk
    ·rcases qe hj with⟨e1,hl,z⟩|⟨ne,z⟩
     ·cases z
     ·obtain⟨m,ws,r1,r2,r3,r4,r5,r6,r7⟩:=o.od j ks fs z
      have hm:m≠l:=λy=>by rw[y,q2]at r2;cases r2
      refine⟨m,ws,r1,r2,by rw[qc hm];exact r3,r4,r5,r6.mono s1,λk ks' es hk sk=>?_⟩;rcases qe hk with⟨e2,hl',z'⟩|⟨ne',z'⟩
      ·cases z'
      ·exact r7 k ks' es z' sk
   | od ks0 ds=>
    obtain⟨l,vs,q1,q2,q3,q4,q6,q5,q7⟩:=o.od i ks0 ds q;refine .inr ⟨l,_,q1,q2,λob=>?_⟩;have s1:Yd G (upd G l (.frz ob (.dK (kvsOf ks0 vs)))):=Y2 q3 _;have ho:i<ω.length:=(zy.mp q).1;refine⟨upd G l (.frz ob (.dK (kvsOf ks0 vs))),s1,⟨o.ext.gg.trans s1,X6 o.ext.gh _,Yb o.ext.hh q4 _,λb z1 z2=>?_⟩,by rw[yS,o.len],λj e hj=>?_,λj fs hj=>?_,λj k fs gs m hj hk sj sk=>?_,λj ks fs hj=>?_,((o.pw.upd (o.pw.ne_ob λvs z=>by rw[q2]at z;cases z)).grow q3 (o.pw.ne_ob λvs z=>by rw[q2]at z;cases z)).setW (λ_ z=>by cases z) (λ_ z=>by cases z)⟩
    ·rw[qc (λhb=>z2 (by rw[hb];exact q4))];exact o.ext.new b z1 z2
    ·rcases qe hj with⟨rfl,hl,z⟩|⟨ne,z⟩
     ·cases z;exact⟨_,q1,l,vs,rfl,⟨ob,qg⟩,q6,q5.mono s1⟩
     ·obtain⟨u,r1,r2⟩:=o.sh j e z
      exact⟨u,r1,r2.mono s1⟩
    ·rcases qe hj with⟨rfl,hl,z⟩|⟨ne,z⟩
     ·cases z
     ·obtain⟨m,ws,r1,r2,r3,r4,r5⟩:=o.ow j fs z
      have hm:m≠l:=λy=>by rw[y,q2]at r2;cases r2
      exact⟨m,ws,r1,by rw[qc hm];exact r2,by rw[qc hm];exact r3,r4,r5.mono s1⟩
    ·rcases qe hj with⟨e1,hl,z⟩|⟨ne,z⟩
     ·cases z
     ·rcases qe hk with⟨e2,hl',z'⟩|⟨ne',z'⟩
      ·cases z'
      ·exact o.nd j k fs gs m z z' sj sk
    ·rcases qe hj with⟨e1,hl,z⟩|⟨ne,z⟩
     ·cases z
     ·obtain⟨m,ws,r1,r2,r3,r4,r5,r6,r7⟩:=o.od j ks fs z
      have hm:m≠l:=λy=>ne (q7 j ks fs z (by rw[<- y];exact r1));refine⟨m,ws,r1,by rw[qc hm];exact r2,by rw[qc hm];exact r3,r4,r5,r6.mono s1,λk ks' es hk sk=>?_⟩;rcases qe hk with⟨e2,hl',z'⟩|⟨ne',z'⟩
      ·cases z'
      ·exact r7 k ks' es z' sk
end
theorem Inv.freeze{X:Cx}{pins:List (vC×Obj)}{σ:St}{H:Hp}{s:vF}{p:vC}{kvs:List (Key×V)}(I:Inv X pins σ H s)(hp:H p=some (.dK kvs)):∃ob,Inv X pins σ (upd H p (.frz ob (.dK kvs))) s:=by
 have ok:=I.hok p _ hp;obtain⟨_,_,_,_,ob,_,_,e,_⟩:=id ok;have stay:∀b u,Yi X.prog X.w H s.heap b u->Yi X.prog X.w (upd H p (.frz ob (.dK kvs))) s.heap b u:=λb u x=>
  x.stay (λ_ _ _ q=>q) (λc q=>by rw[qc (λz=>by rw[z,hp]at q;cases q)];exact q) λc xs q=>by rw[qc (λz=>by rw[z,hp]at q;cases q)];exact q
 refine⟨ob,I.step (H':=upd H p (.frz ob (.dK kvs))) (h':=s.heap) (g':=s.gens) (d':=s.drawn) (t':=s.toks) (ch:=[]) (λ_ z=>nomatch z) (λ_ _ _ _ _ e _=>e) (λ_ o _ _ _ e _=>⟨o.slots,e⟩) (λb o _ _ n=>by rw[qc (λz=>by rw[z,hp]at n;cases n)];exact n) (λ_ o _ e=>⟨o,e⟩)
  (λb xs q=>by rw[qc (λz=>by rw[z,hp]at q;cases q)];exact q) (λb o u q=>by rw[qc (λz=>by rw[z,hp]at q;cases q)];exact q) (λb ps q=>⟨#[],by rw[qc (λz=>by rw[z,hp]at q;cases q),q];simp⟩) (λ_ hm=>hm) (λb u q=>?_) I.bare⟩
 by_cases z:b=p
 ·subst z
  rw[qg]at q;cases q;exact⟨e,stay _ _ ok⟩
 ·rw[qc z]at q
  exact stay b u (I.hok b u q)
theorem q6P{X:Cx}{sts:List vg}{t:TS}(i:Nat)(h:PSs X sts t):PSs X sts (λD σ H=>∃p kvs,σ[i]?=some (some (.ref p))/\H p=some (.dK kvs)/\∀ob,t D σ (upd H p (.frz ob (.dK kvs)))):=by
 intro pins s σ H D I q;obtain⟨p,kvs,_,hp,q⟩:=q;obtain⟨ob,I'⟩:=Inv.freeze I hp;exact h pins s σ _ D I' (q ob)
noncomputable def Yp(i:Nat)(f:FS):FS:=λω=>f (share i ω)
theorem qy{X:Cx}{sts:List vg}{f:FS}(i:Nat)(h:XSs X sts f):XSs X sts (Yp i f):=by
 obtain⟨t,h1,h2⟩:=h;refine⟨λD σ H=>t D σ H\/∃p kvs,σ[i]?=some (some (.ref p))/\H p=some (.dK kvs)/\∀ob,t D σ (upd H p (.frz ob (.dK kvs))),λpins s σ H D I q=>?_,λG0 H0 G ω σ H out ω' E o e k=>?_⟩
 ·rcases q with q|q
  ·exact h1 pins s σ H D I q
  ·exact q6P i h1 pins s σ H D I q
 ·rcases o.share i with⟨G1,g1,o1⟩|⟨p,kvs,z1,z2,z3⟩
  ·exact .inl (h2 G0 H0 G1 _ σ H out ω' E o1 e λG2 σ2 H2 w2 g2=>k G2 σ2 H2 w2 (g1.trans g2))
  ·refine .inr ⟨p,kvs,z1,z2,λob=>?_⟩
   obtain⟨G1,g1,o1⟩:=z3 ob;exact h2 G0 H0 G1 _ σ _ out ω' E o1 e λG2 σ2 H2 w2 g2=>k G2 σ2 H2 w2 (g1.trans g2)
noncomputable def setR(i:Nat)(r:R)(ω:WSt):Option WSt:=match r with
 | .sh d=>some (ω.set i ↥d)
 | .fr ds=>some (ω.set i (some (.ow ds)))
 | .vw _=>none
noncomputable def Yo(i:Nat)(f:FE):FS:=λω=>(f ω).bind λr=>(setR i r ω).map λw=>(.nx,w)
section
variable{X:Cx}{e:vP}{f:FE}{pos pos':Pos}
theorem qaW{i:Nat}{t:TE}(h:zAw X.K t f):SimS X.K (tAsg t (W7 i)) (Yo i f):=by
 intro G0 H0 G ω σ H out ω' E o e k;obtain⟨r,q,e⟩:=bnd e;obtain⟨w,q2,e⟩:=mpd e;cases e;refine h G0 H0 G ω σ H r _ o q λv G1 H1 x1 y1=>?_;have o1:=o.keep x1;show E.nx (σ.set i (some v)) H1;cases r with
 | sh d=>cases q2;exact k G1 _ H1 (o1.setSh y1) x1.gg
 | fr ds=>
  cases q2;obtain⟨l,vs,rfl,e2,e3,e4,e5⟩:=y1;refine k G1 _ H1 (o1.setOw e4 e3 (o.ext.hh.free e2) e5 (λj es hj z=>?_) λj es hj y=>?_) x1.gg
  ·obtain⟨m,us,q1,q2,_⟩:=o.ow j es hj
   rw[q1]at z;cases z;rw[e2]at q2;cases q2
  ·obtain⟨us,_,q2,_⟩:=o.pw j es hj
   rw[y,e2]at q2;cases q2
 | vw ds=>cases q2
theorem qm{i:Nat}{x:Str}(hN:X.N.Nodup)(hi:X.N[i]?=some x)(hx:Loc X.env.scope x)(he:XE X e f)(hs:vv e (some (.Name x pos')) pos.line X.env=pure false:=by rfl)(hf:X.fn x=true\/X.env.scope.names.lookup x=some .local:=by first|exact .inl rfl|exact .inr rfl|assumption):
  XS X (.Assign [.Name x pos'] e pos) (Yo i f):=let ⟨_,h1,h2⟩:=he;⟨_,q55 hN hi hx h1 hs hf,qaW h2⟩
noncomputable abbrev FG:=D->WSt->Option WSt
def SimG(K:zB)(g:TG)(fg:FG):Prop:=∀G0 H0 G ω σ H d v ω'(Q:St->Hp->Prop),Own K G0 H0 G ω σ H->fg d ω=some ω'->Rep K G d v->(∀σ',Own K G0 H0 G ω' σ' H->Q σ' H)->g v σ H Q
def XG(X:Cx)(tg:vP)(fg:FG):Prop:=∃g,PG X tg g/\SimG X.K g fg
noncomputable def gN(i:Nat):FG:=λd ω=>some (ω.set i ↥d)
theorem qd{i:Nat}{x:Str}(hN:X.N.Nodup)(hi:X.N[i]?=some x)(hx:Loc X.env.scope x)(hf:X.fn x=true\/X.env.scope.names.lookup x=some .local:=by first|exact .inl rfl|exact .inr rfl|assumption):XG X (.Name x pos) (gN i) :=
 ⟨_,q6Z hN hi hx hf,λG0 H0 G ω σ H d v ω' Q o e h k=>by cases e;exact k _ (o.setSh h)⟩
def SimGs(K:zB)(g:TGs)(fg:List D->WSt->Option WSt):Prop:=∀G0 H0 G ω σ H ds vs ω'(Q:St->Hp->Prop),Own K G0 H0 G ω σ H->fg ds ω=some ω'->YX K G ds vs->(∀σ',Own K G0 H0 G ω' σ' H->Q σ' H)->g vs σ H Q
def XGs(X:Cx)(tg:List vP)(fg:List D->WSt->Option WSt):Prop:=∃g,PGs X tg g/\SimGs X.K g fg
noncomputable def Ys:List D->WSt->Option WSt
 | [],ω=>some ω
 | _,_=>none
noncomputable def YT(f:FG)(g:List D->WSt->Option WSt):List D->WSt->Option WSt
 | d::ds,ω=>(f d ω).bind λw=>g ds w
 | [],_=>none
theorem q0r:XGs X [] Ys:=⟨_,qgK,λG0 H0 G ω σ H ds vs ω' Q o e h k=>by
 cases ds with
 | nil=>cases e;cases (show vs=[]from h);exact⟨rfl,k σ o⟩
 | cons d r=>cases e⟩
theorem qr{es:List vP}{fg:FG}{gs:List D->WSt->Option WSt}(h:XG X e fg)(h':XGs X es gs)(hs:(uE (e::es) X.env).map (·.2)=assign e X.env::(uE es X.env).map (·.2):=by rfl):XGs X (e::es) (YT fg gs):=by
 obtain⟨g,h1,h2⟩:=h;obtain⟨u,h3,h4⟩:=h';refine⟨_,qeU h1 h3 hs,λG0 H0 G ω σ H ds vs ω' Q o e h k=>?_⟩;cases ds with
 | nil=>cases e
 | cons d r=>
  obtain⟨w1,q,e1⟩:=bnd e;obtain⟨v,vr,rfl,r1,r2⟩:=h;exact⟨v,vr,rfl,h2 G0 H0 G ω σ H d v w1 _ o q r1 λσ1 o1=>h4 G0 H0 G w1 σ1 H r vr ω' Q o1 e1 r2 k⟩
noncomputable def gT(n:Nat)(g:List D->WSt->Option WSt):FG:=λd ω=>match d with
 | .tup ds=>if ds.length=n then g ds ω else none
 | _=>none
theorem q0S{es:List vP}{k n:Nat}{gs:List D->WSt->Option WSt}(hc:X.calm=true)(h:XGs X es gs)(hn:(uE es X.env).length=n:=by rfl)(hst:(uE es X.env).findIdx? (·.1)=none:=by rfl):XG X (.Tuple es k pos) (gT n gs):=by
 obtain⟨g,h1,h2⟩:=h;refine⟨_,qiJ hc h1 hn hst,λG0 H0 G ω σ H d v ω' Q o e h k=>?_⟩;unfold gT at e;cases d with
 | tup ds=>
  dsimp only at e
  obtain⟨a,vs,rfl,r1,r2⟩:=h
  by_cases z:ds.length=n
  ·rw[vH z]at e
   exact⟨a,vs,rfl,SqT.of (o.gh _ _ r1),by rw[<- r2.len];exact z,h2 G0 H0 G ω σ H ds vs ω' Q o e r2 k⟩
  ·rw[vJ z]at e;cases e
 | _=>cases e
end
noncomputable def sIf(c:FT)(f g:FS):FS:=λω=>(c ω).bind λb=>if b=true then f ω else g ω
noncomputable def Ym(f:FE):FS:=λω=>(f ω).bind λr=>match r with
 | .sh d=>some (.rt (.sh d),ω)
 | .fr ds=>some (.rt (.fr ds),ω)
 | .vw _=>none
noncomputable def WD(i:Nat):FS:=λω=>match ω[i]? with
 | some ↥d=>some (.rt (.sh d),ω)
 | some (some (.ow ds))=>some (.rt (.fr ds),ω)
 | _=>none
noncomputable def sNo:FS:=λ_=>none
noncomputable def W1(f:FE):FS:=λω=>(f ω).map λ_=>(.nx,ω)
section
variable{X:Cx}{c e:vP}{a b:List vg}{st:vg}{pos:Pos}{fc:FT}{f g:FS}{fe:FE}
theorem qZ(hc:XT X c fc)(ha:XSs X a f)(hb:XSs X b g):XS X (.If c a b pos) (sIf fc f g):=by
 obtain⟨t,h1,h2⟩:=hc;obtain⟨u,h3,h4⟩:=ha;obtain⟨w,h5,h6⟩:=hb;refine⟨_,qj3 h1 h3 h5,λG0 H0 G ω σ H out ω' E o e k=>?_⟩;obtain⟨z,q,e⟩:=bnd e;refine h2 G0 H0 G ω σ H z _ o q λG1 H1 x1=>?_;cases z with
 | true=>rw[vH rfl]at e ⊢;exact h4 G0 H0 G1 ω σ H1 out ω' E (o.keep x1) e λG2 σ2 H2 o2 g2=>k G2 σ2 H2 o2 (x1.gg.trans g2)
 | false=>exact h6 G0 H0 G1 ω σ H1 out ω' E (o.keep x1) e λG2 σ2 H2 o2 g2=>k G2 σ2 H2 o2 (x1.gg.trans g2)
theorem qf(he:XE X e fe):XS X (.Return (some e) pos) (Ym fe):=by
 obtain⟨t,h1,h2⟩:=he;refine⟨_,q9W h1,λG0 H0 G ω σ H out ω' E o e k=>?_⟩;obtain⟨r,q,e⟩:=bnd e;refine h2 G0 H0 G ω σ H r _ o q λv G1 H1 x1 y1=>?_;cases r with
 | sh d=>cases e;exact k G1 σ H1 (o.keep x1) x1.gg v y1
 | fr ds=>
  cases e;obtain⟨l,vs,e1,e2,e3⟩:=y1;exact k G1 σ H1 (o.keep x1) x1.gg v ⟨l,vs,e1,o.ext.hh.free e2,e3⟩
 | vw ds=>cases e
theorem q5s{i:Nat}(he:PE X e (Xh i)):XS X (.Return (some e) pos) (WD i):=by
 refine⟨_,q9W he,λG0 H0 G ω σ H out ω' E o e k=>?_⟩;unfold WD at e;cases q:ω[i]? with
 | none=>rw[q]at e;cases e
 | some w=>
  rw[q]at e;cases w with
  | none=>cases e
  | some w=>
   cases w with
   | sh d=>
    cases e;obtain⟨v,q1,q2⟩:=o.sh i d q;exact⟨v,q1,k G σ H o (Yd.refl _) v q2⟩
   | ow ds=>
    cases e;obtain⟨l,vs,q1,q2,q3,q4,q5⟩:=o.ow i ds q;exact⟨_,q1,k G σ H o (Yd.refl _) _ ⟨l,vs,rfl,q4,q3,q2,q5⟩⟩
   | od ks ds=>cases e
   | pw ds=>cases e
theorem qcj:XS X st sNo:=⟨_,qeW,λG0 H0 G ω σ H out ω' E o e k=>by cases e⟩
theorem q7j(he:XE X e fe)(hs:vv e none pos.line X.env=pure false:=by rfl):XS X (.Expr e pos) (W1 fe):=by
 obtain⟨t,h1,h2⟩:=he;refine⟨_,q3X h1 hs,λG0 H0 G ω σ H out ω' E o e k=>?_⟩;obtain⟨r,q,e⟩:=mpd e;cases e;exact h2 G0 H0 G ω σ H r _ o q λv G1 H1 x1 y1=>k G1 σ H1 (o.keep x1) x1.gg
noncomputable def zAH(i:Nat)(f:FD):FS:=λω=>(f ω).bind λd=>match ω[i]? with
 | some (some (.ow ds))=>if ds.length<1000000 then some (.nx,ω.set i (some (.ow (ds++[d]))))else none
 | _=>none
theorem q2B{i:Nat}{o e:vP}{fd:FD}{apos cpos:Pos}(ho:PE X o (Xh i))(he:XD X e fd)(hbase:uT o "append" X.env (eval o X.env)=eval o X.env:=by rfl)(hfew:((vn cpos (vL [e] X.env)).all (λx=>!x.1)&&(uL cpos (vz [] X.env)).all (λx=>x.1.isSome)
   && decide (([e]:List vP).length+([]:List uW).length+(if ([]:List uW).isEmpty then 0 else 1)<30))=true:=by rfl)
  (hline:(apos.endLine==cpos.line)=true:=by rfl) (hs:vL [e] X.env=(false,eval e X.env)::vL [] X.env:=by rfl) (hplain:(vn cpos (vL [] X.env)).any (·.1)=false:=by rfl)
  (hsw:vv (.Call (.Attribute o "append" apos) [e] [] cpos) none pos.line X.env=pure false:=by rfl) :
  XS X (.Expr (.Call (.Attribute o "append" apos) [e] [] cpos) pos) (zAH i fd):=by
 obtain⟨t,h1,h2⟩:=he;refine⟨_,q3X (q8n PySem.F.plainAttrs_list PySem.F.slot_list_append PySem.F.type_list_append q3s ho (qS h1 q0b hs) hbase hfew hline hs hplain) hsw,λG0 H0 G ω σ H out ω' E ow e k=>?_⟩;obtain⟨d,q,e⟩:=bnd e;cases q2:ω[i]? with
 | none=>rw[q2]at e;cases e
 | some w=>
  rw[q2]at e;cases w with
  | none=>cases e
  | some w=>
   cases w with
   | sh d=>cases e
   | od ks ds=>cases e
   | pw ds=>cases e
   | ow ds=>
    dsimp only at e
    by_cases z:ds.length<1000000
    ·rw[vH z]at e
     cases e;obtain⟨l,vs,r1,r2,r3,r4,r5⟩:=ow.ow i ds q2;refine⟨.ref l,r1,.inl ⟨rfl,vs,SqL.of r2⟩,h2 G0 H0 G ω σ H d _ ow q λv G1 H1 x1 y1=>?_⟩;have o1:=ow.keep x1;have hz:vs.length<sizeLine:=by rw[<- r5.len,vo];omega
     refine⟨l,vs,v,rfl,rfl,x1.hh _ _ r2,hz,?_⟩;exact k G1 σ _ (o1.mut q2 r1 (x1.hh _ _ r2) (x1.new l r3 (by rw[r2];exact λz=>by cases z)) r4 ((r5.mono x1.gg).app (YX.cons y1 YX.nil))) x1.gg
    ·rw[vJ z]at e;cases e
end
end Hk
namespace PySem
open AutoSeq1 MeetsSeq MeetsSeq2 MeetsSeq3
theorem extTup(l b:vC)(xs ys:Array vB)(n m:Nat)(dd:Option vC)(sl:Array (Option vB))(h1:¬(!xs.isEmpty&&Builtin.List.listTooLong (xs.size+ys.size))=true)(h2:xs.size<=sizeLine)(h3:xs.size+ys.size<=sizeLine+1):
  Meets (Builtin.«list.extend» ⟨[.ref l,.ref b],[]⟩) (λ_ R s=>s.heap.get? l=some { cls:=.type "list", data:=.seq xs n }/\s.heap.get? b=some { cls:=.type "tuple", dict:=dd,data:=.seq ys m,slots:=sl } /\
   R (.ok (.ret Value.none)) { s with heap:=s.heap.update l (Obj.mapSeq λz=>z++ys),toks:=s.toks }) :=
 .of_wp λprog w A R s h=>by
  obtain⟨hp,g,d,tk,os⟩:=s;obtain⟨e1,e2,q⟩:=h;have p1:=idx_int;have p2:=sub_tuple_tuple;have p3:=sub_list_list;have p4:=sub_tuple_list;have p5:=sub_list_tuple;have fit:(xs++ys).size<=sizeLine+1:=by rw[Array.size_append];exact h3
  wp_walk using (uC e1 rfl (hz:=h2) (_hz':=fit)),wpAny_loadPart' e1,wpAny_loadPart' e2
  exact⟨_,rfl,q⟩
end PySem
namespace Hk
open PySem L2
section
variable{X:Cx}{pos:Pos}
def rExtA:V->List V->Hp->VK->Prop:=λx vs H Q=>W2 x vs H Q\/∃l b xs zs,x=.ref l/\vs=[.ref b]/\H l=some (.lst xs)/\H b=some (.tup zs)/\xs.length+zs.length<=sizeLine/\Q .non (upd H l (.lst (xs++zs)))
theorem qho:MtR X "list.extend" rExtA:=by
 intro pins s σ H x vs v us Q I rx rv h;rcases h with h|h
 ·exact qez pins s σ H x vs v us Q I rx rv h
 obtain⟨l,b,xs,zs,rfl,rfl,hH,hB,hz,q⟩:=h;cases rx;obtain⟨u,rfl,ru⟩:=rv.one;cases ru;obtain⟨z,its,n,r,hl,e⟩:=I.lstM hH;obtain⟨its2,r2,⟨o2,e2,c2,n2,d2⟩,z2⟩:=I.tuple (SqT.of hB);have hl2:=r2.length;obtain⟨cls,dd,dt,sl⟩:=o2;cases c2;cases d2;have hsz:its.toArray.size+its2.toArray.size<=sizeLine:=by rw[zO,zO];omega
 have hlong:¬(!its.toArray.isEmpty&&Builtin.List.listTooLong (its.toArray.size+its2.toArray.size))=true:=by
  rw[WO hsz,wE];exact yN
 refine tX F.slot_list_extend ⟨_,e,rfl⟩ F.entry_list_extend (F.args_list_extend_2 _ _)
  (extTup l b its.toArray its2.toArray n n2 dd sl hlong (by rw[zO];omega) ∅) ⟨e,e2,?_⟩
 refine⟨.non,_,I.lset (its':=its++its2) hH e (by simp) (r.append r2) ?_,rfl,q⟩;rw[zE];omega
noncomputable def itemsOf:D->Option (List D)
 | .lst ds=>some ds
 | .tup ds=>some ds
 | _=>none
noncomputable def sExt(i:Nat)(f:FD):FS:=λω=>(f ω).bind λd=>(itemsOf d).bind λes=>match ω[i]? with
 | some (some (.ow ds))=>if ds.length+es.length<=1000000 then some (.nx,ω.set i (some (.ow (ds++es))))else none
 | _=>none
theorem qcX{i:Nat}{o e:vP}{fd:FD}{apos cpos:Pos}(ho:PE X o (Xh i))(he:XD X e fd)(hbase:uT o "extend" X.env (eval o X.env)=eval o X.env:=by rfl)(hfew:((vn cpos (vL [e] X.env)).all (λx=>!x.1)&&(uL cpos (vz [] X.env)).all (λx=>x.1.isSome)
   && decide (([e]:List vP).length+([]:List uW).length+(if ([]:List uW).isEmpty then 0 else 1)<30))=true:=by rfl)
  (hline:(apos.endLine==cpos.line)=true:=by rfl) (hs:vL [e] X.env=(false,eval e X.env)::vL [] X.env:=by rfl) (hplain:(vn cpos (vL [] X.env)).any (·.1)=false:=by rfl)
  (hsw:vv (.Call (.Attribute o "extend" apos) [e] [] cpos) none pos.line X.env=pure false:=by rfl) :
  XS X (.Expr (.Call (.Attribute o "extend" apos) [e] [] cpos) pos) (sExt i fd):=by
 obtain⟨t,h1,h2⟩:=he;refine⟨_,q3X (q8n PySem.F.plainAttrs_list PySem.F.slot_list_extend PySem.F.type_list_extend qho ho (qS h1 q0b hs) hbase hfew hline hs hplain) hsw,λG0 H0 G ω σ H out ω' E ow e k=>?_⟩;obtain⟨d,q,e⟩:=bnd e;obtain⟨es,q3,e⟩:=bnd e;cases q2:ω[i]? with
 | none=>rw[q2]at e;cases e
 | some w=>
  rw[q2]at e;cases w with
  | none=>cases e
  | some w=>
   cases w with
   | sh d=>cases e
   | od ks ds=>cases e
   | pw ds=>cases e
   | ow ds=>
    dsimp only at e
    by_cases z:ds.length+es.length<=1000000
    ·rw[vH z]at e
     cases e;obtain⟨l,vs,r1,r2,r3,r4,r5⟩:=ow.ow i ds q2;refine⟨.ref l,r1,.inl ⟨rfl,vs,SqL.of r2⟩,h2 G0 H0 G ω σ H d _ ow q λv G1 H1 x1 y1=>?_⟩;have o1:=ow.keep x1;have fin:∀us:List V,YX X.K G1 es us->vs.length+us.length<=sizeLine/\Post X.K H0 G1 E .nx σ (upd H1 l (.lst (vs++us))):=λus hu=>
      ⟨by rw[<- r5.len,<- hu.len];exact q64 z,k G1 σ _ (o1.mut q2 r1 (x1.hh _ _ r2) (x1.new l r3 (by rw[r2];exact λz=>by cases z)) r4 ((r5.mono x1.gg).app hu)) x1.gg⟩
     cases d with
     | lst ds'=>
      cases q3;obtain⟨b,us,rfl,r6,r7⟩:=y1;obtain⟨f1,f2⟩:=fin us r7;exact .inl ⟨l,b,vs,us,rfl,rfl,x1.hh _ _ r2,x1.gh _ _ r6,f1,f2⟩
     | tup ds'=>
      cases q3;obtain⟨b,us,rfl,r6,r7⟩:=y1;obtain⟨f1,f2⟩:=fin us r7;exact .inr ⟨l,b,vs,us,rfl,rfl,x1.hh _ _ r2,x1.gh _ _ r6,f1,f2⟩
     | _=>cases q3
    ·rw[vJ z]at e;cases e
end
structure IterOf (K:zB) (J:It) (G:Hp) (ds:List D):Prop where
 go:∀H i,Yd G H->i<ds.length->J.go i H
 yld:∀G2 H i x H' d,Yd G G2->Yd G2 H->ds[i]?=some d->J.yld i H x H'->∃G3,Ext G2 H G3 H'/\Rep K G3 d x
 stop:∀H,Yd G H->J.stop ds.length H
noncomputable abbrev FI:=WSt->Option (List D)
def SimI(K:zB)(wi:TI)(f:FI):Prop:=∀G0 H0 G ω σ H ds(R:It->Hp->Prop),Own K G0 H0 G ω σ H->f ω=some ds->(∀J G' H',Ext G H G' H'->IterOf K J G' ds->R J H')->wi σ H R
def XI(X:Cx)(tg iter:vP)(f:FI):Prop:=∃wi,PI X tg iter wi/\SimI X.K wi f
section
variable{X:Cx}{tg e:vP}
theorem qfH{K:zB}{G:Hp}{a:vC}{ds:List D}{vs:List V}(h1:G a=some (.lst vs))(h2:YX K G ds vs):IterOf K (Itl K a) G ds:=by
 refine⟨λH i s hi=>?_,λG2 H i x H' d s0 s1 hd hy=>?_,λH s=>⟨vs,SqL.of (s _ _ h1),by rw[h2.len];exact zN _⟩⟩
 ·have:i<vs.length:=by rw[<- h2.len];exact hi
  exact⟨vs,vs[i],SqL.of (s _ _ h1),zC this⟩
 ·obtain⟨e,y⟩:=hy
  obtain⟨v,q1,q2⟩:=h2.get hd;have:=y vs (SqL.of (s1 _ _ (s0 _ _ h1)));rw[q1]at this;cases this;subst e;exact⟨G2,Ext.refl s1,q2.mono s0⟩
theorem qeT{K:zB}{G:Hp}{a:vC}{ds:List D}{vs:List V}(h1:G a=some (.tup vs))(h2:YX K G ds vs):IterOf K (Itt K a) G ds:=by
 refine⟨λH i s hi=>?_,λG2 H i x H' d s0 s1 hd hy=>?_,λH s=>⟨vs,SqT.of (s _ _ h1),by rw[h2.len];exact zN _⟩⟩
 ·have:i<vs.length:=by rw[<- h2.len];exact hi
  exact⟨vs,vs[i],SqT.of (s _ _ h1),zC this⟩
 ·obtain⟨e,y⟩:=hy
  obtain⟨v,q1,q2⟩:=h2.get hd;have:=y vs (SqT.of (s1 _ _ (s0 _ _ h1)));rw[q1]at this;cases this;subst e;exact⟨G2,Ext.refl s1,q2.mono s0⟩
noncomputable def Yy(f:FD):FI:=λω=>(f ω).bind itemsOf
theorem qo{f:FD}(h:XD X e f):XI X tg e (Yy f):=by
 obtain⟨t,h1,h2⟩:=h;refine⟨λσ H R=>iList X.K t σ H R\/iTup X.K t σ H R,λpins s σ H R I q=>?_,λG0 H0 G ω σ H ds R o e k=>?_⟩
 ·rcases q with q|q
  ·exact q6Y h1 pins s σ H R I q
  ·exact qiN h1 pins s σ H R I q
 ·obtain⟨d,q,e⟩:=bnd e
  cases d with
  | lst es=>
   cases e;refine .inl (h2 G0 H0 G ω σ H _ _ o q λv G1 H1 x1 ⟨a,vs,e1,e2,e3⟩=>⟨a,e1,⟨vs,SqL.of (x1.gh _ _ e2)⟩,k _ G1 H1 x1 (qfH e2 e3)⟩)
  | tup es=>
   cases e;refine .inr (h2 G0 H0 G ω σ H _ _ o q λv G1 H1 x1 ⟨a,vs,e1,e2,e3⟩=>⟨a,e1,⟨vs,SqT.of (x1.gh _ _ e2)⟩,k _ G1 H1 x1 (qeT e2 e3)⟩)
  | _=>cases e
noncomputable def upTo(lo:Int)(n:Nat):List D:=(yI n).map λ(i:Nat)=>D.int (lo+(i:Int))
theorem q8E{K:zB}{G:Hp}(lo:Int)(n:Nat):IterOf K (Itr lo n) G (upTo lo n):=by
 have hl:(upTo lo n).length=n:=by unfold upTo;rw[zA,yH]
 refine⟨λH i s hi=>by rw[hl]at hi;exact hi,λG2 H i x H' d s0 s1 hd hy=>?_,λH s=>by rw[hl];exact zN _⟩;obtain⟨e,y⟩:=hy;subst e;refine⟨G2,Ext.refl s1,?_⟩;unfold upTo at hd;rw[zY]at hd;have hi:i<n:=by
  rcases zx i n with z|z
  ·exact z
  ·rw[zu (by rw[yH];exact z)]at hd;cases hd
 rw[yz hi]at hd;cases hd;exact y
noncomputable def iRg1(g:FA):FI:=λω=>(g ω).bind λds=>match ds with
 | [.int j]=>if -(2^62)<=j/\j<2^62 then some (upTo 0 j.toNat)else none
 | _=>none
noncomputable def iRg2(g:FA):FI:=λω=>(g ω).bind λds=>match ds with
 | [.int i,.int j]=>if (-(2^62)<=i/\i<2^62)/\-(2^62)<=j/\j<2^62 then some (upTo i (j-i).toNat)else none
 | _=>none
theorem qcF{a:vP}{g:FA}{p pos:Pos}(hg:Gl X "range")(hm:X.mg "range" = none)(ha:XVA X [a] g)(hs:vL [a] X.env=[(false,eval a X.env)]:=by rfl):XI X tg (.Call (.Name "range" p) [a] [] pos) (iRg1 g):=by
 obtain⟨t,h1,h2⟩:=ha;refine⟨_,qdn hg hm h1 hs,λG0 H0 G ω σ H ds R o e k=>?_⟩;obtain⟨vs,q,e⟩:=bnd e;refine h2 G0 H0 G ω σ H vs _ o q λus G1 H1 x1 y1=>?_
 match vs,e with
 | [.int j],e=>
  dsimp only at e
  by_cases z:-(2^62)<=j/\j<2^62
  ·rw[vH z]at e
   cases e;obtain⟨v,rfl,y2⟩:=y1.one;cases y2.int;exact⟨j,rfl,z.1,z.2,k _ G1 H1 x1 (q8E _ _)⟩
  ·rw[vJ z]at e;cases e
theorem qcH{a b:vP}{g:FA}{p pos:Pos}(hg:Gl X "range")(hm:X.mg "range" = none)(ha:XVA X [a,b] g)(hs:vL [a,b] X.env=[(false,eval a X.env),(false,eval b X.env)]:=by rfl)(hs2:vL [b] X.env=[(false,eval b X.env)]:=by rfl):XI X tg (.Call (.Name "range" p) [a,b] [] pos) (iRg2 g):=by
 obtain⟨t,h1,h2⟩:=ha;refine⟨_,qei hg hm h1 hs hs2,λG0 H0 G ω σ H ds R o e k=>?_⟩;obtain⟨vs,q,e⟩:=bnd e;refine h2 G0 H0 G ω σ H vs _ o q λus G1 H1 x1 y1=>?_
 match vs,e with
 | [.int i,.int j],e=>
  dsimp only at e
  by_cases z:(-(2^62)<=i/\i<2^62)/\-(2^62)<=j/\j<2^62
  ·rw[vH z]at e
   cases e;obtain⟨v,u,rfl,y2,y3⟩:=y1.two;cases y2.int;cases y3.int;exact⟨i,j,rfl,⟨z.1.1,z.1.2,z.2.1,z.2.2⟩,k _ G1 H1 x1 (q8E _ _)⟩
  ·rw[vJ z]at e;cases e
end
noncomputable def WM(g:FG)(b:FS):List D->FS
 | [],ω=>some (.nx,ω)
 | d::ds,ω=>(g d ω).bind λw=>(b w).bind λp=>match p.1 with
  | .nx=>WM g b ds p.2
  | .ct=>WM g b ds p.2
  | .bk=>some (.nx,p.2)
  | .rt r=>some (.rt r,p.2)
noncomputable def WB(fi:FI)(g:FG)(b:FS):FS:=λω=>(fi ω).bind λds=>WM g b ds ω
section
variable{X:Cx}{tg iter:vP}{body:List vg}{pos:Pos}{fi:FI}{fg:FG}{fb:FS}
theorem q0f(hp:tP (model X.prog X.w) X.A X.env X.xe)(hc:X.calm=true)(hi:XI X tg iter fi)(hg:XG X tg fg)(hb:XSs X body fb)(hs:∀x,vt iter X.env x=pure x:=by intro _;rfl):XS X (.For tg iter body [] pos) (WB fi fg fb):=by
 obtain⟨wi,h1,h2⟩:=hi;obtain⟨g,h3,h4⟩:=hg;obtain⟨tb,h5,h6⟩:=hb;refine⟨_,q9i hp hc h1 h3 h5 hs,λG0 H0 G ω σ H out ω' E o e k=>?_⟩;obtain⟨ds,q,e⟩:=bnd e;refine h2 G0 H0 G ω σ H ds _ o q λJ G1 H1 x1 it=>?_;refine⟨λi m σ2 H2=>∃G2 ω2,Own X.K G0 H0 G2 ω2 σ2 H2/\Yd G1 G2/\WM fg fb (ds.drop i) ω2=some (out,ω')/\i<=ds.length/\m=ds.length-i,⟨_,G1,ω,o.keep x1,Yd.refl _,e,yQ _,rfl⟩,?_⟩;rintro i m σ2 H2 ⟨G2,ω2,o2,s2,f2,hi2,rfl⟩
 by_cases hlt:i<ds.length
 ·refine .inr ⟨it.go H2 i (s2.trans o2.gh) hlt,λσ3 H3=>∃G3 ω3,Own X.K G0 H0 G3 ω3 σ3 H3/\Yd G1 G3/\WM fg fb (ds.drop (i+1)) ω3=some (out,ω'),λσ3 H3 ⟨G3,ω3,a1,a2,a3⟩=>⟨ds.length-(i+1),∅,G3,ω3,a1,a2,a3,hlt,rfl⟩,λx H3 hy=>?_⟩
  have hd:ds[i]?=some ds[i]:=zC hlt;obtain⟨G4,x4,rx⟩:=it.yld G2 H2 i x H3 ds[i] s2 o2.gh hd hy;have o2:=o2.keep x4;have s2:=s2.trans x4.gg;rw[xZ hlt]at f2;obtain⟨w,q1,f2⟩:=bnd f2;obtain⟨⟨o3,ω3⟩,q2,f2⟩:=bnd f2;refine h4 G0 H0 G4 ω2 σ2 H3 ds[i] x w _ o2 q1 rx λσ4 o4=>?_;refine h6 G0 H0 G4 w σ4 H3 o3 ω3 _ o4 q2 λG5 σ5 H5 o5 s5=>?_;cases o3 with
  | nx=>exact⟨G5,ω3,o5,s2.trans s5,f2⟩
  | ct=>exact⟨G5,ω3,o5,s2.trans s5,f2⟩
  | bk=>cases f2;exact k G5 σ5 H5 o5 (x1.gg.trans (s2.trans s5))
  | rt r=>cases f2;exact k G5 σ5 H5 o5 (x1.gg.trans (s2.trans s5))
 ·have ei:i=ds.length:=∅
  subst ei;rw[Zp]at f2;cases f2;exact .inl ⟨it.stop H2 (s2.trans o2.gh),k G2 σ2 H2 o2 (x1.gg.trans s2)⟩
end
noncomputable def Yu(g:FG)(c:FT)(f:FD):List D->WSt->Option (List D)
 | [],_=>some []
 | d::ds,ω=>(g d ω).bind λw=>(c w).bind λb=>if b=true then (f w).bind λx=>(Yu g c f ds w).map λr=>x::r else Yu g c f ds w
noncomputable def XC:Option (Option W)->Option W
 | some ↥d=>↥d
 | _=>none
noncomputable def inW(M:Nat)(frees:List Nat)(ω:WSt):WSt:=wB M none++frees.map λj=>XC ω[j]?
noncomputable def Yg(M:Nat)(frees:List Nat)(fi:FI)(g:FG)(c:FT)(f:FD):FE:=λω=>(fi ω).bind λds=>if ds.length<=1000000 then (Yu g c f ds (inW M frees ω)).map R.fr else none
def XTs(X:Cx)(ifs:List vP)(f:FT):Prop:=∃t,PTs X ifs t/\WL X.K t f
noncomputable def Yc:FT:=λ_=>some true
theorem qt{X:Cx}:XTs X [] Yc:=⟨_,qhm,λG0 H0 G ω σ H b Q o e k=>by cases e;exact k G H (Ext.refl o.gh)⟩
theorem q1g{X:Cx}{c:vP}{f:FT}(h:XT X c f):XTs X [c] f:=let ⟨t,h1,h2⟩:=h;⟨t,qhs h1,h2⟩
section
variable{X:Cx}{N:List Str}{M:Nat}{frees:List Nat}{scope:ud}{tg iter elt:vP}{ifs:List vP}{pos:Pos}{fi:FI}{fg:FG}{fc:FT}{fe:FD}
def Xb(ω:WSt):Prop:=∀(i:Nat)w,ω[i]?=some (some w)->∃d,w=.sh d
theorem Xb.ow{ω:WSt}(h:Xb ω)(i:Nat)(ds:List D):ω[i]?≠some (some (.ow ds)):=λz=>by obtain⟨d,e⟩:=h i _ z;cases e
theorem Xb.od{ω:WSt}(h:Xb ω)(i:Nat)(ks:List Int)(ds:List D):ω[i]?≠some (some (.od ks ds)):=λz=>by obtain⟨d,e⟩:=h i _ z;cases e
theorem Xb.pw{ω:WSt}(h:Xb ω)(i:Nat)(ds:List D):ω[i]?≠some (some (.pw ds)):=λz=>by obtain⟨d,e⟩:=h i _ z;cases e
theorem q9U{wi:TI}{g:TG}{tc:TT}{te:TE}(h2:SimI X.K wi fi)(h4:SimG X.K g fg)(h6:WL X.K tc fc)(h8:zAx X.K te fe)(hg:∀d ω ω',Xb ω->fg d ω=some ω'->Xb ω'):zAw X.K (zAc M frees wi g tc te) (Yg M frees fi fg fc fe):=by
 intro G0 H0 G ω σ H r Q o e k;obtain⟨ds,q,e⟩:=bnd e
 by_cases hz:ds.length<=1000000
 ·rw[vH hz]at e
  obtain⟨rs,q2,e⟩:=mpd e;subst e;refine h2 G0 H0 G ω σ H ds _ o q λJ G1 H1 x1 it=>?_;intro A hA;have ow0:Xb (inW M frees ω):=by
   intro i es z;unfold inW at z;rcases zx i M with y|y
   ·rw[zb ⇑y,yg,vH y]at z;cases z
   ·rw[zW ⇑y,yk,zY]at z
    cases e1:frees[i-M]? with
    | none=>rw[e1]at z;cases z
    | some j=>
     rw[e1]at z;have z':XC ω[j]?=some es:=z5 z;generalize ω[j]?=u at z';unfold XC at z'
     split at z'
     ·cases z';exact⟨_,rfl⟩
     ·cases z'
  have own0:∀G2 H2,Yd G1 G2->Yd G2 H2->Own X.K G2 (fr H2) G2 (inW M frees ω) (zAE M frees σ) H2:=λG2 H2 s1 s2=>by
   have o1:=o.keep x1;refine⟨Ext.refl s2,by unfold inW zAE;simp,λi d hi=>?_,λi ds' hi=>vN hi (ow0.ow i ds'),λi j ds' es l hi=>vN hi (ow0.ow i ds'),λi ks ds' hi=>vN hi (ow0.od i ks ds'),Y6.no ow0.pw⟩;unfold inW at hi;unfold zAE;rcases zx i M with y|y
   ·rw[zb ⇑y,yg,vH y]at hi;cases hi
   ·rw[zW ⇑y,yk,zY]at hi ⊢
    cases e1:frees[i-M]? with
    | none=>rw[e1]at hi;cases hi
    | some j=>
     rw[e1]at hi;have hi':XC ω[j]?=↥d:=z5 hi;cases e2:ω[j]? with
     | none=>rw[e2]at hi';cases hi'
     | some w=>
      rw[e2]at hi';cases w with
      | none=>cases hi'
      | some w=>
       cases w with
       | ow _=>cases hi'
       | od _ _=>cases hi'
       | pw _=>cases hi'
       | sh d'=>
        cases hi';obtain⟨v,q3,q4⟩:=o1.sh j _ e2;exact⟨v,by rw[yx,q3];rfl,q4.mono s1⟩
  refine⟨λi m σ2 H2=>∃G2 ω2 accd accv,Own X.K G2 (fr H2) G2 ω2 σ2 H2/\Xb ω2/\Ext G1 H1 G2 H2/\G2 A=none/\H2 A=some (.lst accv)/\YX X.K G2 accd accv/\accd.length<=i/\i<=ds.length/\m=ds.length-i /\
   ∃rest,Yu fg fc fe (ds.drop i) ω2=some rest/\accd++rest=rs,⟨_,G1,inW M frees ω,[],[],own0 _ _ (Yd.refl _) (Yb x1.gh (x1.gh.free hA) _),ow0,Ext.hide x1.gh hA _,x1.gh.free hA,qg,YX.nil,zN _,yQ _,rfl,rs,q2,rfl⟩,?_⟩
  rintro i m σ2 H2 ⟨G2,ω2,accd,accv,o2,no2,x2,gA,hA2,ra,la,li,rfl,rest,cd,er⟩
  by_cases hlt:i<ds.length
  ·refine .inr ⟨it.go H2 i (x2.gg.trans x2.gh) hlt,λx H3 hy=>?_⟩
   have hd:ds[i]?=some ds[i]:=zC hlt;obtain⟨G4,x4,rx⟩:=it.yld G2 H2 i x H3 ds[i] x2.gg x2.gh hd hy;have o2':=o2.keep x4;have o2:Own X.K G4 (fr H3) G4 ω2 σ2 H3:=⟨Ext.refl x4.gh,o2'.len,o2'.sh,λi ds' hi=>vN hi (no2.ow i ds'),λi j ds' es l hi=>vN hi (no2.ow i ds'),λi ks ds' hi=>vN hi (no2.od i ks ds'),Y6.no no2.pw⟩;have gA:G4 A=none:=x4.new A gA (by rw[hA2];exact λz=>by cases z);have hA2:H3 A=some (.lst accv):=x4.hh _ _ hA2;have x2:=x2.trans x4;have ra:=ra.mono x4.gg;rw[xZ hlt]at cd;obtain⟨w,q1,cd⟩:=bnd cd;obtain⟨b,q3,cd⟩:=bnd cd;have now:=hg _ _ _ no2 q1;refine h4 G4 (fr H3) G4 ω2 σ2 H3 ds[i] x w _ o2 q1 rx λσ4 o4=>?_;refine h6 G4 (fr H3) G4 w σ4 H3 b _ o4 q3 λG5 H5 x5=>?_;have o5:=o4.keep x5;have gA5:G5 A=none:=x5.new A gA (by rw[hA2];exact λz=>by cases z);have hA5:H5 A=some (.lst accv):=x5.hh _ _ hA2;cases b with
   | false=>
    rw[vJ yN];rw[vJ yN]at cd;have o6:Own X.K G5 (fr H5) G5 w σ4 H5:=⟨Ext.refl x5.gh,o5.len,o5.sh,λi ds' hi=>vN hi (now.ow i ds'),λi j ds' es l hi=>vN hi (now.ow i ds'),λi ks ds' hi=>vN hi (now.od i ks ds'),Y6.no now.pw⟩;exact⟨ds.length-(i+1),∅,G5,w,accd,accv,o6,now,x2.trans x5,gA5,hA5,ra.mono x5.gg,∅,hlt,rfl,rest,cd,er⟩
   | true=>
    rw[vH rfl]at cd ⊢;obtain⟨d,q4,cd⟩:=bnd cd;obtain⟨rest',q5,cd⟩:=mpd cd;subst cd;refine h8 G4 (fr H3) G5 w σ4 H5 d _ o5 q4 λv G6 H6 x6 y6=>?_;have gA6:G6 A=none:=x6.new A gA5 (by rw[hA5];exact λz=>by cases z);have hA6:H6 A=some (.lst accv):=x6.hh _ _ hA5;have x26:=(x2.trans x5).trans x6;have raa:=ra.mono (x5.gg.trans x6.gg);have hl:accv.length<sizeLine:=by rw[<- raa.len,vo];omega
    refine⟨accv,hA6,hl,ds.length-(i+1),∅,G6,w,accd++[d],accv++[v],?_,now,⟨x26.gg,Yb x26.gh gA6 _,Yb x26.hh hA _,x26.new⟩,gA6,qg,raa.app (YX.cons y6 YX.nil),by rw[zE,zd];omega,hlt,rfl,rest',q5,by rw[yB];exact er⟩;have o6:=o5.keep x6;exact⟨Ext.refl (Yb x6.gh gA6 _),o6.len,o6.sh,λi ds' hi=>vN hi (now.ow i ds'),λi j ds' es l hi=>vN hi (now.ow i ds'),λi ks ds' hi=>vN hi (now.od i ks ds'),Y6.no now.pw⟩
  ·have ei:i=ds.length:=∅
   subst ei;rw[Zp]at cd;cases cd;rw[zw]at er;subst er;refine .inl ⟨it.stop H2 (x2.gg.trans x2.gh),k _ G2 H2 (x1.trans x2) ⟨A,accv,rfl,x1.hh.free hA,gA,hA2,ra⟩⟩
 ·rw[vJ hz]at e;cases e
theorem qf3{ω:WSt}{i:Nat}{d:D}(h:Xb ω):Xb (ω.set i ↥d):=by
 intro j ds z;rcases qe z with⟨_,_,y⟩|⟨_,y⟩
 ·cases y;exact⟨d,rfl⟩
 ·exact h j ds y
def Tame(fg:FG):Prop:=∀d ω ω',Xb ω->fg d ω=some ω'->Xb ω'
def zAK(gs:List D->WSt->Option WSt):Prop:=∀ds ω ω',Xb ω->gs ds ω=some ω'->Xb ω'
theorem qj(i:Nat):Tame (gN i):=λd ω ω' h e=>by cases e;exact qf3 h
theorem q0i:zAK Ys:=λds ω ω' h e=>by
 cases ds with
 | nil=>cases e;exact h
 | cons _ _=>cases e
theorem qq{fg:FG}{gs:List D->WSt->Option WSt}(h:Tame fg)(h':zAK gs):zAK (YT fg gs):=λds ω ω' n e=>by
 cases ds with
 | nil=>cases e
 | cons d r=>obtain⟨w,q,e⟩:=bnd e;exact h' _ _ _ (h _ _ _ n q) e
theorem q29{n:Nat}{gs:List D->WSt->Option WSt}(h:zAK gs):Tame (gT n gs):=λd ω ω' no e=>by
 unfold gT at e;cases d with
 | tup ds=>
  dsimp only at e
  by_cases z:ds.length=n
  ·rw[vH z]at e;exact h _ _ _ no e
  ·rw[vJ z]at e;cases e
 | _=>cases e
noncomputable def canD(K:zB)(f:FD):TE:=λσ H Q=>∃G0 H0 G ω d,Own K G0 H0 G ω σ H/\f ω=some d/\∀v G' H',Ext G H G' H'->Rep K G' d v->Q v H'
noncomputable def canT(K:zB)(f:FT):TT:=λσ H Q=>∃G0 H0 G ω b,Own K G0 H0 G ω σ H/\f ω=some b/\∀G' H',Ext G H G' H'->Q b H'
noncomputable def canG(K:zB)(f:FG):TG:=λv σ H Q=>∃G0 H0 G ω d ω',Own K G0 H0 G ω σ H/\f d ω=some ω'/\Rep K G d v/\∀σ',Own K G0 H0 G ω' σ' H->Q σ' H
theorem XD.can{X:Cx}{e:vP}{f:FD}(h:XD X e f):PE X e (canD X.K f):=λpins s σ H Q I ⟨G0,H0,G,ω,d,o,e,k⟩=>let ⟨_,h1,h2⟩:=h;h1 pins s σ H Q I (h2 G0 H0 G ω σ H d Q o e k)
theorem XTs.can{X:Cx}{e:List vP}{f:FT}(h:XTs X e f):PTs X e (canT X.K f):=λpins s σ H Q I ⟨G0,H0,G,ω,d,o,e,k⟩=>let ⟨_,h1,h2⟩:=h;h1 pins s σ H Q I (h2 G0 H0 G ω σ H d Q o e k)
theorem XG.can{X:Cx}{e:vP}{f:FG}(h:XG X e f):PG X e (canG X.K f):=λpins s σ H v u Q I r ⟨G0,H0,G,ω,d,ω',o,e,y,k⟩=>let ⟨_,h1,h2⟩:=h;h1 pins s σ H v u Q I r (h2 G0 H0 G ω σ H d v ω' Q o e y k)
theorem q8v{K:zB}{f:FD}:zAx K (canD K f) f:=λG0 H0 G ω σ H d Q o e k=>⟨G0,H0,G,ω,d,o,e,k⟩
theorem q9F{K:zB}{f:FT}:WL K (canT K f) f:=λG0 H0 G ω σ H d Q o e k=>⟨G0,H0,G,ω,d,o,e,k⟩
theorem q9w{K:zB}{f:FG}:SimG K (canG K f) f:=λG0 H0 G ω σ H d v ω' Q o e y k=>⟨G0,H0,G,ω,d,ω',o,e,y,k⟩
theorem qA(hc:X.calm=true)(B:BlkOk X N M frees scope)(hi:XI X tg iter fi)(ht:Tame fg)(hb:∀C s H fp,XG (XF X N scope C s H fp) tg fg/\XTs (XF X N scope C s H fp) ifs fc/\XD (XF X N scope C s H fp) elt fe)(hs:∀x,vt iter X.env x=pure x:=by intro _;rfl):XE X (.ListComp elt [⟨tg,iter,ifs,0⟩] scope pos) (Yg M frees fi fg fc fe):=by
 obtain⟨wi,h1,h2⟩:=hi;have b4:∀C s H fp,PG (XF X N scope C s H fp) tg (canG X.K fg)/\PTs (XF X N scope C s H fp) ifs (canT X.K fc)/\PE (XF X N scope C s H fp) elt (canD X.K fe):=λC s H fp=>⟨(hb C s H fp).1.can,(hb C s H fp).2.1.can,(hb C s H fp).2.2.can⟩;exact⟨_,qhy hc B h1 b4 hs,q9U h2 q9w q9F q8v ht⟩
theorem qT{i:Nat}{x:Str}{pos' spos:Pos}(hc:X.calm=true)(hN:X.N.Nodup)(hi':X.N[i]?=some x)(hx:X.env.scope.names.lookup x=some .local)(B:BlkOk X N M frees scope)(hi:XI X tg iter fi)(ht:Tame fg)(hb:∀C s H fp,XG (XF X N scope C s H fp) tg fg/\XTs (XF X N scope C s H fp) ifs fc/\XD (XF X N scope C s H fp) elt fe)(hsw:vv (.ListComp elt [⟨tg,iter,ifs,0⟩] scope pos) (some (.Name x pos')) spos.line X.env=pure true:=by rfl)(hs:∀x,vt iter X.env x=pure x:=by intro _;rfl):XS X (.Assign [.Name x pos'] (.ListComp elt [⟨tg,iter,ifs,0⟩] scope pos) spos) (Yo i (Yg M frees fi fg fc fe)):=by
 obtain⟨wi,h1,h2⟩:=hi;have b4:∀C s H fp,PG (XF X N scope C s H fp) tg (canG X.K fg)/\PTs (XF X N scope C s H fp) ifs (canT X.K fc)/\PE (XF X N scope C s H fp) elt (canD X.K fe):=λC s H fp=>⟨(hb C s H fp).1.can,(hb C s H fp).2.1.can,(hb C s H fp).2.2.can⟩;exact⟨_,qgG hc hN hi' hx B h1 b4 hsw hs,qaW (q9U h2 q9w q9F q8v ht)⟩
def Xy(X:Cx)(scope:ud):List Str->List Nat->Prop
 | [],[]=>True
 | x::xs,j::js=>(X.N[j]?=some x/\(X.env.kindOf x=some .cell\/X.env.kindOf x=some .free)/\scope.names.lookup x=some .free)/\Xy X scope xs js
 | _,_=>False
theorem q6s{X:Cx}{scope:ud}:∀{xs:List Str}{js:List Nat},Xy X scope xs js->∀(k:Nat)(x:Str),xs[k]?=some x->∃j,js[k]?=some j/\X.N[j]?=some x/\(X.env.kindOf x=some .cell\/X.env.kindOf x=some .free)/\scope.names.lookup x=some .free
 | [],_,_,_,_,e=>by simp at e
 | _::_,[],h,_,_,_=>h.elim
 | y::ys,i::is,⟨h1,h2⟩,0,x,e=>by
  have:y=x:=by simpa using e
  subst this;exact⟨i,rfl,h1⟩
 | y::ys,i::is,⟨h1,h2⟩,k+1,x,e=>by
  obtain⟨j,q⟩:=q6s h2 k x ⇑e;exact⟨j,by simpa using q.1,q.2⟩
theorem q5B{X:Cx}{scope:ud}:∀{xs:List Str}{js:List Nat},Xy X scope xs js->xs.length=js.length
 | [],[],_=>rfl
 | [],_::_,h=>h.elim
 | _::_,[],h=>h.elim
 | _::ys,_::is,⟨_,h2⟩=>by rw[zL,zL,q5B h2]
theorem blk{X:Cx}{scope:ud}(own free:List Str)(frees:List Nat)(h1:scope.kind=.function)(h2:∀y∈scope.names,y.2≠.cell)(h3:∀y∈scope.names,y.2=.local->scope.names.lookup y.1=some .local)(h4:(scope.names.all λp=>p.2 != .free || (X.env.cells.lookup p.1).isSome)=true)(h5:Xy X scope free frees):BlkOk X (own++free) own.length frees scope:=by
 refine⟨h1,h2,h3,λp hp hf=>?_,λk x e=>?_,by rw[zE,q5B h5]⟩
 ·have:=yo.mp h4 p hp
  rw[hf]at this;simpa using this
 ·rw[zW (Nat.le_add_right _ _),wU]at e
  exact q6s h5 k x e
end
noncomputable def entry(n:Nat)(ds:List D):WSt:=ds.map (λd=>↥d)++wB (n-ds.length) none
noncomputable def mir(n:Nat)(body:FS)(ds:List D):Option O:=match body (entry n ds)with
 | some (.rt r,_)=>some r
 | some (.nx,_)=>some (.sh .non)
 | _=>none
theorem qc3{K:zB}{H:Hp}{N:List Str}{ds:List D}{vs:List V}(h:YX K H ds vs)(i:Nat)(d:D)(e:(entry N.length ds)[i]?=some ↥d):∃v,(L2.start N vs)[i]?=some (some v)/\Rep K H d v:=by
 unfold entry at e;unfold L2.start;have hl:=h.len;rcases zx i ds.length with y|y
 ·rw[zb ⇑y,zY]at e
  have e1:ds[i]?=some d:=by
   cases q:ds[i]? with
   | none=>rw[q]at e;cases e
   | some d'=>rw[q]at e;cases e;rfl
  obtain⟨v,q1,q2⟩:=h.get e1;refine⟨v,?_,q2⟩;rw[zb ⇑((∅:i<vs.length)),zY,q1];rfl
 ·rw[zW ⇑y,yg]at e
  split at e <;> cases e
theorem q2r{n:Nat}{ds:List D}:Xb (entry n ds):=by
 intro i es z;unfold entry at z;rcases zx i ds.length with y|y
 ·rw[zb ⇑y,zY]at z
  cases q:ds[i]? with
  | none=>rw[q]at z;cases z
  | some d=>rw[q]at z;cases z;exact⟨d,rfl⟩
 ·rw[zW ⇑y,yg]at z
  split at z <;> cases z
theorem fnD{P:vO}{w:vU}{K:zB}{mg:Str->Option vB}{base:vZ}{x qual:Str}{st:vg}{f:vC}{fd:vK}{N ps:List Str}{k:Nat}{body:FS}(F:Fun K x qual st f fd)(S:FnScope N ps (YL st))(hb:∀(cdv:vB)(A:vY)(outer:List Env)(s:vF)(H:Hp)(E:XK),Room k (A.deeper (PyProof.Rows.envOfC qual (YL st) s.heap.objs.size f cdv))->XSs (zAd CX0 P w K mg base N qual (YL st) f cdv A outer s H E).nox (Y0 st) body):
  FnOk P w K mg base CX0 (k+1) f fd ps (spD K ps.length (mir N.length body)):=by
 refine F.ok S (λvs H Q E h=>?_) (λcdv A outer s H vs Q E hr h=>?_)
 ·obtain⟨G,ds,r,_,h2,_,h4,_⟩:=h
  rw[<- h4.len];exact h2
 ·obtain⟨G,ds,r,h1,h2,h3,h4,h5⟩:=h
  obtain⟨t,p1,p2⟩:=hb cdv A outer s H E hr;refine⟨t,p1,?_⟩;unfold mir at h1;have hl:=h4.len;have hpl:ps.length<=N.length:=by have:=vj yr S.pre;rw[zn]at this;omega
  have o0:Own K G (fr H) G (entry N.length ds) (L2.start N vs) H:=by
   refine⟨Ext.refl h3,?_,λi d e=>qc3 h4 i d e,λi es e=>vN e (q2r.ow i es),λi j es fs l e=>vN e (q2r.ow i es),λi ks es e=>vN e (q2r.od i ks es),Y6.no q2r.pw⟩;unfold entry L2.start;simp only[zE,zA,yk];omega
  cases q:body (entry N.length ds)with
  | none=>rw[q]at h1;cases h1
  | some p=>
   obtain⟨out,ω'⟩:=p;rw[q]at h1;refine p2 G (fr H) G _ _ H out ω' _ o0 q λG' σ' H' o' s'=>?_;cases out with
   | nx=>cases h1;exact h5 _ G' H' o'.ext rfl
   | bk=>cases h1
   | ct=>cases h1
   | rt r'=>cases h1;exact λv y=>h5 v G' H' o'.ext y
theorem q0I:vX "len" = some (.builtin "len"):=⋯
theorem q23:vX "all" = some (.builtin "all"):=⋯
theorem q6d:vX "sum" = some (.builtin "sum"):=⋯
theorem qdb:vX "min" = some (.builtin "min"):=⋯
theorem qdp:vX "max" = some (.builtin "max"):=⋯
theorem qd7:vX "abs" = some (.builtin "abs"):=⋯
theorem q3l:vX "sorted" = some (.builtin "sorted"):=⋯
theorem qid:vX "int" = some (.type "int"):=⋯
theorem qh6:vX "bool" = some (.type "bool"):=⋯
theorem q1j:vX "list" = some (.type "list"):=⋯
theorem q4f:vX "tuple" = some (.type "tuple"):=⋯
theorem qiV:vX "set" = some (.type "set"):=⋯
theorem qiD:vX "zip" = some (.type "zip"):=⋯
noncomputable def zAn(o:Option (Out×WSt))(g:FS):Option (Out×WSt):=o.bind λp=>match p.1 with
 | .nx=>g p.2
 | o=>some (o,p.2)
noncomputable def setS(i:Nat)(ω:WSt)(o:Option R):Option (Out×WSt):=o.bind λr=>(setR i r ω).map λw=>(.nx,w)
noncomputable def ifS(c:Option Bool)(f g:FS)(ω:WSt):Option (Out×WSt):=c.bind λb=>if b=true then f ω else g ω
noncomputable def retS(ω:WSt)(o:Option R):Option (Out×WSt):=o.bind λr=>match r with
 | .sh d=>some (.rt (.sh d),ω)
 | .fr ds=>some (.rt (.fr ds),ω)
 | .vw _=>none
noncomputable def retV(ω:WSt)(o:Option (Option W)):Option (Out×WSt):=match o with
 | some ↥d=>some (.rt (.sh d),ω)
 | some (some (.ow ds))=>some (.rt (.fr ds),ω)
 | _=>none
noncomputable def appS(i:Nat)(ω:WSt)(o:Option D)(l:Option (Option W)):Option (Out×WSt):=o.bind λd=>match l with
 | some (some (.ow ds))=>if ds.length<1000000 then some (.nx,ω.set i (some (.ow (ds++[d]))))else none
 | _=>none
noncomputable def extS(i:Nat)(ω:WSt)(o:Option D)(l:Option (Option W)):Option (Out×WSt):=o.bind λd=>(itemsOf d).bind λes=>match l with
 | some (some (.ow ds))=>if ds.length+es.length<=1000000 then some (.nx,ω.set i (some (.ow (ds++es))))else none
 | _=>none
noncomputable def shrS(i:Nat)(ω:WSt)(o:Option (Option W)):WSt:=match o with
 | some (some (.ow ds))=>ω.set i ↥(.lst ds)
 | some (some (.od ks ds))=>ω.set i ↥(.dic ks ds)
 | _=>ω
noncomputable def forS(o:Option (List D))(g:FG)(b:FS)(ω:WSt):Option (Out×WSt):=o.bind λds=>WM g b ds ω
noncomputable def varR(o:Option (Option W)):Option R:=match o with
 | some ↥d=>↥d
 | some (some (.ow ds))=>some (.vw ds)
 | some (some (.pw ds))=>some (.vw ds)
 | _=>none
noncomputable def eD(o:Option D):Option R:=o.map R.sh
noncomputable def dR(o:Option R):Option D:=match o with
 | ↥d=>some d
 | some (.fr ds)=>some (.lst ds)
 | _=>none
noncomputable def vR(o:Option R):Option D:=o.map R.d
noncomputable def op2(op:D->D->Option R)(x y:Option D):Option R:=x.bind λx=>y.bind λy=>op x y
noncomputable def callR(m:List D->Option O)(o:Option (List D)):Option R:=o.bind λds=>(m ds).map O.r
noncomputable def consA(o:Option D)(r:Option (List D)):Option (List D):=o.bind λd=>r.map λds=>d::ds
noncomputable def bltR(op:List D->Option R)(o:Option (List D)):Option R:=o.bind op
noncomputable def slR(o:Option D)(l h:Option (Option Int)):Option R:=o.bind λd=>l.bind λlo=>h.bind λhi=>oSl d lo hi
noncomputable def atP(o:Option D):Option (Option Int):=o.bind λd=>match d with|.int i=>some (some i)|_=>none
noncomputable def iteR(c:Option Bool)(f g:FE)(ω:WSt):Option R:=c.bind λk=>if k=true then f ω else g ω
noncomputable def zAa(c:Ty)(o:Option D):Option R:=o.bind λd=>match d with
 | .scr _=>none
 | .exc _=>none
 | .dic _ _=>none
 | d=>↥(.bl (WX (tyD d) c))
noncomputable def tR(o:Option R):Option Bool:=match o with
 | ↥(.bl k)=>some k
 | _=>none
noncomputable def andT(o:Option Bool)(g:FT)(ω:WSt):Option Bool:=o.bind λc=>if c=true then g ω else some false
noncomputable def orT(o:Option Bool)(g:FT)(ω:WSt):Option Bool:=o.bind λc=>if c=true then some true else g ω
noncomputable def notT(o:Option Bool):Option Bool:=o.map (!·)
noncomputable def truT(o:Option D):Option Bool:=o.bind truD
noncomputable def andV(o:Option D)(g:FD)(ω:WSt):Option D:=o.bind λd=>(blOf d).bind λc=>if c=true then g ω else some (.bl false)
noncomputable def seqI(o:Option D):Option (List D):=o.bind itemsOf
noncomputable def rg1I(o:Option (List D)):Option (List D):=o.bind λds=>match ds with
 | [.int j]=>if -(2^62)<=j/\j<2^62 then some (upTo 0 j.toNat)else none
 | _=>none
noncomputable def rg2I(o:Option (List D)):Option (List D):=o.bind λds=>match ds with
 | [.int i,.int j]=>if (-(2^62)<=i/\i<2^62)/\-(2^62)<=j/\j<2^62 then some (upTo i (j-i).toNat)else none
 | _=>none
noncomputable def compR(M:Nat)(fr:List Nat)(o:Option (List D))(g:FG)(c:FT)(f:FD)(ω:WSt):Option R:=o.bind λds=>if ds.length<=1000000 then (Yu g c f ds (inW M fr ω)).map R.fr else none
noncomputable def outM(o:Option (Out×WSt)):Option O:=match o with
 | some (.rt r,_)=>some r
 | some (.nx,_)=>some (.sh .non)
 | _=>none
section
variable{f g:FS}{ω w:WSt}{i:Nat}{fe fe':FE}{fd fd':FD}{ft ft':FT}{r:O}{d d':D}{ds ds':List D}{a b:Int}{p q:Bool}{fa:FA}{fg:FG}{fi:FI}{n:Nat}
theorem qg3:mir n f ds=outM (f (entry n ds)):=rfl
theorem qbi:outM (some (.rt r,w))=some r:=rfl
theorem qbA:outM (some (.nx,w))=some (.sh .non):=rfl
theorem q02:Ya f g ω=zAn (f ω) g:=rfl
theorem qbk:zAn (some (.nx,w)) g=g w:=rfl
theorem qaL:zAn (some (.rt r,w)) g=some (.rt r,w):=rfl
theorem qgC:Xq ω=some (.nx,ω):=rfl
theorem qg9:Yo i fe ω=setS i ω (fe ω):=rfl
theorem qbm:setS i ω ↥d=some (.nx,ω.set i ↥d):=rfl
theorem qb4:setS i ω (some (.fr ds))=some (.nx,ω.set i (some (.ow ds))):=rfl
theorem e_if:sIf ft f g ω=ifS (ft ω) f g ω:=rfl
theorem qeB:ifS (some true) f g ω=f ω:=rfl
theorem qdL:ifS (some false) f g ω=g ω:=rfl
theorem qgB:Ym fe ω=retS ω (fe ω):=rfl
theorem qbQ:retS ω ↥d=some (.rt (.sh d),ω):=rfl
theorem qbj:retS ω (some (.fr ds))=some (.rt (.fr ds),ω):=rfl
theorem qd3:WD i ω=retV ω ω[i]?:=rfl
theorem qbB:retV ω (some (some (.ow ds)))=some (.rt (.fr ds),ω):=rfl
theorem qg5:zAH i fd ω=appS i ω (fd ω) ω[i]?:=rfl
theorem zAG(h:ds.length<1000000):appS i ω (some d) (some (some (.ow ds)))=some (.nx,ω.set i (some (.ow (ds++[d])))):=vH h
theorem qgx:sExt i fd ω=extS i ω (fd ω) ω[i]?:=rfl
theorem q9B(h:ds.length+ds'.length<=1000000):extS i ω (some (.tup ds')) (some (some (.ow ds)))=some (.nx,ω.set i (some (.ow (ds++ds')))):=vH h
theorem q8U(h:ds.length+ds'.length<=1000000):extS i ω (some (.lst ds')) (some (some (.ow ds)))=some (.nx,ω.set i (some (.ow (ds++ds')))):=vH h
theorem qba:Yp i f ω=f (shrS i ω ω[i]?):=rfl
theorem qbW:shrS i ω (some (some (.ow ds)))=ω.set i ↥(.lst ds):=rfl
theorem qfV:WB fi fg f ω=forS (fi ω) fg f ω:=rfl
theorem e_fs:forS (some ds) fg f ω=WM fg f ds ω:=rfl
theorem qga:YI i ω=varR ω[i]?:=rfl
theorem qbe:varR (some ↥d)=↥d:=rfl
theorem qb6:varR (some (some (.ow ds)))=some (.vw ds):=rfl
theorem e_c:fC d ω=some d:=rfl
theorem e_e:eOf fd ω=eD (fd ω):=rfl
theorem e_ed:eD (some d)=↥d:=rfl
theorem e_d:dOf fe ω=dR (fe ω):=rfl
theorem qbF:dR ↥d=some d:=rfl
theorem qbs:dR (some (.fr ds))=some (.lst ds):=rfl
theorem e_v:vOf fe ω=vR (fe ω):=rfl
theorem qaQ:vR ↥d=some d:=rfl
theorem qbG:vR (some (.fr ds))=some (.lst ds):=rfl
theorem qaG:vR (some (.vw ds))=some (.lst ds):=rfl
theorem e_op{op}:YR op fd fd' ω=op2 op (fd ω) (fd' ω):=rfl
theorem e_o2{op}:op2 op (some d) (some d')=op d d':=rfl
theorem qcU{m}:YQ m fa ω=callR m (fa ω):=rfl
theorem e_cl{m}:callR m (some ds)=(m ds).map O.r:=rfl
theorem qbv:(O.sh d).r=.sh d:=rfl
theorem qbz:(O.fr ds).r=.fr ds:=rfl
theorem e_ac:YH fd fa ω=consA (fd ω) (fa ω):=rfl
theorem e_ca:consA (some d) (some ds)=some (d::ds):=rfl
theorem e_an:YS ω=some []:=rfl
theorem qfY:X3 fa ω=(fa ω).map R.fr:=rfl
theorem qgt:X9 fa ω=(fa ω).map D.tup:=rfl
theorem qgi{op}:Y4 op fa ω=bltR op (fa ω):=rfl
theorem e_bl{op}:bltR op (some ds)=op ds:=rfl
theorem qgb{l h:FO}:fSl fd l h ω=slR (fd ω) (l ω) (h ω):=rfl
theorem e_sl{lo hi:Option Int}:slR (some d) (some lo) (some hi)=oSl d lo hi:=rfl
theorem e_po:pNo ω=some none:=rfl
theorem e_pa:pAt fd ω=atP (fd ω):=rfl
theorem e_ap:atP (some (.int a))=some (some a):=rfl
theorem qgu:fIte ft fe fe' ω=iteR (ft ω) fe fe' ω:=rfl
theorem qcR:iteR (some true) fe fe' ω=fe ω:=rfl
theorem qeh:iteR (some false) fe fe' ω=fe' ω:=rfl
theorem qfW{c}:WZ c fd ω=zAa c (fd ω):=rfl
theorem q7N{c}:zAa c (some (.int a))=↥(.bl (WX .int c)):=rfl
theorem q9c{c}:zAa c (some (.bl p))=↥(.bl (WX .bl c)):=rfl
theorem q7w{c}:zAa c (some .non)=↥(.bl (WX .non c)):=rfl
theorem q7U{c x}:zAa c (some (.str x))=↥(.bl (WX .str c)):=rfl
theorem q7J{c}:zAa c (some (.lst ds))=↥(.bl (WX .lst c)):=rfl
theorem q80{c}:zAa c (some (.tup ds))=↥(.bl (WX .tup c)):=rfl
theorem e_t:tOf fe ω=tR (fe ω):=rfl
theorem e_tr:tR ↥(.bl p)=some p:=rfl
theorem qd6:Wd ft ft' ω=andT (ft ω) ft' ω:=rfl
theorem e_ta:andT (some p) ft ω=if p=true then ft ω else some false:=rfl
theorem qg0:(if p=true then some q else some false)=some (p&&q):=by cases p <;> rfl
theorem qgm:Wg ft ft' ω=orT (ft ω) ft' ω:=rfl
theorem e_to:orT (some p) ft ω=if p=true then some true else ft ω:=rfl
theorem qg1:(if p=true then some true else some q)=some (p || q):=by cases p <;> rfl
theorem qd9:Yz ft ω=notT (ft ω):=rfl
theorem e_tn:notT (some p)=some (!p):=rfl
theorem qe0:XX fd ω=truT (fd ω):=rfl
theorem qb7:truT (some (.bl p))=some p:=rfl
theorem q9b:truT (some (.lst ds))=some (!ds.isEmpty):=rfl
theorem qel:X5 fd fd' ω=andV (fd ω) fd' ω:=rfl
theorem e_va:andV (some (.bl p)) fd ω=if p=true then fd ω else some (.bl false):=rfl
theorem qgv:(if p=true then some (D.bl q)else some (D.bl false))=some (.bl (p&&q)):=by cases p <;> rfl
theorem qeF:Yy fd ω=seqI (fd ω):=rfl
theorem qeg:seqI (some (.lst ds))=some ds:=rfl
theorem qdY:seqI (some (.tup ds))=some ds:=rfl
theorem qfU:iRg1 fa ω=rg1I (fa ω):=rfl
theorem qgk:iRg2 fa ω=rg2I (fa ω):=rfl
theorem qjp(h:-(2^62)<=a/\a<2^62)(h':-(2^62)<=b/\b<2^62):rg2I (some [.int a,.int b])=some (upTo a (b-a).toNat):=vH ⟨h,h'⟩
theorem qdk{M fr}:Yg M fr fi fg ft fd ω=compR M fr (fi ω) fg ft fd ω:=rfl
theorem Y5{M fr}(h:ds.length<=1000000):compR M fr (some ds) fg ft fd ω=(Yu fg ft fd ds (inW M fr ω)).map R.fr:=vH h
theorem qfX:zAy fd ω=(fd ω).bind oNeg:=rfl
theorem e_ng:oNeg (.int a)=↥(.int (-a)):=rfl
theorem qbS:WG [.lst ds]=↥(.int ds.length):=rfl
theorem qbd:WG [.tup ds]=↥(.int ds.length):=rfl
theorem qbJ{ns}:WG [.scr ns]=↥(.int ns.length):=rfl
theorem q9j:W9 [.lst ds]=some (.fr ds):=rfl
theorem q8P:oEq false (.int a) (.int b)=↥(.bl (a==b)):=rfl
theorem qd0:oEq true (.int a) (.int b)=↥(.bl (!(a==b))):=rfl
theorem qb8:Wk (.int a) (.int b)=↥(.int (a-b)):=rfl
theorem qcM:oLt (.int a) (.int b)=↥(.bl (decide (a<b))):=rfl
theorem qe4:oLe (.int a) (.int b)=↥(.bl (decide (a<=b))):=rfl
theorem qeG:oGt (.int a) (.int b)=↥(.bl (decide (b<a))):=rfl
theorem qcQ:oGe (.int a) (.int b)=↥(.bl (decide (b<=a))):=rfl
theorem qaE:Yv (.int a) (.int b)=↥(.int (a+b)):=rfl
theorem qg4:oIx (.lst ds) (.int a)=(atI ds a).map R.sh:=rfl
theorem qgg:oIx (.tup ds) (.int a)=(atI ds a).map R.sh:=rfl
theorem qgd{ns:List Int}:oIx (.scr ns) (.int a)=(atI ns a).map λn=>.sh (.int n):=rfl
theorem q21{α:Type}{xs:List α}{i:Int}(h0:0<=i)(h1:i<xs.length):atI xs i=some (xs[i.toNat]'∅):=by
 unfold atI ixN;rw[vH h0,vH h1];show xs[i.toNat]?=_;rw[zC ∅]
theorem at0{α:Type}{x:α}{xs:List α}:atI (x::xs) 0=some x:=by
 rw[q21 (by decide) (by rw[zL];omega)];rfl
theorem at1{α:Type}{x y:α}{xs:List α}:atI (x::y::xs) 1=some y:=by
 rw[q21 (by decide) (by rw[zL,zL];omega)];rfl
theorem at2{α:Type}{x y z:α}{xs:List α}:atI (x::y::z::xs) 2=some z:=by
 rw[q21 (by decide) (by rw[zL,zL,zL];omega)];rfl
theorem qh1{i j:Int}(h0:0<j)(h1:j<1073741824):cDiv i j=true:=by unfold cDiv;rw[vW h0,vW h1];rfl
theorem qh8{i j:Int}(h0:0<j):cMod i j=true:=by unfold cMod;rw[vW h0]
theorem qfs{i j:Int}(h0:-(2^64)<j)(h1:j<2^64):zAe i j=true:=by unfold zAe;rw[vW h0,vW h1];simp
theorem qfL{i j:Int}(h0:-(2^64)<i)(h1:i<2^64):zAe i j=true:=by unfold zAe;rw[vW h0,vW h1];simp
theorem q1S(h:0<b):oMod (.int a) (.int b)=↥(.int (a%b)):=vH (qh8 h)
theorem qb5(h:0<b)(h':b<1073741824):oDiv (.int a) (.int b)=↥(.int (a/b)):=vH (qh1 h h')
theorem q39(h:-(2^64)<b)(h':b<2^64):WA (.int a) (.int b)=↥(.int (a*b)):=vH (qfs h h')
theorem q9q(h:-(2^64)<a)(h':a<2^64):WA (.int a) (.int b)=↥(.int (a*b)):=vH (qfL h h')
end
def WF(o:Option (Out×WSt))(P:WSt->Prop):Prop:=match o with
 | some (.nx,ω)=>P ω
 | some (.ct,ω)=>P ω
 | _=>False
theorem q7g{ω:WSt}{P:WSt->Prop}:WF (some (.nx,ω)) P=P ω:=rfl
theorem qQ{α:Type}{g:FG}{b:FS}(F:α->D)(xs:List α)(I:List α->WSt->Prop)(turn:∀pre x post ω,xs=pre++x::post->I pre ω->∃w,g (F x) ω=some w/\WF (b w) (I (pre++[x]))){ω:WSt}(h0:I [] ω):∃ω',WM g b (xs.map F) ω=some (.nx,ω')/\I xs ω':=by
 have key:∀(post pre:List α)(ω:WSt),xs=pre++post->I pre ω->∃ω',WM g b (post.map F) ω=some (.nx,ω')/\I xs ω':=by
  intro post
  induction post with
  | nil=>intro pre ω e h;exact⟨ω,rfl,by rw[e,zw];exact h⟩
  | cons d post ih=>
   intro pre ω e h;obtain⟨w,h1,h2⟩:=turn pre d post ω e h;rw[zR,WM,h1,yb]
   match hb:b w,h2 with
   | some (.nx,ω2),h2=>exact ih (pre++[d]) ω2 (by rw[e,yB];rfl) h2
   | some (.ct,ω2),h2=>exact ih (pre++[d]) ω2 (by rw[e,yB];rfl) h2
 exact key xs [] ω rfl h0
theorem qe2{g:FG}{b:FS}(lo:Int)(n:Nat)(I:Nat->WSt->Prop)(turn:∀i ω,i<n->I i ω->∃w,g (.int (lo+i)) ω=some w/\WF (b w) (I (i+1))){ω:WSt}(h0:I 0 ω):∃ω',WM g b (Hk.upTo lo n) ω=some (.nx,ω')/\I n ω':=by
 unfold Hk.upTo;obtain⟨ω',e,h⟩:=qQ (g:=g) (b:=b) (λ(i:Nat)=>D.int (lo+(i:Int))) (yI n) (λpre ω=>I pre.length ω) (λpre x post ω e h=>by
  have hx:x=pre.length:=by
   have:=vj (λl=>l[pre.length]?) e;rw[zW (zN _),we]at this;rcases zx pre.length n with z|z
   ·rw[yz z]at this;simpa using this.symm
   ·rw[zu (by rw[yH];exact z)]at this;cases this
  have hlt:pre.length<n:=by
   have:=vj yr e;rw[yH,zE,zL]at this;omega
  subst hx;obtain⟨w,h1,h2⟩:=turn pre.length ω hlt h;refine⟨w,h1,?_⟩;rw[zE];exact h2) h0
 rw[yH]at h;exact⟨ω',e,h⟩
theorem q3m{g:FG}{c:FT}{f:FD}(P:WSt->Prop)(q:D->Bool)(F:D->D):∀(ds:List D){ω:WSt},P ω ->
  (∀d∈ds,∀ω,P ω->∃w,g d ω=some w/\P w/\c w=some (q d)/\(q d=true->f w=some (F d)))->Yu g c f ds ω=some ((ds.filter q).map F)
 | [],_,_,_=>rfl
 | d::ds,ω,h,t=>by
  obtain⟨w,h1,h2,h3,h4⟩:=t d zD ω h;have ih:=q3m P q F ds h2 (λe he=>t e (zG _ he));rw[Yu,h1,yb,h3,yb];cases hq:q d with
  | true=>rw[vH rfl,h4 hq,yb,ih,yW hq];rfl
  | false=>rw[vJ (by decide),ih,yX (by rw[hq];decide)]
theorem q3t{i:Nat}{f:FD}(F:D->D)(ds:List D){ω:WSt}(h:∀d∈ds,f (ω.set i ↥d)=some (F d)):Yu (gN i) Yc f ds ω=some (ds.map F):=by
 have:=q3m (g:=gN i) (c:=Yc) (f:=f) (λw=>∀x,w.set i x=ω.set i x) (λ_=>true) F ds (ω:=ω) (λx=>rfl) λd hd w hw=>
  ⟨w.set i ↥d,rfl,λx=>by rw[Zf,hw],rfl,λ_=>by rw[hw];exact h d hd⟩
 rw[this,yR.mpr (λ_ _=>rfl)]
theorem q7X{i:Nat}{c:FT}{f:FD}(q:D->Bool)(F:D->D)(ds:List D){ω:WSt}(h:∀d∈ds,c (ω.set i ↥d)=some (q d)/\(q d=true->f (ω.set i ↥d)=some (F d))):Yu (gN i) c f ds ω=some ((ds.filter q).map F) :=
 q3m (g:=gN i) (c:=c) (f:=f) (λw=>∀x,w.set i x=ω.set i x) q F ds (ω:=ω) (λx=>rfl) λd hd w hw=>
  ⟨w.set i ↥d,rfl,λx=>by rw[Zf,hw],by rw[hw];exact(h d hd).1,λz=>by rw[hw];exact(h d hd).2 z⟩
theorem qfZ{ds:List D}{lo hi:Option Int}:oSl (.lst ds) lo hi=some (.fr (cutD ds lo hi)):=rfl
theorem qjs{ns:List Int}{lo hi:Option Int}:oSl (.scr ns) lo hi=some (.fr ((cutD ns lo hi).map D.int)):=rfl
theorem q5h{xs ys:List D}(h:xs.length+ys.length<=1000000):Yv (.lst xs) (.lst ys)=some (.fr (xs++ys)):=vH h
theorem q8R(a:Int):∀(ns:List Int),inD (.int a) (ns.map D.int)=decide (a∈ns)
 | []=>rfl
 | n::r=>by
  have ih:=q8R a r;unfold inD inV at ih ⊢;rw[zR,zR,xg,ih];have e:eqV (D.int n).v (D.int a).v=decide (a=n):=by
   show (n==a)=_
   by_cases h:a=n
   ·subst h;simp
   ·rw[vT h];simpa using λz=>h z.symm
  rw[e]
  by_cases h:a=n
  ·simp[h]
  ·by_cases h':a∈r <;> simp[h,h']
theorem qfy{d:D}(h:shp d=true):eqD d d=true:=SeqAt.eqv_refl d.py (SeqAt.canLay_of_shaped h)
theorem q5F{d:D}(h:shp d=true):oEq false d d=↥(.bl true):=by
 unfold oEq;rw[h];show some (R.sh (D.bl (eqD d d)))=_;rw[qfy h]
theorem qaO{ds:List D}(n:Nat)(hn:n<64)(h:∀d∈ds,d.py.canLay0=true/\d.py.depth<=n):shp (.lst ds)=true:=by
 unfold shp SeqAt.shaped;have:∀ds:List D,(∀d∈ds,d.py.canLay0=true/\d.py.depth<=n)->PyData.canLayAll0 (D.pys ds)=true/\PyData.depthAll (D.pys ds)<=n:=by
  intro ds
  induction ds with
  | nil=>intro _;exact⟨rfl,yQ _⟩
  | cons d ds ih=>
   intro h;obtain⟨a,b⟩:=ih λe he=>h e (zG _ he);obtain⟨a',b'⟩:=h d zD;refine⟨?_,?_⟩
   ·rw[D.pys,PyData.canLayAll0,a,a'];rfl
   ·rw[D.pys,PyData.depthAll];exact Nat.max_le.mpr ⟨b',b⟩
 obtain⟨a,b⟩:=this ds h;show (PyData.canLayAll0 (D.pys ds)&&decide (PyData.depthAll (D.pys ds)+1<=64))=true;rw[a,vW ∅];rfl
noncomputable def Wf(x:Int):List Int->List Int
 | []=>[x]
 | y::r=>if x<y then x::y::r else if x=y then y::r else y::Wf x r
noncomputable def YY(ns:List Int):List Int:=ns.foldr Wf []
theorem q5N{x y:Int}:∀{l:List Int},y∈Wf x l↔y=x\/y∈l
 | []=>by simp[Wf]
 | z::r=>by
  unfold Wf
  split
  ·simp
  ·split
   ·rename_i h;subst h;simp
   ·simp only[zF,q5N (l:=r)]
    constructor
    ·rintro(h|h|h) <;> simp[h]
    ·rintro(h|h|h) <;> simp[h]
theorem q7u{x:Int}:∀{l:List Int},l.Pairwise (· < ·)->(Wf x l).Pairwise (· < ·)
 | [],_=>by simp[Wf]
 | z::r,h=>by
  obtain⟨h1,h2⟩:=zV.mp h;unfold Wf
  split
  ·rename_i hx
   refine zV.mpr ⟨λy hy=>?_,h⟩;rcases zF.mp hy with rfl|hy
   ·exact hx
   ·exact Int.lt_trans hx (h1 y hy)
  ·split
   ·exact h
   ·refine zV.mpr ⟨λy hy=>?_,q7u h2⟩
    rcases q5N.mp hy with rfl|hy
    ·omega
    ·exact h1 y hy
theorem q0B{y:Int}:∀{ns:List Int},y∈YY ns↔y∈ns
 | []=>by simp[YY]
 | x::r=>by
  show y∈Wf x (YY r)↔_;rw[q5N,q0B (ns:=r),zF]
theorem q05:∀{ns:List Int},(YY ns).Pairwise (· < ·)
 | []=>xi
 | x::r=>q7u (q05 (ns:=r))
theorem q9Q{x:Int}:∀(l:List Int),(Wf x l).length<=l.length+1
 | []=>by simp[Wf]
 | z::r=>by
  have:=q9Q (x:=x) r;unfold Wf
  split
  ·simp
  ·split
   ·simp
   ·rw[zL,zL];omega
theorem q0C:∀(l:List Int),(YY l).length<=l.length
 | []=>zN _
 | x::r=>by
  have h1:=q9Q (x:=x) (YY r);have h2:=q0C r;show (Wf x (YY r)).length<=_;rw[zL];omega
theorem qbn:∀{l m:List Int},l.Pairwise (· < ·)->m.Pairwise (· < ·)->(∀x,x∈l↔x∈m)->l=m
 | [],[],_,_,_=>rfl
 | [],y::r,_,_,h=>vN ((h y).mpr zD) (by simp)
 | x::r,[],_,_,h=>vN ((h x).mp zD) (by simp)
 | x::r,y::q,hl,hm,h=>by
  obtain⟨a1,a2⟩:=zV.mp hl;obtain⟨b1,b2⟩:=zV.mp hm;have e:x=y:=by
   rcases zF.mp ((h x).mp zD)with e|e
   ·exact e
   ·rcases zF.mp ((h y).mpr zD)with f|f
    ·exact f.symm
    ·have:=b1 x e;have:=a1 y f;omega
  subst e;rw[qbn a2 b2 λz=>?_]
  constructor
  ·intro hz
   rcases zF.mp ((h z).mp (zG _ hz))with f|f
   ·have:=a1 z hz;omega
   ·exact f
  ·intro hz
   rcases zF.mp ((h z).mpr (zG _ hz))with f|f
   ·have:=b1 z hz;omega
   ·exact f
theorem qay{l:List Int}(h:l.Pairwise (· <= ·))(n:l.Nodup):l.Pairwise (· < ·):=by
 induction l with
 | nil=>exact xi
 | cons x r ih=>
  obtain⟨h1,h2⟩:=zV.mp h;obtain⟨n1,n2⟩:=ye.mp n;refine zV.mpr ⟨λy hy=>?_,ih h2 n2⟩;have:=h1 y hy;have:x≠y:=λe=>n1 (e▸hy);omega
def setP(w:vU)(S:vC)(ns:List Int):vZ->Prop:=λh=>zAP h S (Y1 w) (λi=>ns.getD i 0) ns.length
def rSet(w:vU):List V->Hp->VK->Prop:=λxs H Q=>∃p ns,xs=[.ref p]/\H p=some (.lst (ns.map V.int))/\ns.length+1<4096/\∀S,H S=none->Q (.ref S) (upd H S (.ext (setP w S ns)))
def fewS(ns:List Int):Prop:=(YY ns).length<64/\ns.length<4000
noncomputable instance (ns:List Int):Decidable (fewS ns):=inferInstanceAs (Decidable (_/\_))
theorem qdq{ns:List Int}(h:ns.length<64):fewS ns:=⟨wF (q0C ns) h,∅⟩
def rSortS(w:vU):List V->Hp->VK->Prop:=λxs H Q=>∃S ns,xs=[.ref S]/\H S=some (.ext (setP w S ns))/\fewS ns/\∀l,H l=none->Q (.ref l) (upd H l (.lst ((YY ns).map V.int)))
section
variable{X:Cx}
theorem qdK{pins:List (vC×Obj)}{σ:St}{H:Hp}{s:vF}(I:L2.Inv X pins σ H s)(d:Drawn):L2.Inv X pins σ H { s with drawn:=d } :=
 ⟨I.ok,I.os,I.bare,I.base,I.loc,I.cell,I.free,I.freeC,I.pin,I.hok,I.len⟩
theorem qfc(hc:X.calm=true):XB X (.type "set") (rSet X.w):=by
 intro pins s σ H xs us Q I r h;obtain⟨p,ns,rfl,hp,hz,q⟩:=h;obtain⟨u,rfl,rx⟩:=vals1 r;cases rx;obtain⟨its,n,rv,e,_⟩:=I.lst hp;have ia:=q1r rv;have hlen:its.length=ns.length:=by rw[<- rv.length,zA]
 refine qag (items:=its.toArray) (ns:=ns) (I.ok.hd hc) ⟨_,e,rfl,n,rfl⟩ ⇑ia (by rw[zO,hlen];exact hz) λh' tk sv kp=>?_;have hsz:its.toArray.size=ns.length:=by rw[zO,hlen]
 rw[hsz]at sv;refine⟨.ref s.heap.objs.size,_,I.laid (t':=tk) (λb o e=>kp b o (zP e) e) (zN _) (show Yi X.prog X.w _ h' _ (.ext (setP X.w s.heap.objs.size ns))from ⟨sv,?_,λh1 h2 a1 a2=>a1.at a2⟩),rfl,q _ (I.hok.fresh (zN _))⟩;obtain⟨_,⟨o,_,_,_,e,_⟩,_⟩:=sv;exact⟨o,e⟩
theorem qco(hc:X.calm=true):XB X (.builtin "sorted") (rSortS X.w):=by
 intro pins s σ H xs us Q I r h;obtain⟨S,ns,rfl,hp,hz,q⟩:=h;obtain⟨u,rfl,rx⟩:=vals1 r;cases rx;obtain⟨⟨zs,SI,hl,hm⟩,_⟩:=I.hok S _ hp;obtain⟨o,es,ep,t,go,gx,gd,T,gl,gb,gg,gv,gn⟩:=id SI;have mz:∀x,x∈zs↔x∈YY ns:=λx=>by
  rw[hm,q0B]
  constructor
  ·rintro⟨i,hi,rfl⟩
   dsimp only
   rw[zq,zC hi];exact zZ hi
  ·intro hx
   obtain⟨i,hi,e⟩:=zi.mp hx;exact⟨i,hi,by dsimp only;rw[zq,zC hi];exact e⟩
 have zl:=((y9 gn ((q05 (ns:=ns)).imp λh=>∅)).mpr mz).length_eq;refine qcu (I.ok.hd hc) SI (by rw[zl];exact hz.1) λD h' tk d vs ys n kp hD hg ia pm pw=>?_;have ey:ys=YY ns:=qbn (qay pw (pm.nodup_iff.mpr gn)) q05 λx=>by rw[pm.mem_iff,mz]
 subst ey;have hvl:vs.length=(YY ns).length:=PyProof.Rows.IntsAre.length ia;have hsl:(YY ns).length<=sizeLine:=by
  have:=pm.length_eq;exact yA (show (YY ns).length<=64 from yP hz.1) (by decide)
 have I2:=qdK (I.laid (a:=D) (o:=.lst ((YY ns).map V.int)) (t':=tk) kp hD (show Yi X.prog X.w _ h' _ (.lst _)from ⟨by rw[zA];exact hsl,vs,n,q2a ia,hg⟩)) d;exact⟨.ref D,_,I2,rfl,q _ (I.hok.fresh hD)⟩
noncomputable def intsOf:List D->Option (List Int)
 | []=>some []
 | .int i::r=>(intsOf r).map λl=>i::l
 | _=>none
theorem q1i:∀{ds:List D}{ns:List Int},intsOf ds=some ns->ds=ns.map D.int
 | [],_,e=>by cases e;rfl
 | .int c::r,b,e=>by
  obtain⟨k,q,e⟩:=mpd e;subst e;rw[q1i q];rfl
 | .non::_,_,e=>by cases e
 | .bl _::_,_,e=>by cases e
 | .str _::_,_,e=>by cases e
 | .lst _::_,_,e=>by cases e
 | .tup _::_,_,e=>by cases e
 | .scr _::_,_,e=>by cases e
 | .exc _::_,_,e=>by cases e
 | .dic _ _::_,_,e=>by cases e
theorem q0k:∀(ns:List Int),intsOf (ns.map D.int)=some ns
 | []=>rfl
 | n::r=>by show (intsOf (r.map D.int)).map _=_;rw[q0k r];rfl
noncomputable def WJ:D->Option R
 | .lst ds=>(intsOf ds).bind λns=>if fewS ns then some (.fr ((YY ns).map D.int))else none
 | _=>none
noncomputable def Y8(f:FD):FE:=λω=>(f ω).bind WJ
theorem q6K{a:vP}{f:FD}{p1 p2 q1 q2:Pos}(hg1:Gl X "sorted")(hm1:X.mg "sorted" = none)(hg2:Gl X "set")(hm2:X.mg "set" = none)(ha:XV X a f)(hc:X.calm=true:=by rfl)(he1:vL [a] X.env=(false,eval a X.env)::vL [] X.env:=by rfl)(hpl1:(vn q2 (vL [] X.env)).any (·.1)=false:=by rfl)(he2:vL [.Call (.Name "set" p2) [a] [] q2] X.env=(false,eval (.Call (.Name "set" p2) [a] [] q2) X.env)::vL [] X.env:=by rfl)(hpl2:(vn q1 (vL [] X.env)).any (·.1)=false:=by rfl):
  XE X (.Call (.Name "sorted" p1) [.Call (.Name "set" p2) [a] [] q2] [] q1) (Y8 f):=by
 obtain⟨t,h1,h2⟩:=ha;refine⟨_,q2Y (qco hc) hg1 hm1 q3l (qS (q7s (qfc hc) hg2 hm2 qiV (qS h1 q0b he1) (by decide) (by decide) he1 hpl1) q0b he2) (by decide) (by decide) he2 hpl2,λG0 H0 G ω σ H r Q o e k=>?_⟩;obtain⟨d,q,e⟩:=bnd e;refine h2 G0 H0 G ω σ H d _ o q λv G1 H1 x1 y1=>?_;cases d with
 | lst ds=>
  obtain⟨ns,e1,e2⟩:=bnd (show (intsOf ds).bind _=some r from e);have hds:=q1i e1;subst hds
  by_cases hz:fewS ns
  ·rw[vH hz]at e2
   cases e2;obtain⟨p,vs,rfl,g1,g2⟩:=y1.lst x1.gh;have hv:=g2.of_ints;subst hv;refine⟨p,ns,rfl,g1,by have:=hz.2;omega,λS hS=>?_⟩;refine⟨S,ns,rfl,qg,hz,λl hl=>?_⟩;have x2:=Ext.hide x1.gh hS (.ext (setP X.w S ns));have x3:=Ext.hide x2.gh hl (.lst ((YY ns).map V.int));exact k _ G1 _ ((x1.trans x2).trans x3) ⟨l,_,rfl,(x1.trans x2).hh.free hl,x2.gh.free hl,qg,YX.ints _⟩
  ·rw[vJ hz]at e2;cases e2
 | _=>cases e
end
end Hk
namespace PySem.F
theorem noLenZip:u9 (.type "zip") "__len__" = pure none:=by rw[uN,v3];kernel_rfl
theorem noHintZip:u9 (.type "zip") "__length_hint__" = pure none:=by rw[uN,v3];kernel_rfl
end PySem.F
namespace Hk
open PySem PySem.Spec PyProof.Rows
section
variable{prog:vO}{w:vU}{A:vY}{E:vB->vF->Prop}{s:vF}
abbrev X4(h:vZ)(z TI TO:vC)(f0 f1:vB):Prop:=h.get? z=some { cls:=.type "zip", dict:=none,data:=.fields #[f0,f1,.bool false,.ref TI,.ref TO],slots:=#[] }
theorem qf9{a:vC}{Q:Option Obj->vF->Prop}(h:Q (s.heap.get? a) s):vM (model prog w) A (loadIfAlive a) Q E s:=λ_ _ _=>h
theorem qb3{z TI TO t:vC}{ot:Obj}{f1:vB}{Q:Bool->vF->Prop}(hz:X4 s.heap z TI TO (uI t) f1)(ht:s.heap.get? t=some ot)(k:∀h' f1',X4 h' z TI TO (uI t) f1'->xD z s.heap h'->Q false { s with heap:=h' }):vM (model prog w) A (Builtin.SmallTypes.ownedTupleIsFree (.ref z)) Q E s:=by
 unfold Builtin.SmallTypes.ownedTupleIsFree;refine vA (uH hz rfl (x:=uI t) rfl ?_);show vM _ _ (loadIfAlive ((t:Int)).toNat >>= _) _ _ _;rw[yu];refine vA (qf9 ?_);rw[ht];show vM _ _ (field (.ref z) 1 >>= _) _ _ _;refine vA (uH hz rfl (x:=f1) rfl ?_);refine vf (λ_=>?_) (λ_=>?_)
 ·refine vA (v4 hz (by simp) λh1 e1 sb=>vG (k h1 (.bool true) e1 sb))
 ·exact vG (k s.heap f1 hz (Zd z s.heap))
theorem qcK{z TI TO i1 i2 l1 l2 t:vC}{ot:Obj}{f1:vB}{k1 k2:Nat}{xs ys:Array vB}{x y:vB}{Q:Option vB->vF->Prop}(D:uh z TI TO i1 i2 l1 l2)(hz:X4 s.heap z TI TO (uI t) f1)(ht:s.heap.get? t=some ot)(hTI:uZ s.heap TI (.ref i1) (.ref i2))(h1:s.heap.IsListIter i1 l1 k1)(h2:s.heap.IsListIter i2 l2 k2)(hl1:s.heap.IsList l1 xs)(hl2:s.heap.IsList l2 ys)(hx:xs[k1]?=some x)(hy:ys[k2]?=some y)(hQ:∀h' f1',X4 h' z TI TO (uI t) f1'->h'.IsListIter i1 l1 (k1+1)->h'.IsListIter i2 l2 (k2+1)->uZ h' s.heap.objs.size x y ->
   (∀c o,c≠z->c≠i1->c≠i2->s.heap.get? c=some o->h'.get? c=some o)->Q (some (.ref s.heap.objs.size)) { s with heap:=h' }) :
  vM (model prog w) A (uG (.ref z)) Q E s:=by
 have hT:s.TypeIs (.ref z) "zip" := ⟨_,hz,rfl⟩;unfold uG;refine vA (uO (wpAny_callSpecial?_slot (name:=Str.ofString "__next__") hT PySem.F.slot_zip_next (vi PySem.F.slot_zip_next hT PySem.F.entry_zip_next ?_ (PySem.F.args_zip_next_1 _))));show vM _ _ (field (.ref z) 2 >>= _) _ _ _;refine vA (uH hz rfl (x:=.bool false) rfl ?_);show vM _ _ (field (.ref z) 3 >>= _) _ _ _;refine vA (uH hz rfl (x:=.ref TI) rfl ?_);refine vA (uY hTI rfl ?_);show vM _ _ (Builtin.SmallTypes.ownedTupleIsFree (.ref z) >>= _) _ _ _;refine vA (qb3 hz ht λh' f1' hz1 sb1=>?_);simp only[yC,if_false];have a1:=h1.extBut sb1.extBut D.i1z;have a2:=h2.extBut sb1.extBut D.i2z;have b1:=hl1.extBut sb1.extBut D.l1z;have b2:=hl2.extBut sb1.extBut D.l2z;rw[<- ZT];simp only[wq,Z3];refine vA (vA (vA (vc ?_)));show vM _ _ (Builtin.SmallTypes.nextOf (.ref i1) >>= _) _ _ _;refine vA (ua a1 b1 hx λh₂ c1 sb2=>vG ?_);refine vG ?_;refine vA (vA (vc ?_));show vM _ _ (Builtin.SmallTypes.nextOf (.ref i2) >>= _) _ _ _;refine vA (ua (a2.extBut sb2.extBut D.i12.symm) (b2.extBut sb2.extBut D.l2i1) hy λh₃ c2 sb3=>vG ?_);refine vG (vG ?_);show vM _ _ (newTuple [x,y] >>= _) _ _ _;refine vA (tJ ?_);have hsz:h₃.objs.size=s.heap.objs.size:=by rw[sb3.1,sb2.1,sb1.1]
 refine vG ⟨_,rfl,vG ?_⟩
 dsimp only
 rw[hsz];refine hQ _ f1' ?_ ?_ ?_ ?_ ?_
 ·exact zH _ (sb3.extBut _ _ D.i2z.symm (sb2.extBut _ _ D.i1z.symm hz1))
 ·exact(c1.extBut sb3.extBut D.i12).at λo e=>zH _ e
 ·exact c2.at λo e=>zH _ e
 ·have:=zT h₃ (o:={ cls:=.type "tuple", data:=.seq [x,y].toArray }) rfl
  rw[hsz]at this;exact this
 ·exact λc o n1 n2 n3 e=>zH _ (sb3.extBut _ _ n3 (sb2.extBut _ _ n2 (sb1.extBut _ _ n1 e)))
theorem qfn{z TI TO i1 i2 l1 l2 t:vC}{ot:Obj}{f1:vB}{k1 k2:Nat}{xs ys:Array vB}{Q:Option vB->vF->Prop}(hh:A.handled=none)(D:uh z TI TO i1 i2 l1 l2)(hz:X4 s.heap z TI TO (uI t) f1)(ht:s.heap.get? t=some ot)(hTI:uZ s.heap TI (.ref i1) (.ref i2))(h1:s.heap.IsListIter i1 l1 k1)(h2:s.heap.IsListIter i2 l2 k2)(hl1:s.heap.IsList l1 xs)(hl2:s.heap.IsList l2 ys)(hend:xs[k1]?=none\/ys[k2]?=none)(hQ:∀h',(∀c o,c≠z->c≠i1->c≠i2->s.heap.get? c=some o->h'.get? c=some o)->Q none { s with heap:=h' }):
  vM (model prog w) A (uG (.ref z)) Q E s:=by
 have hT:s.TypeIs (.ref z) "zip" := ⟨_,hz,rfl⟩;unfold uG;refine vA (uO (wpAny_callSpecial?_slot (name:=Str.ofString "__next__") hT PySem.F.slot_zip_next (vi PySem.F.slot_zip_next hT PySem.F.entry_zip_next ?_ (PySem.F.args_zip_next_1 _))));show vM _ _ (field (.ref z) 2 >>= _) _ _ _;refine vA (uH hz rfl (x:=.bool false) rfl ?_);show vM _ _ (field (.ref z) 3 >>= _) _ _ _;refine vA (uH hz rfl (x:=.ref TI) rfl ?_);refine vA (uY hTI rfl ?_);show vM _ _ (Builtin.SmallTypes.ownedTupleIsFree (.ref z) >>= _) _ _ _;refine vA (qb3 hz ht λh' f1' hz1 sb1=>?_);simp only[yC,if_false];have a1:=h1.extBut sb1.extBut D.i1z;have a2:=h2.extBut sb1.extBut D.i2z;have b1:=hl1.extBut sb1.extBut D.l1z;have b2:=hl2.extBut sb1.extBut D.l2z;rw[<- ZT];simp only[wq,Z3];refine vA (vA (vA (vc ?_)));show vM _ _ (Builtin.SmallTypes.nextOf (.ref i1) >>= _) _ _ _;cases hx:xs[k1]? with
 | none=>
  refine vA (tF hh a1 b1 hx λh₂ e sb2 he=>?_);obtain⟨o,ho,hc⟩:=he;refine vA (uS (T := "StopIteration") (b:=true) ⟨o,ho,hc⟩ uv ?_);exact vG (hQ _ λc o n1 n2 n3 e=>sb2 _ _ n2 (sb1.extBut _ _ n1 e))
 | some x=>
  have hy:ys[k2]?=none:=by rcases hend with h|h;rw[hx]at h;cases h;exact h
  refine vA (ua a1 b1 hx λh₂ c1 sb2=>vG ?_);refine vG ?_;refine vA (vA (vc ?_));show vM _ _ (Builtin.SmallTypes.nextOf (.ref i2) >>= _) _ _ _;refine vA (tF hh (a2.extBut sb2.extBut D.i12.symm) (b2.extBut sb2.extBut D.l2i1) hy λh₃ e sb3 he=>?_);obtain⟨o,ho,hc⟩:=he;refine vA (uS (T := "StopIteration") (b:=true) ⟨o,ho,hc⟩ uv ?_);exact vG (hQ _ λc o n1 n2 n3 e=>sb3 _ _ n3 (sb2.extBut _ _ n2 (sb1.extBut _ _ n1 e)))
structure ZSt (h0:vZ) (S z TI TO i1 i2 l1 l2:vC) (xs ys:Array vB) (ts:List vC) (h:vZ):Prop where
 zip:(ts=[]/\X4 h z TI TO .none (.bool false))\/∃t f1,t∈ts/\X4 h z TI TO (uI t) f1
 pTI:uZ h TI (.ref i1) (.ref i2)
 pTO:∃a b,uZ h TO a b
 it1:h.IsListIter i1 l1 ts.length
 it2:h.IsListIter i2 l2 ts.length
 hl1:h.IsList l1 xs
 hl2:h.IsList l2 ys
 tups:∀(j:Nat)t,ts[j]?=some t->∃x y,xs[j]?=some x/\ys[j]?=some y/\uZ h t x y
 old:∀t∈ts,t≠S/\t≠z/\t≠TO/\t≠i1/\t≠i2
 nd:ts.Nodup
 new:∀t∈ts,h0.objs.size<=t
 keep:∀b o,b≠S->h0.get? b=some o->h.get? b=some o
theorem qfI{h0:vZ}{S z TI TO i1 i2 l1 l2:vC}{xs ys:Array vB}{ts:List vC}{Q:Option vB->vF->Prop}(D:uh z TI TO i1 i2 l1 l2)(hf:∀b∈[z,TO,i1,i2],h0.get? b=none)(hS:S∉[z,TI,TO,i1,i2,l1,l2])(Z:ZSt h0 S z TI TO i1 i2 l1 l2 xs ys ts s.heap)(hSo:∃o,s.heap.get? S=some o)(hsz:h0.objs.size<=s.heap.objs.size)(hlt:ts.length<min xs.size ys.size)(k:∀h' t,ZSt h0 S z TI TO i1 i2 l1 l2 xs ys (ts++[t]) h'->(∀o,s.heap.get? S=some o->h'.get? S=some o)->s.heap.objs.size<=h'.objs.size->Q (some (.ref t)) { s with heap:=h' }):
  vM (model prog w) A (uG (.ref z)) Q E s:=by
 have hix:ts.length<xs.size:=zt hlt (wu ..);have hiy:ts.length<ys.size:=zt hlt (Zn ..);obtain⟨a,b,hTO⟩:=Z.pTO;obtain⟨oS,hoS⟩:=hSo;have gx:=z9 hix;have gy:=z9 hiy;simp only[zF,zg,or_false,not_or]at hS;have nz:∀b o,h0.get? b=some o->b≠z/\b≠TO/\b≠i1/\b≠i2:=λb o e=>
  ⟨λq=>(by have:=hf z (by simp);rw[q,this]at e;cases e),λq=>(by have:=hf TO (by simp);rw[q,this]at e;cases e),λq=>(by have:=hf i1 (by simp);rw[q,this]at e;cases e),λq=>(by have:=hf i2 (by simp);rw[q,this]at e;cases e)⟩
 have fin:∀(h':vZ)(f1:vB)(u:vC),u∈ts++[s.heap.objs.size]->X4 h' z TI TO (uI u) f1->(∃a b,uZ h' TO a b)->h'.IsListIter i1 l1 (ts.length+1)->h'.IsListIter i2 l2 (ts.length+1)->uZ h' s.heap.objs.size xs[ts.length] ys[ts.length] ->
   (∀c o,c≠z->c≠TO->c≠i1->c≠i2->s.heap.get? c=some o->h'.get? c=some o)->Q (some (.ref s.heap.objs.size)) { s with heap:=h' }:=λh' f1 u hu g1 g2 g3 g4 g5 g6=>by
  refine k h' _ ⟨.inr ⟨u,f1,hu,g1⟩,g6 _ _ D.TIz D.TITO D.TIi1 D.TIi2 Z.pTI,g2,by rw[zE];exact g3,by rw[zE];exact g4,Z.hl1.at λo e=>g6 _ o D.l1z D.l1TO D.l1i1 D.l1i2 e,Z.hl2.at λo e=>g6 _ o D.l2z D.l2TO D.l2i1 D.l2i2 e,λj t ht=>?_,λt ht=>?_,?_,λt ht=>?_,λb o hb e=>?_⟩ (λo e=>?_) (yP (zP g5))
  ·rcases zx j ts.length with y|y
   ·rw[zb y]at ht
    obtain⟨p,q,r1,r2,r3⟩:=Z.tups j t ht;have ho:=Z.old t (yJ ht);exact⟨p,q,r1,r2,g6 _ _ ho.2.1 ho.2.2.1 ho.2.2.2.1 ho.2.2.2.2 r3⟩
   ·rw[zW y]at ht
    have hj:j=ts.length:=by
     rcases zx (j-ts.length) 1 with c|c
     ·omega
     ·rw[zu ⇑c]at ht;cases ht
    subst hj;rw[we]at ht;cases ht;exact⟨_,_,gx,gy,g5⟩
  ·rcases zK.mp ht with ht|ht
   ·exact Z.old t ht
   ·rw[zM.mp ht]
    have lt:∀{c o},s.heap.get? c=some o->s.heap.objs.size≠c:=λe=>xW (zP e);refine⟨lt hoS,?_,lt hTO,?_,?_⟩
    ·rcases Z.zip with⟨_,e⟩|⟨_,_,_,e⟩ <;> exact lt e
    ·obtain⟨_,e,_⟩:=Z.it1;exact lt e
    ·obtain⟨_,e,_⟩:=Z.it2;exact lt e
  ·refine yU.mpr ⟨Z.nd,by simp,λa ha b hb=>?_⟩
   rw[zM.mp hb];intro e;obtain⟨j,hj,ej⟩:=zi.mp ha;obtain⟨_,_,_,_,et⟩:=Z.tups j a (by rw[zC hj,ej]);exact vN (zP et) (by rw[e];exact y8 _)
  ·rcases zK.mp ht with ht|ht
   ·exact Z.new t ht
   ·rw[zM.mp ht];exact hsz
  ·obtain⟨n1,n2,n3,n4⟩:=nz b o e
   exact g6 b o n1 n2 n3 n4 (Z.keep b o hb e)
  ·exact g6 S o hS.1 hS.2.2.1 hS.2.2.2.1 hS.2.2.2.2.1 e
 rcases Z.zip with⟨_,hz⟩|⟨t,f1,ht,hz⟩
 ·exact tG D hz Z.pTI hTO Z.it1 Z.it2 Z.hl1 Z.hl2 gx gy λh' a1 a2 a3 a4 a5 a6 a7=>fin h' _ _ (by simp) a1 ⟨_,_,a2⟩ a3 a4 a5 a7
 ·obtain⟨j,hj,ej⟩:=zi.mp ht
  obtain⟨_,_,_,_,et⟩:=Z.tups j t (by rw[zC hj,ej]);refine qcK D hz et Z.pTI Z.it1 Z.it2 Z.hl1 Z.hl2 gx gy λh' f1' a1 a3 a4 a5 a7=>fin h' f1' t (zI _ ht) a1 ⟨a,b,?_⟩ a3 a4 a5 λc o n1 _ n3 n4 e=>a7 c o n1 n3 n4 e;exact a7 _ _ D.TOz D.TOi1 D.TOi2 hTO
theorem qhS{h0:vZ}{S z TI TO i1 i2 l1 l2:vC}{xs ys:Array vB}{ts:List vC}{Q:Option vB->vF->Prop}(hh:A.handled=none)(D:uh z TI TO i1 i2 l1 l2)(Z:ZSt h0 S z TI TO i1 i2 l1 l2 xs ys ts s.heap)(hlt:ts.length=min xs.size ys.size)(k:∀h',(∀c o,c≠z->c≠TO->c≠i1->c≠i2->s.heap.get? c=some o->h'.get? c=some o)->Q none { s with heap:=h' }):
  vM (model prog w) A (uG (.ref z)) Q E s:=by
 obtain⟨a,b,hTO⟩:=Z.pTO;have hend:xs[ts.length]?=none\/ys[ts.length]?=none:=by
  rcases Nat.le_total xs.size ys.size with h|h
  ·left;exact yh ∅
  ·right;exact yh ∅
 rcases Z.zip with⟨_,hz⟩|⟨t,f1,ht,hz⟩
 ·exact tK hh D hz Z.pTI hTO Z.it1 Z.it2 Z.hl1 Z.hl2 hend λh' g=>k h' g
 ·obtain⟨j,hj,ej⟩:=zi.mp ht
  obtain⟨_,_,_,_,et⟩:=Z.tups j t (by rw[zC hj,ej]);exact qfn hh D hz et Z.pTI Z.it1 Z.it2 Z.hl1 Z.hl2 hend λh' g=>k h' λc o n1 _ n3 n4 e=>g c o n1 n3 n4 e
end
end Hk
namespace Hk
open PySem PySem.Spec PySem.W PyProof.Rows
section
variable{prog:vO}{w:vU}{A:vY}{E:vB->vF->Prop}{R:tu->vF->Prop}{s:vF}
abbrev Wc(h:vZ)(S:vC)(acc:Array vB)(c:Nat):Prop:=h.get? S=some { cls:=.type "list", dict:=none,data:=.seq acc c,slots:=#[] }
theorem q7R{h0 h h':vZ}{S z TI TO i1 i2 l1 l2:vC}{xs ys:Array vB}{ts:List vC}(hS:S∉[z,TI,TO,i1,i2,l1,l2])(Z:ZSt h0 S z TI TO i1 i2 l1 l2 xs ys ts h)(k:∀b o,b≠S->h.get? b=some o->h'.get? b=some o):
  ZSt h0 S z TI TO i1 i2 l1 l2 xs ys ts h':=by
 simp only[zF,zg,or_false,not_or]at hS;obtain⟨s1,s2,s3,s4,s5,s6,s7⟩:=hS;refine⟨?_,k _ _ (Ne.symm s2) Z.pTI,?_,Z.it1.at λo e=>k _ o (Ne.symm s4) e,Z.it2.at λo e=>k _ o (Ne.symm s5) e,Z.hl1.at λo e=>k _ o (Ne.symm s6) e,Z.hl2.at λo e=>k _ o (Ne.symm s7) e,λj t ht=>?_,Z.old,Z.nd,Z.new,λb o hb e=>k b o hb (Z.keep b o hb e)⟩
 ·rcases Z.zip with⟨e1,e2⟩|⟨t,f1,e1,e2⟩
  ·exact .inl ⟨e1,k _ _ (Ne.symm s1) e2⟩
  ·exact .inr ⟨t,f1,e1,k _ _ (Ne.symm s1) e2⟩
 ·obtain⟨a,b,e⟩:=Z.pTO
  exact⟨a,b,k _ _ (Ne.symm s3) e⟩
 ·obtain⟨x,y,a1,a2,a3⟩:=Z.tups j t ht
  exact⟨x,y,a1,a2,k _ _ (Z.old t (yJ ht)).1 a3⟩
theorem qfE{h0:vZ}{S z TI TO i1 i2 l1 l2:vC}{xs ys:Array vB}{res:vB}(hh:A.handled=none)(D:uh z TI TO i1 i2 l1 l2)(hf:∀b∈[z,TO,i1,i2],h0.get? b=none)(hS:S∉[z,TI,TO,i1,i2,l1,l2])(hn:min xs.size ys.size<=sizeLine)(g0:Array tY)(d0:Drawn)(o0)(hR:∀(h':vZ)(tk:Nat)(ts:List vC)(c:Nat),ts.length=min xs.size ys.size->ts.Nodup->(∀t∈ts,t≠S/\h0.objs.size<=t)->Wc h' S (ts.map Value.ref).toArray c->(∀b o,b≠S->h0.get? b=some o->h'.get? b=some o)->(∀(j:Nat)t,ts[j]?=some t->∃x y,xs[j]?=some x/\ys[j]?=some y/\uZ h' t x y)->R (.ok (.ret res)) ⟨h',g0,d0,tk,o0⟩):
  ∀(k:Nat)(h:vZ)(tk:Nat)(ts:List vC)(c:Nat),min xs.size ys.size-ts.length=k->ts.length<=min xs.size ys.size->ZSt h0 S z TI TO i1 i2 l1 l2 xs ys ts h->Wc h S (ts.map Value.ref).toArray c->h0.objs.size<=h.objs.size ->
   uP (model prog w) A (.builtin "list.extend.loop" ⟨[.ref S,.ref z,res],[]⟩) R ⟨h,g0,d0,tk,o0⟩:=by
 have hS':=hS;simp only[zF,zg,or_false,not_or]at hS';have nz:∀b o,h0.get? b=some o->b≠z/\b≠TO/\b≠i1/\b≠i2:=λb o e=>
  ⟨λq=>(by have:=hf z (by simp);rw[q,this]at e;cases e),λq=>(by have:=hf TO (by simp);rw[q,this]at e;cases e),λq=>(by have:=hf i1 (by simp);rw[q,this]at e;cases e),λq=>(by have:=hf i2 (by simp);rw[q,this]at e;cases e)⟩
 intro k
 induction k with
 | zero=>
  intro h tk ts c hk hi Z hl hsz;have hin:ts.length=min xs.size ys.size:=∅
  refine v6 PySem.F.entry_extend_loop ?_;rw[Around.under_plainId PySem.F.plain_extend_loop _];show vM _ A.in1 (uG (.ref z) >>= _) _ _ _;refine vA (qhS (A:=A.in1) hh D Z hin λh' g=>?_);refine vG (hR h' tk ts c hin Z.nd (λt ht=>⟨(Z.old t ht).1,Z.new t ht⟩) (g _ _ hS'.1 hS'.2.2.1 hS'.2.2.2.1 hS'.2.2.2.2.1 hl) (λb o hb e=>?_) λj t ht=>?_)
  ·obtain⟨n1,n2,n3,n4⟩:=nz b o e
   exact g b o n1 n2 n3 n4 (Z.keep b o hb e)
  ·obtain⟨x,y,a1,a2,a3⟩:=Z.tups j t ht
   have ho:=Z.old t (yJ ht);exact⟨x,y,a1,a2,g _ _ ho.2.1 ho.2.2.1 ho.2.2.2.1 ho.2.2.2.2 a3⟩
 | succ k ih=>
  intro h tk ts c hk hi Z hl hsz;have hlt:ts.length<min xs.size ys.size:=∅
  refine v6 PySem.F.entry_extend_loop ?_;rw[Around.under_plainId PySem.F.plain_extend_loop _];show vM _ A.in1 (uG (.ref z) >>= _) _ _ _;refine vA (qfI (A:=A.in1) D hf hS Z ⟨_,hl⟩ hsz hlt λh' t Z' hk' hsz'=>?_);have hl':=hk' _ hl;show vM _ A.in1 (u6 S (·.push (.ref t)) >>= _) _ _ _;refine vA ?_;have sz:(ts.map Value.ref).toArray.size=ts.length:=by simp
  have e:=get?_update_seq hl' (·.push (Value.ref t));have e2:(ts.map Value.ref).toArray.push (.ref t)=((ts++[t]).map Value.ref).toArray:=by simp
  rw[e2]at e;refine uC hl' rfl (vG ⟨uF PySem.F.plain_extend_loop _,ih _ _ (ts++[t]) _ (by rw[zE,zd];omega) (by rw[zE,zd];omega) (q7R hS Z' λb o hb e=>?_) e (by rw[xL];exact yA hsz hsz')⟩)
   (by rw[sz];omega) (by show ((ts.map Value.ref).toArray.push (.ref t)).size<=sizeLine+1;rw[wp,sz];omega)
  exact(zk _ _ (Ne.symm hb)).trans e
theorem qcc{h0:vZ}{S z TI TO i1 i2 l1 l2:vC}{xs ys:Array vB}{res:vB}{c₀:Nat}(hh:A.handled=none)(D:uh z TI TO i1 i2 l1 l2)(hf:∀b∈[z,TO,i1,i2],h0.get? b=none)(hS:S∉[z,TI,TO,i1,i2,l1,l2])(hn:min xs.size ys.size<=sizeLine)(Z:ZSt h0 S z TI TO i1 i2 l1 l2 xs ys [] s.heap)(hl:Wc s.heap S #[] c₀)(hsz:h0.objs.size<=s.heap.objs.size)(hR:∀(h':vZ)(tk:Nat)(ts:List vC)(c:Nat),ts.length=min xs.size ys.size->ts.Nodup->(∀t∈ts,t≠S/\h0.objs.size<=t)->Wc h' S (ts.map Value.ref).toArray c->(∀b o,b≠S->h0.get? b=some o->h'.get? b=some o)->(∀(j:Nat)t,ts[j]?=some t->∃x y,xs[j]?=some x/\ys[j]?=some y/\uZ h' t x y)->R (.ok (.ret res)) { s with heap:=h',toks:=tk }):
  vM (model prog w) A.in1 (Builtin.List.listExtendWith (.ref S) (.ref z) res)
   (λfin s'=>match fin with|.done f=>R (.ok f) s'|.again c'=>c'.quiet=true/\uP (model prog w) A c' R s') (λe s'=>R (.error e) s') s:=by
 obtain⟨hp,g,d,tk,os⟩:=s;have hS':=hS;simp only[zF,zg,or_false,not_or]at hS';obtain⟨_,hz⟩|⟨t,_,ht,_⟩:=Z.zip
 rotate_left
 ·cases ht
 have hT:Shared.TypeIs ⟨hp,g,d,tk,os⟩ (.ref z) "zip" := ⟨_,hz,rfl⟩;unfold Builtin.List.listExtendWith;refine vA (uX (T := "zip") hT ?_);have h1:Builtin.List.listSameRef (.ref S) (.ref z)=false:=by simp[Builtin.List.listSameRef,hS'.1]
 have h2:(Value.type "zip" == Value.type "list")=false:=by decide
 have h3:(Value.type "zip" == Value.type "tuple")=false:=by decide
 simp only[h1,h2,h3,xv,yC,if_false];refine vA (u7 hz ?_);refine vA (vc ?_);unfold Builtin.List.listLengthHint;refine vA (uk hT PySem.F.noLenZip ?_);show vM _ A.in1 (specialOf (Value.ref z) (Str.ofString "__length_hint__") >>= _) _ _ _;refine vA (uk hT PySem.F.noHintZip ?_);refine vG ?_;have key:∀(h:vZ)(c₁:Nat),ZSt h0 S z TI TO i1 i2 l1 l2 xs ys [] h->Wc h S #[] c₁->h0.objs.size<=h.objs.size->uP (model prog w) A (.builtin "list.extend.loop" ⟨[.ref S,.ref z,res],[]⟩) R ⟨h,g,d,tk,os⟩ :=
  λh c₁ Z' hl' z'=>qfE hh D hf hS hn g d os (λh' tk' ts c a1 a2 a3 a4 a5 a6=>hR h' tk' ts c a1 a2 a3 a4 a5 a6) _ h tk [] c₁ rfl (yQ _) Z' hl' z'
 refine vf (λ_=>?_) (λ_=>vG ⟨uF PySem.F.plain_extend_loop _,key _ c₀ Z hl hsz⟩);refine vA (uJ ?_);refine vA ?_;show vM _ _ (u6 S (·.push .none) >>= λ_=>u6 S (·.pop)) _ _ _;refine vA (uC hl rfl ?_);have hS₂:=yl (Obj.mapSeq (·.push Value.none)) hl rfl;refine uC (hz:=by seq_fits) hS₂ rfl ?_;have hS₃:=yl (Obj.mapSeq (·.pop)) hS₂ rfl;refine vG ⟨uF PySem.F.plain_extend_loop _,key _ _ (q7R hS Z λb o hb e=>?_) hS₃ (by rw[xL,xL];exact hsz)⟩;exact(zk _ _ (Ne.symm hb)).trans ((zk _ _ (Ne.symm hb)).trans e)
theorem qfe{l1 l2:vC}{xs ys:Array vB}{Q:vB->vF->Prop}{s0:vF}(hh:A.handled=none)(hl1:s0.heap.IsList l1 xs)(hl2:s0.heap.IsList l2 ys)(hn:min xs.size ys.size<=sizeLine)(hz:IsZip s.heap (s0.heap.objs.size+4) (s0.heap.objs.size+2) (s0.heap.objs.size+3) .none)(hp1:uZ s.heap (s0.heap.objs.size+2) (.ref s0.heap.objs.size) (.ref (s0.heap.objs.size+1)))(hp2:uZ s.heap (s0.heap.objs.size+3) .none .none)(hi1:s.heap.IsListIter s0.heap.objs.size l1 0)(hi2:s.heap.IsListIter (s0.heap.objs.size+1) l2 0)(hs:s.heap.objs.size=s0.heap.objs.size+5)(hk:∀c o,s0.heap.get? c=some o->s.heap.get? c=some o)(hQ:∀(h':vZ)(tk:Nat)(S:vC)(ts:List vC)(c:Nat),s0.heap.objs.size<=S->ts.length=min xs.size ys.size->ts.Nodup->(∀t∈ts,t≠S/\s0.heap.objs.size<=t)->Wc h' S (ts.map Value.ref).toArray c->(∀b o,s0.heap.get? b=some o->h'.get? b=some o) ->
   (∀(j:Nat)t,ts[j]?=some t->∃x y,xs[j]?=some x/\ys[j]?=some y/\uZ h' t x y)->Q (.ref S) { s with heap:=h',toks:=tk }) :
  vM (model prog w) A (call (.type "list") [.ref (s0.heap.objs.size+4)]) Q E s:=by
 refine callType_codes (Q₁:=λobj s₁=>obj=.ref s.heap.objs.size/\s₁={ s with heap:=s.heap.push { cls:=.type "list", data:=.seq #[] } }) PySem.F.called_list (PySem.F.typeCall_list_1 _) PySem.F.entry_list_init
  (code_list_new _ ⟨rfl,rfl⟩) λobj s₁ h₁=>?_
 obtain⟨rfl,rfl⟩:=h₁;have hS:(s.heap.push { cls:=.type "list", data:=.seq #[] }).get? s.heap.objs.size=some { cls:=.type "list", data:=.seq #[] }:=zT _ rfl;refine⟨⟨_,hS,rfl⟩,PySem.F.args_list_init_2 _ _,?_⟩;generalize hn0:s0.heap.objs.size=n at *;have e1:l1<n:=by obtain⟨_,e,_⟩:=hl1;rw[<- hn0];exact zP e
 have e2:l2<n:=by obtain⟨_,e,_⟩:=hl2;rw[<- hn0];exact zP e
 generalize hS0:s.heap.objs.size=S at *;have D:uh (n+4) (n+2) (n+3) n (n+1) l1 l2:=by
  constructor <;> (intro q;simp only[vC]at *;omega)
 have hSn:S∉[n+4,n+2,n+3,n,n+1,l1,l2]:=by
  simp only[zF,zg,or_false,not_or];refine⟨?_,?_,?_,?_,?_,?_,?_⟩ <;> (intro q;simp only[vC]at *;omega)
 have hf:∀b∈[n+4,n+3,n,n+1],s0.heap.get? b=none:=λb hb=>by
  cases q:s0.heap.get? b with
  | none=>rfl
  | some o=>
   have:=zP q;rw[hn0]at this;simp only[zF,zg,or_false]at hb;simp only[vC]at *;omega
 show vM _ _ (do let old <- Builtin.List.listItems (.ref S);Builtin.List.listUpdate (.ref S) (λ_=>#[]);letGo old.toList.reverse;Builtin.List.listExtendWith (.ref S) (.ref (n+4)) .none) _ _ _;refine vA ?_;unfold Builtin.List.listItems;refine vA (uY hS rfl (vG ?_));show vM _ _ (u6 S (λ_=>#[]) >>= λ_=>letGo (#[]:Array vB).toList.reverse >>= λ_=>Builtin.List.listExtendWith (.ref S) (.ref (n+4)) .none) _ _ _;refine vA (uC hS rfl ?_);have hS₂:=get?_update_seq hS (λ_=>(#[]:Array vB));have oth:∀b o,b≠S->s.heap.get? b=some o->((s.heap.push { cls:=.type "list", data:=.seq #[] }).update S (Obj.mapSeq (λ_=>(#[]:Array vB)))).get? b=some o :=
  λb o hb e=>(zk _ _ (Ne.symm hb)).trans (zH _ e)
 refine vA (wpAny_letGo ?_);have hSn':=hSn;simp only[zF,zg,or_false,not_or]at hSn';refine qcc (A:=A.in1) (h0:=s0.heap) hh D hf hSn hn ⟨.inl ⟨rfl,oth _ _ (Ne.symm hSn'.1) hz⟩,oth _ _ (Ne.symm hSn'.2.1) hp1,⟨_,_,oth _ _ (Ne.symm hSn'.2.2.1) hp2⟩,hi1.at λo e=>oth _ o (Ne.symm hSn'.2.2.2.1) e,hi2.at λo e=>oth _ o (Ne.symm hSn'.2.2.2.2.1) e,
  hl1.at λo e=>oth _ o (Ne.symm hSn'.2.2.2.2.2.1) (hk _ o e),hl2.at λo e=>oth _ o (Ne.symm hSn'.2.2.2.2.2.2) (hk _ o e),λj t ht=>(by simp at ht),λt ht=>(by simp at ht),xk,λt ht=>(by simp at ht),λb o hb e=>oth b o hb (hk b o e)⟩ hS₂ (by rw[xL,yV,hn0,hS0];simp only[vC]at *;omega) λh' tk ts c a1 a2 a3 a4 a5 a6=>?_
 rw[hn0]at a3;exact⟨rfl,hQ h' tk S ts c (by simp only[vC]at *;omega) a1 a2 a3 a4 (λb o e=>a5 b o (λq=>by
  have:=zP e;rw[hn0,q]at this;simp only[vC]at *;omega) e) a6⟩
end
end Hk
namespace Hk
open PySem L2
section
variable{X:Cx}{pins:List (vC×Obj)}{σ:St}{H H':Hp}{s:vF}
theorem qfR{h':vZ}{t':Nat}(I:L2.Inv X pins σ H s)(k:∀b u,s.heap.get? b=some u->h'.get? b=some u)(hs:Yd H H')(hn:∀b,H b=none->H' b≠none->s.heap.objs.size<=b)(new:∀b u,H b=none->H' b=some u->Yi X.prog X.w H' h' b u):L2.Inv X pins σ H' { s with heap:=h',toks:=t' }:=by
 refine I.un ⟨λb o q _ _ _=>k b o q,λb o q _ _ _=>⟨o.slots,k b o q⟩,λb o q n _=>?_,λb o q _=>⟨o,k b o q⟩,λb xs q=>hs _ _ q,λb o u q=>hs _ _ q,λb ps q=>⟨#[],by rw[hs _ _ q];simp⟩⟩ λb u e=>?_
 ·cases e:H' b with
  | none=>rfl
  | some u=>exact vN (zP q) (Z2.mpr (hn b n (by rw[e];exact λz=>by cases z)))
 ·cases q:H b with
  | none=>exact new b u q e
  | some u'=>
   have:=hs _ _ q;rw[e]at this;cases this;exact(I.hok b u q).stay (λc v _ z=>k c v z) (λc z=>hs _ _ z) λc xs z=>hs _ _ z
noncomputable def Wj(H:Hp):List vC->List V->List V->Hp
 | t::ts,x::xs,y::ys=>upd (Wj H ts xs ys) t (.tup [x,y])
 | _,_,_=>H
theorem q30{b:vC}:∀{ts:List vC}{xs ys:List V},b∉ts->Wj H ts xs ys b=H b
 | [],_,_,_=>rfl
 | _::_,[],_,_=>rfl
 | _::_,_::_,[],_=>rfl
 | t::ts,x::xs,y::ys,h=>by
  rw[zF,not_or]at h;show upd _ t _ b=_;rw[qc h.1];exact q30 h.2
theorem q7o:∀{ts:List vC}{xs ys:List V}{j:Nat}{t:vC}{x y:V},ts.Nodup->ts[j]?=some t->xs[j]?=some x->ys[j]?=some y->Wj H ts xs ys t=some (.tup [x,y])
 | [],_,_,_,_,_,_,_,h,_,_=>by simp at h
 | _::_,[],_,_,_,_,_,_,_,h,_=>by simp at h
 | _::_,_::_,[],_,_,_,_,_,_,_,h=>by simp at h
 | u::ts,a::xs,b::ys,0,t,x,y,n,h1,h2,h3=>by
  simp at h1 h2 h3;subst h1;subst h2;subst h3;exact qg
 | u::ts,a::xs,b::ys,j+1,t,x,y,n,h1,h2,h3=>by
  simp only[yw]at h1 h2 h3;obtain⟨n1,n2⟩:=ye.mp n;show upd _ u _ t=_;rw[qc (λe=>n1 (by rw[<- e];exact yJ h1))];exact q7o n2 h1 h2 h3
def rLZ:List V->Hp->VK->Prop:=λvs H2 Q=>∃p q xs ys,vs=[.ref p,.ref q]/\H2 p=some (.lst xs)/\H2 q=some (.lst ys) /\
 ∀(S:vC)(ts:List vC),H2 S=none->(∀t∈ts,H2 t=none/\t≠S)->ts.Nodup->ts.length=min xs.length ys.length->Q (.ref S) (upd (Wj H2 ts xs ys) S (.lst (ts.map V.ref)))
theorem q5W:∀{xs:List V}{us:List vB},Yf xs us->∀{j:Nat}{u:vB},us[j]?=some u->∃x,xs[j]?=some x/\RelV x u
 | _,_,.nil,j,u,h=>by simp at h
 | _,_,.cons r1 r2,0,u,h=>by simp at h;subst h;exact⟨_,rfl,r1⟩
 | _,_,.cons r1 r2,j+1,u,h=>by
  simp only[yw]at h ⊢;exact q5W r2 h
theorem q7M:∀(ts:List vC),Yf (ts.map V.ref) (ts.map Value.ref)
 | []=>.nil
 | t::r=>.cons rfl (q7M r)
theorem qcp{a b:vP}{t:TA}{p1 p2 q1 q2:Pos}(hg1:Gl X "list")(hm1:X.mg "list" = none)(hg2:Gl X "zip")(hm2:X.mg "zip" = none)(ha:PA X [a,b] t)(hc:X.calm=true)(he1:vL [a,b] X.env=(false,eval a X.env)::vL [b] X.env)(hpl1:(vn q2 (vL [b] X.env)).any (·.1)=false)(he2:vL [.Call (.Name "zip" p2) [a,b] [] q2] X.env=(false,eval (.Call (.Name "zip" p2) [a,b] [] q2) X.env)::vL [] X.env)(hpl2:(vn q1 (vL [] X.env)).any (·.1)=false):
  PE X (.Call (.Name "list" p1) [.Call (.Name "zip" p2) [a,b] [] q2] [] q1) (tCB rLZ t):=by
 intro pins s σ H Q I h;refine v9 (q0W I hg1 hm1 q1j ?_ (by decide) (by decide));refine PyProof.Rows.callWith_type1 ?_ he2 hpl2;rw[he2];show vM _ _ (spliced ((false,eval _ X.env)::vn q1 (vL [] X.env))) _ _ s;refine Calls.spliced_cons ?_;refine v9 (q0W I hg2 hm2 qiD ?_ (by decide) (by decide));refine PyProof.Rows.callWith_type1 (thn (ha q2 pins s σ H _ I h) λus s1 ⟨vs,H1,I1,r1,q1⟩=>?_) he1 hpl1
 ·obtain⟨p,q,xs,ys,rfl,hp,hq,k⟩:=q1
  obtain⟨u1,u2,rfl,e1,e2⟩:=vals2 r1;cases e1;cases e2;obtain⟨its1,n1,rv1,g1,z1⟩:=I1.lst hp;obtain⟨its2,n2,rv2,g2,z2⟩:=I1.lst hq;have il1:s1.heap.IsList p its1.toArray:=⟨_,g1,rfl,n1,rfl⟩;have il2:s1.heap.IsList q its2.toArray:=⟨_,g2,rfl,n2,rfl⟩;refine call_zip_2 il1 il2 λh' a1 a2 a3 a4 a5 a6 a7=>?_;refine Calls.spliced_nil ?_;have len1:its1.toArray.size=xs.length:=by rw[zO,rv1.length]
  have len2:its2.toArray.size=ys.length:=by rw[zO,rv2.length]
  refine qfe (s0:=s1) (I1.ok.hd hc) il1 il2 (by rw[len1];exact yA (wu _ _) z1) a1 a2 a3 a4 a5 a6 a7 λh2 tk S ts c b1 b2 b3 b4 b5 b6 b7=>?_;rw[len1,len2]at b2;have fS:H1 S=none:=I1.hok.fresh b1;have ft:∀t∈ts,H1 t=none:=λt ht=>I1.hok.fresh (b4 t ht).2;have hsame:Yd H1 (upd (Wj H1 ts xs ys) S (.lst (ts.map V.ref))):=λb u e=>by
   have nS:b≠S:=λz=>by rw[z,fS]at e;cases e
   have nt:b∉ts:=λz=>by rw[ft b z]at e;cases e
   rw[qc nS,q30 nt];exact e
  have tup:∀(j:Nat)t,ts[j]?=some t->∃x y,xs[j]?=some x/\ys[j]?=some y/\Wj H1 ts xs ys t=some (.tup [x,y])/\Yi X.prog X.w (upd (Wj H1 ts xs ys) S (.lst (ts.map V.ref))) h2 t (.tup [x,y]):=λj t ht=>by
   obtain⟨x',y',c1,c2,c3⟩:=b7 j t ht;obtain⟨x,d1,d2⟩:=q5W rv1 (j:=j) (u:=x') ⇑c1;obtain⟨y,d3,d4⟩:=q5W rv2 (j:=j) (u:=y') ⇑c2;exact⟨x,y,d1,d3,q7o b3 ht d1 d3,⟨by show 2<=sizeLine;decide,[x',y'],.cons d2 (.cons d4 .nil),⟨_,c3,rfl,_,rfl⟩⟩⟩
  refine⟨.ref S,_,qfR (s:=s1) (t':=tk) I1 b6 hsame (λb n1 n2=>?_) (λb u n1 n2=>?_),rfl,k S ts fS (λt ht=>⟨ft t ht,(b4 t ht).1⟩) b3 b2⟩
  ·by_cases e:b=S
   ·rw[e];exact b1
   ·by_cases e':b∈ts
    ·exact(b4 b e').2
    ·rw[qc e,q30 e']at n2;exact vN n1 n2
  ·by_cases e:b=S
   ·subst e
    rw[qg]at n2;cases n2;refine⟨?_,ts.map Value.ref,c,q7M ts,b5⟩;rw[zA,b2];exact yA (wu _ _) z1
   ·by_cases e':b∈ts
    ·obtain⟨j,hj,ej⟩:=zi.mp e'
     obtain⟨x,y,_,_,m1,m2⟩:=tup j b (by rw[zC hj,ej]);rw[qc e,m1]at n2;cases n2;exact m2
    ·rw[qc e,q30 e',n1]at n2;cases n2
noncomputable def pairD(x y:D):D:=.tup [x,y]
noncomputable def Y7:List D->Option R
 | [.lst xs,.lst ys]=>some (.fr (wA pairD xs ys))
 | _=>none
theorem q4S{K:zB}{G:Hp}:∀{ds:List D}{ts:List vC},ds.length=ts.length->(∀(j:Nat)d t,ds[j]?=some d->ts[j]?=some t->Rep K G d (.ref t))->YX K G ds (ts.map V.ref)
 | [],[],_,_=>rfl
 | [],_::_,h,_=>by simp at h
 | _::_,[],h,_=>by simp at h
 | d::ds,t::ts,h,f=>⟨.ref t,_,rfl,f 0 d t rfl rfl,q4S ⇑h λj e u h1 h2=>f (j+1) e u ⇑h1 ⇑h2⟩
theorem qcw{K:zB}:Xi K rLZ Y7:=by
 intro G H ds vs d Q s e hv k
 match ds,e with
 | [.lst xs,.lst ys],e=>
  cases e;obtain⟨v,u,rfl,h,h'⟩:=hv.two;obtain⟨p,us,rfl,h1,h2⟩:=h.lst s;obtain⟨q,ws,rfl,h3,h4⟩:=h'.lst s;refine⟨p,q,us,ws,rfl,h1,h3,λS ts hS ht nd hl=>?_⟩
  let G':Hp:=λb=>if b∈ts then Wj H ts us ws b else G b
  have hout:∀b,b∉ts->G' b=G b:=λb z=>vJ z;have hin:∀b,b∈ts->G' b=Wj H ts us ws b:=λb z=>vH z;have gg:Yd G G':=λb o z=>by
   have n:b∉ts:=λy=>by rw[s.free (ht b y).1]at z;cases z
   rw[hout b n];exact z
  have hh:Yd H (upd (Wj H ts us ws) S (.lst (ts.map V.ref))):=λb o z=>by
   have nS:b≠S:=λy=>by rw[y,hS]at z;cases z
   have n:b∉ts:=λy=>by rw[(ht b y).1]at z;cases z
   rw[qc nS,q30 n];exact z
  have gh:Yd G' (upd (Wj H ts us ws) S (.lst (ts.map V.ref))):=λb o z=>by
   by_cases y:b∈ts
   ·rw[hin b y]at z
    rw[qc (ht b y).2];exact z
   ·rw[hout b y]at z
    exact hh b o (s _ _ z)
  have x:Ext G H G' (upd (Wj H ts us ws) S (.lst (ts.map V.ref))):=⟨gg,gh,hh,λb z1 z2=>by
   have n:b∉ts:=λy=>z2 (ht b y).1;rw[hout b n];exact z1⟩
  have nS:S∉ts:=λy=>(ht S y).2 rfl;refine k _ G' _ x ⟨S,_,rfl,hS,by rw[hout S nS];exact s.free hS,qg,q4S ?_ λj d t e1 e2=>?_⟩
  ·rw[List.length_zipWith,hl,h2.len,h4.len]
  ·rw[List.getElem?_zipWith]at e1
   cases q1:xs[j]? with
   | none=>rw[q1]at e1;cases e1
   | some a=>
    cases q2:ys[j]? with
    | none=>rw[q1,q2]at e1;cases e1
    | some b=>
     rw[q1,q2]at e1;cases e1;obtain⟨va,y1,y2⟩:=h2.get q1;obtain⟨vb,y3,y4⟩:=h4.get q2;refine⟨t,[va,vb],rfl,?_,YX.cons (y2.mono gg) (YX.cons (y4.mono gg) YX.nil)⟩;rw[hin t (yJ e2)];exact q7o nd e2 y1 y3
theorem q6B{a b:vP}{g:FA}{p1 p2 q1 q2:Pos}(hg1:Gl X "list")(hm1:X.mg "list" = none)(hg2:Gl X "zip")(hm2:X.mg "zip" = none)(ha:XVA X [a,b] g)(hc:X.calm=true:=by rfl)(he1:vL [a,b] X.env=(false,eval a X.env)::vL [b] X.env:=by rfl)(hpl1:(vn q2 (vL [b] X.env)).any (·.1)=false:=by rfl)(he2:vL [.Call (.Name "zip" p2) [a,b] [] q2] X.env=(false,eval (.Call (.Name "zip" p2) [a,b] [] q2) X.env)::vL [] X.env:=by rfl)(hpl2:(vn q1 (vL [] X.env)).any (·.1)=false:=by rfl):
  XE X (.Call (.Name "list" p1) [.Call (.Name "zip" p2) [a,b] [] q2] [] q1) (Y4 Y7 g):=by
 obtain⟨t,h1,h2⟩:=ha;exact⟨_,qcp hg1 hm1 hg2 hm2 h1 hc he1 hpl1 he2 hpl2,q7l qcw h2⟩
end
noncomputable def WY:List Int->Int
 | []=>0
 | [x]=>x
 | x::y::r=>if x<=WY (y::r)then WY (y::r)else x
noncomputable def Xl:List Int->Int
 | []=>0
 | [x]=>x
 | x::y::r=>if Xl (y::r)<=x then Xl (y::r)else x
theorem q2v:∀{ns:List Int},ns≠[]->WY ns∈ns/\∀a∈ns,a<=WY ns
 | [x],_=>⟨by simp[WY],λa h=>by simp at h;subst h;exact z7 _⟩
 | x::y::r,_=>by
  obtain⟨h1,h2⟩:=q2v (ns:=y::r) (by simp);unfold WY
  split
  ·rename_i h
   refine⟨zG _ h1,λa ha=>?_⟩;rcases zF.mp ha with rfl|ha
   ·exact h
   ·exact h2 a ha
  ·rename_i h
   refine⟨zD,λa ha=>?_⟩;rcases zF.mp ha with rfl|ha
   ·exact z7 _
   ·have:=h2 a ha;omega
theorem q2y:∀{ns:List Int},ns≠[]->Xl ns∈ns/\∀a∈ns,Xl ns<=a
 | [x],_=>⟨by simp[Xl],λa h=>by simp at h;subst h;exact z7 _⟩
 | x::y::r,_=>by
  obtain⟨h1,h2⟩:=q2y (ns:=y::r) (by simp);unfold Xl
  split
  ·rename_i h
   refine⟨zG _ h1,λa ha=>?_⟩;rcases zF.mp ha with rfl|ha
   ·exact h
   ·exact h2 a ha
  ·rename_i h
   refine⟨zD,λa ha=>?_⟩;rcases zF.mp ha with rfl|ha
   ·exact z7 _
   ·have:=h2 a ha;omega
def rMax:List V->Hp->VK->Prop:=λxs H Q=>∃(p:vC) (ns:List Int),xs=[.ref p]/\H p=some (.lst (ns.map V.int))/\ns≠[]/\Q (.int (WY ns)) H
def rMin:List V->Hp->VK->Prop:=λxs H Q=>∃(p:vC) (ns:List Int),xs=[.ref p]/\H p=some (.lst (ns.map V.int))/\ns≠[]/\Q (.int (Xl ns)) H
section
variable{X:Cx}
open PyProof.Rows PySem.Spec in
theorem q7I(hc:X.calm=true):XB X (.builtin "max") rMax:=by
 intro pins s σ H xs us Q I r h;obtain⟨p,ns,rfl,hp,hne,q⟩:=h;obtain⟨u,rfl,rx⟩:=vals1 r;cases rx;obtain⟨its,n,rv,e,hz⟩:=I.lst hp;have hi:=q1r rv;obtain⟨ys,ey⟩:=hi.allInts.items;have hns:ns=ys.toList.map (·.1):=by rw[<- hi.numsOf,<- nums_intItems,<- ey]
 have hl:s.heap.IsList p its.toArray:=⟨_,e,rfl,n,rfl⟩;rw[ey]at hl;have hsz:0<ys.size:=by
  have h3:=xb.mpr hne;rw[hns,zA,zQ]at h3;exact h3
 refine max_intList (I.ok.hd hc) hl hsz λv h' tk hv hk=>?_;obtain⟨t,rfl⟩:=intItems_at hv;obtain⟨h1,h2⟩:=argBest_gt (numAt ys) (ys.size-1);have em:numAt ys (argBest (λi j=>decide (numAt ys i>numAt ys j)) (ys.size-1))=WY ns:=by
  obtain⟨m1,m2⟩:=q2v hne;apply Zt
  ·apply m2
   rw[hns,sE];exact getD_mem (by rw[zA,zQ];omega)
  ·rw[hns]at m1
   obtain⟨j,hj,ej⟩:=mem_getD m1;rw[zA,zQ]at hj;rw[<- hns]at ej;rw[<- ej,hns,<- sE];exact h2 j ∅
 rw[em];exact⟨.int _,H,I.kept (t':=tk) hk,⟨_,rfl⟩,q⟩
open PyProof.Rows PySem.Spec in
theorem q7T(hc:X.calm=true):XB X (.builtin "min") rMin:=by
 intro pins s σ H xs us Q I r h;obtain⟨p,ns,rfl,hp,hne,q⟩:=h;obtain⟨u,rfl,rx⟩:=vals1 r;cases rx;obtain⟨its,n,rv,e,hz⟩:=I.lst hp;have hi:=q1r rv;obtain⟨ys,ey⟩:=hi.allInts.items;have hns:ns=ys.toList.map (·.1):=by rw[<- hi.numsOf,<- nums_intItems,<- ey]
 have hl:s.heap.IsList p its.toArray:=⟨_,e,rfl,n,rfl⟩;rw[ey]at hl;have hsz:0<ys.size:=by
  have h3:=xb.mpr hne;rw[hns,zA,zQ]at h3;exact h3
 refine min_intList (I.ok.hd hc) hl hsz λv h' tk hv hk=>?_;obtain⟨t,rfl⟩:=intItems_at hv;obtain⟨h1,h2⟩:=argBest_lt (numAt ys) (ys.size-1);have em:numAt ys (argBest (λi j=>decide (numAt ys i<numAt ys j)) (ys.size-1))=Xl ns:=by
  obtain⟨m1,m2⟩:=q2y hne;apply Zt
  ·rw[hns]at m1
   obtain⟨j,hj,ej⟩:=mem_getD m1;rw[zA,zQ]at hj;rw[<- hns]at ej;rw[<- ej,hns,<- sE];exact h2 j ∅
  ·apply m2
   rw[hns,sE];exact getD_mem (by rw[zA,zQ];omega)
 rw[em];exact⟨.int _,H,I.kept (t':=tk) hk,⟨_,rfl⟩,q⟩
noncomputable def bMax:List D->Option R
 | [.lst ds]=>(intsOf ds).bind λns=>if ns=[]then none else ↥(.int (WY ns))
 | _=>none
noncomputable def bMin:List D->Option R
 | [.lst ds]=>(intsOf ds).bind λns=>if ns=[]then none else ↥(.int (Xl ns))
 | _=>none
theorem qd4{K:zB}:Xi K rMax bMax:=by
 intro G H ds vs d Q s e hv k
 match ds,e with
 | [.lst ds],e=>
  obtain⟨ns,e1,e2⟩:=bnd (show (intsOf ds).bind _=some d from e);have hds:=q1i e1;subst hds
  by_cases hz:ns=[]
  ·rw[vH hz]at e2;cases e2
  ·rw[vJ hz]at e2
   cases e2;obtain⟨v,rfl,h⟩:=hv.one;obtain⟨p,us,rfl,h1,h2⟩:=h.lst s;exact⟨p,ns,rfl,by rw[h1,h2.of_ints],hz,k _ G H (Ext.refl s) rfl⟩
theorem qdX{K:zB}:Xi K rMin bMin:=by
 intro G H ds vs d Q s e hv k
 match ds,e with
 | [.lst ds],e=>
  obtain⟨ns,e1,e2⟩:=bnd (show (intsOf ds).bind _=some d from e);have hds:=q1i e1;subst hds
  by_cases hz:ns=[]
  ·rw[vH hz]at e2;cases e2
  ·rw[vJ hz]at e2
   cases e2;obtain⟨v,rfl,h⟩:=hv.one;obtain⟨p,us,rfl,h1,h2⟩:=h.lst s;exact⟨p,ns,rfl,by rw[h1,h2.of_ints],hz,k _ G H (Ext.refl s) rfl⟩
theorem qdE{ns:List Int}(h:ns≠[]):bMax [.lst (ns.map D.int)]=↥(.int (WY ns)):=by
 show (intsOf (ns.map D.int)).bind _=_;rw[q0k];exact vJ h
theorem qdu{ns:List Int}(h:ns≠[]):bMin [.lst (ns.map D.int)]=↥(.int (Xl ns)):=by
 show (intsOf (ns.map D.int)).bind _=_;rw[q0k];exact vJ h
end
noncomputable def whD(c:FT)(b:FS):Nat->FS
 | 0=>λ_=>none
 | n+1=>λω=>(c ω).bind λk=>if k=true then (b ω).bind (λp=>match p.1 with
   | .nx=>whD c b n p.2
   | .ct=>whD c b n p.2
   | .bk=>some (.nx,p.2)
   | .rt r=>some (.rt r,p.2))else some (.nx,ω)
noncomputable def sWh(n:Nat)(c:FT)(b:FS):FS:=whD c b n
section
variable{X:Cx}{c:vP}{body:List vg}{fc:FT}{fb:FS}{pos:Pos}{n:Nat}
theorem qdN{K:zB}{t:TT}{u:TS}(h2:WL K t fc)(h4:SimS K u fb):SimS K (zAQ t u) (sWh n fc fb):=by
 intro G0 H0 G ω σ H out ω' E o e k;refine⟨λm σ1 H1=>∃G1 ω1,Own K G0 H0 G1 ω1 σ1 H1/\Yd G G1/\whD fc fb m ω1=some (out,ω'),⟨n,G,ω,o,Yd.refl _,e⟩,λm σ1 H1 ⟨G1,ω1,o1,g1,e1⟩=>?_⟩;cases m with
 | zero=>cases e1
 | succ m=>
  obtain⟨b,q,e1⟩:=bnd e1;refine h2 G0 H0 G1 ω1 σ1 H1 b _ o1 q λG2 H2 x2=>?_;cases b with
  | false=>cases e1;exact k G2 σ1 H2 (o1.keep x2) (g1.trans x2.gg)
  | true=>
   rw[vH rfl];rw[vH rfl]at e1;obtain⟨⟨o3,ω3⟩,q3,e1⟩:=bnd e1;refine⟨λσ' H'=>∃G1 ω1,Own K G0 H0 G1 ω1 σ' H'/\Yd G G1/\whD fc fb m ω1=some (out,ω'),λσ' H' z=>⟨m,ya m,z⟩,?_⟩;refine h4 G0 H0 G2 ω1 σ1 H2 o3 ω3 _ (o1.keep x2) q3 λG4 σ4 H4 o4 g4=>?_;have gg:=(g1.trans x2.gg).trans g4;cases o3 with
   | nx=>exact⟨G4,ω3,o4,gg,e1⟩
   | ct=>exact⟨G4,ω3,o4,gg,e1⟩
   | bk=>cases e1;exact k G4 σ4 H4 o4 gg
   | rt r=>cases e1;exact k G4 σ4 H4 o4 gg
theorem qfS(hp:tP (model X.prog X.w) X.A X.env X.xe)(hc:XT X c fc)(hb:XSs X body fb):XS X (.While c body [] pos) (sWh n fc fb):=by
 obtain⟨t,h1,h2⟩:=hc;obtain⟨u,h3,h4⟩:=hb;exact⟨_,qff hp h1 h3,qdN h2 h4⟩
end
section
variable{fc:FT}{fb:FS}
def stepW(I:WSt->Prop)(μ:WSt->Nat)(m:Nat)(J:WSt->Prop)(o:Option (Out×WSt)):Prop:=match o with
 | some (.nx,w)=>I w/\μ w<m
 | some (.ct,w)=>I w/\μ w<m
 | some (.bk,w)=>J w
 | _=>False
theorem q92(I:WSt->Prop)(μ:WSt->Nat)(J:WSt->Prop)(stop:∀ω,I ω->fc ω=some false->J ω)(turn:∀ω,I ω->∃k,fc ω=some k/\(k=true->stepW I μ (μ ω) J (fb ω))):
  ∀(n:Nat)(ω:WSt),I ω->μ ω<n->∃ω',whD fc fb n ω=some (.nx,ω')/\J ω'
 | 0,_,_,z=>vN z (xx _)
 | n+1,ω,h,z=>by
  obtain⟨k,e,t⟩:=turn ω h;show ∃ω',((fc ω).bind _)=_/\_;rw[e];cases k with
  | false=>exact⟨ω,rfl,stop ω h e⟩
  | true=>
   have t:=t rfl;rw[show ∀(f:Bool->Option (Out×WSt)),(some true).bind f=f true from λ_=>rfl,vH rfl];cases q:fb ω with
   | none=>rw[q]at t;exact t.elim
   | some p=>
    rw[q]at t;obtain⟨o,w⟩:=p;cases o with
    | nx=>exact q92 I μ J stop turn n w t.1 (by have:=t.2;omega)
    | ct=>exact q92 I μ J stop turn n w t.1 (by have:=t.2;omega)
    | bk=>exact⟨w,rfl,t⟩
    | rt r=>exact t.elim
theorem qi8{n:Nat}(I:WSt->Prop)(μ:WSt->Nat)(J:WSt->Prop)(stop:∀ω,I ω->fc ω=some false->J ω)(turn:∀ω,I ω->∃k,fc ω=some k/\(k=true->stepW I μ (μ ω) J (fb ω))){ω:WSt}(h:I ω)(z:μ ω<n):∃ω',sWh n fc fb ω=some (.nx,ω')/\J ω':=q92 I μ J stop turn n ω h z
end
section
variable{X:Cx}{pos:Pos}{o:vP}{apos cpos:Pos}{i:Nat}
end
noncomputable abbrev FM:=WSt->Option (D×WSt)
def SimM(K:zB)(t:TE)(f:FM):Prop:=∀G0 H0 G ω σ H d ω'(Q:VK),Own K G0 H0 G ω σ H->f ω=some (d,ω') ->
 (∀v G' H',Own K G0 H0 G' ω' σ H'->Yd G G'->Rep K G' d v->Q v H')->t σ H Q
def XM(X:Cx)(e:vP)(f:FM):Prop:=∃t,PE X e t/\SimM X.K t f
section
variable{X:Cx}{pos:Pos}{o e:vP}{apos cpos pos':Pos}{i:Nat}{fd:FD}{f:FM}
noncomputable def zAL(i:Nat)(f:FM):FS:=λω=>(f ω).map λp=>(.nx,p.2.set i (some (.sh p.1)))
theorem qhd{x:Str}(hN:X.N.Nodup)(hi:X.N[i]?=some x)(hx:Loc X.env.scope x)(he:XM X e f)(hs:vv e (some (.Name x pos')) pos.line X.env=pure false:=by rfl)(hf:X.fn x=true\/X.env.scope.names.lookup x=some .local:=by first|exact .inl rfl|exact .inr rfl|assumption):
  XS X (.Assign [.Name x pos'] e pos) (zAL i f):=by
 obtain⟨t,h1,h2⟩:=he;refine⟨_,q55 hN hi hx h1 hs hf,λG0 H0 G ω σ H out ω' E o e k=>?_⟩;unfold zAL at e;cases q:f ω with
 | none=>rw[q]at e;cases e
 | some p=>
  obtain⟨d,ω1⟩:=p;rw[q]at e;cases e;exact h2 G0 H0 G ω σ H d ω1 _ o q λv G1 H1 o1 g1 r1=>k G1 _ H1 (o1.setSh r1) g1
end
section
variable{X:Cx}{a b c:vP}{pos:Pos}{fa fb fc:FD}{op op':t0}{p p':Int->Int->Bool}
end
noncomputable def zAs(x:Int):List Int->List Int
 | []=>[x]
 | y::r=>if x<=y then x::y::r else y::zAs x r
noncomputable def Yh(ns:List Int):List Int:=ns.foldr zAs []
theorem q4Y{x:Int}:∀{l:List Int},(zAs x l).Perm (x::l)
 | []=>.refl _
 | y::r=>by
  unfold zAs
  by_cases h:x<=y
  ·rw[vH h]
  ·rw[vJ h];exact(q4Y.cons y).trans (.swap x y r)
theorem qI:∀{l:List Int},(Yh l).Perm l
 | []=>.refl _
 | y::r=>q4Y.trans ((qI (l:=r)).cons y)
theorem qby{x:Int}:∀{l:List Int},l.Pairwise (· <= ·)->(zAs x l).Pairwise (· <= ·)
 | [],_=>wV _ _
 | y::r,h=>by
  obtain⟨h1,h2⟩:=zV.mp h;unfold zAs
  by_cases z:x<=y
  ·rw[vH z]
   refine zV.mpr ⟨λa ha=>?_,h⟩;cases ha with
   | head=>exact z
   | tail _ ha=>exact xX z (h1 a ha)
  ·rw[vJ z]
   refine zV.mpr ⟨λa ha=>?_,qby h2⟩;cases (q4Y.mem_iff.mp ha:a∈x::r)with
   | head=>omega
   | tail _ ha=>exact h1 a ha
theorem q1P:∀{l:List Int},(Yh l).Pairwise (· <= ·)
 | []=>.nil
 | y::r=>qby (q1P (l:=r))
theorem q2q:∀{l m:List Int},l.Pairwise (· <= ·)->m.Pairwise (· <= ·)->l.Perm m->l=m
 | [],m,_,_,p=>(List.Perm.nil_eq p)
 | a::l,m,h,h',p=>by
  cases m with
  | nil=>exact vN p.length_eq (by simp)
  | cons b m=>
   obtain⟨h1,h2⟩:=zV.mp h;obtain⟨h3,h4⟩:=zV.mp h';have hab:a=b:=by
    have x1:a∈b::m:=p.mem_iff.mp (.head _);have x2:b∈a::l:=p.mem_iff.mpr (.head _);cases x1 with
    | head=>rfl
    | tail _ x1=>
     cases x2 with
     | head=>rfl
     | tail _ x2=>have:=h3 a x1;have:=h1 b x2;omega
   subst hab;rw[q2q h2 h4 p.cons_inv]
theorem q7y(l:List Int):(Yh l).length=l.length:=qI.length_eq
def rSortL:List V->Hp->VK->Prop:=λxs H Q=>∃p ns,xs=[.ref p]/\H p=some (.lst (ns.map V.int))/\ns.length<64/\∀l,H l=none->Q (.ref l) (upd H l (.lst ((Yh ns).map V.int)))
noncomputable def zAU:D->Option R
 | .lst ds=>(intsOf ds).bind λns=>if ns.length<64 then some (.fr ((Yh ns).map D.int))else none
 | _=>none
noncomputable def WN(f:FD):FE:=λω=>(f ω).bind zAU
section
variable{X:Cx}
theorem qca:XB X (.builtin "sorted") rSortL:=by
 intro pins s σ H xs us Q I r h;obtain⟨p,ns,rfl,hp,hz,q⟩:=h;obtain⟨u,rfl,rx⟩:=vals1 r;cases rx;obtain⟨its,n,rv,e,_⟩:=I.lst hp;have hlen:its.length=ns.length:=by rw[<- rv.length,zA]
 refine PyProof.Rows.sorted_ints ⟨_,e,rfl,n,rfl⟩ (q1r rv) ∅ λout ns' a1 a2 a3=>?_;obtain⟨m,hm⟩:=PyProof.Rows.sortedAll_at s.heap its out;have en:ns'=Yh ns:=q2q a3 q1P (a2.trans qI.symm);subst en;have hsl:(Yh ns).length<=sizeLine:=by rw[q7y];exact yA (yP hz) (by decide)
 have I2:=I.laid (a:=s.heap.objs.size+1) (o:=.lst ((Yh ns).map V.int)) (t':=s.toks) (λb o e=>PyProof.Rows.sortedAll_old e) (xF _)
  (show Yi X.prog X.w _ (PyProof.Rows.sortedAll s.heap its out) _ (.lst _)from ⟨by rw[zA];exact hsl,out.toList,m,q2a a1,by rw[xU];exact hm⟩)
 exact⟨.ref _,_,I2,rfl,q _ (I.hok.fresh (xF _))⟩
theorem qbO{a:vP}{f:FD}{p q:Pos}(hg:Gl X "sorted")(hm:X.mg "sorted" = none)(ha:XV X a f)(he:vL [a] X.env=(false,eval a X.env)::vL [] X.env:=by rfl)(hpl:(vn q (vL [] X.env)).any (·.1)=false:=by rfl):XE X (.Call (.Name "sorted" p) [a] [] q) (WN f):=by
 obtain⟨t,h1,h2⟩:=ha;refine⟨_,q2Y qca hg hm q3l (qS h1 q0b he) (by decide) (by decide) he hpl,λG0 H0 G ω σ H r Q o e k=>?_⟩;obtain⟨d,z,e⟩:=bnd e;refine h2 G0 H0 G ω σ H d _ o z λv G1 H1 x1 y1=>?_;cases d with
 | lst ds=>
  obtain⟨ns,e1,e2⟩:=bnd (show (intsOf ds).bind _=some r from e);have hds:=q1i e1;subst hds
  by_cases hz:ns.length<64
  ·rw[vH hz]at e2
   cases e2;obtain⟨p,vs,rfl,g1,g2⟩:=y1.lst x1.gh;have hv:=g2.of_ints;subst hv;refine⟨p,ns,rfl,g1,hz,λl hl=>?_⟩;have x2:=Ext.hide x1.gh hl (.lst ((Yh ns).map V.int));exact k _ G1 _ (x1.trans x2) ⟨l,_,rfl,x1.hh.free hl,x1.gh.free hl,qg,YX.ints _⟩
  ·rw[vJ hz]at e2;cases e2
 | _=>cases e
end
end Hk
namespace Hk
open PySem PySem.Spec PyProof.Rows
section
variable{prog:vO}{w:vU}{A:vY}{E:vB->vF->Prop}{s:vF}
end
open L2
section
variable{X:Cx}
end
end Hk
namespace L2
open PySem PySem.Spec PyProof.Rows
theorem Inv.turnedL{X:Cx}{pins:List (vC×Obj)}{σ:List (Option V)}{H:Hp}{s:vF}{h':vZ}{t':Nat}{fp:List vC}(I:Inv X pins σ H s)(k:∀b o,b∉fp->s.heap.get? b=some o->h'.get? b=some o)(hf:∀b∈fp,Xc X pins H b):
  Inv X pins σ H { s with heap:=h',toks:=t' }:=by
 have nit:∀b u,H b=some u->b∉fp:=λb u e z=>by have:=(hf b z).1;rw[e]at this;cases this
 refine I.step (g':=s.gens) (d':=s.drawn) (ch:=fp) (λb hb=>?_) (λb o _ _ hc e _=>k b o hc e) (λb o _ _ hc e _=>⟨o.slots,k b o hc e⟩) (λ_ _ _ _ n=>n)
  (λb o hc e=>⟨o,k b o hc e⟩) (λ_ _ e=>e) (λ_ _ _ e=>e) (λb ps e=>⟨#[],by rw[e];simp⟩) (λm hm=>?_) (λb u e=>?_) I.bare
 ·obtain⟨f0,f1,f2,f3,f4,f5⟩:=hf b hb
  exact⟨f3,f1,f4,f5⟩
 ·obtain⟨o,es,ep,ho,r⟩:=hm
  exact⟨o,es,ep,k _ o (λz=>(hf _ z).2.1 rfl) ho,r⟩
 ·refine(I.hok b u e).stay (λc v hc q=>k c v ?_ q) (λ_ q=>q) λ_ _ q=>q
  rcases hc with z|z
  ·rw[z];exact nit b u e
  ·exact nit c _ z
noncomputable def Itz(K:zB)(a b:vC):It :=
 ⟨λi H=>∃xs ys x y,SqL K H a xs/\SqL K H b ys/\xs[i]?=some x/\ys[i]?=some y,
  λi H x H'=>∃t x1 y1,H t=none/\x=.ref t/\H'=upd H t (.tup [x1,y1])/\∀xs ys,SqL K H a xs->SqL K H b ys->xs[i]?=some x1/\ys[i]?=some y1,
  λi H=>∃xs ys,SqL K H a xs/\SqL K H b ys/\(xs[i]?=none\/ys[i]?=none)⟩
theorem qfM{P:vO}{w:vU}{K:zB}{elts:List vP}{kx}{tpos:Pos}(a b z TI TO i1 i2:vC)(D:uh z TI TO i1 i2 a b):
  Turn P w K (.Tuple elts kx tpos) (Itz K a b) [z,TI,TO,i1,i2] z (λi h=>IsZip h z TI TO .none/\uZ h TI (.ref i1) (.ref i2)/\(∃x y,uZ h TO x y)/\h.IsListIter i1 a i/\h.IsListIter i2 b i) where
 mem:=by simp
 obj:=λi h st c hc=>by
  obtain⟨s1,s2,⟨_,_,s3⟩,⟨o4,e4,c4,d4⟩,⟨o5,e5,c5,d5⟩⟩:=st;simp only[zF,zg,or_false]at hc;rcases hc with rfl|rfl|rfl|rfl|rfl
  ·exact⟨_,s1,λv y=>by cases (show Data.fields _=Data.cell v from y)⟩
  ·exact⟨_,s2,λv y=>by cases (show Data.seq _ _=Data.cell v from y)⟩
  ·exact⟨_,s3,λv y=>by cases (show Data.seq _ _=Data.cell v from y)⟩
  ·exact⟨_,e4,λv y=>by rw[d4]at y;cases y⟩
  ·exact⟨_,e5,λv y=>by rw[d5]at y;cases y⟩
 keep:=λi h h' st k=>by
  obtain⟨s1,s2,⟨x,y,s3⟩,s4,s5⟩:=st;exact⟨k _ (by simp) _ s1,k _ (by simp) _ s2,⟨x,y,k _ (by simp) _ s3⟩,s4.at λo e=>k _ (by simp) o e,s5.at λo e=>k _ (by simp) o e⟩
 item:=by
  intro X hP hw hK hc i pins s σ H E I hf st hg;subst hP hw hK;obtain⟨xs,ys,x,y,hq1,hq2,hx,hy⟩:=hg;obtain⟨its1,rv1,p1,hz1⟩:=I.list hq1;obtain⟨its2,rv2,p2,hz2⟩:=I.list hq2;obtain⟨u1,hu1,ru1⟩:=rv1.get hx;obtain⟨u2,hu2,ru2⟩:=rv2.get hy;obtain⟨s1,s2,⟨_,_,s3⟩,s4,s5⟩:=st;have ex:∀c∈[z,TI,TO,i1,i2],∃o,s.heap.get? c=some o:=λc hc=>by
   simp only[zF,zg,or_false]at hc;rcases hc with rfl|rfl|rfl|rfl|rfl
   ·exact⟨_,s1⟩
   ·exact⟨_,s2⟩
   ·exact⟨_,s3⟩
   ·obtain⟨o,e,_⟩:=s4;exact⟨o,e⟩
   ·obtain⟨o,e,_⟩:=s5;exact⟨o,e⟩
  have nt:∀c∈[z,TI,TO,i1,i2],c≠s.heap.objs.size:=λc hc=>by
   obtain⟨o,e⟩:=ex c hc;exact zo (zP e)
  refine tG D s1 s2 s3 s4 s5 p1.isList p2.isList (x:=u1) (y:=u2) (by simpa using hu1) (by simpa using hu2) λh' a1 a2 a3 a4 a5 a6 hk=>?_;have hn:H s.heap.objs.size=none:=I.hok.fresh (zN _);have I1:Inv X pins σ (upd H s.heap.objs.size (.tup [x,y])) { s with heap:=s.heap.push { cls:=.type "tuple", data:=.seq #[u1,u2] },toks:=s.toks } :=
   I.laid (λb o e=>zH _ e) (zN _) (show Yi X.prog X.w _ _ _ (.tup [x,y])from ⟨by show 2<=sizeLine;decide,[u1,u2],.cons ru1 (.cons ru2 .nil),⟨_,zT _ rfl,rfl,_,rfl⟩⟩)
  have hf':∀c∈[z,TI,TO,i1,i2],Xc X pins (upd H s.heap.objs.size (.tup [x,y])) c:=λc hc=>by
   obtain⟨f0,f⟩:=hf c hc;exact⟨by rw[qc (nt c hc)];exact f0,f⟩
  have I2:Inv X pins σ (upd H s.heap.objs.size (.tup [x,y])) { s with heap:=h',toks:=s.toks }:=I1.turnedL (λb o hb e=>by
   simp only[zF,zg,or_false,not_or]at hb
   by_cases q:b=s.heap.objs.size
   ·subst q
    rw[zT _ rfl]at e;cases e;exact a5
   ·have e':s.heap.get? b=some o:=by
     rcases zx b s.heap.objs.size with l|l
     ·obtain⟨z1,z2⟩:=xh.mp e
      refine xh.mpr ⟨?_,z2⟩;rw[<- z1];show s.heap.objs[b]?=(s.heap.objs.push _)[b]?;rw[ZG,vJ q]
     ·have:=zP e
      rw[yV]at this;exact vN (by simp only[vC]at *;omega) q
    exact hk b o hb.1 hb.2.2.1 hb.2.2.2.1 hb.2.2.2.2 e') hf'
  refine⟨_,rfl,wpAny_letOwnedTupleGo_zip a1 λh2 b1 sb=>?_⟩;have I3:Inv X pins σ (upd H s.heap.objs.size (.tup [x,y])) { s with heap:=h2,toks:=s.toks }:=I2.turnedL (λb o hb e=>(sb.2 b (λq=>hb (by simp[q]))).trans e) hf';refine⟨.ref s.heap.objs.size,_,I3,rfl,⟨_,x,y,hn,rfl,rfl,λxs' ys' q1 q2=>⟨by rw[I.list_inj q1 hq1];exact hx,by rw[I.list_inj q2 hq2];exact hy⟩⟩,⟨b1,?_,⟨u1,u2,sb.extBut _ _ D.TOz a2⟩,a3.extBut sb.extBut D.i1z,a4.extBut sb.extBut D.i2z⟩,λc hc=>(hf' c hc).1⟩;exact sb.extBut _ _ D.TIz (hk _ _ D.TIz D.TITO D.TIi1 D.TIi2 s2)
 done:=by
  intro X hP hw hK hc i pins s σ H E I hf st hg;subst hP hw hK;obtain⟨xs,ys,hq1,hq2,hx⟩:=hg;obtain⟨its1,rv1,p1,hz1⟩:=I.list hq1;obtain⟨its2,rv2,p2,hz2⟩:=I.list hq2;obtain⟨s1,s2,⟨_,_,s3⟩,s4,s5⟩:=st;have l1:=rv1.length;have l2:=rv2.length;refine tK (I.ok.hd hc) D s1 s2 s3 s4 s5 p1.isList p2.isList ?_ λh' hk=>⟨rfl,I.turnedL (t':=s.toks) (λb o hb e=>?_) hf⟩
  ·rcases hx with hx|hx
   ·exact .inl (by rw[xa]at hx;simp;omega)
   ·exact .inr (by rw[xa]at hx;simp;omega)
  ·simp only[zF,zg,or_false,not_or]at hb
   exact hk b o hb.1 hb.2.2.1 hb.2.2.2.1 hb.2.2.2.2 e
 self:=λ_ _ _ _ _ st h=>u7 st.1 h
noncomputable def iZip(K:zB)(ta:TA):TI:=λσ H R=>ta σ H λvs H1=>∃a b xs ys,vs=[.ref a,.ref b]/\SqL K H1 a xs/\SqL K H1 b ys/\R (Itz K a b) H1
theorem qi7{X:Cx}{a b:vP}{ta:TA}{p pos tpos:Pos}{elts:List vP}{kx}(hg:Gl X "zip")(hm:X.mg "zip" = none)(ha:PA X [a,b] ta)(hs:vL [a,b] X.env=[(false,eval a X.env),(false,eval b X.env)]:=by rfl)(hs2:vL [b] X.env=[(false,eval b X.env)]:=by rfl):
  PI X (.Tuple elts kx tpos) (.Call (.Name "zip" p) [a,b] [] pos) (iZip X.K ta):=by
 intro pins s σ H R I h;refine Call_ (q0W I hg hm PyProof.Rows.boot_zip (PyProof.Rows.callWith_type1 (thn (ha pos pins s σ H _ I h) λus s1 ⟨vs,H1,I1,r1,q1⟩=>?_) (by rw[hs,hs2]) (by rw[hs2];rfl)));obtain⟨l1,l2,xs,ys,e,hq1,hq2,q⟩:=q1;subst e;cases r1 with
 | cons r rr=>
  cases rr with
  | cons r' rr=>
   cases rr;cases r;cases r';obtain⟨its1,rv1,p1,hz1⟩:=I1.list hq1;obtain⟨its2,rv2,p2,hz2⟩:=I1.list hq2;have e1:l1<s1.heap.objs.size:=by obtain⟨_,_,e,_⟩:=p1;exact zP e
   have e2:l2<s1.heap.objs.size:=by obtain⟨_,_,e,_⟩:=p2;exact zP e
   refine call_zip_2 p1.isList p2.isList λh' a1 a2 a3 a4 a5 a6 hk=>?_;refine u7 a1 ?_;have D:uh (s1.heap.objs.size+4) (s1.heap.objs.size+2) (s1.heap.objs.size+3) s1.heap.objs.size (s1.heap.objs.size+1) l1 l2:=by
    generalize s1.heap.objs.size=n at *
    constructor <;> (intro q;simp only[vC]at *;omega)
   refine⟨s1.heap.objs.size+4,[s1.heap.objs.size+4,s1.heap.objs.size+2,s1.heap.objs.size+3,s1.heap.objs.size,s1.heap.objs.size+1],_,_,H1,rfl,I1.kept (t':=s1.toks) hk,qfM l1 l2 _ _ _ _ _ D,⟨a1,a2,⟨_,_,a3⟩,a4,a5⟩,λc hc=>?_,q⟩;have hle:s1.heap.objs.size<=c:=by
    simp only[zF,zg,or_false]at hc;simp only[vC]at *;omega
   have I2:=I1.kept (t':=s1.toks) hk;exact I1.fpOk hle (I1.hok.fresh hle)
end L2
namespace Hk
open PySem L2
noncomputable def Xs:List D->List D->List D
 | a::as,b::bs=>.tup [a,b]::Xs as bs
 | _,_=>[]
theorem q5H:∀(as bs:List D),(Xs as bs).length=min as.length bs.length
 | a::as,b::bs=>by show (Xs as bs).length+1=_;rw[q5H as bs,zL,zL];omega
 | [],bs=>by cases bs <;> simp[Xs]
 | a::as,[]=>by simp[Xs]
theorem q97:∀(as bs:List D)(i:Nat)(d:D),(Xs as bs)[i]?=some d->∃a b,as[i]?=some a/\bs[i]?=some b/\d=.tup [a,b]
 | a::as,b::bs,0,d,h=>by cases h;exact⟨a,b,rfl,rfl,rfl⟩
 | a::as,b::bs,i+1,d,h=>q97 as bs i d h
 | [],bs,i,d,h=>by cases bs <;> cases h
 | a::as,[],i,d,h=>by cases h
theorem qfr{K:zB}{G:Hp}{a b:vC}{ds es:List D}{vs us:List V}(h1:G a=some (.lst vs))(h2:YX K G ds vs)(h3:G b=some (.lst us))(h4:YX K G es us):IterOf K (Itz K a b) G (Xs ds es):=by
 have l1:=h2.len;have l2:=h4.len;refine⟨λH i s hi=>?_,λG2 H i x H' d s0 s1 hd hy=>?_,λH s=>⟨vs,us,SqL.of (s _ _ h1),SqL.of (s _ _ h3),?_⟩⟩
 ·rw[q5H]at hi
  exact⟨vs,us,vs[i]'∅,us[i]'∅,SqL.of (s _ _ h1),SqL.of (s _ _ h3),zC _,zC _⟩
 ·obtain⟨t,x1,y1,ht,rfl,rfl,y⟩:=hy
  obtain⟨e1,e2⟩:=y vs us (SqL.of (s1 _ _ (s0 _ _ h1))) (SqL.of (s1 _ _ (s0 _ _ h3)));obtain⟨p,q,f1,f2,rfl⟩:=q97 ds es i d hd;obtain⟨v,q1,q2⟩:=h2.get f1;obtain⟨u,q3,q4⟩:=h4.get f2;rw[e1]at q1;cases q1;rw[e2]at q3;cases q3;have x2:=Ext.lay s1 ht (.tup [x1,y1]);exact⟨_,x2,⟨t,_,rfl,qg,YX.cons (q2.mono (s0.trans x2.gg)) (YX.cons (q4.mono (s0.trans x2.gg)) YX.nil)⟩⟩
 ·rw[q5H]
  rcases Nat.le_total ds.length es.length with h|h
  ·exact .inl (zu ∅)
  ·exact .inr (zu ∅)
noncomputable def iZp(g:FA):FI:=λω=>(g ω).bind λds=>match ds with
 | [.lst a,.lst b]=>some (Xs a b)
 | _=>none
theorem q57{X:Cx}{a b:vP}{g:FA}{p pos tpos:Pos}{elts:List vP}{kx}(hg:Gl X "zip")(hm:X.mg "zip" = none)(ha:XA X [a,b] g)(hs:vL [a,b] X.env=[(false,eval a X.env),(false,eval b X.env)]:=by rfl)(hs2:vL [b] X.env=[(false,eval b X.env)]:=by rfl):
  XI X (.Tuple elts kx tpos) (.Call (.Name "zip" p) [a,b] [] pos) (iZp g):=by
 obtain⟨⟨t,h1,h2⟩,_⟩:=ha;refine⟨_,qi7 hg hm h1 hs hs2,λG0 H0 G ω σ H ds R o e k=>?_⟩;obtain⟨vs,q,e⟩:=bnd e;refine h2 G0 H0 G ω σ H vs _ o q λus G1 H1 x1 y1=>?_
 match vs,e with
 | [.lst as,.lst bs],e=>
  cases e;obtain⟨v1,r1,rfl,z1,z2⟩:=y1;obtain⟨v2,r2,rfl,z3,z4⟩:=z2;cases (show r2=[]from z4);obtain⟨a1,ws1,rfl,f1,f2⟩:=z1;obtain⟨a2,ws2,rfl,f3,f4⟩:=z3;exact⟨a1,a2,ws1,ws2,rfl,SqL.of (x1.gh _ _ f1),SqL.of (x1.gh _ _ f3),k _ G1 H1 x1 (qfr f1 f2 f3 f4)⟩
section
open PySem.Spec PyProof.Rows
variable{X:Cx}
end
end Hk
namespace Hk
open PySem L2 PyProof.Rows
section
variable{X:Cx}{pos:Pos}{o e:vP}{apos cpos:Pos}{i:Nat}{fd:FD}
end
end Hk
namespace Hk
open PySem L2
section
variable{X:Cx}{o c:vP}{body:List vg}{pos ipos npos:Pos}{i j:Nat}{fc:FT}{fb:FS}
end
noncomputable def dropW(o:Option R)(ω:WSt):Option (Out×WSt):=o.map λ_=>(.nx,ω)
noncomputable def zipI(o:Option (List D)):Option (List D):=o.bind λds=>match ds with
 | [.lst a,.lst b]=>some (Xs a b)
 | _=>none
noncomputable def sortR(o:Option D):Option R:=o.bind zAU
section
variable{ω:WSt}{fe:FE}{fd:FD}{fa:FA}{r:R}{ds as bs:List D}{i j:Nat}{f:FS}{ft:FT}{m:List D->List D}
theorem qbp:W1 fe ω=dropW (fe ω) ω:=rfl
theorem e_wd:dropW (some r) ω=some (.nx,ω):=rfl
theorem qcL:iZp fa ω=zipI (fa ω):=rfl
theorem e_wz:zipI (some [.lst as,.lst bs])=some (Xs as bs):=rfl
theorem qaJ:WN fd ω=sortR (fd ω):=rfl
end
theorem qaN{ns:List Int}(h:ns.length<64):sortR (some (.lst (ns.map D.int)))=some (.fr ((Yh ns).map D.int)):=by
 show (intsOf (ns.map D.int)).bind _=_;rw[q0k];exact vH h
end Hk
namespace L2
open PySem PySem.Spec PyProof.Rows
section
variable{κ:Type}[DecidableEq κ]
noncomputable def WQ(kvs:List (κ×V))(k:κ):Option V:=(kvs.find? λkv=>decide (kv.1=k)).map (·.2)
noncomputable def putK(kvs:List (κ×V))(k:κ)(v:V):List (κ×V) :=
 if (kvs.any λkv=>decide (kv.1=k))=true then kvs.map (λkv=>if kv.1=k then (kv.1,v)else kv)else kvs++[(k,v)]
theorem q4h{p:κ×V}{r:List (κ×V)}{k:κ}(e:p.1=k):WQ (p::r) k=some p.2:=by simp[WQ,xO,e]
theorem q4j{p:κ×V}{r:List (κ×V)}{k:κ}(e:¬p.1=k):WQ (p::r) k=WQ r k:=by simp[WQ,xO,e]
theorem q9M(k:κ):∀kvs:List (κ×V),(kvs.any λkv=>decide (kv.1=k))=(WQ kvs k).isSome
 | []=>rfl
 | p::r=>by
  rw[xg]
  by_cases e:p.1=k
  ·simp only[q4h e,vW e,Zg,Option.isSome_some]
  ·rw[q4j e,vT e,ZO];exact q9M k r
theorem q3S(kvs:List (κ×V))(k:κ)(v:V):(putK kvs k v).length<=kvs.length+1:=by
 unfold putK
 split
 ·rw[zA];omega
 ·rw[zE,zL,xz];omega
theorem zAB.isSome_eq{o:Option V}{u:Option vB}(r:zAB o u):o.isSome=u.isSome:=by
 cases o with
 | none=>cases u with
  | none=>rfl
  | some _=>exact(show False from r).elim
 | some _=>cases u with
  | none=>exact(show False from r).elim
  | some _=>rfl
theorem KV.val{kvs:List (κ×V)}{vs:List (κ×vB)}(r:KV kvs vs)(k:κ):zAB (WQ kvs k) (tS vs k):=by
 unfold KV at r
 induction r with
 | nil=>exact True.intro
 | @cons p q ps qs h t ih=>
  obtain⟨h1,h2⟩:=h
  by_cases e:p.1=k
  ·have e':q.1=k:=h1.symm.trans e
   have b:tS (q::qs) k=some q.2:=by simp[tS,xO,e']
   rw[q4h e,b];exact h2
  ·have e':¬q.1=k:=λz=>e (h1.trans z)
   have b:tS (q::qs) k=tS qs k:=by simp[tS,xO,e']
   rw[q4j e,b];exact ih
theorem KV.any{kvs:List (κ×V)}{vs:List (κ×vB)}(r:KV kvs vs)(k:κ):(kvs.any λkv=>decide (kv.1=k))=vs.any λkv=>decide (kv.1=k):=by
 unfold KV at r
 induction r with
 | nil=>rfl
 | cons h t ih=>rw[xg,xg,ih,h.1]
theorem KV.repl{kvs:List (κ×V)}{vs:List (κ×vB)}(r:KV kvs vs)(k:κ){y:V}{u:vB}(ry:RelV y u):
  KV (kvs.map λkv=>if kv.1=k then (kv.1,y)else kv) (vs.map λkv=>if kv.1=k then (kv.1,u)else kv):=by
 unfold KV at r ⊢
 induction r with
 | nil=>exact .nil
 | @cons p q ps qs h t ih=>
  rw[zR,zR];refine .cons ?_ ih;obtain⟨h1,h2⟩:=h
  by_cases e:p.1=k
  ·rw[vH e,vH (h1.symm.trans e)];exact⟨h1,ry⟩
  ·rw[vJ e,vJ (λz=>e (h1.trans z))];exact⟨h1,h2⟩
theorem KV.put{kvs:List (κ×V)}{vs:List (κ×vB)}(r:KV kvs vs)(k:κ){y:V}{u:vB}(ry:RelV y u):KV (putK kvs k y) (stored vs k u):=by
 unfold putK stored;rw[r.any k]
 by_cases e:(vs.any λkv=>decide (kv.1=k))=true
 ·rw[vH e,vH e];exact r.repl k ry
 ·rw[vJ e,vJ e];exact Paired.snoc r ⟨rfl,ry⟩
theorem KV.keys{kvs:List (κ×V)}{vs:List (κ×vB)}(r:KV kvs vs):kvs.map (·.1)=vs.map (·.1):=by
 unfold KV at r
 induction r with
 | nil=>rfl
 | cons h t ih=>rw[zR,zR,ih,h.1]
theorem KV.length{kvs:List (κ×V)}{vs:List (κ×vB)}(r:KV kvs vs):kvs.length=vs.length:=Paired.length r
end
theorem q6u{P:vO}{w:vU}{k:Key}{u:vB}(r:RelV (kV k) u):(Ye P w).is k u=true:=by
 cases k with
 | inl i=>obtain⟨t,e⟩:=(show ∃t,u=Value.int i t from r);subst e;exact qac P w i t
 | inr x=>obtain⟨t,e⟩:=(show ∃t,u=Value.str x t from r);subst e;exact qat P w x t
theorem q7B{P:vO}{w:vU}:∀{ks:List Key}{us:List vB},Yf (ks.map kV) us->ItemsAre (Ye P w) ks us
 | [],_,r=>by rw[yf]at r;cases r;exact .nil
 | k::ks,_,r=>by
  rw[zR]at r;cases r with
  | cons h t=>exact .cons (q6u h) (q7B t)
abbrev KT(H:Hp):List (List Key×V)->List (List Key×vC×vB)->Prop:=tt λp q=>p.1=q.1/\H q.2.1=some (.tup (p.1.map kV))/\RelV p.2 q.2.2
theorem KT.val{H:Hp}{kvs:List (List Key×V)}{xs:List (List Key×vC×vB)}(r:KT H kvs xs)(k:List Key):zAB (WQ kvs k) ((t7 xs k).map (·.2)):=by
 induction r with
 | nil=>exact True.intro
 | @cons p q ps qs h t ih=>
  obtain⟨h1,_,h2⟩:=h
  by_cases e:p.1=k
  ·have e':q.1=k:=h1.symm.trans e
   have b:t7 (q::qs) k=some q.2:=by simp[t7,xO,e']
   rw[q4h e,b];exact h2
  ·have e':¬q.1=k:=λz=>e (h1.trans z)
   have b:t7 (q::qs) k=t7 qs k:=by simp[t7,xO,e']
   rw[q4j e,b];exact ih
theorem KT.repl{H:Hp}{kvs:List (List Key×V)}{xs:List (List Key×vC×vB)}(r:KT H kvs xs)(k:List Key){y:V}{u:vB}(ry:RelV y u):
  KT H (kvs.map λkv=>if kv.1=k then (kv.1,y)else kv) (xs.map (putAt k u)):=by
 induction r with
 | nil=>exact .nil
 | @cons p q ps qs h t ih=>
  rw[zR,zR];refine .cons ?_ ih;obtain⟨h1,h2,h3⟩:=h;unfold putAt
  by_cases e:p.1=k
  ·rw[vH e,vH (h1.symm.trans e)];exact⟨h1,h2,ry⟩
  ·rw[vJ e,vJ (λz=>e (h1.trans z))];exact⟨h1,h2,h3⟩
theorem KT.put{H:Hp}{kvs:List (List Key×V)}{xs:List (List Key×vC×vB)}(r:KT H kvs xs)(k:List Key){b:vC}{y:V}{u:vB}(hb:H b=some (.tup (k.map kV)))(ry:RelV y u):
  KT H (putK kvs k y) (storedH xs k b u):=by
 have e:(kvs.any λkv=>decide (kv.1=k))=(t7 xs k).isSome:=by
  rw[q9M,(r.val k).isSome_eq,Zh]
 unfold putK storedH;rw[e]
 by_cases q:(t7 xs k).isSome=true
 ·rw[vH q,vH q];exact r.repl k ry
 ·rw[vJ q,vJ q];exact Paired.snoc r ⟨rfl,hb,ry⟩
theorem KT.keeps{H H':Hp}{kvs:List (List Key×V)}{xs:List (List Key×vC×vB)}(r:KT H kvs xs)(ht:∀b ys,H b=some (.tup ys)->H' b=some (.tup ys)):KT H' kvs xs :=
 Paired.mapP r λ_ _ z=>⟨z.1,ht _ _ z.2.1,z.2.2⟩
section
variable{P:vO}{w:vU}{H:Hp}{h:vZ}{a:vC}
theorem qgz{u:HO}(ok:HOk P w H h)(e:Rd H a u):Yi P w H h a u:=e.ok ok
theorem q6r{kvs:List (Key×V)}(ok:HOk P w H h)(e:Rd H a (.dK kvs)):kvs.length<=sizeLine/\(a==v8)=false/\∃vs,KV kvs vs/\h.DictOf (Ye P w) a vs :=
 show Yi P w H h a (.dK kvs)from qgz ok e
theorem qgj{kvs:List (Key×V)}(ok:HOk P w H h)(e:H a=some (.dK kvs)):kvs.length<=sizeLine/\(a==v8)=false/\∃vs,KV kvs vs/\h.DictOf (Ye P w) a vs:=q6r ok (.inl e)
theorem q6C{ks:List Key}(ok:HOk P w H h)(e:H a=some (.tup (ks.map kV))):(tO (Ye P w)).is h ks a:=by
 obtain⟨_,its,r,o,h1,h2,n,h3⟩:=(show Yi P w H h a (.tup (ks.map kV))from ok a _ e);exact⟨o,its.toArray,n,h1,h2,h3,by simpa using q7B r⟩
theorem q8m{kvs:List (List Key×V)}(ok:HOk P w H h)(e:Rd H a (.dT kvs)):kvs.length<=sizeLine/\(a==v8)=false /\
  ∃xs,KT H kvs xs/\h.DictOfH (tO (Ye P w)) a xs:=by
 obtain⟨z,y,xs,r,o,es,ep,h1,h2,h3,h4,h5⟩:=(show Yi P w H h a (.dT kvs)from qgz ok e);refine⟨z,y,xs,r,o,es,ep,h1,h2,h3,h4,λx hx=>?_,h5⟩;have all:∀{l:List (List Key×V)}{m:List (List Key×vC×vB)},KT H l m->∀x∈m,(tO (Ye P w)).is h x.1 x.2.1:=by
  intro l m q
  induction q with
  | nil=>intro x hx;exact nomatch hx
  | @cons p q ps qs hq t ih=>
   intro x hx;rcases zF.mp hx with e|hx
   ·subst e
    exact q6C ok (by rw[<- hq.1];exact hq.2.1)
   ·exact ih x hx
 exact all r x hx
theorem qjr{kvs:List (List Key×V)}(ok:HOk P w H h)(e:H a=some (.dT kvs)):kvs.length<=sizeLine/\(a==v8)=false /\
  ∃xs,KT H kvs xs/\h.DictOfH (tO (Ye P w)) a xs:=q8m ok (.inl e)
end
def Wh(H:Hp)(a:vC)(y:V)(r:Option V):Prop :=
 (∃kvs k,Rd H a (.dK kvs)/\y=kV k/\r=WQ kvs k)\/∃kvs k b,Rd H a (.dT kvs)/\y=.ref b/\H b=some (.tup (k.map kV))/\r=WQ kvs k
def zAp(H:Hp)(a:vC)(y v:V)(H':Hp):Prop :=
 (∃kvs k,H a=some (.dK kvs)/\y=kV k/\kvs.length<sizeLine/\H'=upd H a (.dK (putK kvs k v))) \/
 ∃kvs k b,H a=some (.dT kvs)/\y=.ref b/\H b=some (.tup (k.map kV))/\kvs.length<sizeLine/\H'=upd H a (.dT (putK kvs k v))
theorem Wh.k{H:Hp}{a:vC}{kvs:List (Key×V)}{k:Key}(e:H a=some (.dK kvs)):Wh H a (kV k) (WQ kvs k):=.inl ⟨kvs,k,.inl e,rfl,rfl⟩
theorem zAp.k{H:Hp}{a:vC}{kvs:List (Key×V)}{k:Key}{v:V}(e:H a=some (.dK kvs))(hl:kvs.length<sizeLine):zAp H a (kV k) v (upd H a (.dK (putK kvs k v))):=.inl ⟨kvs,k,e,rfl,hl,rfl⟩
section
variable{X:Cx}{pins:List (vC×Obj)}{σ:St}{H:Hp}{s:vF}{a:vC}{y v:V}{u r:vB}{o:Option V}{A:vY}{E:vB->vF->Prop}
theorem Inv.big(I:Inv X pins σ H s):v8<s.heap.objs.size:=by
 have h:vQ<s.heap.objs.size:=(I.mod.glob.keeps I.bk).lt;exact Zb (by decide) h
theorem qdI{Q:vB->vF->Prop}(hu:A.units+1<ue)(I:Inv X pins σ H s)(g:Wh H a y (some v))(ry:RelV y u)(h:∀w' s',Inv X pins σ H s'->RelV v w'->Q w' s'):
  vM (model X.prog X.w) A (um (.ref a) u) Q E s:=by
 rcases g with⟨kvs,k,e,ey,l⟩|⟨kvs,k,b,e,ey,eb,l⟩
 ·subst ey
  obtain⟨z,hd,vs,rel,dd⟩:=q6r I.hok e;obtain⟨w',hw,rw'⟩:=zAB.some_of (v:=v) (o:=tS vs k) (by rw[l];exact rel.val k);exact wpAny_getItem_of (q6u ry) dd.mapOf hw (h w' _ (I.tok _) rw')
 ·subst ey
  cases (show u=Value.ref b from ry);obtain⟨z,hd,xs,rel,dd⟩:=q8m I.hok e;obtain⟨w',hw,rw'⟩:=zAB.some_of (v:=v) (o:=(t7 xs k).map (·.2)) (by rw[l];exact rel.val k);obtain⟨p,hp,hp2⟩:=xl.mp hw;refine wpAny_getItem_heap (uw hu) (q6C I.hok eb) dd hp ?_;rw[hp2];exact h w' _ (I.tok _) rw'
theorem qhr{Q:vB->vF->Prop}(hu:A.units+1<ue)(I:Inv X pins σ H s)(g:Wh H a y o)(ry:RelV y u)(h:∀s',Inv X pins σ H s'->Q (.bool (!o.isSome)) s'):
  vM (model X.prog X.w) A (uA .NotIn u (.ref a)) Q E s:=by
 rcases g with⟨kvs,k,e,ey,l⟩|⟨kvs,k,b,e,ey,eb,l⟩
 ·subst ey
  obtain⟨z,hd,vs,rel,dd⟩:=q6r I.hok e;refine wpAny_notIn_of (q6u ry) hd dd.mapOf ?_;rw[<- (rel.val k).isSome_eq,<- l];exact h _ (I.tok _)
 ·subst ey
  cases (show u=Value.ref b from ry);obtain⟨z,hd,xs,rel,dd⟩:=q8m I.hok e;refine wpAny_notIn_heap (uw hu) (q6C I.hok eb) hd dd ?_;have q:=(rel.val k).isSome_eq;rw[Zh]at q;rw[<- q,<- l];exact h _ (I.tok _)
theorem q7a{h':vZ}{t':Nat}{ob:HO}(I:Inv X pins σ H s)(mu:Mut (H a))(hs:xD a s.heap h')(he:∃q,h'.get? a=some q)(new:Yi X.prog X.w (upd H a ob) h' a ob):
  Inv X pins σ (upd H a ob) { s with heap:=h',toks:=t' } :=
 I.write (x:=a) (e:=a) mu (.inl rfl) (λb q hb z=>(hs.2 b hb).trans z) he new
theorem qdV{P:vO}{w:vU}{H':Hp}{h':vZ}{kvs:List (Key×V)}{vs:List (Key×vB)}(z:kvs.length<=sizeLine)(hd:(a==v8)=false)(rel:KV kvs vs)(dd:h'.DictOf (Ye P w) a vs):
  Yi P w H' h' a (.dK kvs):=⟨z,hd,vs,rel,dd⟩
theorem qdU{H':Hp}{Q:Unit->vF->Prop}(hu:A.units+1<ue)(I:Inv X pins σ H s)(g:zAp H a y v H')(ry:RelV y u)(rv:RelV v r)(h:∀s',Inv X pins σ H' s'->Q () s'):
  vM (model X.prog X.w) A (setItem (.ref a) u r) Q E s:=by
 rcases g with⟨kvs,k,e,ey,l,eH⟩|⟨kvs,k,b,e,ey,eb,l,eH⟩
 ·subst ey eH
  obtain⟨z,hd,vs,rel,dd⟩:=qgj I.hok e;have hz:vs.length<=sizeLine:=by rw[<- rel.length];exact z
  have hl:(putK kvs k v).length<=sizeLine:=by have:=q3S kvs k v;omega
  refine wpAny_setItem_pairs (hsz:=hz) (q6u ry) dd λh' dd' hs=>h _ ?_;have he:∃q,h'.get? a=some q:=let ⟨q,_,_,hq,_⟩:=dd';⟨q,hq⟩
  exact q7a I (by rw[e];exact True.intro) hs he (qdV hl hd (rel.put k rv) dd')
 ·subst ey eH
  cases (show u=Value.ref b from ry);obtain⟨z,hd,xs,rel,dd⟩:=qjr I.hok e;have hz:xs.length<=sizeLine:=by rw[<- Paired.length rel];exact z
  have hl:(putK kvs k v).length<=sizeLine:=by have:=q3S kvs k v;omega
  refine wpAny_setItem_heap (hsz:=hz) (uw hu) (q6C I.hok eb) dd λh' dd' hs=>h _ ?_;obtain⟨q,es,ep,hq,h2,h3,h4,_,h5⟩:=dd';refine q7a I (by rw[e];exact True.intro) hs ⟨q,hq⟩ ⟨hl,hd,_,(rel.put k eb rv).keeps λc ys ec=>?_,q,es,ep,hq,h2,h3,h4,h5⟩;rw[qc (qje ec e (λz=>nomatch z))];exact ec
end
section
variable{X:Cx}{pins:List (vC×Obj)}{σ:St}{H:Hp}{s:vF}{a:vC}{kvs:List (Key×V)}{k:Key}{u:vB}{A:vY}{E:vB->vF->Prop}
end
def NoSl(i:vP):Prop:=∀ov iv,subscripted i false ov iv=operate [ov,iv] (um ov iv)
theorem qhF{prog:vO}{w:vU}{A:vY}{E:vB->vF->Prop}{s:vF}{env:Env}{value slice:vP}{pos:Pos}{T id:String}{Q:vB->vF->Prop}(hl:u9 (.type T) "__getitem__" = pure (some (.builtin id)))(hs:NoSl slice)(h:vM (model prog w) A (eval value env) (λo s₁=>vM (model prog w) A (eval slice env) (λi s₂=>s₂.TypeIs o T/\vM (model prog w) A (um o i) Q E s₂) E s₁) E s):
  vM (model prog w) A (eval (.Subscript value slice pos) env) Q E s:=by
 refine Subscript_ (vh h (λo s₁ h₁=>vh h₁ (λi s₂ h₂=>?_) λ_ _ x=>x) λ_ _ x=>x);obtain⟨hT,h₂⟩:=h₂;unfold tU;refine vA ?_;rw[getitemInPython_of_ne hT.not_modules];refine vA (uk hT hl ?_);have fin:vM (model prog w) A (subscripted slice false o i) (λr s₃=>vM (model prog w) A (letTemporaryGo value o r >>= λ_=>pure r) Q E s₃) E s₂:=by
  rw[hs o i];exact wpAny_operating (vh h₂ (λr s₃ h₃=>vA (wpAny_letTemporaryGo (vG h₃))) λ_ _ x=>x)
 first
  | exact vG (vA fin)
  | exact vA (vG (vA fin))
  | exact vA fin
theorem qaA{X:Cx}{pins:List (vC×Obj)}{σ:St}{H:Hp}{s:vF}{a:vC}{y:V}{o:Option V}(I:Inv X pins σ H s)(g:Wh H a y o):s.TypeIs (.ref a) "dict" := by
 rcases g with⟨kvs,k,e,_,_⟩|⟨kvs,k,b,e,_,_,_⟩
 ·obtain⟨_,_,vs,_,dd⟩:=q6r I.hok e
  exact dd.typeIs
 ·obtain⟨_,_,xs,_,dd⟩:=q8m I.hok e
  exact dd.typeIs
noncomputable def tDGet(td ty:TE):TE:=λσ H Q=>td σ H λx H1=>ty σ H1 λy H2=>∃a v,x=.ref a/\Wh H2 a y (some v)/\Q v H2
noncomputable def tDIn(ty td:TE):TE:=λσ H Q=>ty σ H λy H1=>td σ H1 λx H2=>∃a o,x=.ref a/\Wh H2 a y o/\Q (.bl o.isSome) H2
noncomputable def Wp(ty td:TE):TE:=λσ H Q=>ty σ H λy H1=>td σ H1 λx H2=>∃a o,x=.ref a/\Wh H2 a y o/\Q (.bl (!o.isSome)) H2
noncomputable def sDPut(td ty tv:TE):TS:=λD σ H=>tv σ H λv H1=>td σ H1 λx H2=>ty σ H2 λy H3=>∃a H4,x=.ref a/\zAp H3 a y v H4/\D.nx σ H4
section
variable{X:Cx}{o i e value:vP}{pos pos' tpos:Pos}{td ty tv:TE}
theorem q7q(hu:X.A.units+1<ue)(ho:PE X o td)(hi:PE X i ty)(hs:NoSl i):PE X (.Subscript o i pos) (tDGet td ty):=by
 intro pins s σ H Q I h;refine qhF PySem.F.slot_dict_getitem.lookup hs (thn (ho pins s σ H _ I h) λu s1 ⟨x,H1,I1,rx,q1⟩=>thn (hi pins s1 σ H1 _ I1 q1) λiv s2 ⟨y,H2,I2,ry,a,v,ex,g,q2⟩=>?_);subst ex;obtain rfl:u=Value.ref a:=rx;exact⟨qaA I2 g,qdI hu I2 g ry λw' s3 I3 rw'=>⟨v,H2,I3,rw',q2⟩⟩
theorem qeJ(hu:X.A.units+1<ue)(hi:PE X i ty)(ho:PE X o td):PC X .NotIn i o (Wp ty td):=by
 intro pins s σ H Q I h;refine thn (hi pins s σ H _ I h) λiv s1 ⟨y,H1,I1,ry,q1⟩=>thn (ho pins s1 σ H1 _ I1 q1) λu s2 ⟨x,H2,I2,rx,a,ov,ex,g,q2⟩=>?_;subst ex;obtain rfl:u=Value.ref a:=rx;exact qhr hu I2 g ry λs3 I3=>⟨.bl (!ov.isSome),H2,I3,rfl,q2⟩
theorem qbX(hu:X.A.units+1<ue)(ho:PE X o td)(hi:PE X i ty)(hv:PE X value tv)(hs:vv value (some (.Subscript o i pos')) pos.line X.env=pure false):
  PS X (.Assign [.Subscript o i pos'] value pos) (sDPut td ty tv):=by
 intro pins s σ H D I h;refine wpAny_Assign_Subscript (thn (hv pins s σ H _ I h) λr s1 ⟨v,H1,I1,rv,q1⟩=>thn (ho pins s1 σ H1 _ I1 q1) λu s2 ⟨x,H2,I2,rx,q2⟩=>thn (hi pins s2 σ H2 _ I2 q2) λiv s3 ⟨y,H3,I3,ry,a,H4,ex,g,q3⟩=>?_) hs;subst ex;obtain rfl:u=Value.ref a:=rx;exact qdU hu I3 g ry rv λs4 I4=>⟨σ,H4,I4,q3⟩
end
theorem q8r{P:vO}{w:vU}{H:Hp}(h:vZ)(hb:v8<h.objs.size):Yi P w H (h.push { cls:=.type "dict", data:=.dict #[] }) h.objs.size (.dK []) :=
 ⟨yQ _,beq_eq_false_iff_ne.mpr (Ne.symm (zo hb)),[],.nil,Heap.DictOf.new h⟩
noncomputable def tDNewK:TE:=λ_ H Q=>∀p,H p=none->Q (.ref p) (upd H p (.dK []))
section
variable{X:Cx}{pos:Pos}
theorem q9l:PE X (.Dict [] [] pos) tDNewK:=λpins s σ H Q I h=>
 wpAny_Dict_empty ⟨.ref s.heap.objs.size,_,I.laid (a:=s.heap.objs.size) (o:=.dK []) (t':=s.toks) (λ_ _ q=>zH _ q) (zN _) (q8r s.heap I.big),rfl,h _ (I.hok.fresh (zN _))⟩
end
def Ww:List (TE×TE)->St->Hp->(List (V×V)->Hp->Prop)->Prop
 | [],_,H,Q=>Q [] H
 | (tk,tv)::r,σ,H,Q=>tk σ H λx H1=>tv σ H1 λy H2=>Ww r σ H2 λps H3=>Q ((x,y)::ps) H3
abbrev VV:List (V×V)->List (vB×vB)->Prop:=tt λp q=>RelV p.1 q.1/\RelV p.2 q.2
def PPs(X:Cx)(pos:Pos)(keys:List (Option vP))(values:List vP)(trs:List (TE×TE)):Prop :=
 ∀(pins:List (vC×Obj))(s:vF)(σ:St)(H:Hp)(Q:List (V×V)->Hp->Prop),Inv X pins σ H s->Ww trs σ H Q ->
  vM (model X.prog X.w) X.A (evalPairs (pairTrees keys values X.env pos)) (λvs s'=>∃ps H',Inv X pins σ H' s'/\VV ps vs/\Q ps H') X.xe s
theorem qgO{X:Cx}{pos:Pos}:PPs X pos [] [] []:=λpins s σ H Q I h=>pairTrees_nil_walk ⟨[],H,I,.nil,h⟩
theorem qfK{X:Cx}{pos:Pos}{k v:vP}{ks:List (Option vP)}{vs:List vP}{tk tv:TE}{trs:List (TE×TE)}(hk:PE X k tk)(hv:PE X v tv)(hr:PPs X pos ks vs trs):
  PPs X pos (some k::ks) (v::vs) ((tk,tv)::trs):=λpins s σ H Q I h=>
 pairTrees_cons_walk (thn (hk pins s σ H _ I h) λu s1 ⟨x,H1,I1,rx,q1⟩=>thn (hv pins s1 σ H1 _ I1 q1) λw2 s2 ⟨y,H2,I2,ry,q2⟩=>
  thn (hr pins s2 σ H2 _ I2 q2) λws s3 ⟨ps,H3,I3,rel,q3⟩=>⟨(x,y)::ps,H3,I3,.cons ⟨rx,ry⟩ rel,q3⟩)
noncomputable def Xv(kvs more:List (Key×V)):List (Key×V):=more.foldl (λacc kv=>putK acc kv.1 kv.2) kvs
theorem KV.merge:∀{more:List (Key×V)}{rs:List (Key×vB)}{kvs:List (Key×V)}{vs:List (Key×vB)},KV more rs->KV kvs vs->KV (Xv kvs more) (merged vs rs):=by
 intro more rs kvs vs r;unfold KV at r
 induction r generalizing kvs vs with
 | nil=>intro q;exact q
 | @cons p q ps qs h t ih=>
  intro r0;have e:KV (putK kvs p.1 p.2) (stored vs q.1 q.2):=by
   have:=r0.put p.1 h.2;rw[<- h.1];exact this
  exact ih e
theorem q4x:∀(more kvs:List (Key×V)),(Xv kvs more).length<=kvs.length+more.length
 | [],kvs=>by show kvs.length<=kvs.length+0;omega
 | p::r,kvs=>by
  have h1:=q4x r (putK kvs p.1 p.2);have h2:=q3S kvs p.1 p.2;show (Xv (putK kvs p.1 p.2) r).length<=_;rw[zL];omega
theorem q6t{P:vO}{w:vU}:∀{kvs:List (Key×V)}{ws:List (vB×vB)},VV (kvs.map λkv=>(kV kv.1,kv.2)) ws->∃rs,Carries (Ye P w) ws rs/\KV kvs rs
 | [],_,r=>by rw[yf]at r;cases r;exact⟨[],True.intro,.nil⟩
 | p::kvs,_,r=>by
  rw[zR]at r;cases r with
  | @cons a b as bs h t=>
   obtain⟨rs,c,q⟩:=q6t (P:=P) (w:=w) t;obtain⟨b1,b2⟩:=b;exact⟨(p.1,b2)::rs,⟨q6u h.1,rfl,c⟩,.cons ⟨rfl,h.2⟩ q⟩
noncomputable def tDisp(trs:List (TE×TE)):TE:=λσ H Q=>∀p,H p=none->Ww trs σ (upd H p (.dK [])) λps H2=>H2 p=some (.dK [])/\∃kvs:List (Key×V),ps=kvs.map (λkv=>(kV kv.1,kv.2))/\kvs.length<=15/\Q (.ref p) (upd H2 p (.dK (Xv [] kvs)))
theorem qhb{X:Cx}{pos:Pos}{keys:List (Option vP)}{values:List vP}{trs:List (TE×TE)}(h:PPs X pos keys values trs)(hall:keys.all (·.isSome)=true)(hl:keys.length=values.length)(h0:keys≠[])(h15:keys.length<=15):PE X (.Dict keys values pos) (tDisp trs):=by
 intro pins s σ H Q I q;have hn:=I.hok.fresh (zN s.heap.objs.size);have I1:=I.laid (a:=s.heap.objs.size) (o:=.dK []) (h':=s.heap.push { cls:=.type "dict", data:=.dict #[] }) (t':=s.toks) (λ_ _ q=>zH _ q) (zN _) (q8r s.heap I.big);refine wpAny_Dict_walk (knd:=Ye X.prog X.w) hall hl h0 h15 (thn (h pins _ σ _ _ I1 (q _ hn)) λws s2 ⟨ps,H2,I2,rel,e,kvs,ep,lk,q2⟩=>?_);subst ep;obtain⟨rs,c,rk⟩:=q6t (P:=X.prog) (w:=X.w) rel;obtain⟨z,hd,vs0,r0,dd⟩:=qgj I2.hok e;cases r0;refine⟨rs,c,dd,λh' dd' hs=>⟨.ref s.heap.objs.size,_,?_,rfl,q2⟩⟩;have hz:(Xv [] kvs).length<=sizeLine:=by
  have h1:=q4x kvs [];rw[xz]at h1;rw[vo];omega
 have he:∃q,h'.get? s.heap.objs.size=some q:=let ⟨q,_,_,hq,_⟩:=dd';⟨q,hq⟩
 exact q7a I2 (by rw[e];exact True.intro) hs he (qdV hz hd (rk.merge .nil) dd')
section
variable{X:Cx}{pins:List (vC×Obj)}{σ:St}{H:Hp}{s:vF}{a:vC}{y d:V}{u r:vB}{o:Option V}{A:vY}{E:vB->vF->Prop}
end
section
variable{X:Cx}{o e f:vP}{apos cpos:Pos}{td ty tx:TE}
end
section
variable{X:Cx}{pins:List (vC×Obj)}{σ:St}{H:Hp}{s:vF}{a:vC}{kvs:List (Key×V)}{A:vY}{E:vB->vF->Prop}
end
section
variable{X:Cx}{pins:List (vC×Obj)}{σ:St}{H:Hp}{s:vF}{a:vC}{y:V}{u:vB}{A:vY}{E:vB->vF->Prop}
end
end L2
namespace Hk
open PySem L2
noncomputable def Yl{α:Type}:List Int->List α->Int->Option α
 | k'::ks,x::xs,k=>if k'=k then some x else Yl ks xs k
 | _,_,_=>none
noncomputable def repA{α:Type}:List Int->List α->Int->α->List α
 | k'::ks,x::xs,k,y=>(if k'=k then y else x)::repA ks xs k y
 | _,xs,_,_=>xs
noncomputable def Xa(ks:List Int)(k:Int):List Int:=if k∈ks then ks else ks++[k]
noncomputable def putA{α:Type}(ks:List Int)(xs:List α)(k:Int)(y:α):List α:=if k∈ks then repA ks xs k y else xs++[y]
theorem q8o{α:Type}:∀(ks:List Int)(xs:List α)(k:Int)(y:α),(repA ks xs k y).length=xs.length
 | [],xs,_,_=>rfl
 | _::_,[],_,_=>rfl
 | k'::ks,x::xs,k,y=>by show (repA ks xs k y).length+1=xs.length+1;rw[q8o ks xs k y]
theorem qhK{α:Type}{ks:List Int}{xs:List α}(k:Int)(y:α)(h:ks.length=xs.length):(Xa ks k).length=(putA ks xs k y).length:=by
 unfold Xa putA
 by_cases z:k∈ks
 ·rw[vH z,vH z,q8o];exact h
 ·rw[vJ z,vJ z,zE,zE,h];rfl
theorem q3k:∀{ks:List Int}{vs:List V},ks.length=vs.length->∀k,WQ (kvsOf ks vs) (Sum.inl k)=Yl ks vs k
 | [],[],_,k=>rfl
 | [],_::_,h,_=>by simp at h
 | _::_,[],h,_=>by simp at h
 | k'::ks,v::vs,h,k=>by
  show WQ ((Sum.inl k',v)::kvsOf ks vs) (Sum.inl k)=if k'=k then some v else Yl ks vs k
  by_cases z:k'=k
  ·rw[vH z,q4h (p:=((Sum.inl k':Key),v)) (by rw[z])]
  ·rw[vJ z,q4j (p:=((Sum.inl k':Key),v)) (λe=>z (Sum.inl.inj e))]
   exact q3k ⇑h k
theorem q3q:∀{ks:List Int}{vs:List V},ks.length=vs.length->(kvsOf ks vs).length=ks.length
 | [],[],_=>rfl
 | [],_::_,h=>by simp at h
 | _::_,[],h=>by simp at h
 | k'::ks,v::vs,h=>by show (kvsOf ks vs).length+1=_;rw[q3q ⇑h];rfl
theorem q6x:∀{ks:List Int}{vs:List V},ks.length=vs.length->(kvsOf ks vs).map (·.1)=ks.map (Sum.inl:Int->Key)
 | [],[],_=>rfl
 | [],_::_,h=>by simp at h
 | _::_,[],h=>by simp at h
 | k'::ks,v::vs,h=>by show (Sum.inl k':Key)::(kvsOf ks vs).map (·.1)=_;rw[q6x ⇑h];rfl
theorem q7r:∀{ks:List Int}{vs:List V},ks.length=vs.length->∀k,(kvsOf ks vs).any (λkv=>decide (kv.1=(Sum.inl k:Key)))=decide (k∈ks)
 | [],[],_,_=>rfl
 | [],_::_,h,_=>by simp at h
 | _::_,[],h,_=>by simp at h
 | k'::ks,v::vs,h,k=>by
  show (decide ((Sum.inl k':Key)=Sum.inl k) || (kvsOf ks vs).any _)=_;rw[q7r ⇑h k];have e:decide ((Sum.inl k':Key)=Sum.inl k)=decide (k'=k):=by
   by_cases z:k'=k
   ·rw[z];simp
   ·rw[vT z,vT (λe=>z (Sum.inl.inj e))]
  rw[e];simp only[zF]
  by_cases z:k'=k
  ·simp[z]
  ·have:¬k=k':=λy=>z y.symm
   simp[z,this]
theorem q7F:∀{ks:List Int}{vs:List V},ks.length=vs.length->∀(k:Int)(v:V),(kvsOf ks vs).map (λkv=>if kv.1=(Sum.inl k:Key)then (kv.1,v)else kv)=kvsOf ks (repA ks vs k v)
 | [],[],_,_,_=>rfl
 | [],_::_,h,_,_=>by simp at h
 | _::_,[],h,_,_=>by simp at h
 | k'::ks,u::vs,h,k,v=>by
  show (if (Sum.inl k':Key)=Sum.inl k then ((Sum.inl k':Key),v)else (Sum.inl k',u))::(kvsOf ks vs).map _=(Sum.inl k',if k'=k then v else u)::kvsOf ks (repA ks vs k v);rw[q7F ⇑h k v]
  by_cases z:k'=k
  ·rw[vH (by rw[z]),vH z]
  ·rw[vJ (λe=>z (Sum.inl.inj e)),vJ z]
theorem q6j:∀{ks:List Int}{vs:List V},ks.length=vs.length->∀(k:Int)(v:V),kvsOf ks vs++[(Sum.inl k,v)]=kvsOf (ks++[k]) (vs++[v])
 | [],[],_,_,_=>rfl
 | [],_::_,h,_,_=>by simp at h
 | _::_,[],h,_,_=>by simp at h
 | k'::ks,u::vs,h,k,v=>by show _::(kvsOf ks vs++[(Sum.inl k,v)])=_;rw[q6j ⇑h k v];rfl
theorem q7E{ks:List Int}{vs:List V}(h:ks.length=vs.length)(k:Int)(v:V):putK (kvsOf ks vs) (Sum.inl k) v=kvsOf (Xa ks k) (putA ks vs k v):=by
 unfold putK Xa putA;rw[q7r h]
 by_cases z:k∈ks
 ·rw[vH (vW z),vH z,vH z];exact q7F h k v
 ·rw[vJ (by rw[vT z];decide),vJ z,vJ z];exact q6j h k v
section
variable{K:zB}{G:Hp}
theorem YX.val:∀{ks:List Int}{ds:List D}{vs:List V}{k:Int}{d:D},YX K G ds vs->Yl ks ds k=some d->∃v,Yl ks vs k=some v/\Rep K G d v
 | [],_,_,_,_,_,e=>by cases e
 | _::_,[],_,_,_,_,e=>by cases e
 | k'::ks,d'::ds,_,k,d,⟨v,r,h1,h2,h3⟩,e=>by
  subst h1;have e:(if k'=k then some d' else Yl ks ds k)=some d:=e;show ∃u,(if k'=k then some v else Yl ks r k)=some u/\_
  by_cases z:k'=k
  ·rw[vH z]at e ⊢;cases e;exact⟨v,rfl,h2⟩
  ·rw[vJ z]at e ⊢;exact YX.val h3 e
theorem YX.isVal:∀{ks:List Int}{ds:List D}{vs:List V}(k:Int),YX K G ds vs->(Yl ks vs k).isSome=(Yl ks ds k).isSome
 | [],_,_,_,_=>rfl
 | _::_,[],_,_,h=>by cases (show _=[]from h);rfl
 | k'::ks,d'::ds,_,k,⟨v,r,h1,h2,h3⟩=>by
  subst h1;show (if k'=k then some v else Yl ks r k).isSome=(if k'=k then some d' else Yl ks ds k).isSome
  by_cases z:k'=k
  ·rw[vH z,vH z];rfl
  ·rw[vJ z,vJ z];exact YX.isVal k h3
theorem YX.repA:∀{ks:List Int}{ds:List D}{vs:List V}(k:Int){d:D}{v:V},YX K G ds vs->Rep K G d v->YX K G (Hk.repA ks ds k d) (Hk.repA ks vs k v)
 | [],_,_,_,_,_,h,_=>h
 | _::_,[],_,_,_,_,h,_=>by cases (show _=[]from h);rfl
 | k'::ks,d'::ds,_,k,d,v,⟨u,r,h1,h2,h3⟩,hv=>by
  subst h1;refine⟨_,_,rfl,?_,YX.repA k h3 hv⟩
  by_cases z:k'=k
  ·rw[vH z,vH z];exact hv
  ·rw[vJ z,vJ z];exact h2
theorem YX.putA{ks:List Int}{ds:List D}{vs:List V}(k:Int){d:D}{v:V}(h:YX K G ds vs)(hv:Rep K G d v):YX K G (Hk.putA ks ds k d) (Hk.putA ks vs k v):=by
 unfold Hk.putA
 by_cases z:k∈ks
 ·rw[vH z,vH z];exact h.repA k hv
 ·rw[vJ z,vJ z];exact h.app (YX.cons hv YX.nil)
end
noncomputable def Xo:Option (Option W)->Option (List Int×List D)
 | some (some (.od ks ds))=>some (ks,ds)
 | some ↥(.dic ks ds)=>some (ks,ds)
 | _=>none
theorem qb9{H H':Hp}{p:vC}{u:HO}(e:Yd H H')(h:Rd H p u):Rd H' p u:=by
 rcases h with h|⟨o,h⟩
 ·exact .inl (e _ _ h)
 ·exact .inr ⟨o,e _ _ h⟩
theorem qaR{H:Hp}{a:vC}{kvs:List (Key×V)}{k:Key}(e:Rd H a (.dK kvs)):Wh H a (kV k) (WQ kvs k):=.inl ⟨kvs,k,e,rfl,rfl⟩
theorem Own.dic{K:zB}{G0:Hp}{H0:Fr}{G:Hp}{ω:WSt}{σ:St}{H:Hp}{i:Nat}{ks:List Int}{ds:List D}(o:Own K G0 H0 G ω σ H)(h:Xo ω[i]?=some (ks,ds)):
  ∃p vs,σ[i]?=some (some (.ref p))/\Rd H p (.dK (kvsOf ks vs))/\ks.length=ds.length/\YX K G ds vs:=by
 unfold Xo at h
 split at h
 ·rename_i q
  cases h;obtain⟨p,vs,h1,h2,_,_,h5,h6,_⟩:=o.od i _ _ q;exact⟨p,vs,h1,.inl h2,h5,h6⟩
 ·rename_i q
  cases h;obtain⟨v,h1,p,vs,rfl,⟨ob,h2⟩,h3,h4⟩:=o.sh i _ q;exact⟨p,vs,h1,.inr ⟨ob,o.gh _ _ h2⟩,h3,h4⟩
 ·cases h
section
variable{X:Cx}{o k e:vP}{pos pos' dpos:Pos}{i:Nat}{fk fv:FD}
theorem hu1(hu:X.A.units+64<ue):X.A.units+1<ue:=∅
noncomputable def Wz(i:Nat):FS:=λω=>some (.nx,ω.set i (some (.od [] [])))
theorem q73{x:Str}(hN:X.N.Nodup)(hi:X.N[i]?=some x)(hx:Loc X.env.scope x)(hs:vv (.Dict [] [] dpos) (some (.Name x pos')) pos.line X.env=pure false:=by rfl)(hf:X.fn x=true\/X.env.scope.names.lookup x=some .local:=by first|exact .inl rfl|exact .inr rfl|assumption):
  XS X (.Assign [.Name x pos'] (.Dict [] [] dpos) pos) (Wz i):=by
 refine⟨_,q55 hN hi hx q9l hs hf,λG0 H0 G ω σ H out ω' E ow e k=>?_⟩;cases e;intro p hp;have o1:=ow.keep (Ext.hide ow.gh hp (.dK []));refine k G _ _ (o1.setOd (ks:=[]) (ds:=[]) (vs:=[]) qg (ow.gh.free hp) (ow.ext.hh.free hp) rfl YX.nil λj ks' es hj z=>?_) (Yd.refl _);obtain⟨q,us,h1,h2,_⟩:=ow.od j ks' es hj;rw[h1]at z;cases z;rw[hp]at h2;cases h2
noncomputable def WW(i:Nat)(fk fv:FD):FS:=λω=>(fv ω).bind λd=>(fk ω).bind λc=>match c,ω[i]? with
 | .int k,some (some (.od ks ds))=>if ks.length<1000000 then some (.nx,ω.set i (some (.od (Xa ks k) (putA ks ds k d))))else none
 | _,_=>none
theorem q5o(hu:X.A.units+64<ue)(ho:PE X o (Xh i))(hk:XD X k fk)(hv:XD X e fv)(hs:vv e (some (.Subscript o k pos')) pos.line X.env=pure false:=by rfl):XS X (.Assign [.Subscript o k pos'] e pos) (WW i fk fv):=by
 obtain⟨tk,h1,h2⟩:=hk;obtain⟨tv,h3,h4⟩:=hv;refine⟨_,qbX (hu1 hu) ho h1 h3 hs,λG0 H0 G ω σ H out ω' E ow e kk=>?_⟩;obtain⟨d,q1,e⟩:=bnd e;obtain⟨c,q2,e⟩:=bnd e;refine h4 G0 H0 G ω σ H d _ ow q1 λv G1 H1 x1 y1=>?_;cases c with
 | int k=>
  split at e
  ·rename_i _ _ _ k' ks ds ek q3
   cases ek
   by_cases z:ks.length<1000000
   ·rw[vH z]at e
    cases e;have o1:=ow.keep x1;obtain⟨p,vs,r1,r2,r3,r4,r5,r6,r7⟩:=o1.od i ks ds q3;refine⟨.ref p,r1,h2 G0 H0 G1 ω σ H1 _ _ o1 q2 λu G2 H2 x2 y2=>?_⟩;cases (show u=.int k from y2);have o2:=o1.keep x2;have hl:ks.length=vs.length:=by rw[r5];exact r6.len
    refine⟨p,_,rfl,zAp.k (k:=Sum.inl k) (x2.hh _ _ r2) (by rw[q3q hl,vo];omega),?_⟩;rw[q7E hl];exact kk G2 σ _ (o2.mutD q3 r1 (x2.hh _ _ r2) (x2.new p r3 (by rw[r2];exact λz=>by cases z)) r4 (qhK k d r5) ((r6.mono x2.gg).putA k (y1.mono x2.gg))) (x1.gg.trans x2.gg)
   ·rw[vJ z]at e;cases e
  ·cases e
 | _=>cases e
noncomputable def Xx(i:Nat)(fk:FD):FE:=λω=>(Xo ω[i]?).bind λp=>(fk ω).bind λc=>match c with
 | .int k=>(Yl p.1 p.2 k).map R.sh
 | _=>none
theorem q1N(hu:X.A.units+64<ue)(ho:PE X o (Xh i))(hk:XD X k fk)(hs:NoSl k:=by intro _ _;rfl):XE X (.Subscript o k pos) (Xx i fk):=by
 obtain⟨tk,h1,h2⟩:=hk;refine⟨_,q7q (hu1 hu) ho h1 hs,λG0 H0 G ω σ H r Q ow e kk=>?_⟩;obtain⟨⟨ks,ds⟩,q1,e⟩:=bnd e;obtain⟨c,q2,e⟩:=bnd e;obtain⟨p,vs,r1,r2,r3,r4⟩:=ow.dic q1;refine⟨.ref p,r1,h2 G0 H0 G ω σ H c _ ow q2 λu G1 H1 x1 y1=>?_⟩;cases c with
 | int k=>
  cases (show u=.int k from y1);obtain⟨d,q3,e⟩:=mpd e;subst e;obtain⟨v,z1,z2⟩:=r4.val q3;have hl:ks.length=vs.length:=by rw[r3];exact r4.len
  have g:=qaR (k:=(Sum.inl k:Key)) (qb9 x1.hh r2);rw[q3k hl,z1]at g;exact⟨p,v,rfl,g,kk v G1 H1 x1 (z2.mono x1.gg)⟩
 | _=>cases e
noncomputable def W4(neg:Bool)(i:Nat)(fk:FD):FT:=λω=>(fk ω).bind λc=>(Xo ω[i]?).bind λp=>match c with
 | .int k=>some (if neg then !(Yl p.1 p.2 k).isSome else (Yl p.1 p.2 k).isSome)
 | _=>none
theorem qgX{tk:TE}{neg:Bool}(h2:zAx X.K tk fk):WL X.K (tB (if neg then Wp tk (Xh i)else L2.tDIn tk (Xh i))) (W4 neg i fk):=by
 intro G0 H0 G ω σ H b Q ow e kk;obtain⟨c,q2,e⟩:=bnd e;obtain⟨⟨ks,ds⟩,q1,e⟩:=bnd e;cases c with
 | int k=>
  have fin:∀(u:V)G1 H1,Ext G H G1 H1->u=.int k->∃p vs,σ[i]?=some (some (.ref p))/\Wh H1 p u (Yl ks vs k)/\(Yl ks vs k).isSome=(Yl ks ds k).isSome:=λu G1 H1 x1 hu=>by
   subst hu;obtain⟨p,vs,r1,r2,r3,r4⟩:=ow.dic q1;have hl:ks.length=vs.length:=by rw[r3];exact r4.len
   have g:=qaR (k:=(Sum.inl k:Key)) (qb9 x1.hh r2);rw[q3k hl]at g;exact⟨p,vs,r1,g,YX.isVal k r4⟩
  cases neg with
  | true=>
   refine h2 G0 H0 G ω σ H _ _ ow q2 λu G1 H1 x1 y1=>?_;obtain⟨p,vs,r1,g,hs⟩:=fin u G1 H1 x1 y1;refine⟨.ref p,r1,p,_,rfl,g,_,rfl,?_⟩;cases e;rw[hs];exact kk G1 H1 x1
  | false=>
   refine h2 G0 H0 G ω σ H _ _ ow q2 λu G1 H1 x1 y1=>?_;obtain⟨p,vs,r1,g,hs⟩:=fin u G1 H1 x1 y1;refine⟨.ref p,r1,p,_,rfl,g,_,rfl,?_⟩;cases e;rw[hs];exact kk G1 H1 x1
 | _=>cases e
theorem q7O(hu:X.A.units+64<ue)(hk:XD X k fk)(ho:PE X o (Xh i))(hb:vq .NotIn o=false:=by rfl):XT X (.Compare k [.NotIn] [o] pos) (W4 true i fk):=by
 obtain⟨tk,h1,h2⟩:=hk;exact⟨_,qiW (qeJ (hu1 hu) h1 ho) hb,qgX (neg:=true) h2⟩
end
section
variable{X:Cx}{o k e:vP}{pos pos' dpos:Pos}{i:Nat}{fk fv:FD}
noncomputable def W3(i:Nat)(fk fv:FD):FS:=λω=>(fk ω).bind λc=>(fv ω).bind λd=>match c with
 | .int k=>some (.nx,ω.set i (some (.od [k] [d])))
 | _=>none
theorem qfv{x:Str}(hN:X.N.Nodup)(hi:X.N[i]?=some x)(hx:Loc X.env.scope x)(hk:XD X k fk)(hv:XD X e fv)(hs:vv (.Dict [some k] [e] dpos) (some (.Name x pos')) pos.line X.env=pure false:=by rfl)(hf:X.fn x=true\/X.env.scope.names.lookup x=some .local:=by first|exact .inl rfl|exact .inr rfl|assumption):
  XS X (.Assign [.Name x pos'] (.Dict [some k] [e] dpos) pos) (W3 i fk fv):=by
 obtain⟨tk,h1,h2⟩:=hk;obtain⟨tv,h3,h4⟩:=hv;refine⟨_,q55 hN hi hx (qhb (qfK h1 h3 qgO) rfl rfl (by simp) (by show 1<=15;decide)) hs hf,λG0 H0 G ω σ H out ω' E ow e kk=>?_⟩;obtain⟨c,q1,e⟩:=bnd e;obtain⟨d,q2,e⟩:=bnd e;cases c with
 | int k=>
  cases e;intro p hp;have x0:=Ext.hide ow.gh hp (.dK []);have o1:=ow.keep x0;refine h2 G0 H0 G ω σ _ _ _ o1 q1 λu G1 H1 x1 y1=>?_;cases (show u=.int k from y1);have o2:=o1.keep x1;refine h4 G0 H0 G1 ω σ H1 d _ o2 q2 λv G2 H2 x2 y2=>?_;have o3:=o2.keep x2;have hp2:H2 p=some (.dK []):=x2.hh _ _ (x1.hh _ _ qg);have gp1:G1 p=none:=x1.new p (ow.gh.free hp) (by rw[qg];exact λz=>by cases z);have gp2:G2 p=none:=x2.new p gp1 (by rw[x1.hh _ _ qg];exact λz=>by cases z);have h0p:H0 p=none:=ow.ext.hh.free hp;refine⟨hp2,[(Sum.inl k,v)],rfl,by show 1<=15;decide,?_⟩;have em:Xv [] [((Sum.inl k:Key),v)]=kvsOf [k] [v]:=by
   show putK [] (Sum.inl k:Key) v=_;unfold putK;rw[vJ (by simp)];rfl
  rw[em];have ext4:Ext G0 H0.hp G2 (upd H2 p (.dK (kvsOf [k] [v]))):=⟨o3.ext.gg,Yb o3.ext.gh gp2 _,Yb o3.ext.hh h0p _,o3.ext.new⟩;have np:∀(j:Nat)ds',ω[j]?=some (some (.ow ds'))->∀l vs,σ[j]?=some (some (.ref l))->H2 l=some (.lst vs)->l≠p:=λj ds' hj l vs _ h z=>by rw[z,hp2]at h;cases h
  have npd:∀(j:Nat)ks' es,ω[j]?=some (some (.od ks' es))->σ[j]?≠some (some (.ref p)):=λj ks' es hj z=>by
   obtain⟨q,us,w1,w2,_⟩:=ow.od j ks' es hj;rw[w1]at z;cases z;rw[hp]at w2;cases w2
  have o4:Own X.K G0 H0 G2 ω σ (upd H2 p (.dK (kvsOf [k] [v]))):=by
   refine⟨ext4,o3.len,o3.sh,λj ds' hj=>?_,o3.nd,λj ks' es hj=>?_,o3.pw.upd (o3.pw.ne_ob λvs z=>by rw[hp2]at z;cases z)⟩
   ·obtain⟨l,vs,w1,w2,w3,w4,w5⟩:=o3.ow j ds' hj
    exact⟨l,vs,w1,by rw[qc (np j ds' hj l vs w1 w2)];exact w2,w3,w4,w5⟩
   ·obtain⟨q,us,w1,w2,w3,w4,w5,w6,w7⟩:=o3.od j ks' es hj
    have nq:q≠p:=λz=>npd j ks' es hj (by rw[<- z];exact w1);exact⟨q,us,w1,by rw[qc nq];exact w2,w3,w4,w5,w6,w7⟩
  exact kk G2 _ _ (o4.setOd (ks:=[k]) (ds:=[d]) (vs:=[v]) qg gp2 h0p rfl (YX.cons y2 YX.nil) npd) (x1.gg.trans x2.gg)
 | _=>cases e
end
section
open PySem.Spec PyProof.Rows PySem.W
theorem qbr:∀(vs:List vB)(ns:List Int),vs.length=ns.length->(∀(j:Nat)v n,vs[j]?=some v->ns[j]?=some n->∃t,v=.int n t)->v5 vs ns
 | [],[],_,_=>.nil
 | [],_::_,h,_=>by simp at h
 | _::_,[],h,_=>by simp at h
 | v::vs,n::ns,h,f=>by
  obtain⟨t,rfl⟩:=f 0 v n rfl rfl;exact .cons _ _ (qbr vs ns ⇑h λj a b e1 e2=>f (j+1) a b ⇑e1 ⇑e2)
variable{prog:vO}{w:vU}{A:vY}{E:vB->vF->Prop}{s:vF}
theorem qa6{a:vC}{kvs:List (Key×vB)}{ns:List Int}{Q:vB->vF->Prop}(hh:A.handled=none)(lo:(a==v8)=false)(dd:s.heap.DictOf (Ye prog w) a kvs)(hk:kvs.map (·.1)=ns.map (Sum.inl:Int->Key))(h64:ns.length<64)(h:∀(h1 h':vZ)(tk:Nat)(vs:List vB)(ys:List Int)(n:Nat),(∀b o,s.heap.get? b=some o->h1.get? b=some o)->(∀b o,h1.get? b=some o->h'.get? b=some o)->h'.get? h1.objs.size=some (vp "list" vs.toArray n)->v5 vs ys->ys.Perm ns->ys.Pairwise (· <= ·)->Q (.ref h1.objs.size) { s with heap:=h',toks:=tk }):
  vM (model prog w) A (call (.builtin "sorted") [.ref a]) Q E s:=by
 obtain⟨ep,hat⟩:=dd.dictAt;have hkl:kvs.length=ns.length:=by have:=vj yr hk;simpa using this
 refine Calls.call_function_entry t6 tm tq (args_sorted1 _) ?_;unfold Builtin.«sorted»;refine vA (m:=checkCount "sorted" 1 1 _) (vG ?_);refine vA (kdu_collect (A:=A.in1) (kdl_dict (knd:=Ye prog w) (kvs:=kvs) (ep:=ep) lo) hh hat (by rw[hkl];exact yA (yP h64) (by decide)) λh1 tk acc hk1 hacc=>?_);have y1:v5 acc.toList ns:=by
  refine qbr _ _ (by rw[zQ,hacc.1,hkl]) λj v n e1 e2=>?_;obtain⟨k,x,hx,hi⟩:=hacc.2 j v (by rw[<- za];exact e1);have e3:(kvs.map (·.1))[j]?=some k:=by rw[zY,hx];rfl
  rw[hk,zY,e2]at e3;cases e3;rcases qF (k:=(Sum.inl n:Key)) hi with⟨i,t,e4,rfl⟩|⟨x,t,e4,_⟩
  ·cases e4;exact⟨t,rfl⟩
  ·cases e4
 have hlen:acc.toList.length=ns.length:=IntsAre.length y1;refine vA (u0 ?_ (yA (by rw[hlen];exact yP h64) (by decide)));generalize acc.toList=vs at y1 hlen;have hoL:(h1.push (vp "list" vs.toArray 0)).get? h1.objs.size=some (vp "list" vs.toArray 0):=zT _ rfl;refine vA (vc (vi slot_list_sort ⟨_,hoL,rfl⟩ entry_list_sort (list_sort_tree hoL y1 (by rw[hlen];exact h64) λout ns' a1 a2 a3=>⟨_,rfl,?_⟩) (args_list_sort _)));obtain⟨n,hn⟩:=sortedHeap_at (vs:=vs) (out:=out) hoL;refine vG ⟨_,rfl,h h1 _ tk out.toList ns' n hk1 (λb o e1=>?_) ?_ a1 a2 a3⟩
 ·rw[sortedHeap_old (zo (zP e1)) (by rw[yV];exact yL (zP e1))]
  exact zH _ e1
 ·rw[xU];exact hn
end
def rSortD:List V->Hp->VK->Prop:=λxs H Q=>∃p kvs ns,xs=[.ref p]/\Rd H p (.dK kvs)/\kvs.map (·.1)=ns.map (Sum.inl:Int->Key)/\ns.length<64/\∀l,H l=none->Q (.ref l) (upd H l (.lst ((Yh ns).map V.int)))
section
variable{X:Cx}{o:vP}{i:Nat}
theorem qcA(hc:X.calm=true):XB X (.builtin "sorted") rSortD:=by
 intro pins s σ H xs us Q I r h;obtain⟨p,kvs,ns,rfl,hp,hk,hz,q⟩:=h;obtain⟨u,rfl,rx⟩:=vals1 r;cases rx;obtain⟨_,lo,vs,rel,dd⟩:=q6r I.hok hp;refine qa6 (I.ok.hd hc) lo dd (by rw[<- rel.keys];exact hk) hz λh1 h' tk us ys n k1 k2 g1 a1 a2 a3=>?_;have en:ys=Yh ns:=q2q a3 q1P (a2.trans qI.symm);subst en;have I1:Inv X pins σ H { s with heap:=h1,toks:=tk }:=I.kept k1;have hsl:(Yh ns).length<=sizeLine:=by rw[q7y];exact yA (yP hz) (by decide)
 have I2:=I1.laid (a:=h1.objs.size) (o:=.lst ((Yh ns).map V.int)) (t':=tk) (h':=h') k2 (zN _)
  (show Yi X.prog X.w _ h' _ (.lst _)from ⟨by rw[zA];exact hsl,us,n,q2a a1,g1⟩)
 exact⟨.ref _,_,I2,rfl,q _ (I1.hok.fresh (zN _))⟩
noncomputable def Wo(i:Nat):FE:=λω=>(Xo ω[i]?).bind λp=>if p.1.length<64 then some (.fr ((Yh p.1).map D.int))else none
theorem qfz{p q:Pos}(hc:X.calm=true)(hg:Gl X "sorted")(hm:X.mg "sorted" = none)(ho:PE X o (Xh i))(he:vL [o] X.env=(false,eval o X.env)::vL [] X.env:=by rfl)(hpl:(vn q (vL [] X.env)).any (·.1)=false:=by rfl):XE X (.Call (.Name "sorted" p) [o] [] q) (Wo i):=by
 refine⟨_,q2Y (qcA hc) hg hm q3l (qS ho q0b he) (by decide) (by decide) he hpl,λG0 H0 G ω σ H r Q ow e k=>?_⟩;obtain⟨⟨ks,ds⟩,q1,e⟩:=bnd e;obtain⟨p,vs,r1,r2,r3,r4⟩:=ow.dic q1
 by_cases hz:ks.length<64
 ·have e:(if ks.length<64 then some (R.fr ((Yh ks).map D.int))else none)=some r:=e
  rw[vH hz]at e;cases e;refine⟨.ref p,r1,p,_,ks,rfl,r2,q6x (by rw[r3];exact r4.len),hz,λl hl=>?_⟩;have x2:=Ext.hide ow.gh hl (.lst ((Yh ks).map V.int));exact k _ G _ x2 ⟨l,_,rfl,hl,ow.gh.free hl,qg,YX.ints _⟩
 ·have e:(if ks.length<64 then some (R.fr ((Yh ks).map D.int))else none)=some r:=e
  rw[vJ hz]at e;cases e
noncomputable def zAF(i:Nat):FM:=λω=>match ω[i]? with
 | some (some (.ow ds))=>(ds[ds.length-1]?).map λd=>(d,ω.set i (some (.ow ds.dropLast)))
 | _=>none
theorem YX.dropLast{K:zB}{H:Hp}{ds:List D}{vs:List V}(h:YX K H ds vs):YX K H ds.dropLast vs.dropLast:=by
 rw[wy,wy,h.len];exact h.take _
theorem qhR{apos cpos:Pos}(ho:PE X o (Xh i))(hbase:uT o "pop" X.env (eval o X.env)=eval o X.env:=by rfl)(hline:(apos.endLine==cpos.line)=true:=by rfl):
  XM X (.Call (.Attribute o "pop" apos) [] [] cpos) (zAF i):=by
 refine⟨_,qiP PySem.F.plainAttrs_list PySem.F.slot_list_pop PySem.F.type_list_pop qiY ho hbase hline,λG0 H0 G ω σ H d ω' Q ow e k=>?_⟩;unfold zAF at e
 split at e
 ·rename_i ds q2
  obtain⟨d1,hd,e⟩:=mpd e;cases e;obtain⟨l,vs,r1,r2,r3,r4,r5⟩:=ow.ow i ds q2;obtain⟨y,hy,ry⟩:=r5.get hd;refine⟨.ref l,r1,.inl ⟨rfl,vs,SqL.of r2⟩,l,vs,y,rfl,rfl,r2,by rw[<- r5.len];exact hy,k y G _ (ow.mut q2 r1 r2 r3 r4 r5.dropLast) (Yd.refl _) ry⟩
 ·cases e
end
noncomputable def Wi:List Int->List (List Int)->Int->Int->List (List Int)
 | k::ks,x::xs,a,b=>if k=a then (x++[b])::xs else x::Wi ks xs a b
 | _,xs,_,_=>xs
structure Tab (G H0 H:Hp) (p:vC) (ks:List Int) (ls:List vC) (xss:List (List Int)):Prop where
 dict:H p=some (.dK (kvsOf ks (ls.map V.ref)))
 gp:G p=none
 hp:H0 p=none
 len:ks.length=ls.length
 len2:ls.length=xss.length
 lst:∀(j:Nat)l xs,ls[j]?=some l->xss[j]?=some xs->H l=some (.lst (xs.map V.int))
 gl:∀l∈ls,G l=none/\H0 l=none
 nd:ls.Nodup
theorem Tab.inn{G H0 H:Hp}{p:vC}{ks:List Int}{ls:List vC}{xss:List (List Int)}(T:Tab G H0 H p ks ls xss){l:vC}(h:l∈ls):∃xs:List Int,H l=some (.lst (xs.map V.int)):=by
 obtain⟨j,hj,rfl⟩:=zi.mp h;have hj2:j<xss.length:=by rw[<- T.len2];exact hj
 exact⟨xss[j],T.lst j _ _ (zC hj) (zC hj2)⟩
theorem Tab.pl{G H0 H:Hp}{p:vC}{ks:List Int}{ls:List vC}{xss:List (List Int)}(T:Tab G H0 H p ks ls xss):p∉ls:=λh=>by
 obtain⟨xs,e⟩:=T.inn h;rw[T.dict]at e;cases e
theorem Tab.keep{G G' H0 H H':Hp}{p:vC}{ks:List Int}{ls:List vC}{xss:List (List Int)}(T:Tab G H0 H p ks ls xss)(x:Ext G H G' H'):Tab G' H0 H' p ks ls xss :=
 ⟨x.hh _ _ T.dict,x.new p T.gp (by rw[T.dict];exact λz=>by cases z),T.hp,T.len,T.len2,λj l xs h1 h2=>x.hh _ _ (T.lst j l xs h1 h2),λl h=>by
  obtain⟨xs,e⟩:=T.inn h;exact⟨x.new l (T.gl l h).1 (by rw[e];exact λz=>by cases z),(T.gl l h).2⟩,T.nd⟩
theorem qdm:∀{ks:List Int}{ls:List vC}{a:Int},ks.length=ls.length->a∈ks->∃(j:Nat) (l:vC),ks[j]?=some a/\ls[j]?=some l/\Yl ks (ls.map V.ref) a=some (.ref l)/\∀(xss:List (List Int))(b:Int),xss.length=ls.length->∃xs,xss[j]?=some xs/\Wi ks xss a b=xss.set j (xs++[b])
 | [],_,_,_,h=>by simp at h
 | _::_,[],_,h,_=>by simp at h
 | k::ks,l::ls,a,h,ha=>by
  by_cases z:k=a
  ·refine⟨0,l,by rw[z];rfl,rfl,vH z,λxss b hx=>?_⟩
   cases xss with
   | nil=>simp at hx
   | cons x xs=>exact⟨x,rfl,vH z⟩
  ·have ha':a∈ks:=(zF.mp ha).resolve_left λe=>z e.symm
   obtain⟨j,l',e1,e2,e3,e4⟩:=qdm (ks:=ks) (ls:=ls) ⇑h ha';refine⟨j+1,l',e1,e2,?_,λxss b hx=>?_⟩
   ·show (if k=a then _ else _)=_
    rw[vJ z];exact e3
   ·cases xss with
    | nil=>simp at hx
    | cons x xs=>
     obtain⟨y,h1,h2⟩:=e4 xs b ⇑hx;refine⟨y,h1,?_⟩;show (if k=a then _ else x::Wi ks xs a b)=_;rw[vJ z,h2];rfl
theorem Tab.app{G H0 H:Hp}{p:vC}{ks:List Int}{ls:List vC}{xss:List (List Int)}(T:Tab G H0 H p ks ls xss){a:Int}(b:Int)(ha:a∈ks):
  ∃(l:vC) (xs:List Int),l∈ls/\xs∈xss/\Yl ks (ls.map V.ref) a=some (.ref l)/\Wh H p (.int a) (some (.ref l))/\H l=some (.lst (xs.map V.int))/\Tab G H0 (upd H l (.lst ((xs++[b]).map V.int))) p ks ls (Wi ks xss a b):=by
 obtain⟨j,l,e1,e2,e3,e4⟩:=qdm T.len ha;obtain⟨xs,e5,e6⟩:=e4 xss b T.len2.symm;have hl:l∈ls:=yJ e2;have hlp:p≠l:=λz=>T.pl (z▸hl);have g:=Wh.k (k:=(Sum.inl a:Key)) T.dict;rw[q3k (by rw[zA];exact T.len),e3]at g;refine⟨l,xs,hl,yJ e5,e3,g,T.lst j l xs e2 e5,?_⟩;rw[e6];refine⟨by rw[qc hlp];exact T.dict,T.gp,T.hp,T.len,by rw[yS];exact T.len2,λi m ys h1 h2=>?_,T.gl,T.nd⟩;rcases qe h2 with⟨rfl,_,rfl⟩|⟨ne,h3⟩
 ·rw[e2]at h1
  cases h1;exact qg
 ·have hm:m≠l:=λz=>by
   subst z;obtain⟨i1,i2⟩:=zy.mp h1;obtain⟨j1,j2⟩:=zy.mp e2;exact ne ((wT T.nd).mp (j2.trans i2.symm))
  rw[qc hm];exact T.lst i m ys h1 h3
theorem Own.free{K:zB}{G0:Hp}{H0:Fr}{G:Hp}{ω:WSt}{σ:St}{H:Hp}{q:vC}{ob:HO}(o:Own K G0 H0 G ω σ H)(no:Xb ω)(hG:G q=none)(h0:H0 q=none):Own K G0 H0 G ω σ (upd H q ob) :=
 ⟨⟨o.ext.gg,Yb o.ext.gh hG _,Yb o.ext.hh h0 _,o.ext.new⟩,o.len,o.sh,λi ds h=>vN h (no.ow i ds),o.nd,λi ks ds h=>vN h (no.od i ks ds),Y6.no no.pw⟩
theorem Tab.put{G H0 H:Hp}{p:vC}{ks:List Int}{ls:List vC}{xss:List (List Int)}(T:Tab G H0 H p ks ls xss){k:Int}{l:vC}(hk:k∉ks)(hl:H l=none)(sg:Yd G H)(s0:Yd H0 H)(hz:ks.length<1000000):
  ∃H4,zAp (upd H l (.lst [])) p (.int k) (.ref l) H4/\H4=upd (upd H l (.lst [])) p (.dK (kvsOf (ks++[k]) ((ls++[l]).map V.ref)))/\Tab G H0 H4 p (ks++[k]) (ls++[l]) (xss++[[]]):=by
 have hpl:p≠l:=λz=>by rw[<- z,T.dict]at hl;cases hl
 have hlen:ks.length=(ls.map V.ref).length:=by rw[zA];exact T.len
 have e:putK (kvsOf ks (ls.map V.ref)) (Sum.inl k) (.ref l)=kvsOf (ks++[k]) ((ls++[l]).map V.ref):=by
  rw[q7E hlen];unfold Xa putA;rw[vJ hk,vJ hk,zX];rfl
 have d:=zAp.k (H:=upd H l (.lst [])) (a:=p) (kvs:=kvsOf ks (ls.map V.ref)) (k:=(Sum.inl k:Key)) (v:=.ref l) (by rw[qc hpl];exact T.dict) (by rw[q3q hlen,vo];omega);rw[e]at d;refine⟨_,d,rfl,qg,T.gp,T.hp,by rw[zE,zE,T.len];rfl,by rw[zE,zE,T.len2];rfl,λj m xs h1 h2=>?_,λm hm=>?_,?_⟩
 ·rcases zx j ls.length with z|z
  ·rw[zb z]at h1
   rw[zb (by rw[<- T.len2];exact z)]at h2;have e1:=T.lst j m xs h1 h2;have n1:m≠p:=λy=>T.pl (y▸yJ h1);have n2:m≠l:=λy=>by rw[y,hl]at e1;cases e1
   rw[qc n1,qc n2];exact e1
  ·rw[zW z]at h1
   rw[zW (by rw[<- T.len2];exact z),<- T.len2]at h2;cases hj:j-ls.length with
   | zero=>
    rw[hj]at h1 h2;cases h1;cases h2;rw[qc (Ne.symm hpl)];exact qg
   | succ n=>rw[hj]at h1;cases h1
 ·rcases zK.mp hm with h|h
  ·exact T.gl m h
  ·cases zM.mp h;exact⟨sg.free hl,s0.free hl⟩
 ·rw[yU]
  refine⟨T.nd,by simp,λa ha b hb z=>?_⟩;cases zM.mp hb;obtain⟨xs,e1⟩:=T.inn ha;rw[z,hl]at e1;cases e1
noncomputable def pairsOf:List D->Option (List (Int×Int))
 | []=>some []
 | .tup [.int a,.int b]::r=>(pairsOf r).map λl=>(a,b)::l
 | _=>none
noncomputable def YU(e:Int×Int):D:=.tup [.int e.1,.int e.2]
theorem q6h:∀{ds:List D}{es:List (Int×Int)},pairsOf ds=some es->ds=es.map YU
 | [],_,h=>by cases h;rfl
 | d::r,es,h=>by
  unfold pairsOf at h
  split at h
  ·rename_i e;cases e
  ·rename_i e
   cases e;obtain⟨l,h1,h2⟩:=mpd h;subst h2;rw[q6h h1];rfl
  ·cases h
theorem q5x:∀es:List (Int×Int),pairsOf (es.map YU)=some es
 | []=>rfl
 | e::r=>by show (pairsOf (r.map YU)).map _=_;rw[q5x r];rfl
noncomputable def XQ(ks:List Int)(xss:List (List Int))(e:Int×Int):List (List Int):=Wi ks (Wi ks xss e.1 e.2) e.2 e.1
noncomputable def nbT(ts:List Int)(es:List (Int×Int)):List (List Int):=es.foldl (XQ ts) (ts.map λ_=>[])
noncomputable def nbM(a b:List D):Option D:=(intsOf a).bind λts=>(pairsOf b).bind λes=>if ts.Nodup/\(∀e∈es,e.1∈ts/\e.2∈ts)/\ts.length<=1000/\es.length<=1000 then some (.dic ts ((nbT ts es).map λxs=>.lst (xs.map D.int)))else none
noncomputable def sNb:FS:=λω=>match ω with
 | [↥(.lst a),↥(.lst b),none,none,none]=>(nbM a b).map λd=>(.rt (.sh d),ω)
 | _=>none
theorem zAf{a b:D}{x:Option D}:Xb [↥a,↥b,none,none,x.map W.sh]:=by
 intro i w e
 match i,e with
 | 0,e=>cases e;exact⟨_,rfl⟩
 | 1,e=>cases e;exact⟨_,rfl⟩
 | 2,e=>cases e
 | 3,e=>cases e
 | 4,e=>
  cases x with
  | none=>cases e
  | some d=>cases e;exact⟨d,rfl⟩
 | i+5,e=>simp at e
theorem Own.other{K:zB}{G0:Hp}{H0:Fr}{G:Hp}{ω:WSt}{σ:St}{H:Hp}{i:Nat}{v:Option V}(o:Own K G0 H0 G ω σ H)(no:Xb ω)(hi:∀w,ω[i]?≠some (some w)):Own K G0 H0 G ω (σ.set i v) H :=
 ⟨o.ext,by rw[yS];exact o.len,λj d h=>by
  obtain⟨u,h1,h2⟩:=o.sh j d h;exact⟨u,by rw[zU (λz=>hi _ (z▸h))];exact h1,h2⟩,λi ds h=>vN h (no.ow i ds),λi j ds es l h=>vN h (no.ow i ds),λi ks ds h=>vN h (no.od i ks ds),Y6.no no.pw⟩
theorem q7n(n:Nat):∀(ks:List Int)(xss:List (List Int))(a b:Int),(∀x∈xss,x.length<=n)->∀x∈Wi ks xss a b,x.length<=n+1
 | [],xss,_,_,h,x,hx=>wL (h x hx)
 | _::_,[],_,_,h,x,hx=>by cases hx
 | k::ks,y::xss,a,b,h,x,hx=>by
  unfold Wi at hx
  by_cases z:k=a
  ·rw[vH z]at hx
   rcases zF.mp hx with rfl|hx
   ·have:=h y zD
    rw[zE,zd];omega
   ·exact wL (h x (zG _ hx))
  ·rw[vJ z]at hx
   rcases zF.mp hx with rfl|hx
   ·exact wL (h _ zD)
   ·exact q7n n ks xss a b (λx h'=>h x (zG _ h')) x hx
theorem Tab.told{K:zB}{G0 G:Hp}{H0:Fr}{H:Hp}{ω:WSt}{σ:St}{p:vC}{ks:List Int}{ls:List vC}{xss:List (List Int)}(T:Tab G H0 H p ks ls xss)(o:Own K G0 H0 G ω σ H)(no:Xb ω)(ob:Obj):
  ∃G',Yd G G'/\Own K G0 H0 G' ω σ (upd H p (.frz ob (.dK (kvsOf ks (ls.map V.ref)))))/\Rep K G' (.dic ks (xss.map λxs=>.lst (xs.map D.int))) (.ref p):=by
 obtain⟨H',hH⟩:∃H':Hp,H'=upd H p (.frz ob (.dK (kvsOf ks (ls.map V.ref)))):=⟨_,rfl⟩;rw[<- hH];have hp':H' p=some (.frz ob (.dK (kvsOf ks (ls.map V.ref)))):=by rw[hH];exact qg
 have hn':∀b,b≠p->H' b=H b:=λb h=>by rw[hH];exact qc h
 let G':Hp:=λb=>if b=p\/b∈ls then H' b else G b
 have hin:∀b,(b=p\/b∈ls)->G' b=H' b:=λb h=>vH h;have hout:∀b,¬(b=p\/b∈ls)->G' b=G b:=λb h=>vJ h;have gn:∀b,(b=p\/b∈ls)->G b=none/\H0 b=none:=λb h=>by
  rcases h with rfl|h
  ·exact⟨T.gp,T.hp⟩
  ·exact T.gl b h
 have gg:Yd G G':=λb u z=>by
  by_cases y:b=p\/b∈ls
  ·rw[(gn b y).1]at z;cases z
  ·rw[hout b y];exact z
 have gh:Yd G' H':=λb u z=>by
  by_cases y:b=p\/b∈ls
  ·rw[hin b y]at z;exact z
  ·rw[hout b y]at z;rw[hn' b λw=>y (.inl w)];exact o.gh b u z
 have hh:Yd H0.hp H':=λb u z=>by
  rw[hn' b λw=>by rw[w,T.hp]at z;cases z];exact o.ext.hh b u z
 refine⟨G',gg,⟨⟨o.ext.gg.trans gg,gh,hh,λb z1 z2=>?_⟩,o.len,λi d h=>?_,λi ds h=>vN h (no.ow i ds),o.nd,λi ks ds h=>vN h (no.od i ks ds),Y6.no no.pw⟩,p,ls.map V.ref,rfl,⟨ob,by rw[hin p (.inl rfl)];exact hp'⟩,by rw[zA,<- T.len2];exact T.len,?_⟩
 ·by_cases y:b=p\/b∈ls
  ·exact vN (gn b y).2 z2
  ·rw[hout b y];exact o.ext.new b z1 z2
 ·obtain⟨v,h1,h2⟩:=o.sh i d h
  exact⟨v,h1,h2.mono gg⟩
 ·refine q4S (by rw[zA];exact T.len2.symm) λj d t h1 h2=>?_
  rw[zY]at h1;cases q:xss[j]? with
  | none=>rw[q]at h1;cases h1
  | some xs=>
   rw[q]at h1;cases h1;have hl:=T.lst j t xs h2 q;exact⟨t,_,rfl,by rw[hin t (.inr (yJ h2)),hn' t λw=>by rw[w,T.dict]at hl;cases hl];exact hl,YX.ints xs⟩
theorem qdF{K:zB}{ta tb:TE}{g0 g1:FD}(k2:zAx K ta g0)(k4:zAx K tb g1){G0:Hp}{H0:Fr}{G:Hp}{ω:WSt}{σ:St}{H:Hp}{p:vC}{ks:List Int}{ls:List vC}{xss:List (List Int)}{a b:Int}{Q:VK}(o:Own K G0 H0 G ω σ H)(no:Xb ω)(hσ:σ[2]?=some (some (.ref p)))(T:Tab G H0 H p ks ls xss)(h0:g0 ω=some (.int a))(h1:g1 ω=some (.int b))(ha:a∈ks)(hz:∀xs∈xss,xs.length<1000000)(h:∀G' H',Own K G0 H0 G' ω σ H'->Yd G G'->Tab G' H0 H' p ks ls (Wi ks xss a b)->Q .non H'):tBM K "list" Ws (tDGet (Xh 2) ta) (zAk tb tNil) σ H Q:=by
 refine⟨.ref p,hσ,k2 G0 H0 G ω σ H _ _ o h0 λu G1 H1 x1 y1=>?_⟩;cases (show u=.int a from y1);have o1:=o.keep x1;have T1:=T.keep x1;obtain⟨l,xs,m1,m2,m3,m4,m5,_⟩:=T1.app b ha;refine⟨p,.ref l,rfl,m4,.inl ⟨rfl,_,SqL.of m5⟩,k4 G0 H0 G1 ω σ H1 _ _ o1 h1 λu G2 H2 x2 y2=>?_⟩;cases (show u=.int b from y2);have o2:=o1.keep x2;have T2:=T1.keep x2;obtain⟨l',xs',n1,n2,n3,n4,n5,n6⟩:=T2.app b ha;rw[m3]at n3;cases n3;refine⟨l,_,.int b,rfl,rfl,n5,by rw[zA,vo];have:=hz xs' n2;omega,?_⟩;rw[show xs'.map V.int++[V.int b]=(xs'++[b]).map V.int by rw[zX];rfl];exact h G2 _ (o2.free no (T2.gl l n1).1 (T2.gl l n1).2) (x1.gg.trans x2.gg) n6
theorem qe3{a b:vP}{p:Pos}{n:Str}{env:Env}(m:Sem vB):uT (.Subscript a b p) n env m=m:=rfl
section
variable{X:Cx}
theorem qhX{x2 x3 x4:Str}{o0 o1 o2 o3 o4 o4b e0 e1 e0b e1b e0':vP}{q1 q2 q3 q4 q5 q6 q7 q8 q9 q10 q11 q12 q13 q14 q15 a1 a2 c1 c2:Pos}{g0 g1:FD}(hu:X.A.units+64<ue)(hp:tP (model X.prog X.w) X.A X.env X.xe)(hc:X.calm=true)(hN:X.N.Nodup)(i2:X.N[2]?=some x2)(i3:X.N[3]?=some x3)(i4:X.N[4]?=some x4)(l2:Loc X.env.scope x2)(l3:Loc X.env.scope x3)(l4:Loc X.env.scope x4)(f2:X.fn x2=true\/X.env.scope.names.lookup x2=some .local)(f3:X.fn x3=true\/X.env.scope.names.lookup x3=some .local)(f4:X.fn x4=true\/X.env.scope.names.lookup x4=some .local)(h0:PE X o0 (Xh 0))(h1:PE X o1 (Xh 1))(h2:PE X o2 (Xh 2))(h2':PE X o4 (Xh 2))(h2b:PE X o4b (Xh 2))(h3:PE X o3 (Xh 3))(h5:PE X e0' (Xh 2))(ha:XD X e0 g0)(hb:XD X e1 g1)(hab:XD X e0b g0)(hbb:XD X e1b g1)(hg0:∀(ω:WSt)e,ω[4]?=some (some (.sh (YU e)))->g0 ω=some (.int e.1))(hg1:∀(ω:WSt)e,ω[4]?=some (some (.sh (YU e)))->g1 ω=some (.int e.2))(s1:vv (.Dict [] [] q1) (some (.Name x2 q2)) q3.line X.env=pure false:=by rfl)(s2:vv (.List [] q4) (some (.Subscript o2 o3 q5)) q6.line X.env=pure false:=by rfl)(n0:NoSl e0:=by intro _ _;rfl)(n1:NoSl e1b:=by intro _ _;rfl)(w1:((vn c1 (vL [e1] X.env)).all (λx=>!x.1)&&(uL c1 (vz [] X.env)).all (λx=>x.1.isSome)&&decide (([e1]:List vP).length+([]:List uW).length+(if ([]:List uW).isEmpty then 0 else 1)<30))=true:=by rfl)(w2:((vn c2 (vL [e0b] X.env)).all (λx=>!x.1)&&(uL c2 (vz [] X.env)).all (λx=>x.1.isSome)&&decide (([e0b]:List vP).length+([]:List uW).length+(if ([]:List uW).isEmpty then 0 else 1)<30))=true:=by rfl)(z1:(a1.endLine==c1.line)=true:=by rfl)(z2:(a2.endLine==c2.line)=true:=by rfl)(t1:vL [e1] X.env=(false,eval e1 X.env)::vL [] X.env:=by rfl)(t2:vL [e0b] X.env=(false,eval e0b X.env)::vL [] X.env:=by rfl)(p1:(vn c1 (vL [] X.env)).any (·.1)=false:=by rfl)(p2:(vn c2 (vL [] X.env)).any (·.1)=false:=by rfl)(v1:vv (.Call (.Attribute (.Subscript o4 e0 q7) "append" a1) [e1] [] c1) none q9.line X.env=pure false:=by rfl)(v2:vv (.Call (.Attribute (.Subscript o4b e1b q8) "append" a2) [e0b] [] c2) none q10.line X.env=pure false:=by rfl)(y1:∀x,vt o0 X.env x=pure x:=by intro _;rfl)(y2:∀x,vt o1 X.env x=pure x:=by intro _;rfl):
  XSs X [.Assign [.Name x2 q2] (.Dict [] [] q1) q3,.For (.Name x3 q11) o0 [.Assign [.Subscript o2 o3 q5] (.List [] q4) q6] [] q12,
   .For (.Name x4 q13) o1 [.Expr (.Call (.Attribute (.Subscript o4 e0 q7) "append" a1) [e1] [] c1) q9,.Expr (.Call (.Attribute (.Subscript o4b e1b q8) "append" a2) [e0b] [] c2) q10] [] q14,.Return (some e0') q15] sNb:=by
 obtain⟨ta,k1,k2⟩:=ha;obtain⟨tb,k3,k4⟩:=hb;obtain⟨ta',k1',k2'⟩:=hab;obtain⟨tb',k3',k4'⟩:=hbb;have hu:=hu1 hu;refine⟨_,q2L (q55 hN i2 l2 q9l s1 f2) (q2L (q9i hp hc (q6Y h0) (q6Z hN i3 l3 f3) (q5i (qbX hu h2 h3 (qdZ q0b) s2)) y1)
  (q2L (q9i hp hc (q6Y h1) (q6Z hN i4 l4 f4) (q2L (q3X (q8n PySem.F.plainAttrs_list PySem.F.slot_list_append PySem.F.type_list_append q3s (q7q hu h2' k1 n0) (qS k3 q0b t1) (qe3 _) w1 z1 t1 p1) v1)
   (q5i (q3X (q8n PySem.F.plainAttrs_list PySem.F.slot_list_append PySem.F.type_list_append q3s (q7q hu h2b k3' n1) (qS k1' q0b t2) (qe3 _) w2 z2 t2 p2) v2))) y2) (q6P 2 (q5i (q9W h5))))),λG0 H0 G ω σ H out ω' E ow e kk=>?_⟩
 unfold sNb at e
 split at e
 case h_2=>cases e
 case h_1 _ a b=>
 obtain⟨d,e2,e3⟩:=mpd e;clear e;cases e3;obtain⟨ts,e4,e5⟩:=bnd e2;obtain⟨es,e6,e7⟩:=bnd e5;clear e2 e5
 by_cases cond:ts.Nodup/\(∀e∈es,e.1∈ts/\e.2∈ts)/\ts.length<=1000/\es.length<=1000
 case neg=>rw[vJ cond]at e7;cases e7
 rw[vH cond]at e7;cases e7;obtain⟨cd1,cd2,cd3,cd4⟩:=cond;have ha':=q1i e4;have hb':=q6h e6;subst ha' hb';clear e4 e6;have no:Xb [some (W.sh (.lst (ts.map D.int))),↥(.lst (es.map YU)),none,none,none]:=zAf (x:=none);have hlen:σ.length=5:=ow.len.symm;obtain⟨v0,r0,A0,vs0,rfl,r1,r2⟩:=ow.sh 0 _ rfl;obtain⟨v1,r3,A1,vs1,rfl,r4,r5⟩:=ow.sh 1 _ rfl;have hvs0:=r2.of_ints;subst hvs0;intro p hpn;have o1:Own X.K G0 H0 G [some (W.sh (.lst (ts.map D.int))),↥(.lst (es.map YU)),none,none,none] (σ.set 2 (some (.ref p))) (upd H p (.dK [])):=(ow.free no (ow.gh.free hpn) (ow.ext.hh.free hpn)).other no λw z=>by cases z
 have T0:Tab G H0 (upd H p (.dK [])) p (ts.take 0) [] ((ts.take 0).map λ_=>[]):=⟨qg,ow.gh.free hpn,ow.ext.hh.free hpn,rfl,rfl,λj l xs h=>(by simp at h),λl h=>(by cases h),xk⟩;refine⟨.ref A0,by rw[zU (by decide)];exact r0,A0,rfl,⟨_,SqL.of (o1.gh _ _ r1)⟩,λn m σ2 H2=>∃ls,Own X.K G0 H0 G [some (W.sh (.lst (ts.map D.int))),↥(.lst (es.map YU)),none,none,none] σ2 H2/\σ2[2]?=some (some (.ref p))/\Tab G H0 H2 p (ts.take n) ls ((ts.take n).map λ_=>[])/\n<=ts.length/\m=ts.length-n,
  ⟨_,[],o1,y0 (by rw[hlen];decide),T0,yQ _,rfl⟩,?_⟩
 rintro n m σ2 H2 ⟨ls,o2,s22,T2,hn,rfl⟩
 by_cases hlt:n<ts.length
 ·have hq:=o2.gh _ _ r1
  refine .inr ⟨⟨_,.int ts[n],SqL.of hq,by rw[zY,zC hlt];rfl⟩,λσ3 H3=>∃ls,Own X.K G0 H0 G [some (W.sh (.lst (ts.map D.int))),↥(.lst (es.map YU)),none,none,none] σ3 H3/\σ3[2]?=some (some (.ref p))/\Tab G H0 H3 p (ts.take (n+1)) ls ((ts.take (n+1)).map λ_=>[]),
   λσ3 H3 ⟨ls,b1,b2,b3⟩=>⟨ts.length-(n+1),∅,ls,b1,b2,b3,hlt,rfl⟩,λy H3 hy=>?_⟩
  obtain⟨rfl,hy⟩:=hy;have hy:=hy _ (SqL.of hq);rw[zY,zC hlt]at hy;cases hy;have hl2:σ2.length=5:=o2.len.symm;refine⟨by show 0<=sizeLine;exact yQ _,λl hl=>?_⟩;refine⟨.ref p,by rw[zU (by decide)];exact s22,.int ts[n],y0 (by rw[hl2];decide),?_⟩;have nk:ts[n]∉ts.take n:=λz=>by
   obtain⟨j,hj,ej⟩:=zi.mp z;rw[Za]at ej;have hj':j<n:=by rw[zn]at hj;omega
   have:=(wT cd1).mp ej;omega
  obtain⟨H4,d1,d2,T4⟩:=T2.put nk hl o2.gh o2.ext.hh (by rw[zn];omega);refine⟨p,H4,rfl,d1,ls++[l],?_,by rw[zU (by decide)];exact s22,?_⟩
  ·subst d2
   exact((o2.free no (o2.gh.free hl) (o2.ext.hh.free hl)).free no T2.gp T2.hp).other no λw z=>by cases z
  ·rw[(wP hlt).symm,zX]
   exact T4
 ·have en:n=ts.length:=∅
  subst en;rw[xr]at T2;refine .inl ⟨⟨_,SqL.of (o2.gh _ _ r1),by rw[zA];exact zN _⟩,?_⟩;obtain⟨v1',r3',A1',vs1',rfl,r4',r5'⟩:=o2.sh 1 _ rfl;have hl5:es.length=vs1'.length:=by have:=r5'.len;rw[zA]at this;exact this
  refine⟨.ref A1',r3',A1',rfl,⟨_,SqL.of (o2.gh _ _ r4')⟩,λn m σ3 H3=>∃G3 x4,Own X.K G0 H0 G3 [some (W.sh (.lst (ts.map D.int))),↥(.lst (es.map YU)),none,none,x4.map W.sh] σ3 H3/\Yd G G3/\σ3[2]?=some (some (.ref p))/\Tab G3 H0 H3 p ts ls ((es.take n).foldl (XQ ts) (ts.map λ_=>[])) /\
   (∀xs∈(es.take n).foldl (XQ ts) (ts.map λ_=>[]),xs.length<=2*n)/\n<=es.length/\m=es.length-n,
   ⟨_,G,none,o2,Yd.refl _,s22,T2,λxs hx=>by obtain⟨_,_,rfl⟩:=zS.mp hx;exact zN _,yQ _,rfl⟩,?_⟩
  rintro n m σ3 H3 ⟨G3,x4,o3,g3,s32,T3,b3,hn3,rfl⟩
  by_cases hlt3:n<es.length
  ·have hq3:=o3.gh _ _ (g3 _ _ r4')
   have hlv:n<vs1'.length:=by rw[<- hl5];exact hlt3
   refine .inr ⟨⟨_,vs1'[n],SqL.of hq3,zC hlv⟩,λσ4 H4=>∃G4 x4,Own X.K G0 H0 G4 [some (W.sh (.lst (ts.map D.int))),↥(.lst (es.map YU)),none,none,x4.map W.sh] σ4 H4/\Yd G G4/\σ4[2]?=some (some (.ref p))/\Tab G4 H0 H4 p ts ls ((es.take (n+1)).foldl (XQ ts) (ts.map λ_=>[])) /\
    (∀xs∈(es.take (n+1)).foldl (XQ ts) (ts.map λ_=>[]),xs.length<=2*(n+1)),
    λσ4 H4 ⟨G4,x4,b1,b2,b4,b5,b6⟩=>⟨es.length-(n+1),∅,G4,x4,b1,b2,b4,b5,b6,hlt3,rfl⟩,λy H4 hy=>?_⟩
   obtain⟨rfl,hy⟩:=hy;have hy:=hy _ (SqL.of hq3);rw[zC hlv]at hy;cases hy;have hd:(es.map YU)[n]?=some (YU es[n]):=by rw[zY,zC hlt3];rfl
   obtain⟨v,hv1,hv2⟩:=r5'.get hd;rw[zC hlv]at hv1;cases hv1;have hl3:σ3.length=5:=o3.len.symm;have o4:Own X.K G0 H0 G3 [some (W.sh (.lst (ts.map D.int))),↥(.lst (es.map YU)),none,none,↥(YU es[n])] (σ3.set 4 (some vs1'[n])) H4:=o3.setSh (i:=4) (hv2.mono g3);have no4:Xb [some (W.sh (.lst (ts.map D.int))),↥(.lst (es.map YU)),none,none,↥(YU es[n])]:=zAf (x:=some (YU es[n]));have s42:(σ3.set 4 (some vs1'[n]))[2]?=some (some (.ref p)):=by rw[zU (by decide)];exact s32
   obtain⟨in1,in2⟩:=cd2 es[n] (zZ hlt3);refine qdF k2 k4 o4 no4 s42 T3 (hg0 _ es[n] rfl) (hg1 _ es[n] rfl) in1 (λxs hx=>by have:=b3 xs hx;omega) λG5 H5 o5 g5 T5=>?_;have b5:=q7n (2*n) ts _ es[n].1 es[n].2 b3;refine qdF k4' k2' o5 no4 s42 T5 (hg1 _ es[n] rfl) (hg0 _ es[n] rfl) in2 (λxs hx=>by have:=b5 xs hx;omega) λG6 H6 o6 g6 T6=>?_;have b6:=q7n (2*n+1) ts _ es[n].2 es[n].1 b5;have et:es.take (n+1)=es.take n++[es[n]]:=(wP hlt3).symm;refine⟨G6,some (YU es[n]),o6,(g3.trans g5).trans g6,s42,?_,?_⟩
   ·rw[et,wM];exact T6
   ·rw[et,wM]
    intro xs hx;have:=b6 xs hx;omega
  ·have en3:n=es.length:=∅
   subst en3;rw[xr]at T3;refine .inl ⟨⟨_,SqL.of (o3.gh _ _ (g3 _ _ r4')),by rw[hl5];exact zN _⟩,?_⟩;have no3:Xb [some (W.sh (.lst (ts.map D.int))),↥(.lst (es.map YU)),none,none,x4.map W.sh]:=zAf;refine⟨p,_,s32,T3.dict,λob=>?_⟩;obtain⟨G',g',o',rp⟩:=T3.told o3 no3 ob;generalize upd H3 p (.frz ob _)=H4 at o' ⊢;refine⟨.ref p,s32,?_⟩;have oF:Own X.K G0 H0 G' [some (W.sh (.lst (ts.map D.int))),↥(.lst (es.map YU)),none,none,none] σ3 H4:=by
    refine⟨o'.ext,o'.len,λi d h=>?_,λi ds h=>vN h (no.ow i ds),λi j ds es l h=>vN h (no.ow i ds),λi ks ds h=>vN h (no.od i ks ds),Y6.no no.pw⟩
    match i,h with
    | 0,h=>exact o'.sh 0 d h
    | 1,h=>exact o'.sh 1 d h
    | 2,h=>cases h
    | 3,h=>cases h
    | 4,h=>cases h
    | i+5,h=>simp at h
   exact kk G' σ3 H4 oF (g3.trans g') (.ref p) rp
end
theorem qiT{ω:WSt}{e:Int×Int}(h:ω[4]?=some ↥(YU e)):dOf (YR oIx (vOf (YI 4)) (fC (.int 0))) ω=some (.int e.1):=by
 unfold dOf YR vOf YI fC;rw[h];rfl
theorem qi5{ω:WSt}{e:Int×Int}(h:ω[4]?=some ↥(YU e)):dOf (YR oIx (vOf (YI 4)) (fC (.int 1))) ω=some (.int e.2):=by
 unfold dOf YR vOf YI fC;rw[h];rfl
noncomputable def zAT(i:Nat)(ω:WSt)(c d:Option D):Option (Out×WSt):=c.bind λc=>d.bind λd=>match c with
 | .int k=>some (.nx,ω.set i (some (.od [k] [d])))
 | _=>none
noncomputable def dsetS(i:Nat)(ω:WSt)(v c:Option D)(w:Option (Option W)):Option (Out×WSt):=v.bind λd=>c.bind λc=>match c,w with
 | .int k,some (some (.od ks ds))=>if ks.length<1000000 then some (.nx,ω.set i (some (.od (Xa ks k) (putA ks ds k d))))else none
 | _,_=>none
noncomputable def dgetR(o:Option (List Int×List D))(c:Option D):Option R:=o.bind λp=>c.bind λc=>match c with
 | .int k=>(Yl p.1 p.2 k).map R.sh
 | _=>none
noncomputable def dhasT(neg:Bool)(c:Option D)(o:Option (List Int×List D)):Option Bool:=c.bind λc=>o.bind λp=>match c with
 | .int k=>some (if neg then !(Yl p.1 p.2 k).isSome else (Yl p.1 p.2 k).isSome)
 | _=>none
noncomputable def zAS(o:Option (List Int×List D)):Option R:=o.bind λp=>if p.1.length<64 then some (.fr ((Yh p.1).map D.int))else none
noncomputable def pop0(i:Nat)(ω:WSt)(w:Option (Option W)):Option (D×WSt):=match w with
 | some (some (.ow ds))=>(ds[ds.length-1]?).map λd=>(d,ω.set i (some (.ow ds.dropLast)))
 | _=>none
noncomputable def zAq(j i:Nat)(ω:WSt)(w:Option (Option W)):Option (Out×WSt):=(pop0 i ω w).map λp=>(.nx,p.2.set j (some (.sh p.1)))
section
variable{ω:WSt}{fk fv:FD}{i j:Nat}{ks:List Int}{ds:List D}{k:Int}{d:D}{neg:Bool}
theorem qde:Wz i ω=some (.nx,ω.set i (some (.od [] []))):=rfl
theorem qaF:W3 i fk fv ω=zAT i ω (fk ω) (fv ω):=rfl
theorem qgy:zAT i ω (some (.int k)) (some d)=some (.nx,ω.set i (some (.od [k] [d]))):=rfl
theorem qeq:WW i fk fv ω=dsetS i ω (fv ω) (fk ω) ω[i]?:=rfl
theorem qd8:Xx i fk ω=dgetR (Xo ω[i]?) (fk ω):=rfl
theorem qgf:dgetR (some (ks,ds)) (some (.int k))=(Yl ks ds k).map R.sh:=rfl
theorem qgl:Xo (some (some (.od ks ds)))=some (ks,ds):=rfl
theorem qg8:Xo (some ↥(.dic ks ds))=some (ks,ds):=rfl
theorem qdO:W4 neg i fk ω=dhasT neg (fk ω) (Xo ω[i]?):=rfl
theorem qg6:dhasT true (some (.int k)) (some (ks,ds))=some (!(Yl ks ds k).isSome):=rfl
theorem qbR:Wo i ω=zAS (Xo ω[i]?):=rfl
theorem qaH:zAL j (zAF i) ω=zAq j i ω ω[i]?:=rfl
theorem qg7:shrS i ω (some (some (.od ks ds)))=ω.set i ↥(.dic ks ds):=rfl
end
theorem q42{i:Nat}{ω:WSt}{ks:List Int}{ds:List D}{k:Int}{d:D}(h:ks.length<1000000):dsetS i ω (some d) (some (.int k)) (some (some (.od ks ds)))=some (.nx,ω.set i (some (.od (Xa ks k) (putA ks ds k d)))):=vH h
theorem qfC{ks:List Int}{ds:List D}(h:ks.length<64):zAS (some (ks,ds))=some (.fr ((Yh ks).map D.int)):=vH h
theorem qhJ{j i:Nat}{ω:WSt}{ds:List D}{d:D}:zAq j i ω (some (some (.ow (ds++[d]))))=some (.nx,(ω.set i (some (.ow ds))).set j ↥d):=by
 unfold zAq pop0;have e1:(ds++[d])[(ds++[d]).length-1]?=some d:=by
  rw[zE,zd,ZU,zW (zN _),we];rfl
 have e2:(ds++[d]).dropLast=ds:=by simp
 show Option.map _ (((ds++[d])[(ds++[d]).length-1]?).map _)=_;rw[e1,e2];rfl
section
variable{X:Cx}{o k e:vP}{pos pos':Pos}{i:Nat}{fk fv:FD}
noncomputable def zAo(i:Nat)(fk fv:FD):FS:=λω=>(fv ω).bind λd=>(fk ω).bind λc=>match c,ω[i]? with
 | .int k,some (some (.ow ds))=>(ixN ds.length k).map λj=>(.nx,ω.set i (some (.ow (ds.set j d))))
 | _,_=>none
theorem YX.set{K:zB}{H:Hp}:∀{ds:List D}{vs:List V}(n:Nat){d:D}{v:V},YX K H ds vs->Rep K H d v->YX K H (ds.set n d) (vs.set n v)
 | [],_,_,_,_,h,_=>by cases (show _=_ from h);rfl
 | _::_,_,0,_,_,⟨v,r,h1,h2,h3⟩,hv=>by rw[h1];exact⟨_,_,rfl,hv,h3⟩
 | _::_,_,n+1,_,_,⟨v,r,h1,h2,h3⟩,hv=>by rw[h1];exact⟨v,_,rfl,h2,YX.set n h3 hv⟩
theorem qhA(ho:PE X o (Xh i))(hk:XD X k fk)(hv:XD X e fv)(hs:swapsWithSole [.Subscript o k pos'] e pos.line X.env=pure false:=by rfl)(hw:swappedStores [.Subscript o k pos'] e X.env=pure none:=by rfl)(h1':(uE [.Subscript o k pos'] X.env).map (·.2)=[assign (.Subscript o k pos') X.env]:=by rfl)(ha:∀v,assign (.Subscript o k pos') X.env v=(do
   let ov <- holding [v] (eval o X.env)
   let iv <- holding [v,ov] (eval k X.env)
   t9 pos'
   holding [v,ov,iv] (setItem ov iv v)
   release [v,ov,iv] []):=by intro _;rfl):XS X (.Assign [.Subscript o k pos'] e pos) (zAo i fk fv):=by
 obtain⟨tk,h1,h2⟩:=hk;obtain⟨tv,h3,h4⟩:=hv;refine⟨_,qic h3 (qir ho h1 qeR ha) hs hw h1',λG0 H0 G ω σ H out ω' E ow e kk=>?_⟩;obtain⟨d,q1,e⟩:=bnd e;obtain⟨c,q2,e⟩:=bnd e;refine h4 G0 H0 G ω σ H d _ ow q1 λv G1 H1 x1 y1=>?_;cases c with
 | int m=>
  split at e
  ·rename_i _ _ _ m' ds ek q3
   cases ek;obtain⟨j,hj,e⟩:=mpd e;cases e;have o1:=ow.keep x1;obtain⟨l,vs,r1,r2,r3,r4,r5⟩:=o1.ow i ds q3;refine⟨.ref l,r1,h2 G0 H0 G1 ω σ H1 _ _ o1 q2 λu G2 H2 x2 y2=>?_⟩;cases (show u=.int m from y2);have o2:=o1.keep x2;refine⟨l,vs,m,j,rfl,rfl,x2.hh _ _ r2,by rw[<- r5.len];exact hj,?_⟩;exact kk G2 σ _ (o2.mut q3 r1 (x2.hh _ _ r2) (x2.new l r3 (by rw[r2];exact λz=>by cases z)) r4 ((r5.mono x2.gg).set j (y1.mono x2.gg))) (x1.gg.trans x2.gg)
  ·cases e
 | _=>cases e
end
section
variable{X:Cx}{e:vP}{pos pos':Pos}{i:Nat}{fe:FD}
noncomputable def sAug(g:Int->Int->Int)(i:Nat)(fe:FD):FS:=λω=>(fe ω).bind λd=>match d,ω[i]? with
 | .int b,some ↥(.int a)=>some (.nx,ω.set i ↥(.int (g a b)))
 | _,_=>none
theorem qie{x:Str}{op:tZ}{g:Int->Int->Int}(hop:PIp X op (ipI g))(hN:X.N.Nodup)(hi:X.N[i]?=some x)(hx:Loc X.env.scope x)(he:XV X e fe)(hf:X.fn x=true\/X.env.scope.names.lookup x=some .local:=by first|exact .inl rfl|exact .inr rfl|assumption):
  XS X (.AugAssign (.Name x pos') op e pos) (sAug g i fe):=by
 obtain⟨t,h1,h2⟩:=he;refine⟨_,qiM hN hi hx h1 hop hf,λG0 H0 G ω σ H out ω' E ow e kk=>?_⟩;obtain⟨d,q1,e⟩:=bnd e;cases d with
 | int b=>
  split at e
  ·rename_i _ _ _ b' a ek q3
   cases ek;cases e;obtain⟨v,r1,r2⟩:=ow.sh i _ q3;cases (show v=.int a from r2);refine⟨.int a,r1,h2 G0 H0 G ω σ H _ _ ow q1 λu G1 H1 x1 y1=>?_⟩;cases y1.int;exact⟨a,b,rfl,rfl,kk G1 _ H1 ((ow.keep x1).setSh (d:=.int (g a b)) (v:=.int (g a b)) rfl) x1.gg⟩
  ·cases e
 | _=>cases e
end
section
open PySem.Spec PyProof.Rows
variable{X:Cx}
end
end Hk
namespace L2
open PySem PySem.Spec PyProof.Rows
end L2
namespace Hk
open PySem L2
noncomputable def lsetS(i:Nat)(ω:WSt)(v c:Option D)(w:Option (Option W)):Option (Out×WSt):=v.bind λd=>c.bind λc=>match c,w with
 | .int k,some (some (.ow ds))=>(ixN ds.length k).map λj=>(.nx,ω.set i (some (.ow (ds.set j d))))
 | _,_=>none
noncomputable def augS(g:Int->Int->Int)(i:Nat)(ω:WSt)(v:Option D)(w:Option (Option W)):Option (Out×WSt):=v.bind λd=>match d,w with
 | .int b,some ↥(.int a)=>some (.nx,ω.set i ↥(.int (g a b)))
 | _,_=>none
section
variable{ω:WSt}{fk fv:FD}{fa:FA}{i j:Nat}{ds:List D}{a b c:Int}{d:D}{g:Int->Int->Int}
theorem qdP:zAo i fk fv ω=lsetS i ω (fv ω) (fk ω) ω[i]?:=rfl
theorem qgc:sAug g i fv ω=augS g i ω (fv ω) ω[i]?:=rfl
theorem qeD:augS g i ω (some (.int b)) (some ↥(.int a))=some (.nx,ω.set i ↥(.int (g a b))):=rfl
end
theorem qhL{i:Nat}{ω:WSt}{ds:List D}{d:D}{k:Int}(h0:0<=k)(h1:k<ds.length):lsetS i ω (some d) (some (.int k)) (some (some (.ow ds)))=some (.nx,ω.set i (some (.ow (ds.set k.toNat d)))):=by
 show (ixN ds.length k).map _=_;have e:ixN ds.length k=some k.toNat:=by unfold ixN;rw[vH h0,vH h1]
 rw[e];rfl
end Hk
namespace L2
open PySem PySem.Spec PyProof.Rows
noncomputable def Ite(K:zB)(a:vC):It :=
 ⟨λi H=>∃xs x,SqL K H a xs/\xs[i]?=some x,
  λi H x H'=>∃t x1,H t=none/\x=.ref t/\H'=upd H t (.tup [.int i,x1])/\∀xs,SqL K H a xs->xs[i]?=some x1,
  λi H=>∃xs,SqL K H a xs/\xs[i]?=none⟩
theorem qet{P:vO}{w:vU}{K:zB}{elts:List vP}{kx}{tpos:Pos}(a e it:vC)(hne:e≠it)(hae:a≠e)(hai:a≠it):
  Turn P w K (.Tuple elts kx tpos) (Ite K a) [e,it] e (λi h=>(∃old,IsEnum h e it (i:Int) old)/\h.IsListIter it a i) where
 mem:=by simp
 obj:=λi h st c hc=>by
  obtain⟨⟨old,s1⟩,⟨o4,e4,c4,d4⟩⟩:=st;simp only[zF,zg,or_false]at hc;rcases hc with rfl|rfl
  ·exact⟨_,s1,λv y=>by cases (show Data.fields _=Data.cell v from y)⟩
  ·exact⟨_,e4,λv y=>by rw[d4]at y;cases y⟩
 keep:=λi h h' st k=>by
  obtain⟨⟨old,s1⟩,s4⟩:=st;exact⟨⟨old,k _ (by simp) _ s1⟩,s4.at λo e=>k _ (by simp) o e⟩
 item:=by
  intro X hP hw hK hc i pins s σ H E I hf st hg;subst hP hw hK;obtain⟨xs,x,hq,hx⟩:=hg;obtain⟨its,rv,p,hz⟩:=I.list hq;obtain⟨u,hu,ru⟩:=rv.get hx;obtain⟨⟨old,s1⟩,s4⟩:=st;have ex:∀c∈[e,it],∃o,s.heap.get? c=some o:=λc hc=>by
   simp only[zF,zg,or_false]at hc;rcases hc with rfl|rfl
   ·exact⟨_,s1⟩
   ·obtain⟨o,e,_⟩:=s4;exact⟨o,e⟩
  have nt:∀c∈[e,it],c≠s.heap.objs.size:=λc hc=>by
   obtain⟨o,e⟩:=ex c hc;exact zo (zP e)
  refine wpAny_pyNext_enum_item s1 s4 p.isList (x:=u) (by simpa using hu) hne λh' a1 a2 a3 a4 hk=>?_;have hn:H s.heap.objs.size=none:=I.hok.fresh (zN _);have I1:Inv X pins σ (upd H s.heap.objs.size (.tup [.int i,x])) { s with heap:=s.heap.push { cls:=.type "tuple", data:=.seq #[.int i s.toks,u] },toks:=s.toks+1 } :=
   I.laid (λb o e=>zH _ e) (zN _) (show Yi X.prog X.w _ _ _ (.tup [.int i,x])from ⟨by show 2<=sizeLine;decide,[.int i s.toks,u],.cons ⟨_,rfl⟩ (.cons ru .nil),⟨_,zT _ rfl,rfl,_,rfl⟩⟩)
  have hf':∀c∈[e,it],Xc X pins (upd H s.heap.objs.size (.tup [.int i,x])) c:=λc hc=>by
   obtain⟨f0,f⟩:=hf c hc;exact⟨by rw[qc (nt c hc)];exact f0,f⟩
  have I2:Inv X pins σ (upd H s.heap.objs.size (.tup [.int i,x])) { s with heap:=h',toks:=s.toks+1 }:=I1.turnedL (λb o hb e=>by
   simp only[zF,zg,or_false,not_or]at hb
   by_cases q:b=s.heap.objs.size
   ·subst q
    rw[zT _ rfl]at e;cases e;exact a3
   ·have e':s.heap.get? b=some o:=by
     rcases zx b s.heap.objs.size with l|l
     ·obtain⟨z1,z2⟩:=xh.mp e
      refine xh.mpr ⟨?_,z2⟩;rw[<- z1];show s.heap.objs[b]?=(s.heap.objs.push _)[b]?;rw[ZG,vJ q]
     ·have:=zP e
      rw[yV]at this;exact vN (by simp only[vC]at *;omega) q
    exact hk b o hb.1 hb.2 e') hf'
  refine⟨_,rfl,wpAny_letOwnedTupleGo_enum a1 λh2 b1 sb=>?_⟩;have I3:Inv X pins σ (upd H s.heap.objs.size (.tup [.int i,x])) { s with heap:=h2,toks:=s.toks+1 }:=I2.turnedL (λb o hb e=>(sb.2 b (λq=>hb (by simp[q]))).trans e) hf';have hi:((i+1:Nat):Int)=(i:Int)+1:=by push_cast;rfl
  refine⟨.ref s.heap.objs.size,_,I3,rfl,⟨_,x,hn,rfl,rfl,λxs' q1=>by rw[I.list_inj q1 hq];exact hx⟩,⟨⟨u,by rw[hi];exact b1⟩,a2.extBut sb.extBut (Ne.symm hne)⟩,λc hc=>(hf' c hc).1⟩
 done:=by
  intro X hP hw hK hc i pins s σ H E I hf st hg;subst hP hw hK;obtain⟨xs,hq,hx⟩:=hg;obtain⟨its,rv,p,hz⟩:=I.list hq;obtain⟨⟨old,s1⟩,s4⟩:=st;have l1:=rv.length;refine wpAny_pyNext_enum_end (I.ok.hd hc) s1 s4 p.isList ?_ λh' hk=>⟨rfl,I.turnedL (t':=s.toks) (λb o hb e=>?_) hf⟩
  ·rw[xa]at hx;simp;omega
  ·simp only[zF,zg,or_false,not_or]at hb
   exact hk b o hb.2 e
 self:=λ_ _ _ _ _ st h=>by
  obtain⟨⟨old,s1⟩,s4⟩:=st;exact wpAny_pyIter_enum s1 h
noncomputable def iEnum(K:zB)(ta:TA):TI:=λσ H R=>ta σ H λvs H1=>∃a xs,vs=[.ref a]/\SqL K H1 a xs/\R (Ite K a) H1
theorem qgZ{X:Cx}{a:vP}{ta:TA}{p pos tpos:Pos}{elts:List vP}{kx}(hg:Gl X "enumerate")(hm:X.mg "enumerate" = none)(ha:PA X [a] ta)(hs:vL [a] X.env=[(false,eval a X.env)]:=by rfl):
  PI X (.Tuple elts kx tpos) (.Call (.Name "enumerate" p) [a] [] pos) (iEnum X.K ta):=by
 intro pins s σ H R I h;refine Call_ (q0W I hg hm PyProof.Rows.boot_enumerate (PyProof.Rows.callWith_type1 (thn (ha pos pins s σ H _ I h) λus s1 ⟨vs,H1,I1,r1,q1⟩=>?_) hs rfl));obtain⟨l,xs,e,hq,q⟩:=q1;subst e;cases r1 with
 | cons r rr=>
  cases rr;cases r;obtain⟨its,rv,p1,hz⟩:=I1.list hq;have hlt:l<s1.heap.objs.size:=by obtain⟨_,_,e,_⟩:=p1;exact zP e
  refine call_enumerate_list p1.isList λh' a1 a2 a3 hk=>?_;refine wpAny_pyIter_enum a1 ?_;refine⟨s1.heap.objs.size+1,[s1.heap.objs.size+1,s1.heap.objs.size],_,_,H1,rfl,I1.kept (t':=s1.toks) hk,qet l _ _ (Nat.succ_ne_self _) (zo (yL hlt)) (zo hlt),⟨⟨_,a1⟩,a2⟩,λc hc=>?_,q⟩;have hle:s1.heap.objs.size<=c:=by
   simp only[zF,zg,or_false]at hc;simp only[vC]at *;omega
  exact I1.fpOk hle (I1.hok.fresh hle)
end L2
namespace Hk
open PySem L2
noncomputable def Xp:Nat->List D->List D
 | i,a::as=>.tup [.int i,a]::Xp (i+1) as
 | _,[]=>[]
theorem q53:∀(i:Nat)(as:List D),(Xp i as).length=as.length
 | i,a::as=>by show (Xp (i+1) as).length+1=_;rw[q53];rfl
 | i,[]=>rfl
theorem q7G:∀(k:Nat)(as:List D)(i:Nat)(d:D),(Xp k as)[i]?=some d->∃a,as[i]?=some a/\d=.tup [.int ((k+i:Nat):Int),a]
 | k,a::as,0,d,h=>by cases h;exact⟨a,rfl,rfl⟩
 | k,a::as,i+1,d,h=>by
  obtain⟨b,h1,h2⟩:=q7G (k+1) as i d h;exact⟨b,h1,by rw[h2];congr 4;omega⟩
 | k,[],i,d,h=>by cases h
theorem qem{K:zB}{G:Hp}{a:vC}{ds:List D}{vs:List V}(h1:G a=some (.lst vs))(h2:YX K G ds vs):IterOf K (Ite K a) G (Xp 0 ds):=by
 have l1:=h2.len;refine⟨λH i s hi=>?_,λG2 H i x H' d s0 s1 hd hy=>?_,λH s=>⟨vs,SqL.of (s _ _ h1),?_⟩⟩
 ·rw[q53]at hi
  exact⟨vs,vs[i]'∅,SqL.of (s _ _ h1),zC _⟩
 ·obtain⟨t,x1,ht,rfl,rfl,y⟩:=hy
  have e1:=y vs (SqL.of (s1 _ _ (s0 _ _ h1)));obtain⟨p,f1,rfl⟩:=q7G 0 ds i d hd;obtain⟨v,q1,q2⟩:=h2.get f1;rw[e1]at q1;cases q1;have x2:=Ext.lay s1 ht (.tup [.int i,x1]);exact⟨_,x2,⟨t,_,rfl,qg,YX.cons (by show (.int i:V)=.int ((0+i:Nat):Int);rw[xm]) (YX.cons (q2.mono (s0.trans x2.gg)) YX.nil)⟩⟩
 ·rw[q53];exact zu ∅
noncomputable def iEn(g:FA):FI:=λω=>(g ω).bind λds=>match ds with
 | [.lst a]=>some (Xp 0 a)
 | _=>none
theorem qhe{X:Cx}{a:vP}{g:FA}{p pos tpos:Pos}{elts:List vP}{kx}(hg:Gl X "enumerate")(hm:X.mg "enumerate" = none)(ha:XA X [a] g)(hs:vL [a] X.env=[(false,eval a X.env)]:=by rfl):
  XI X (.Tuple elts kx tpos) (.Call (.Name "enumerate" p) [a] [] pos) (iEn g):=by
 obtain⟨⟨t,h1,h2⟩,_⟩:=ha;refine⟨_,qgZ hg hm h1 hs,λG0 H0 G ω σ H ds R o e k=>?_⟩;obtain⟨vs,q,e⟩:=bnd e;refine h2 G0 H0 G ω σ H vs _ o q λus G1 H1 x1 y1=>?_
 match vs,e with
 | [.lst as],e=>
  cases e;obtain⟨v1,r1,rfl,z1,z2⟩:=y1;cases (show r1=[]from z2);obtain⟨a1,ws1,rfl,f1,f2⟩:=z1;exact⟨a1,ws1,rfl,SqL.of (x1.gh _ _ f1),k _ G1 H1 x1 (qem f1 f2)⟩
noncomputable def enI(o:Option (List D)):Option (List D):=o.bind λds=>match ds with
 | [.lst a]=>some (Xp 0 a)
 | _=>none
theorem qgn{fa:FA}{ω:WSt}:iEn fa ω=enI (fa ω):=rfl
theorem qgw{ds:List D}:enI (some [.lst ds])=some (Xp 0 ds):=rfl
section
open PyProof.Rows PySem.Spec
variable{prog:vO}{w:vU}{A:vY}{E:vB->vF->Prop}{s:vF}{l:vC}{xs:Array (Int×Tok)}
end
section
variable{X:Cx}
open PyProof.Rows PySem.Spec
end
end Hk
namespace Hk
open PySem PySem.Spec PyProof.Rows L2
section
variable{prog:vO}{w:vU}{A:vY}{E:vB->vF->Prop}{s:vF}
end
end Hk
namespace L2
open PySem PySem.Spec PyProof.Rows Hk
end L2
namespace Hk
open PySem L2
end Hk
namespace L2
open PySem PySem.Spec PyProof.Rows
noncomputable def Itk(a:vC)(ob:Obj)(kvs:List (Key×V)):It :=
 ⟨λi H=>H a=some (.frz ob (.dK kvs))/\i<kvs.length,λi H x H'=>H'=H/\∃n v,kvs[i]?=some (Sum.inl n,v)/\x=.int n,λi H=>H a=some (.frz ob (.dK kvs))/\kvs.length<=i⟩
theorem qdB{X:Cx}{pins:List (vC×Obj)}{σ:St}{H:Hp}{s:vF}{a:vC}{ob:Obj}{kvs:List (Key×V)}{es0:Array DictEntry}{ep:Nat}(I:Inv X pins σ H s)(h:H a=some (.frz ob (.dK kvs)))(hd:ob.data=.dict es0 ep):
  (a==v8)=false/\∃vs,KV kvs vs/\s.heap.DictAt (Ye X.prog X.w) a vs ep:=by
 obtain⟨e,_,lo,vs,r,o,es,ep',e',c1,c2,c3⟩:=(show Yi X.prog X.w H s.heap a (.frz ob (.dK kvs))from I.hok a _ h);refine⟨lo,vs,r,o,es,e',c1,?_,c3⟩;rw[e]at e';cases e';rw[hd]at c2;cases c2;exact hd
theorem qd2{P:vO}{w:vU}{K:zB}{tg:vP}{ob:Obj}{kvs:List (Key×V)}{es0:Array DictEntry}{ep:Nat}(a it:vC)(hne:a≠it)(hd:ob.data=.dict es0 ep)(hk:∀p∈kvs,∃n:Int,p.1=(Sum.inl n:Key)):
  Turn P w K tg (Itk a ob kvs) [it] it (λi h=>h.IsKeyIter it a i kvs.length ep) where
 mem:=by simp
 obj:=λi h st b hb=>by
  have e:b=it:=by simpa using hb
  subst e;obtain⟨o,e,c,d⟩:=st;exact⟨o,e,λv z=>by rw[d]at z;cases z⟩
 keep:=λi h h' st k=>st.at λo e=>k it (by simp) o e
 item:=by
  intro X hP hw hK hc i pins s σ H E I hf st hg;subst hP hw hK;obtain⟨hq,hi⟩:=hg;obtain⟨lo,vs,r,hm⟩:=qdB I hq hd;have hl:kvs.length=vs.length:=by have:=vj yr r.keys;simpa using this
  obtain⟨⟨k,v⟩,hx⟩:∃p,kvs[i]?=some p:=⟨kvs[i],zC hi⟩;obtain⟨n,rfl⟩:=hk _ (yJ hx);obtain⟨⟨k',u⟩,hu⟩:∃p,vs[i]?=some p:=⟨vs[i]'∅,zC _⟩;have ek:k'=(Sum.inl n:Key):=by
   have h1:(kvs.map (·.1))[i]?=some (Sum.inl n):=by rw[zY,hx];rfl
   rw[r.keys,zY,hu]at h1;exact z5 h1
  subst ek;obtain⟨f0,f1,f2,f3,f4,f5⟩:=hf it (by simp);rw[hl]at st;refine wpAny_pyNext_dict_item st hm hu λkey h' hkey st' sb=>?_;have I1:Inv X pins σ H { s with heap:=h' }:=I.turned (t':=s.toks) (λb o hb e=>(sb.2 b hb).trans e) f0 f1 f3 f4 f5;obtain⟨t,rfl⟩:∃t,key=.int n t:=by
   rcases qF (k:=(Sum.inl n:Key)) hkey with⟨i,t,e4,rfl⟩|⟨x,t,e4,_⟩
   ·cases e4;exact⟨t,rfl⟩
   ·cases e4
  obtain⟨o,e,c,d⟩:=id st';rw[<- hl]at st';exact⟨.int n t,rfl,q8k (s:={ s with heap:=h' }) e c d (by decide) ⟨.int n,H,I1,⟨t,rfl⟩,⟨rfl,n,v,hx,rfl⟩,st',λb hb=>(hf b hb).1⟩⟩
 done:=by
  intro X hP hw hK hc i pins s σ H E I hf st hg;subst hP hw hK;obtain⟨hq,hi⟩:=hg;obtain⟨lo,vs,r,hm⟩:=qdB I hq hd;have hl:kvs.length=vs.length:=by have:=vj yr r.keys;simpa using this
  obtain⟨f0,f1,f2,f3,f4,f5⟩:=hf it (by simp);rw[hl]at st;exact wpAny_pyNext_dict_end (I.ok.hd hc) st hm (zu ∅) λh' eb=>⟨rfl,I.turned (t':=s.toks) (λb o hb e=>eb b o hb e) f0 f1 f3 f4 f5⟩
 self:=λ_ _ _ _ _ st h=>wpAny_pyIter_keyiter st h
noncomputable def iKeys(tl:TE):TI:=λσ H R=>tl σ H λv H1=>∃a ob kvs,v=.ref a/\H1 a=some (.frz ob (.dK kvs))/\(∀p∈kvs,∃n:Int,p.1=(Sum.inl n:Key))/\R (Itk a ob kvs) H1
theorem qhQ{X:Cx}{tg l:vP}{tl:TE}(hl:PE X l tl):PI X tg l (iKeys tl):=by
 intro pins s σ H R I h;refine thn (hl pins s σ H _ I h) λv s1 ⟨x,H1,I1,r1,q1⟩=>?_;obtain⟨a,ob,kvs,e,hq,hk,q⟩:=q1;subst e;cases r1;obtain⟨e0,_,lo,vs,r,o,es,ep,e',c1,c2,c3⟩:=(show Yi X.prog X.w H1 s1.heap a (.frz ob (.dK kvs))from I1.hok a _ hq);have hob:ob.data=.dict es ep:=by rw[e0]at e';cases e';exact c2
 have hm:s1.heap.DictAt (Ye X.prog X.w) a vs ep:=⟨o,es,e',c1,c2,c3⟩;have hlen:kvs.length=vs.length:=by have:=vj yr r.keys;simpa using this
 have hlt:a<s1.heap.objs.size:=zP e0;refine wpAny_pyIter_dict lo hm ?_;refine⟨s1.heap.objs.size,[s1.heap.objs.size],_,_,H1,rfl,I1.kept (t':=s1.toks) λb o e=>zH _ e,qd2 a _ (zo hlt) hob hk,⟨_,zT _ rfl,rfl,by rw[hlen];rfl⟩,λb hb=>?_,q⟩;have e:b=s1.heap.objs.size:=by simpa using hb
 subst e;exact I1.fpOk (zN _) (I1.hok.fresh (zN _))
end L2
namespace Hk
open PySem L2
theorem q7Y:∀{ks:List Int}{vs:List V}{i:Nat}{n:Int}{v:V},(kvsOf ks vs)[i]?=some (Sum.inl n,v)->ks[i]?=some n
 | [],_,_,_,_,h=>by cases h
 | _::_,[],_,_,_,h=>by cases h
 | k::ks,v::vs,0,n,u,h=>by cases h;rfl
 | k::ks,v::vs,i+1,n,u,h=>q7Y (ks:=ks) (vs:=vs) h
theorem q7x:∀{ks:List Int}{vs:List V},∀p∈kvsOf ks vs,∃n:Int,p.1=(Sum.inl n:Key)
 | [],_,_,h=>by cases h
 | _::_,[],_,h=>by cases h
 | k::ks,v::vs,p,h=>by
  rcases zF.mp h with rfl|h
  ·exact⟨k,rfl⟩
  ·exact q7x p h
theorem qdv{K:zB}{G:Hp}{a:vC}{ob:Obj}{ks:List Int}{vs:List V}(h1:G a=some (.frz ob (.dK (kvsOf ks vs))))(hl:ks.length=vs.length):IterOf K (Itk a ob (kvsOf ks vs)) G (ks.map D.int):=by
 have l1:=q3q hl;refine⟨λH i s hi=>⟨s _ _ h1,by rw[zA]at hi;omega⟩,λG2 H i x H' d s0 s1 hd hy=>?_,λH s=>⟨s _ _ h1,by rw[zA];omega⟩⟩;obtain⟨e,n,v,q1,q2⟩:=hy;subst e q2;have:=q7Y q1;rw[zY,this]at hd;cases hd;exact⟨G2,Ext.refl s1,rfl⟩
noncomputable def zAM:Option (Option W)->Option (List D)
 | some ↥(.dic ks _)=>some (ks.map D.int)
 | _=>none
noncomputable def iDk(i:Nat):FI:=λω=>zAM ω[i]?
theorem qgP{X:Cx}{tg o:vP}{i:Nat}(ho:PE X o (Xh i)):XI X tg o (iDk i):=by
 refine⟨_,qhQ ho,λG0 H0 G ω σ H ds R ow e k=>?_⟩;unfold iDk zAM at e
 split at e
 ·rename_i ks ds' q
  cases e;obtain⟨v,h1,p,vs,rfl,⟨ob,h2⟩,h3,h4⟩:=ow.sh i _ q;exact⟨.ref p,h1,p,ob,_,rfl,ow.gh _ _ h2,q7x,k _ G H (Ext.refl ow.gh) (qdv h2 (by rw[h3];exact h4.len))⟩
 ·cases e
abbrev Cal(P:vO)(w:vU)(K:zB)(mg:Str->Option vB)(base:vZ)(k:Nat)(f:vC)(d:vK)(x:Str)(ps:List Str)(n:Nat)(m:List D->Option O):Prop :=
 FnOk P w K mg base CX0 k f d ps (spD K n m)/\mg x=some (.ref f)/\xR K (.ref f)=true/\Binds K d ps []
section
variable{X:Cx}{x:Str}{pos:Pos}
theorem xc{e:vP}{es:List vP}{k k0:Nat}{f:vC}{fd:vK}{ps:List Str}{m:List D->Option O}{p:Pos}{g:FA}(c:Cal X.prog X.w X.K X.mg X.base k f fd x ps (e::es).length m)(hr:Room k0 X.A)(ha:XA X (e::es) g)(hk:k<=k0:=by decide)(hg:Gl X x:=by exact rfl)(hdb:(x==("__debug__" : Str))=false:=by decide)(he:vL (e::es) X.env=(false,eval e X.env)::vL es X.env:=by rfl)(hpl:(vn pos (vL es X.env)).any (·.1)=false:=by rfl):
  XE X (.Call (.Name x p) (e::es) [] pos) (YQ m g):=zAm c.1 (hr.mono hk) hg c.2.1 c.2.2.1 c.2.2.2 pass0 ha hdb he hpl
theorem vE(i:Nat)(hN:X.N[i]?=some x:=by rfl)(hv:Vis X.env.scope x:=by first|exact Or.inl rfl|exact Or.inr (Or.inl rfl)|exact Or.inr (Or.inr rfl))(hd:(x==("__debug__" : Str))=false:=by decide)(hcd:(x==("__classdict__" : Str))=false:=by decide):XE X (.Name x pos) (YI i):=Wq i (pv i hN hv hd hcd)
theorem vV(i:Nat)(hN:X.N[i]?=some x:=by rfl)(hv:Vis X.env.scope x:=by first|exact Or.inl rfl|exact Or.inr (Or.inl rfl)|exact Or.inr (Or.inr rfl))(hd:(x==("__debug__" : Str))=false:=by decide)(hcd:(x==("__classdict__" : Str))=false:=by decide):XV X (.Name x pos) (vOf (YI i)):=XE.toV (Wq i (pv i hN hv hd hcd))
theorem vD(i:Nat)(hN:X.N[i]?=some x:=by rfl)(hv:Vis X.env.scope x:=by first|exact Or.inl rfl|exact Or.inr (Or.inl rfl)|exact Or.inr (Or.inr rfl))(hd:(x==("__debug__" : Str))=false:=by decide)(hcd:(x==("__classdict__" : Str))=false:=by decide):XD X (.Name x pos) (dOf (YI i)):=XE.toD (Wq i (pv i hN hv hd hcd))
end
def Fd(K:zB)(x:Str)(st:vg)(f:vC):Prop:=yO K vQ x=some (some (.ref f))/\∃fd,Fun K x x st f fd
section
variable{P:vO}{w:vU}{K:zB}{mg:Str->Option vB}{base h:vZ}{x:Str}{st:vg}{f:vC}{fd:vK}
theorem qj9{oc:vB}{od an:Option vC}{osl:Array (Option vB)}{kV doc pm cdv ct:vB}(a:yO K vQ x=some (some (.ref f)))(l:K.lookup f=some ⟨oc,od,.func (xE x x (XH st) (Y0 st) (YL st) .none kV doc pm an cdv ct),osl⟩)(c:wC K cdv x=true)(k:xR K (.ref f)=true):Fd K x st f:=⟨a,_,qif l c k⟩
theorem qh(P:vO)(w:vU)(base:vZ)(X:K.In h)(G:h.Ns vQ mg){x:Str}{st:vg}{f:vC}{fd:vK}{k n:Nat}{ps:List Str}{m:List D->Option O}(D:Fd K x st f)(F:Fun K x x st f fd)(o:FnOk P w K mg base CX0 k f fd ps (spD K n m))(b:∀(kV doc pm:vB)(an:Option vC)(cdv ct:vB)(us:List vB),us.length=ps.length->bindArgs (xE x x (XH st) (Y0 st) (YL st) .none kV doc pm an cdv ct) ⟨us,[]⟩=pure (ps.zip us)):Cal P w K mg base k f fd x ps n m :=
 ⟨o,ZM X G D.1,F.kp,F.binds b⟩
end
end Hk
namespace Hk
open PySem PyProof.Rows
noncomputable def kcl(c:Int)(l:List ub):List ub:=l.filter λp=>tV p.1==c
def WK(l m:List ub):Prop:=∀c,kcl c l=kcl c m
theorem q0p(c:Int)(a b:List ub):kcl c (a++b)=kcl c a++kcl c b:=wH ..
theorem q5k(c:Int)(a:List ub):kcl c a.reverse=(kcl c a).reverse:=List.filter_reverse ..
theorem q6l{c:Int}{l:List ub}(h:∀p∈l,tV p.1≠c):kcl c l=[]:=yi.mpr λp hp=>by simpa using h p hp
theorem q44{xs:Array ub}{i:Nat}{p:ub}(h:xs.toList[i]?=some p):K xs i=tV p.1:=by
 unfold K;rw[<- za,h]
theorem qaP{α:Type}{l:List α}{i j:Nat}{p:α}(h:p∈(l.take j).drop i):∃n,i<=n/\n<j/\l[n]?=some p:=by
 obtain⟨m,hm⟩:=ym.mp h;rw[yp,yq]at hm
 split at hm
 ·exact⟨i+m,∅,by assumption,hm⟩
 ·cases hm
theorem cut3{α:Type}(l:List α){i j:Nat}(h:i<=j):l.take i++((l.take j).drop i++l.drop j)=l:=by
 have:l.take i=(l.take j).take i:=by rw[Z4,Zu h]
 rw[this,<- yB,xA,xA]
theorem q3v{xs:Array ub}{i j:Nat}(hij:i<=j)(hj:j<=xs.size):(mirror xs i j ((j-i)/2)).toList=xs.toList.take i++(((xs.toList.take j).drop i).reverse++xs.toList.drop j):=by
 apply yv;intro k;rw[za,getElem?_mirror_all hj];have hl:xs.toList.length=xs.size:=zQ;rcases zx k i with h1|h1
 ·rw[vJ ∅,zb (by rw[zn];omega),yq,vH h1,za]
 ·rw[zW (by rw[zn];omega),zn,show min i xs.toList.length=i by omega]
  have ld:((xs.toList.take j).drop i).length=j-i:=by rw[yK,zn];omega
  rcases zx k j with h2|h2
  ·rw[vH ⟨h1,h2⟩,zb (by rw[xJ,ld];omega),List.getElem?_reverse (by rw[ld];omega),ld,yp,yq,vH ∅,za]
   congr 1;omega
  ·rw[vJ ∅,zW (by rw[xJ,ld];omega),xJ,ld,yp,za]
   congr 1;omega
theorem qa8{xs:Array ub}{j l:Nat}(hs:j<xs.size)(hl:l<=j):(bubble xs j (j-l)).toList=xs.toList.take l++(xs[j]::((xs.toList.take j).drop l++xs.toList.drop (j+1))):=by
 apply yv;intro k;rw[za,getElem?_bubble hs _ ∅,show j-(j-l)=l by omega];have hn:xs.toList.length=xs.size:=zQ;rcases zx k l with h1|h1
 ·rw[vJ ∅,vJ ∅,zb (by rw[zn];omega),yq,vH h1,za]
 ·rw[zW (by rw[zn];omega),zn,show min l xs.toList.length=l by omega]
  rcases wI h1 with h2|h2
  ·subst h2
   rw[vH rfl,we,xK,getElem?_pos xs j hs]
  ·rw[vJ ∅]
   obtain⟨m,hm⟩:∃m,k-l=m+1:=⟨k-l-1,∅⟩;rw[hm,yw];have ld:((xs.toList.take j).drop l).length=j-l:=by rw[yK,zn];omega
   rcases zx m (j-l)with h3|h3
   ·rw[vH ∅,zb (by rw[ld];exact h3),yp,yq,vH ∅,za]
    congr 1;omega
   ·rw[vJ ∅,zW (by rw[ld];exact h3),ld,yp,za]
    congr 1;omega
theorem qad{xs:Array ub}{j l:Nat}(hs:j<xs.size)(hl:l<=j)(h:∀i,l<=i->i<j->K xs j<K xs i):WK (bubble xs j (j-l)).toList xs.toList:=by
 intro c;have hx:xs.toList[j]?=some xs[j]:=by rw[za,getElem?_pos xs j hs]
 have e:xs.toList=xs.toList.take l++((xs.toList.take j).drop l++(xs[j]::xs.toList.drop (j+1))):=by
  have d:xs.toList.drop j=xs[j]::xs.toList.drop (j+1):=by
   rw[xZ (by rw[zQ];exact hs),Array.getElem_toList]
  rw[<- d,cut3 _ hl]
 rw[qa8 hs hl,q0p];have e2:kcl c xs.toList=kcl c (xs.toList.take l)++(kcl c ((xs.toList.take j).drop l)++kcl c (xs[j]::xs.toList.drop (j+1))):=by
  conv=>lhs;rw[e]
  rw[q0p,q0p]
 rw[e2]
 congr 1
 show kcl c ([xs[j]]++((xs.toList.take j).drop l++xs.toList.drop (j+1)))=_++kcl c ([xs[j]]++xs.toList.drop (j+1));rw[q0p,q0p,q0p]
 by_cases z:tV xs[j].1=c
 ·have no:kcl c ((xs.toList.take j).drop l)=[]:=q6l λp hp=>by
   obtain⟨n,n1,n2,n3⟩:=qaP hp;have k1:=q44 n3;have k2:=q44 hx;have:=h n n1 n2;omega
  rw[no,yZ,yZ]
 ·have no:kcl c [xs[j]]=[]:=q6l λp hp=>by cases zM.mp hp;exact z
  rw[no,yZ,yZ]
structure DInv (a₀:Array ub) (xs:Array ub) (x neq:Nat):Prop where
 le:neq+1<=x
 ni:sF xs x
 eq:∀i,x-(neq+1)<=i->i<x->K xs i=K xs (x-1)
 lt:0<x-(neq+1)->K xs (x-(neq+1))<K xs (x-(neq+1)-1)
 cl:∀c,kcl c (xs.toList.take (x-(neq+1)))=(kcl c (a₀.toList.take (x-(neq+1)))).reverse
 dr:xs.toList.drop (x-(neq+1))=a₀.toList.drop (x-(neq+1))
theorem DInv.flip{a₀ xs:Array ub}{x neq:Nat}(D:DInv a₀ xs x neq)(hx:x<=xs.size)(hz:xs.size=a₀.size):
  (∀c,kcl c ((mirror xs (x-(neq+1)) x ((x-(x-(neq+1)))/2)).toList.take x)=(kcl c (a₀.toList.take x)).reverse)/\(mirror xs (x-(neq+1)) x ((x-(x-(neq+1)))/2)).toList.drop x=a₀.toList.drop x:=by
 have hb:x-(neq+1)<=x:=Nat.sub_le _ _;have hle:=D.le;have hbx:x-(neq+1)<x:=∅
 have lt:=D.lt;have eq:=D.eq;have ni:=D.ni;have cl:=D.cl;have dr:=D.dr;generalize x-(neq+1)=b at hb hbx lt eq cl dr;have hn:xs.toList.length=xs.size:=zQ;have hn0:a₀.toList.length=a₀.size:=zQ;have run:(xs.toList.take x).drop b=(a₀.toList.take x).drop b:=by
  rw[Z5,Z5,dr]
 have lrun:((xs.toList.take x).drop b).length=x-b:=by rw[yK,zn];omega
 rw[q3v hb hx];have l1:(xs.toList.take b++((xs.toList.take x).drop b).reverse).length=x:=by
  rw[zE,xJ,lrun,zn];omega
 rw[<- yB];refine⟨λc=>?_,?_⟩
 ·rw[Zv l1,q0p,q5k,run]
  have e0:a₀.toList.take x=a₀.toList.take b++(a₀.toList.take x).drop b:=by
   have:a₀.toList.take b=(a₀.toList.take x).take b:=by rw[Z4,Zu hb]
   rw[this,xA]
  have e9:kcl c (a₀.toList.take x)=kcl c (a₀.toList.take b)++kcl c ((a₀.toList.take x).drop b):=(vj (kcl c) e0).trans (q0p c _ _);rw[e9,List.reverse_append,<- cl c]
  by_cases z:c=K xs (x-1)
  ·have no:kcl c (xs.toList.take b)=[]:=q6l λp hp=>by
    obtain⟨m,hm⟩:=ym.mp hp;rw[yq]at hm
    split at hm
    ·rename_i hmb
     have k1:=q44 hm;have k2:=lt ∅;have k3:=ni m (b-1) ∅ ∅;have k4:K xs b=K xs (x-1):=eq b (zN _) hbx;omega
    ·cases hm
   rw[no,yZ,zw]
  ·have no:kcl c ((a₀.toList.take x).drop b)=[]:=q6l λp hp=>by
    rw[<- run]at hp;obtain⟨n,n1,n2,n3⟩:=qaP hp;have k1:=q44 n3;have k2:=eq n n1 n2;intro y;exact z ∅
   rw[no,List.reverse_nil,zw,yZ]
 ·rw[Zw l1]
  have e1:xs.toList.drop x=(xs.toList.drop b).drop (x-b):=by rw[Z6];congr 1;omega
  have e2:a₀.toList.drop x=(a₀.toList.drop b).drop (x-b):=by rw[Z6];congr 1;omega
  rw[e1,e2,dr]
section
variable{prog:vO}{w:vU}{A:vY}{E:vB->vF->Prop}{s:vF}{a₀:Array ub}
theorem q5u{xs ys:Array ub}{x:Nat}(h:sF xs x)(e:∀k,K ys k=K xs k)(hl:x=0\/K xs x<=K xs (x-1)):sF ys (x+1):=by
 intro i j hij hj;rw[e,e];rcases zx j x with y|y
 ·exact h i j hij y
 ·obtain rfl:j=x:=∅
  rcases wI hij with z|z
  ·rw[z];exact z7 _
  ·rcases hl with hl|hl
   ·omega
   ·exact xX hl (h i (j-1) ∅ ∅)
theorem qai{st:ug}{n nrem:Nat}{Q:DescSt->ug->Prop}(h0:IntKeys a₀)(hn:nrem<=a₀.size)(h1:1<=n)(hnn:n<=nrem)(hB:uy a₀ st)(hD:DInv a₀ (vS st) n 0)(h:∀m neq st',uy a₀ st'->n<=m->m<=nrem->DInv a₀ (vS st') m neq->Q (none,m,neq) st'):wpS (model prog w) A E s (descLoop n nrem) Q st:=by
 unfold descLoop;refine uq (I:=λx c st'=>∃neq,c=(none,x,neq)/\uy a₀ st'/\DInv a₀ (vS st') x neq) ?turn ?done ⟨0,rfl,hB,hD⟩
 case done=>
  rintro c st' ⟨neq,rfl,b1,b2⟩;rw[Nat.max_eq_right hnn]at b2 ⊢;exact h nrem neq st' b1 hnn (zN _) b2
 case turn=>
  rintro x c st' hx1 hx2 ⟨neq,rfl,b1,D⟩
  dsimp only
  have hsz:(vS st').size=a₀.size:=b1.size;have hle:=D.le;refine vk (wpS_ltK b1 h0 ∅ ∅ ?_)
  by_cases less:K (vS st') x<K (vS st') (x-1)
  ·rw[vW less]
   simp only[if_true];obtain⟨f1,f2⟩:=D.flip ∅ hsz;have ke:=tL (xs:=vS st') (i:=x-(neq+1)) (j:=x) ∅ D.eq;have next:DInv a₀ (mirror (vS st') (x-(neq+1)) x ((x-(x-(neq+1)))/2)) (x+1) 0:=by
    refine⟨∅,q5u D.ni ke (.inr (xG less)),λi i1 i2=>?_,λ_=>?_,?_,?_⟩
    ·congr 1;omega
    ·show K _ x<K _ (x-1)
     rw[ke,ke];exact less
    ·exact f1
    ·exact f2
   by_cases hq:neq>0
   ·rw[vH hq]
    exact vk (tM (v7 ⟨0,rfl,b1.setArr (tN _ _ _ _),next⟩))
   ·rw[vJ hq]
    have hq0:neq=0:=∅
    subst hq0;have e:mirror (vS st') (x-(0+1)) x ((x-(x-(0+1)))/2)=vS st':=by
     have:(x-(x-(0+1)))/2=0:=∅
     rw[this];rfl
    rw[e]at next
    exact v7 ⟨0,rfl,b1,next⟩
  ·rw[vT less]
   simp only[yC,if_false];refine vk (wpS_ltK b1 h0 ∅ ∅ ?_)
   by_cases more:K (vS st') (x-1)<K (vS st') x
   ·rw[vW more]
    simp only[if_true];exact v7 (h x neq st' b1 hx1 ∅ D)
   ·rw[vT more]
    simp only[yC,if_false];have ex:K (vS st') x=K (vS st') (x-1):=∅
    have eb:x+1-(neq+1+1)=x-(neq+1):=∅
    refine v7 ⟨neq+1,rfl,b1,∅,q5u D.ni (λ_=>rfl) (.inr ∅),λi i1 i2=>?_,?_,?_,?_⟩
    ·rw[eb]at i1
     rw[show x+1-1=x by omega,ex];rcases zx i x with y|y
     ·exact D.eq i i1 y
     ·obtain rfl:i=x:=∅
      exact ex
    ·rw[eb];exact D.lt
    ·rw[eb];exact D.cl
    ·rw[eb];exact D.dr
theorem qbN{st:ug}{n nrem:Nat}{Q:Option Nat->ug->Prop}(h0:IntKeys a₀)(hn:nrem<=a₀.size)(h1:1<=n)(hnn:n<=nrem)(hB:uy a₀ st)(hs:sF (vS st) n)(hc:∀c,kcl c ((vS st).toList.take n)=(kcl c (a₀.toList.take n)).reverse)(hd:(vS st).toList.drop n=a₀.toList.drop n)(h:∀m st',uy a₀ st'->1<=m->m<=nrem->uc (vS st') m->WK (vS st').toList a₀.toList->Q (some m) st'):wpS (model prog w) A E s (tail3 n nrem) Q st:=by
 unfold tail3;have hsz:n<=(vS st).size:=by rw[hB.size];omega
 refine vk (tM ?_);have b1:uy a₀ (setArr st (mirror (vS st) 0 n ((n-0)/2))):=hB.setArr (tN _ _ _ _);have stb:WK (mirror (vS st) 0 n ((n-0)/2)).toList a₀.toList:=λc=>by
  rw[q3v (yQ _) hsz,Z7,yZ,ZC,q0p,q5k,hc c,ZD,hd,<- q0p,xA]
 refine vk (wpS_ascLoop h0 hn h1 hnn b1 (λi j hij hj=>?_) λm m1 m2 m3 _=>v7 (h m _ b1 ∅ m2 m3 stb));show K (mirror (vS st) 0 n ((n-0)/2)) i<=K (mirror (vS st) 0 n ((n-0)/2)) j;rw[K_mirror hsz,K_mirror hsz,vH ∅,vH ∅];exact hs _ _ ∅ ∅
theorem q5y{st:ug}{n nrem:Nat}{Q:Option Nat->ug->Prop}(h0:IntKeys a₀)(hn:nrem<=a₀.size)(hnn:n+1<=nrem)(hB:uy a₀ st)(hD:DInv a₀ (vS st) (n+1) 0)(h:∀m st',uy a₀ st'->1<=m->m<=nrem->uc (vS st') m->WK (vS st').toList a₀.toList->Q (some m) st'):wpS (model prog w) A E s (descPart n nrem) Q st:=by
 unfold descPart;refine vk (wpS_lift (uJ ⟨rfl,?_⟩));refine vk (qai h0 hn ∅ hnn hB hD λm neq st' b1 m1 m2 D=>?_)
 dsimp only
 have hsz:(vS st').size=a₀.size:=b1.size;have hle:=D.le;obtain⟨f1,f2⟩:=D.flip ∅ hsz;have ke:=tL (xs:=vS st') (i:=m-(neq+1)) (j:=m) ∅ D.eq
 by_cases hq:neq>0
 ·rw[vH hq]
  refine vk (tM (qbN h0 hn ∅ m2 (b1.setArr (tN _ _ _ _)) (λi j hij hj=>?_) f1 f2 h));show K (mirror (vS st') _ _ _) j<=K (mirror (vS st') _ _ _) i;rw[ke,ke];exact D.ni i j hij hj
 ·rw[vJ hq]
  have hq0:neq=0:=∅
  subst hq0;have e:mirror (vS st') (m-(0+1)) m ((m-(m-(0+1)))/2)=vS st':=by
   have:(m-(m-(0+1)))/2=0:=∅
   rw[this];rfl
  rw[e]at f1 f2;exact qbN h0 hn ∅ m2 b1 D.ni f1 f2 h
theorem qaf{st:ug}{nrem:Nat}{Q:Option Nat->ug->Prop}(h0:IntKeys a₀)(hn:nrem<=a₀.size)(h1:1<=nrem)(hB:uy a₀ st)(hA:vS st=a₀)(h:∀m st',uy a₀ st'->1<=m->m<=nrem->uc (vS st') m->WK (vS st').toList a₀.toList->Q (some m) st'):wpS (model prog w) A E s (countRun' 0 nrem) Q st:=by
 rw[countRun0_eq];refine vk (wpS_ascLoop h0 hn (zN 1) h1 hB (λi j hij hj=>by obtain rfl:i=j:=∅;exact z7 _) λn n1 n2 n3 n4=>?_)
 dsimp only
 have same:WK (vS st).toList a₀.toList:=λc=>by rw[hA]
 by_cases e1:n=nrem
 ·rw[vH ⇑e1]
  exact v7 (h n st hB n1 n2 n3 same)
 ·rw[vJ ⇑e1]
  have lt:=n4.resolve_left e1
  by_cases e2:n>1
  ·rw[vH e2]
   refine vk (wpS_ltK hB h0 ∅ ∅ ?_)
   by_cases rose:K (vS st) 0<K (vS st) (n-1)
   ·rw[vW rose]
    simp only[if_true];exact v7 (h n st hB n1 n2 n3 same)
   ·rw[vT rose]
    simp only[yC,if_false];have hsz:n<=(vS st).size:=by rw[hB.size];omega
    have all:∀k,0<=k->k<n->K (vS st) k=K (vS st) (n-1):=λk _ hk=>by
     have a1:=n3 0 k ∅ hk;have a2:=n3 k (n-1) ∅ ∅;omega
    have ke:=tL (xs:=vS st) (i:=0) (j:=n) hsz all;refine vk (tM (q5y h0 hn ∅ (hB.setArr (tN _ _ _ _)) ?_ h));show DInv a₀ (mirror (vS st) 0 n ((n-0)/2)) (n+1) 0;have ml:=q3v (yQ n) hsz;rw[Z7,yZ,ZC]at ml;have ll:(((vS st).toList.take n).reverse).length=n:=by rw[xJ,zn,zQ];omega
    have ni:sF (vS st) n:=λi j hij hj=>by rw[all i ∅ ∅,all j ∅ hj];exact z7 _
    refine⟨∅,q5u ni ke (.inr (xG lt)),λi i1 i2=>?_,λ_=>?_,λc=>?_,?_⟩
    ·congr 1;omega
    ·show K _ n<K _ (n-1)
     rw[ke,ke];exact lt
    ·show kcl c ((mirror (vS st) 0 n ((n-0)/2)).toList.take n)=(kcl c (a₀.toList.take n)).reverse
     rw[ml,Zv ll,q5k,hA]
    ·show (mirror (vS st) 0 n ((n-0)/2)).toList.drop n=a₀.toList.drop n
     rw[ml,Zw ll,hA]
  ·rw[vJ e2]
   obtain rfl:n=1:=∅
   refine q5y h0 hn ∅ hB ?_ h;have ni:sF (vS st) 1:=λi j hij hj=>by obtain rfl:i=j:=∅;exact z7 _
   refine⟨∅,q5u ni (λ_=>rfl) (.inr (xG lt)),λi i1 i2=>?_,λ_=>lt,λc=>?_,?_⟩
   ·congr 1;omega
   ·show kcl c ((vS st).toList.take 1)=(kcl c (a₀.toList.take 1)).reverse
    rw[hA,<- q5k];cases a₀.toList with
    | nil=>rfl
    | cons p r=>rfl
   ·rw[hA]
theorem qeA{st:ug}{n ok:Nat}{Q:Bool->ug->Prop}(h0:IntKeys a₀)(hn:n<=a₀.size)(hok:ok<=n)(hB:uy a₀ st)(hs:uc (vS st) ok)(hS:WK (vS st).toList a₀.toList)(h:∀st',uy a₀ st'->uc (vS st') n->WK (vS st').toList a₀.toList->Q true st'):wpS (model prog w) A E s (binarySort' 0 n ok) Q st:=by
 rw[binarySort'_eq];simp only[xm];refine vk (sG (uq (I:=λj c st'=>c=(none,())/\uy a₀ st'/\uc (vS st') (min j n)/\WK (vS st').toList a₀.toList)
  (Q:=λc st'=>c=(none,())/\uy a₀ st'/\uc (vS st') n/\WK (vS st').toList a₀.toList) ?turn ?done ?first) λc st' z=>?_)
 case first=>
  refine⟨rfl,hB,λi j hij hj=>?_,hS⟩
  by_cases y:ok=0
  ·obtain rfl:i=j:=∅
   exact z7 _
  ·exact hs i j hij ∅
 case done=>
  rintro c st' ⟨hc,b1,b2,b3⟩;rw[show min (max (max ok 1) n) n=n by omega]at b2;exact⟨hc,b1,b2,b3⟩
 case turn=>
  rintro j c st' j1 j2 ⟨rfl,b1,b2,b3⟩;rw[show min j n=j by omega]at b2;have hj:j<a₀.size:=∅
  have hjs:j<(vS st').size:=by rw[b1.size];exact hj
  refine vk (sG (uq (I:=λx c st2=>st2=st'/\∃l r,c=(none,l,r)/\l<=r/\r<=j/\r-l<=j-x/\(∀i,i<l->K (vS st') i<=K (vS st') j)/\∀i,r<=i->i<j->K (vS st') j<K (vS st') i)
   (Q:=λc st2=>st2=st'/\∃l r,c=(none,l,r)/\l<=j/\(∀i,i<l->K (vS st') i<=K (vS st') j)/\∀i,l<=i->i<j->K (vS st') j<K (vS st') i) ?half ?found ?all) λc st2 z=>?_)
  case all=>exact⟨rfl,0,j,rfl,yQ _,zN _,∅,λi y=>∅,λi y1 y2=>∅⟩
  case found=>
   rintro c st2 ⟨rfl,l,r,rfl,c1,c2,c3,c4,c5⟩;obtain rfl:l=r:=∅
   exact⟨rfl,l,l,rfl,c2,c4,c5⟩
  case half=>
   rintro x c st2 _ hx ⟨rfl,l,r,rfl,c1,c2,c3,c4,c5⟩
   dsimp only
   by_cases y:l>=r
   ·rw[vH y]
    obtain rfl:l=r:=∅
    exact v7 ⟨rfl,l,l,rfl,c2,c4,c5⟩
   ·rw[vJ y]
    refine vk (wpS_ltK b1 h0 hj ∅ ?_)
    by_cases less:K (vS st2) j<K (vS st2) ((l+r)/2)
    ·rw[vW less]
     simp only[if_true];refine v7 ⟨rfl,l,(l+r)/2,rfl,∅,∅,∅,c4,λi i1 i2=>?_⟩;exact Int.lt_of_lt_of_le less (b2 _ _ i1 i2)
    ·rw[vT less]
     simp only[yC,if_false];refine v7 ⟨rfl,(l+r)/2+1,r,rfl,∅,∅,∅,λi i1=>?_,c5⟩;have:=b2 i ((l+r)/2) ∅ ∅;omega
  obtain⟨rfl,l,r,rfl,c1,c2,c3⟩:=z;show wpS _ _ _ _ (do moveDown' j l;pure (ForInStep.yield (none,()))) _ _;rw[moveDown'_eq];refine vk (wpS_modify (v7 ⟨rfl,b1.setArr (bubble_perm _ _ _),?_,?_⟩))
  ·rw[show min (j+1) n=j+1 by omega]
   intro i k hik hk;show K (bubble (vS st2) j (j-l)) i<=K (bubble (vS st2) j (j-l)) k;rw[K_bubble hjs ∅,K_bubble hjs ∅,show j-(j-l)=l by omega]
   repeat' split
   all_goals first
    | (exfalso;omega)
    | exact z7 _
    | exact c2 _ ∅
    | exact xG (c3 _ ∅ ∅)
    | exact b2 _ _ ∅ ∅
  ·intro c
   rw[<- b3 c];exact qad hjs c1 c3 c
 obtain⟨rfl,b1,b2,b3⟩:=z;exact v7 (h st' b1 b2 b3)
def zAR(a₀:Array ub)(st:ug):Prop:=SDone a₀ st/\WK (vS st).toList a₀.toList
theorem qax{st:ug}{Q:Unit->ug->Prop}(h0:IntKeys a₀)(hB:uy a₀ st)(hA:vS st=a₀)(h2:2<=a₀.size)(h64:a₀.size<64)(h:∀st',(vS st').Perm a₀->failedOf st'=none->uc (vS st') a₀.size->WK (vS st').toList a₀.toList->Q () st'):wpS (model prog w) A E s sortRuns' Q st:=by
 rw[sortRuns'_eq];refine vk (wpS_get ?_)
 dsimp only
 have mr:minRun' a₀.size a₀.size 0=a₀.size:=by
  cases e:a₀.size with
  | zero=>omega
  | succ f=>rw[minRun'_succ,vH ∅]
 simp only[hB.size,mr];refine vk (sG (uq (I:=λx c st'=>(x=0/\c=(none,0)/\st'=st)\/(1<=x/\c=(none,a₀.size)/\zAR a₀ st')) (Q:=λc st'=>c=(none,a₀.size)/\zAR a₀ st') ?turn ?done (.inl ⟨rfl,rfl,rfl⟩)) λc st' z=>?_)
 case done=>
  rintro c st' (⟨y,_,_⟩|⟨_,y1,y2⟩)
  ·omega
  ·exact⟨y1,y2⟩
 case turn=>
  rintro x c st' _ hx (⟨rfl,rfl,rfl⟩|⟨x1,rfl,D⟩)
  ·dsimp only
   rw[vJ ∅];simp only[Nat.sub_zero,Nat.min_self,xm];refine vk (qaf h0 (zN _) ∅ hB hA λm st2 b1 m1 m2 m3 m4=>?_)
   dsimp only
   by_cases y:m<a₀.size
   ·rw[vH y]
    refine vk (wpS_lift (uJ ⟨rfl,?_⟩));refine vk (qeA h0 (zN _) m2 b1 m3 m4 λst3 d1 d2 d3=>?_);simp only[wQ,yC,if_false];refine vk (wpS_get ?_);have nb:(pendingOf st3).back?=none:=by rw[d1.pend];rfl
    rw[nb]
    dsimp only
    exact vk (wpS_modify (v7 (.inr ⟨∅,rfl,d1.done d2,d3⟩)))
   ·rw[vJ y]
    obtain rfl:m=a₀.size:=∅
    refine vk (wpS_get ?_);have nb:(pendingOf st2).back?=none:=by rw[b1.pend];rfl
    rw[nb]
    dsimp only
    exact vk (wpS_modify (v7 (.inr ⟨∅,rfl,b1.done m3,m4⟩)))
  ·dsimp only
   rw[vH (zN _)];exact v7 ⟨rfl,D⟩
 obtain⟨rfl,D⟩:=z
 dsimp only
 refine vk (sG (uq (I:=λ_ c st2=>st2=st'/\c=(none,())) (Q:=λc st2=>st2=st'/\c=(none,())) (λx c st2 _ _ y=>?_) (λ_ _ y=>y) ⟨rfl,rfl⟩) λc st2 y=>?_)
 ·obtain⟨rfl,rfl⟩:=y
  refine vk (wpS_get ?_);rw[vH (by rw[D.1.2.2.1];exact zN 1)];exact v7 ⟨rfl,rfl⟩
 ·obtain⟨rfl,rfl⟩:=y
  exact v7 (h _ D.1.1 D.1.2.1 D.1.2.2.2 D.2)
end
section
variable{α β:Type}
noncomputable def X0(f:α->Int)(x:α):List α->List α
 | []=>[x]
 | y::r=>if f x<=f y then x::y::r else y::X0 f x r
noncomputable def YV(f:α->Int)(l:List α):List α:=l.foldr (X0 f) []
noncomputable def clK(f:α->Int)(c:Int)(l:List α):List α:=l.filter λx=>f x==c
theorem q54{f:α->Int}{x:α}:∀{l:List α},(X0 f x l).Perm (x::l)
 | []=>.refl _
 | y::r=>by
  unfold X0
  split
  ·exact .refl _
  ·exact(q54.cons y).trans (.swap x y r)
theorem qO{f:α->Int}:∀{l:List α},(YV f l).Perm l
 | []=>.refl _
 | y::r=>q54.trans ((qO (l:=r)).cons y)
theorem q3r(f:α->Int)(l:List α):(YV f l).length=l.length:=qO.length_eq
theorem qbo{f:α->Int}{x:α}:∀{l:List α},l.Pairwise (λa b=>f a<=f b)->(X0 f x l).Pairwise (λa b=>f a<=f b)
 | [],_=>wV _ _
 | y::r,h=>by
  obtain⟨h1,h2⟩:=zV.mp h;unfold X0
  split
  ·rename_i z
   refine zV.mpr ⟨λa ha=>?_,h⟩;rcases zF.mp ha with rfl|ha
   ·exact z
   ·exact xX z (h1 a ha)
  ·rename_i z
   refine zV.mpr ⟨λa ha=>?_,qbo h2⟩;rcases zF.mp (q54.mem_iff.mp ha)with rfl|ha
   ·omega
   ·exact h1 a ha
theorem q2I{f:α->Int}:∀{l:List α},(YV f l).Pairwise (λa b=>f a<=f b)
 | []=>.nil
 | y::r=>qbo (q2I (l:=r))
theorem qaI{f:α->Int}{x:α}(c:Int):∀{l:List α},l.Pairwise (λa b=>f a<=f b)->clK f c (X0 f x l)=clK f c (x::l)
 | [],_=>rfl
 | y::r,h=>by
  obtain⟨h1,h2⟩:=zV.mp h;unfold X0
  split
  ·rfl
  ·rename_i z
   have ih:=qaI (x:=x) c h2;unfold clK at ih ⊢;rw[yD,ih,yD,yD,yD]
   by_cases a:f x=c
   ·have:¬f y=c:=∅
    simp[a,this]
   ·simp[a]
theorem q9m{f:α->Int}(c:Int):∀{l:List α},clK f c (YV f l)=clK f c l
 | []=>rfl
 | y::r=>by
  show clK f c (X0 f y (YV f r))=_;rw[qaI c q2I];unfold clK;rw[yD,yD];have ih:=q9m (f:=f) c (l:=r);unfold clK at ih;rw[ih]
theorem q2u{f:α->Int}{a:α}{l:List α}:clK f (f a) (a::l)=a::clK f (f a) l:=by
 unfold clK;rw[yD,vH (by simp)]
theorem qbH{f:α->Int}:∀{l m:List α},l.Pairwise (λa b=>f a<=f b)->m.Pairwise (λa b=>f a<=f b)->(∀c,clK f c l=clK f c m)->l=m
 | [],m,_,_,h=>by
  cases m with
  | nil=>rfl
  | cons b m=>have:=h (f b);rw[q2u]at this;cases this
 | a::l,m,h1,h2,h=>by
  cases m with
  | nil=>have:=h (f a);rw[q2u]at this;cases this
  | cons b m=>
   obtain⟨p1,p2⟩:=zV.mp h1;obtain⟨q1,q2⟩:=zV.mp h2;have x1:a∈b::m:=by
    have:a∈clK f (f a) (b::m):=by rw[<- h,q2u];exact zD
    exact(zp.mp this).1
   have x2:b∈a::l:=by
    have:b∈clK f (f b) (a::l):=by rw[h,q2u];exact zD
    exact(zp.mp this).1
   have e:f a=f b:=by
    rcases zF.mp x1 with y|y
    ·rw[y]
    ·rcases zF.mp x2 with z|z
     ·rw[z]
     ·have:=q1 a y;have:=p1 b z;omega
   have hab:=h (f a);rw[q2u]at hab;rw[e,q2u]at hab;obtain⟨rfl,_⟩:=YB hab;refine vj (a::·) (qbH p2 q2 λc=>?_);have hc:=h c;unfold clK at hc ⊢;rw[yD,yD]at hc
   by_cases z:(f a==c)=true
   ·rw[vH z,vH z]at hc;exact(YB hc).2
   ·rw[vJ z,vJ z]at hc;exact hc
theorem q8p{f:β->Int}{g:α->β}{x:α}:∀{l:List α},X0 f (g x) (l.map g)=(X0 (λa=>f (g a)) x l).map g
 | []=>rfl
 | y::r=>by
  show (if f (g x)<=f (g y)then _ else _)=(if f (g x)<=f (g y)then _ else _:List α).map g
  split
  ·rfl
  ·rw[q8p];rfl
theorem q24{f:β->Int}{g:α->β}:∀{l:List α},YV f (l.map g)=(YV (λa=>f (g a)) l).map g
 | []=>rfl
 | y::r=>by
  show X0 f (g y) (YV f (r.map g))=(X0 _ y (YV _ r)).map g;rw[q24,q8p]
end
theorem qhW{a₀ xs:Array ub}(hp:xs.Perm a₀)(hs:uc xs a₀.size)(hS:WK xs.toList a₀.toList):xs.toList=YV (λp=>tV p.1) a₀.toList:=by
 have hn:xs.size=a₀.size:=hp.size_eq;refine qbH (f:=λp:ub=>tV p.1) (yF.mpr λi j hi hj hij=>?_) q2I λc=>(hS c).trans (q9m c).symm;have e1:=q44 (xs:=xs) (i:=i) (zC hi);have e2:=q44 (xs:=xs) (i:=j) (zC hj);rw[<- e1,<- e2];exact hs i j ∅ (by rw[zQ]at hj;omega)
end Hk
namespace Hk
open PySem PySem.Spec PyProof.Rows L2
section
variable{X:Cx}{pins:List (vC×Obj)}{σ:L2.St}{H:Hp}{s:vF}
theorem qdr{h':vZ}{a:vC}{ys:List V}{its:List vB}{n t':Nat}(I:Inv X pins σ H s)(fa:Xc X pins H a)(k:∀b o,b≠a->s.heap.get? b=some o->h'.get? b=some o)(new:h'.get? a=some { cls:=.type "list", data:=.seq its.toArray n })(hv:Yf ys its)(hz:ys.length<=sizeLine):Inv X pins σ (upd H a (.lst ys)) { s with heap:=h',toks:=t' }:=by
 obtain⟨f0,f1,f2,f3,f4,f5⟩:=fa;have I1:=I.turned (h':=h') (t':=t') (it:=a) k f0 f1 f3 f4 f5;have na:∀{b:vC}{u:HO},H b=some u->b≠a:=λq z=>by rw[z,f0]at q;cases q
 refine Inv.step (s:={ s with heap:=h',toks:=t' }) (H':=upd H a (.lst ys)) (h':=h') (g':=s.gens) (d':=s.drawn) (t':=t') (ch:=[a]) I1 (λb hb=>?_) (λb o _ _ _ e _=>e) (λb o _ _ _ e _=>⟨o.slots,e⟩)
  (λb o hc e n=>by rw[qc ⇑hc];exact n) (λb o _ e=>⟨o,e⟩) (λb xs q=>by rw[qc (na q)];exact q) (λb o u q=>by rw[qc (na q)];exact q)
  (λb ps q=>⟨#[],by rw[qc (na q),q];simp⟩) (λ_ hm=>hm) (λb u q=>?_) I1.bare
 ·cases zM.mp hb
  exact⟨f3,f1,f4,f5⟩
 ·by_cases z:b=a
  ·subst z
   rw[qg]at q;cases q;exact⟨hz,its,n,hv,new⟩
  ·rw[qc z]at q
   exact(I1.hok b u q).stay (λ_ _ _ q=>q) (λc q=>by rw[qc (na q)];exact q) (λc xs q=>by rw[qc (na q)];exact q)
theorem qgJ{k:Nat}{f:vC}{fd:vK}{ps:List Str}{sp:Sp}{E:XK}{Q:VK}{us:List vB}{vs:List V}{E':vB->vF->Prop}(F:FnOk X.prog X.w X.K X.mg X.base CX0 k f fd ps sp)(hr:Room (k+2) X.A)(hb:Binds X.K fd ps [])(I:Inv X pins σ H s)(r:Yf vs us)(h:sp vs H Q E):vM (model X.prog X.w) X.A.in1.in1 (call (.ref f) us) (EP X pins σ Q) E' s:=by
 have hl:(us++[]).length=ps.length:=by rw[zw,<- r.length];exact F.len _ _ _ _ h
 have b:=hb s us I.kIn hl;rw[zw]at b;refine wpAny_call (uQ (F.run X.A.in1.in1 X.stack s H ⟨us,[]⟩ us vs Q E hr.in1.in1 I.env0.in1.in1 b r h) λr s' hq=>?_);cases r with
 | error e=>exact False.elim hq
 | ok fl=>
  cases fl with
  | ret u=>exact I.after hq
  | next=>exact False.elim hq
  | brk=>exact False.elim hq
  | cont=>exact False.elim hq
end
theorem q3Q{α:Type}{f g:α->Int}:∀{l:List α},(∀x∈l,f x=g x)->YV f l=YV g l
 | [],_=>rfl
 | y::r,h=>by
  show X0 f y (YV f r)=X0 g y (YV g r);rw[q3Q λx hx=>h x (zG _ hx)];have:∀{l:List α},(∀x∈l,f x=g x)->X0 f y l=X0 g y l:=λ{l} hl=>by
   induction l with
   | nil=>rfl
   | cons z r ih=>
    unfold X0;rw[h y zD,hl z zD,ih λx hx=>hl x (zG _ hx)]
  exact this λx hx=>h x (zG _ (qO.mem_iff.mp hx))
theorem q8B{α:Type}{f:α->V}{g:α->vB}:∀{l:List α},(∀t∈l,RelV (f t) (g t))->Yf (l.map f) (l.map g)
 | [],_=>.nil
 | t::r,h=>.cons (h t zD) (q8B λx hx=>h x (zG _ hx))
theorem q6U:∀{xs:List V}{vs:List vB}{i:Nat}{v:vB},Yf xs vs->vs[i]?=some v->∃x,xs[i]?=some x/\RelV x v
 | _,_,i,v,.nil,h=>by simp at h
 | _,_,0,v,.cons r _,h=>by simp at h;subst h;exact⟨_,rfl,r⟩
 | _,_,i+1,v,.cons _ r,h=>by
  obtain⟨x,a,b⟩:=q6U (i:=i) r ⇑h;exact⟨x,by simpa using a,b⟩
theorem q8x:∀{vs:List vB}{ns:List Int}{i:Nat}{v:vB},v5 vs ns->vs[i]?=some v->ns[i]?=some (tV v)
 | _,_,i,v,.nil,h=>by simp at h
 | _,_,0,v,.cons _ _ _,h=>by simp at h;subst h;rfl
 | _,_,i+1,v,.cons _ _ r,h=>by
  have:=q8x (i:=i) r ⇑h;simpa using this
theorem qao{xs:List V}{vs ks:List vB}{ds:List D}{kf:D->Int}(rv:Yf xs vs)(hd:ds.length=xs.length)(hk:v5 ks (ds.map kf)):Yf ((YV (λz:D×V=>kf z.1) (ds.zip xs)).map (·.2)) ((YV (λp:vB×vB=>tV p.1) (ks.zip vs)).map (·.2)):=by
 have l1:=rv.length;have l2:=hk.length;rw[zA]at l2
 let L:=(ds.zip xs).zip (ks.zip vs)
 have e1:ds.zip xs=L.map Prod.fst:=by
  rw[xt];rw[yT,yT];omega
 have e2:ks.zip vs=L.map Prod.snd:=by
  rw[List.map_snd_zip];rw[yT,yT];omega
 have mem:∀t∈L,kf t.1.1=tV t.2.1/\RelV t.1.2 t.2.2:=λt ht=>by
  obtain⟨i,hi⟩:=ym.mp ht;obtain⟨a1,a2⟩:=yc.mp hi;obtain⟨b1,b2⟩:=yc.mp a1;obtain⟨c1,c2⟩:=yc.mp a2;obtain⟨x,g1,g2⟩:=q6U rv c2;rw[b2]at g1;cases g1;have g3:=q8x hk c1;rw[zY,b1]at g3;exact⟨z5 g3,g2⟩
 rw[e1,e2,q24,q24,zc,zc,q3Q λt ht=>(mem t ht).1];exact q8B λt ht=>(mem t (qO.mem_iff.mp ht)).2
section
variable{X:Cx}{pins:List (vC×Obj)}{σ:L2.St}{G H:Hp}{s:vF}{a kS:vC}{xs:List V}{vs:List vB}{ds:List D}{kf:D->Int}
noncomputable def apart(pins:List (vC×Obj))(a kS:vC)(e1:Nat)(ks:Array vB)(e:Nat):List (vC×Obj):=pins++[(kS,vp "list" ks e),(a,vp "list" #[] e1)]
theorem q5O(I:Inv X (apart pins a kS e1 ks e) σ H s):s.heap.get? kS=some (vp "list" ks e)/\H kS=none:=by
 have:=I.pin (kS,vp "list" ks e) (zJ _ (zJ _ zD));exact⟨this.1,this.2.1⟩
theorem q6T(I:Inv X (apart pins a kS e1 ks e) σ H s):s.heap.get? a=some (vp "list" #[] e1)/\H a=none:=by
 have:=I.pin (a,vp "list" #[] e1) (zJ _ (zJ _ (zG _ zD)));exact⟨this.1,this.2.1⟩
theorem q7v(I:Inv X (apart pins a kS e1 ks e) σ H s):Inv X pins σ H s:=I.unpinned
theorem q9X{e1 e:Nat}{ks:Array vB}(I:Inv X pins σ H s)(fk:Xc X pins H kS)(fa:Xc X pins H a)(hk:s.heap.get? kS=some (vp "list" ks e))(ha:s.heap.get? a=some (vp "list" #[] e1)):Inv X (apart pins a kS e1 ks e) σ H s :=
 I.pins_of λp hp=>by
  rcases zK.mp hp with z|z
  ·exact I.pin p (zJ _ z)
  ·rcases zF.mp z with rfl|z
   ·exact⟨hk,fk.1,fk.2.1,fk.2.2.1,λv h=>by cases h⟩
   ·cases zM.mp z
    exact⟨ha,fa.1,fa.2.1,fa.2.2.1,λv h=>by cases h⟩
theorem q7b{h:vZ}{b:vC}{ys:Array vB}{n:Nat}(q:h.get? b=some (vp "list" ys n))(f:Array vB->Array vB):∃n',(h.update b (Obj.mapSeq f)).get? b=some (vp "list" (f ys) n'):=⟨_,get?_update_seq q f⟩
theorem q5q{H':Hp}{b:vC}(h:Xc X pins H b)(n:H' b=none):Xc X pins H' b:=⟨n,h.2⟩
theorem q8N{st:ug}{ks:Array vB}{e e1:Nat}{P:PySem.Fin->vF->Prop}{E:vB->vF->Prop}{A:vY}(I:Inv X (apart pins a kS e1 ks e) σ H s)(ne:kS≠a)(fk:Xc X pins H kS)(fa:Xc X pins H a)(rv:Yf xs vs)(hd:ds.length=xs.length)(hk:v5 ks.toList (ds.map kf))(h64:vs.length<64)(ho:(vS st).toList=YV (λp:ub=>tV p.1) (ks.toList.zip vs))(hf:failedOf st=none)(h:∀s',Inv X pins σ (upd H a (.lst ((YV (λz:D×V=>kf z.1) (ds.zip xs)).map (·.2)))) s'->P (.done (.ret .none)) s'):
  vM (model X.prog X.w) A (ksk_tail a false e1 (.ref kS) st) P E s:=by
 obtain⟨qk,hk0⟩:=q5O I;obtain⟨qa,ha0⟩:=q6T I;have I0:=q7v I;have lk:ks.toList.length=vs.length:=by have:=hk.length;have:=rv.length;rw[zA]at *;omega
 have lo:((vS st).map (·.2)).size=vs.length:=by
  rw[Array.size_map,<- zQ,ho,q3r,yT];omega
 have qa1:(s.heap.update kS (Obj.mapSeq λ_=>(#[]:Array vB))).get? a=some (vp "list" #[] e1):=(zk _ _ ne).trans qa;obtain⟨c2,qa2⟩:=q7b qa1 (λ_=>(vS st).map (·.2));have sv:=qao rv hd hk;have el:((vS st).map (·.2)).toList=(YV (λp:vB×vB=>tV p.1) (ks.toList.zip vs)).map (·.2):=by rw[Array.toList_map,ho]
 unfold ksk_tail
 try dsimp only
 refine vA (u4 qk rfl (vA (wpAny_letGo (vA (seqEpoch_at qa1 rfl ?_)))) (by rw[<- zQ,lk,vo];omega) (yQ _));refine vA (u4 qa1 rfl ?_ (yQ _) (by show ((vS st).map (·.2)).size<=_;rw[lo,vo];omega));rw[hf];simp only[bne_self_eq_false,yC,if_false];refine vG (h _ ?_);have I1:=I0.turned (h':=s.heap.update kS (Obj.mapSeq λ_=>(#[]:Array vB))) (t':=s.toks) (it:=kS) (λb o hb q=>(zk _ _ (Ne.symm hb)).trans q) fk.1 fk.2.1 fk.2.2.2.1 fk.2.2.2.2.1 fk.2.2.2.2.2;refine qdr (s:={ s with heap:=s.heap.update kS (Obj.mapSeq λ_=>(#[]:Array vB)) }) (its:=((vS st).map (·.2)).toList) (n:=c2) (t':=s.toks) I1 fa (λb o hb q=>(zk _ _ (Ne.symm hb)).trans q) ?_ (by rw[el];exact sv) ?_
 ·rw[xU];exact qa2
 ·rw[sv.length,<- el,zQ,lo,vo];omega
theorem qh3{ks:Array vB}{e e1:Nat}{P:PySem.Fin->vF->Prop}{E:vB->vF->Prop}{A:vY}(I:Inv X (apart pins a kS e1 ks e) σ H s)(ne:kS≠a)(fk:Xc X pins H kS)(fa:Xc X pins H a)(rv:Yf xs vs)(hd:ds.length=xs.length)(hk:v5 ks.toList (ds.map kf))(h64:vs.length<64)(h:∀s',Inv X pins σ (upd H a (.lst ((YV (λz:D×V=>kf z.1) (ds.zip xs)).map (·.2)))) s'->P (.done (.ret .none)) s'):
  vM (model X.prog X.w) A (ksk_end a false vs.toArray e1 (.ref kS) ks) P E s:=by
 have lk:ks.size=vs.length:=by rw[<- zQ];have:=hk.length;have:=rv.length;rw[zA]at *;omega
 have lz:(ks.zip vs.toArray).size=vs.length:=by rw[Array.size_zip,lk,zO,Nat.min_self]
 have ez:(ks.zip vs.toArray).toList=ks.toList.zip vs:=ksk_zip ks vs;unfold ksk_end
 try dsimp only
 rw[vJ (by decide)]
 by_cases h2:vs.toArray.size<2
 ·rw[vH h2,vH h2]
  refine vA (vG ?_);rw[StateT.run_pure];refine vA (vG (q8N (st:=SortSt.mk' general' (ks.zip vs.toArray) #[] 7 none) I ne fk fa rv hd hk h64 ?_ rfl h));show (ks.zip vs.toArray).toList=_;rw[ez];rw[zO]at h2;have l2:(ks.toList.zip vs).length<2:=by rw[yT];omega
  match ks.toList.zip vs,l2 with
  | [],_=>rfl
  | [_],_=>rfl
  | _::_::_,l2=>simp at l2;omega
 ·rw[vJ h2,vJ h2]
  rw[zO]at h2;rw[ksk_kind hk (by rw[lk];omega)];refine vA (vG (vA (vh (qax (a₀:=ks.zip vs.toArray) (st:=SortSt.mk' oneType' (ks.zip vs.toArray) #[] 7 none)
   (Q:=λ_ st'=>(vS st').Perm (ks.zip vs.toArray)/\failedOf st'=none/\uc (vS st') (ks.zip vs.toArray).size/\WK (vS st').toList (ks.zip vs.toArray).toList)
   (ksk_intKeys hk) ⟨Array.Perm.refl _,rfl,rfl,rfl⟩ rfl (by rw[lz];omega) (by rw[lz];exact h64) λst' b1 b2 b3 b4=>⟨b1,b2,b3,b4⟩) ?_ λ_ _ z=>z)))
  rintro⟨⟨⟩,st'⟩ s' ⟨rfl,b1,b2,b3,b4⟩
  try dsimp only
  refine q8N I ne fk fa rv hd hk h64 ?_ b2 h;rw[qhW b1 b3 b4,ez]
theorem qeM{k:Nat}{f:vC}{fd:vK}{ps:List Str}{m:List D->Option O}{e1:Nat}{P:PySem.Fin->vF->Prop}{E:vB->vF->Prop}(F:FnOk X.prog X.w X.K X.mg X.base CX0 k f fd ps (spD X.K 1 m))(hr:Room (k+2) X.A)(hb:Binds X.K fd ps [])(I:Inv X (apart pins a kS e1 #[] 0) σ H s)(ne:kS≠a)(fk:Xc X pins H kS)(fa:Xc X pins H a)(sg:Yd G H)(rp:YX X.K G ds xs)(rv:Yf xs vs)(h64:vs.length<64)(hm:∀d∈ds,m [d]=↥(.int (kf d)))(h:∀G' H' s',Ext G H G' H'->H' a=none->Inv X pins σ (upd H' a (.lst ((YV (λz:D×V=>kf z.1) (ds.zip xs)).map (·.2)))) s'->P (.done (.ret .none)) s'):
  vM (model X.prog X.w) X.A.in1.in1 (ksk_rest a (.ref f) false vs.toArray e1 (.ref kS)) P E s:=by
 have ld:ds.length=xs.length:=rp.len;have lv:xs.length=vs.length:=rv.length;unfold ksk_rest;refine vA (uJ ?_);rw[List.forIn_toArray];refine vA (ksk_fold (λi s'=>∃G' H' ks e,Inv X (apart pins a kS e1 ks e) σ H' s'/\Ext G H G' H'/\v5 ks.toList ((ds.map kf).take i)) vs 0 s
  ⟨G,H,#[],0,I,Ext.refl sg,by simpa using IntsAre.nil⟩ ?turn ?done)
 case turn=>
  rintro j x s' hx ⟨G',H',ks,e,I',x',hk⟩;simp only[xm]at hk ⊢;have hj:j<vs.length:=(zy.mp hx).1;obtain⟨y,hy,ry⟩:=q6U rv hx;have hdj:ds[j]?=some ds[j]:=zC ∅;obtain⟨y',hy',rd⟩:=rp.get hdj;rw[hy]at hy';cases hy';have lks:ks.size<=vs.length:=by
   have:=hk.length;rw[zQ,zn]at this;omega
  refine vA (uO (vh (qgJ (Q:=λv H2=>v=.int (kf ds[j])/\∃G2,Ext G H G2 H2) (E:=λ_ _ _=>False) (E':=λ_ _=>False) F hr hb I' (.cons ry .nil) ?_) (λu s2 he=>?_) λ_ _ z=>False.elim z))
  ·exact⟨G',[ds[j]],_,hm _ (zZ ∅),rfl,x'.gh,YX.cons (rd.mono x'.gg) YX.nil,λv G2 H2 x2 y2=>⟨y2,G2,x'.trans x2⟩⟩
  ·obtain⟨v,H2,I2,rvu,rfl,G2,x2⟩:=he
   obtain⟨t2,rfl⟩:∃t,u=.int (kf ds[j]) t:=by
    obtain⟨t,z⟩:=rvu;exact⟨t,z⟩
   try dsimp only
   obtain⟨qk,hk0⟩:=q5O I2;obtain⟨qa,ha0⟩:=q6T I2;obtain⟨c2,qk2⟩:=q7b qk (·.push (.int (kf ds[j]) t2));have fk2:=q5q fk hk0;refine vA (u4 qk rfl (vG ⟨rfl,G2,H2,ks.push (.int (kf ds[j]) t2),c2,?_,x2,?_⟩) (by rw[vo];omega) (by rw[wp,vo];omega))
   ·have I3:=(q7v I2).turned (h':=s2.heap.update kS (Obj.mapSeq (·.push (.int (kf ds[j]) t2)))) (t':=s2.toks) (it:=kS) (λb o hb q=>(zk _ _ (Ne.symm hb)).trans q) fk2.1 fk2.2.1 fk2.2.2.2.1 fk2.2.2.2.2.1 fk2.2.2.2.2.2
    exact q9X I3 fk2 (q5q fa ha0) qk2 ((zk _ _ ne).trans qa)
   ·have ek:(ds.map kf).take (j+1)=(ds.map kf).take j++[kf ds[j]]:=by
     rw[Ze,zY,hdj];rfl
    have ea:(ks.push (Value.int (kf ds[j]) t2)).toList=ks.toList++[Value.int (kf ds[j]) t2]:=by simp
    rw[ea,ek];exact ksk_snoc hk
 case done=>
  rintro s' ⟨G',H',ks,e,I',x',hk⟩;rw[wZ (by rw[zA];omega)]at hk;obtain⟨qk,hk0⟩:=q5O I';obtain⟨qa,ha0⟩:=q6T I'
  try dsimp only
  exact vA (listItems_at qk rfl (qh3 I' ne (q5q fk hk0) (q5q fa ha0) rv ld hk h64 λs2 I2=>h G' H' s2 x' ha0 I2))
end
section
variable{X:Cx}{pins:List (vC×Obj)}{σ:L2.St}{G H:Hp}{s:vF}{a:vC}{xs:List V}{vs:List vB}{ds:List D}{kf:D->Int}{k:Nat}{f:vC}{fd:vK}{ps:List Str}{m:List D->Option O}
theorem qfg{n:Nat}{P:PySem.Fin->vF->Prop}{E:vB->vF->Prop}(F:FnOk X.prog X.w X.K X.mg X.base CX0 k f fd ps (spD X.K 1 m))(hr:Room (k+2) X.A)(hb:Binds X.K fd ps [])(I:Inv X pins σ H s)(fa:Xc X pins H a)(qa:s.heap.get? a=some (vp "list" vs.toArray n))(sg:Yd G H)(rp:YX X.K G ds xs)(rv:Yf xs vs)(h64:vs.length<64)(hm:∀d∈ds,m [d]=some (.sh (.int (kf d))))(h:∀G' H' s',Ext G H G' H'->H' a=none->Inv X pins σ (upd H' a (.lst ((YV (λz:D×V=>kf z.1) (ds.zip xs)).map (·.2)))) s'->P (.done (.ret .none)) s'):
  vM (model X.prog X.w) X.A.in1.in1 (ksk_tree a (.ref f) false) P E s:=by
 obtain⟨e1,qa1⟩:=q7b qa (λ_=>(#[]:Array vB));have la:a<s.heap.objs.size:=zP qa;have I3:=I.turned (h':=s.heap.update a (Obj.mapSeq λ_=>(#[]:Array vB))) (t':=s.toks) (it:=a) (λb o hb q=>(zk _ _ (Ne.symm hb)).trans q) fa.1 fa.2.1 fa.2.2.2.1 fa.2.2.2.2.1 fa.2.2.2.2.2;have I4:=I3.kept (h':=(s.heap.update a (Obj.mapSeq λ_=>(#[]:Array vB))).push (vp "tuple" vs.toArray 0)) (t':=s.toks) λb u q=>zH _ q;have fk:=I4.fpOk (zN _) (I4.hok.fresh (zN _));have I5:=I4.kept (h':=((s.heap.update a (Obj.mapSeq λ_=>(#[]:Array vB))).push (vp "tuple" vs.toArray 0)).push (vp "list" #[] 0)) (t':=s.toks) λb u q=>zH _ q;have qa5:(((s.heap.update a (Obj.mapSeq λ_=>(#[]:Array vB))).push (vp "tuple" vs.toArray 0)).push (vp "list" #[] 0)).get? a=some (vp "list" #[] e1):=zH _ (zH _ qa1);have hn:((s.heap.update a (Obj.mapSeq λ_=>(#[]:Array vB))).push (vp "tuple" vs.toArray 0)).objs.size=s.heap.objs.size+1:=by rw[size_push',xL]
 have I6:=q9X (e:=0) (ks:=#[]) I5 fk fa (zT _ rfl) qa5;have z64:vs.toArray.size<=sizeLine:=by rw[zO,vo];omega
 unfold ksk_tree;refine vA (listItems_at qa rfl (vA (u4 qa rfl (vA (seqEpoch_at qa1 rfl (vA (tJ (vA (u0 (vc ?_) (yQ _))) ⇑z64)))) z64 (yQ _))));exact qeM F hr hb I6 (by rw[hn];exact xW (yL la)) fk fa sg rp rv h64 hm h
theorem qc9{p:vC}{Q:VK}{E:vB->vF->Prop}(F:FnOk X.prog X.w X.K X.mg X.base CX0 k f fd ps (spD X.K 1 m))(hr:Room (k+2) X.A)(hb:Binds X.K fd ps [])(I:Inv X pins σ H s)(hp:H p=some (.lst xs))(sg:Yd G H)(rp:YX X.K G ds xs)(h64:xs.length<64)(hm:∀d∈ds,m [d]=↥(.int (kf d)))(q:∀G' H' l,Ext G H G' H'->H' l=none->H l=none->Q (.ref l) (upd H' l (.lst ((YV (λz:D×V=>kf z.1) (ds.zip xs)).map (·.2))))):
  vM (model X.prog X.w) X.A (call (.builtin "sorted") [.ref p] [(Str.ofString "key", .ref f)]) (EP X pins σ Q) E s:=by
 obtain⟨vs,n0,rv,e0,_⟩:=I.lst hp;have lv:xs.length=vs.length:=rv.length;have z64:vs.length<=sizeLine:=by rw[vo];omega
 have hn:((s.heap.push (vp "list" #[] 0)).update s.heap.objs.size (Obj.mapSeq (·++vs.toArray))).objs.size=s.heap.objs.size+1:=by rw[xL,size_push']
 have keep:∀b o,s.heap.get? b=some o->(((s.heap.push (vp "list" #[] 0)).update s.heap.objs.size (Obj.mapSeq (·++vs.toArray))).push (vp "list" vs.toArray 0)).get? b=some o:=λb o z=>by
  have lt:b<s.heap.objs.size:=zP z;exact zH _ ((zk _ _ (xW lt)).trans (zH _ z))
 have I2:=I.kept (t':=s.toks) keep;have fa:Xc X pins H (s.heap.objs.size+1):=I.fpOk (xF _) (I.hok.fresh (xF _));have qa:(((s.heap.push (vp "list" #[] 0)).update s.heap.objs.size (Obj.mapSeq (·++vs.toArray))).push (vp "list" vs.toArray 0)).get? (s.heap.objs.size+1)=some (vp "list" vs.toArray 0):=by
  rw[<- hn];exact zT _ rfl
 refine call_function_entry_kw t6 tm tq (ksk_s1 _ _) ?_;unfold Builtin.«sorted»;apply vA (m:=checkCount "sorted" 1 1 _);apply vG;refine vA (collect_list ⟨_,e0,rfl,n0,rfl⟩ (vA (u0 ?_ z64)) z64);show vM _ _ _ _ _ { s with heap:=((s.heap.push (vp "list" #[] 0)).update s.heap.objs.size (Obj.mapSeq (·++vs.toArray))).push (vp "list" vs.toArray 0) };rw[hn];refine vA (vc (wpAny_call_entry_kw slot_list_sort ⟨_,qa,rfl⟩ entry_list_sort ?go (ksk_l1 _ _)))
 case go=>
  show vM (model X.prog X.w) X.A.in1.in1 (Builtin.«list.sort» ⟨[.ref (s.heap.objs.size+1)],[(Str.ofString "key", .ref f)]⟩) _ _ _;rw[ksk_t1];refine qfg F hr hb I2 fa qa sg rp rv ∅ hm λG' H' s' x' hn' I'=>⟨_,rfl,?_⟩;exact vG ⟨_,rfl,.ref _,_,I',rfl,q G' H' _ x' hn' fa.1⟩
theorem q8G{K:zB}{G:Hp}:∀{l:List (D×V)},(∀t∈l,Rep K G t.1 t.2)->YX K G (l.map (·.1)) (l.map (·.2))
 | [],_=>rfl
 | t::r,h=>YX.cons (h t zD) (q8G λx hx=>h x (zG _ hx))
theorem qc7{K:zB}{G:Hp}{ds:List D}{xs:List V}{kf:D->Int}(h:YX K G ds xs):YX K G (YV kf ds) ((YV (λz:D×V=>kf z.1) (ds.zip xs)).map (·.2)):=by
 have l:=h.len;have e:ds=(ds.zip xs).map Prod.fst:=by rw[xt];omega
 have mem:∀t∈ds.zip xs,Rep K G t.1 t.2:=λt ht=>by
  obtain⟨i,hi⟩:=ym.mp ht;obtain⟨a1,a2⟩:=yc.mp hi;obtain⟨v,b1,b2⟩:=h.get a1;rw[a2]at b1;cases b1;exact b2
 have e2:YV kf ds=(YV (λz:D×V=>kf z.1) (ds.zip xs)).map (·.1):=by
  conv=>lhs;rw[e]
  rw[q24]
 rw[e2];exact q8G λt ht=>mem t (qO.mem_iff.mp ht)
noncomputable def W0(m:List D->Option O)(d:D):Int:=match m [d]with
 | ↥(.int k)=>k
 | _=>0
noncomputable def keyOk(m:List D->Option O)(d:D):Bool:=match m [d]with
 | ↥(.int _)=>true
 | _=>false
theorem qfk{m:List D->Option O}{d:D}(h:keyOk m d=true):m [d]=↥(.int (W0 m d)):=by
 unfold keyOk at h;unfold W0
 split at h
 ·rename_i k e;rw[e]
 ·cases h
noncomputable def tSortK(K:zB)(m:List D->Option O)(te:TE):TE:=λσ H Q=>te σ H λv H1=>∃p xs G ds,v=.ref p/\H1 p=some (.lst xs)/\Yd G H1/\YX K G ds xs/\xs.length<64/\(∀d∈ds,keyOk m d=true) /\
 ∀G' H' l,Ext G H1 G' H'->H' l=none->H1 l=none->Q (.ref l) (upd H' l (.lst ((YV (λz:D×V=>W0 m z.1) (ds.zip xs)).map (·.2))))
def askK(K:zB)(m:List D->Option O)(Q:VK):V->Hp->Prop:=λv H1=>∃p xs G ds,v=.ref p/\H1 p=some (.lst xs)/\Yd G H1/\YX K G ds xs/\xs.length<64/\(∀d∈ds,keyOk m d=true) /\
 ∀G' H' l,Ext G H1 G' H'->H' l=none->H1 l=none->Q (.ref l) (upd H' l (.lst ((YV (λz:D×V=>W0 m z.1) (ds.zip xs)).map (·.2))))
def one1(R:V->Hp->Prop):List V->Hp->Prop:=λus H1=>match us with
 | [v]=>R v H1
 | _=>False
theorem qgI{R:V->Hp->Prop}{us:List V}{H1:Hp}(h:one1 R us H1):∃v,us=[v]/\R v H1:=by
 unfold one1 at h
 split at h
 ·exact⟨_,rfl,h⟩
 ·exact h.elim
theorem qfB{e:vP}{te:TE}{x:Str}{p p2 p3 pos:Pos}{k0:Nat}(c:Cal X.prog X.w X.K X.mg X.base k f fd x ps 1 m)(hr:Room k0 X.A)(hg:Gl X "sorted")(hm:X.mg "sorted" = none)(hx:Gl X x)(he:PE X e te)(hk:k+2<=k0)(hd:(x==("__debug__" : Str))=false:=by decide)(hs:vL [e] X.env=(false,eval e X.env)::vL [] X.env:=by rfl)(h1:vn pos (vL [e] X.env)=(false,eval e X.env)::vn pos (vL [] X.env):=by rfl)(h2:(vn pos (vL [e] X.env)).any (·.1)=false:=by rfl)(h3:(uL pos (vz [⟨some (Str.ofString "key"),.Name x p2,p3⟩] X.env)).all (·.1.isSome)=true:=by rfl)(h4:(uL pos (vz [⟨some (Str.ofString "key"),.Name x p2,p3⟩] X.env)).any (·.1.isNone)=false:=by rfl)(h5:(uL pos (vz [⟨some (Str.ofString "key"),.Name x p2,p3⟩] X.env)).filterMap (·.1)=[Str.ofString "key"]:=by rfl):
  PE X (.Call (.Name "sorted" p) [e] [⟨some (Str.ofString "key"),.Name x p2,p3⟩] pos) (tSortK X.K m te):=by
 intro pins s σ H Q I h;refine v9 (q0W I hg hm q3l ?_ (by decide) (by decide));refine callWith_kw (thn (qS he q0b hs pos pins s σ H (one1 (askK X.K m Q)) I h) λus s1 ⟨ws,H1,I1,r1,q1⟩=>?_) h1 h2 h3 h4;obtain⟨v,rfl,p,xs,G,ds,rfl,b1,b2,b3,b4,b5,b6⟩:=qgI q1;obtain⟨u,rfl,ru⟩:=vals1 r1;cases ru;refine thn (qhu (kpos:=p3) (nm:=some (Str.ofString "key")) (qgU (v:=.ref f) hx c.2.1 rfl hd) qiL pos pins s1 σ H1 (λzs H2=>zs=[.ref f]/\H2=H1) I1 ⟨rfl,rfl⟩) λzs s2 ⟨ys,H2,I2,rz,e1,e2⟩=>?_;subst e1;subst e2;obtain⟨u,rfl,ru⟩:=vals1 rz;cases ru;rw[h5];exact qc9 c.1 (hr.mono hk) c.2.2.2 I2 b1 b2 b3 b4 (λd hd=>qfk (b5 d hd)) b6
end
noncomputable def zAV(m:List D->Option O):D->Option R
 | .lst ds=>if ds.length<64/\ds.all (keyOk m)=true then some (.fr (YV (W0 m) ds))else none
 | _=>none
noncomputable def Wx(m:List D->Option O)(f:FD):FE:=λω=>(f ω).bind (zAV m)
theorem qfm{X:Cx}{k:Nat}{f:vC}{fd:vK}{ps:List Str}{m:List D->Option O}{e:vP}{fe:FD}{x:Str}{p p2 p3 pos:Pos}{k0:Nat}(c:Cal X.prog X.w X.K X.mg X.base k f fd x ps 1 m)(hr:Room k0 X.A)(hm:X.mg "sorted" = none)(he:XV X e fe)(hg:Gl X "sorted" := by exact rfl)(hx:Gl X x:=by exact rfl)(hk:k+2<=k0:=by decide)(hd:(x==("__debug__" : Str))=false:=by decide)(hs:vL [e] X.env=(false,eval e X.env)::vL [] X.env:=by rfl)(h1:vn pos (vL [e] X.env)=(false,eval e X.env)::vn pos (vL [] X.env):=by rfl)(h2:(vn pos (vL [e] X.env)).any (·.1)=false:=by rfl)(h3:(uL pos (vz [⟨some (Str.ofString "key"),.Name x p2,p3⟩] X.env)).all (·.1.isSome)=true:=by rfl)(h4:(uL pos (vz [⟨some (Str.ofString "key"),.Name x p2,p3⟩] X.env)).any (·.1.isNone)=false:=by rfl)(h5:(uL pos (vz [⟨some (Str.ofString "key"),.Name x p2,p3⟩] X.env)).filterMap (·.1)=[Str.ofString "key"]:=by rfl):
  XE X (.Call (.Name "sorted" p) [e] [⟨some (Str.ofString "key"),.Name x p2,p3⟩] pos) (Wx m fe):=by
 obtain⟨t,g1,g2⟩:=he;refine⟨_,qfB c hr hg hm hx g1 hk hd hs h1 h2 h3 h4 h5,λG0 H0 G ω σ H r Q o er kk=>?_⟩;obtain⟨d,q,er⟩:=bnd er;refine g2 G0 H0 G ω σ H d _ o q λv G1 H1 x1 y1=>?_;cases d with
 | lst ds=>
  have er':(if ds.length<64/\ds.all (keyOk m)=true then some (R.fr (YV (W0 m) ds))else none)=some r:=er
  by_cases z:ds.length<64/\ds.all (keyOk m)=true
  ·rw[vH z]at er'
   cases er';obtain⟨p,vs,rfl,w1,w2⟩:=y1.lst x1.gh;refine⟨p,vs,G1,ds,rfl,w1,x1.gh,w2,by rw[<- w2.len];exact z.1,yo.mp z.2,λG2 H2 l x2 n2 n1=>?_⟩;have x3:=Ext.hide x2.gh n2 (.lst ((YV (λz:D×V=>W0 m z.1) (ds.zip vs)).map (·.2)));exact kk _ G2 _ ((x1.trans x2).trans x3) ⟨l,_,rfl,x1.hh.free n1,x2.gh.free n2,qg,qc7 (w2.mono x2.gg)⟩
  ·rw[vJ z]at er';cases er'
 | _=>cases er
end Hk
namespace Hk
open PySem L2
noncomputable def skR(m:List D->Option O)(o:Option D):Option R:=o.bind (zAV m)
section
variable{m:List D->Option O}{f:FD}{ω:WSt}{d:D}{i:Nat}{ks:List Int}{ds:List D}
theorem qaT:Wx m f ω=skR m (f ω):=rfl
theorem qdg:iDk i ω=zAM ω[i]?:=rfl
theorem qdy:zAM (some ↥(.dic ks ds))=some (ks.map D.int):=rfl
theorem qjk(h:ds.length<64)(h':∀d∈ds,keyOk m d=true):skR m (some (.lst ds))=some (.fr (YV (W0 m) ds)):=vH ⟨h,yo.mpr h'⟩
end
end Hk
set_option maxHeartbeats 4000000
namespace Kx
open PySem L2 Hk
noncomputable def top(i:Nat):vg:=PySem.Challenge.pw_hookrail_k69_a_long_ring_is_a_rail.main.body.getD i (.Pass ⟨0,0,0,0⟩)
section
variable{P:vO}{w:vU}{K:zB}{mg:Str->Option vB}{base:vZ}{f:vC}{fd:vK}
noncomputable def q6G:FS:=(Ym (eOf (X5 (dOf (WZ .int (vOf (YI 0)))) (vNot (dOf (WZ .bl (vOf (YI 0))))))))
noncomputable def qp:List D->Option O:=mir 1 q6G
noncomputable abbrev q4b:vg:=top 6
theorem qcb:FnScope ["thing"] ["thing"] (YL q4b):=⟨rfl,rfl,rfl,⋯,rfl,⋯,⋯⟩
theorem qas (F:Fun K "is_whole" "is_whole" q4b f fd)(z_isinstance:mg "isinstance" = none)(z_bool:mg "bool" = none)(z_int:mg "int" = none)(i_int:IsT K .int)(i_bool:IsT K .bl):
  FnOk P w K mg base CX0 1 f fd ["thing"] (spD K 1 qp):=by
 have h:=fnD (P:=P) (w:=w) (mg:=mg) (base:=base) (k:=0) (body:=q6G) F qcb (λcdv A outer s H E hr=>
   (qb (qf (XD.toE (qX (XE.toD (q0A (vV 0) i_int rfl z_isinstance rfl z_int qid)) (q0V (qit (XE.toD (q0A (vV 0) i_bool rfl z_isinstance rfl z_bool qh6)))))))))
 exact h
noncomputable def q5S:FS:=(Ym (eOf (X5 (dOf (WZ .tup (vOf (YI 0)))) (X5 (dOf (YR (oEq false) (vOf (Y4 WG (YH (vOf (YI 0)) YS))) (fC (.int 2)))) (X5 (dOf (YQ qp (YH (dOf (YR oIx (vOf (YI 0)) (fC (.int 0)))) YS))) (dOf (YQ qp (YH (dOf (YR oIx (vOf (YI 0)) (fC (.int 1)))) YS))))))))
noncomputable def q3a:List D->Option O:=mir 1 q5S
noncomputable abbrev q5Q:vg:=top 7
theorem qf8:FnScope ["thing"] ["thing"] (YL q5Q):=⟨rfl,rfl,rfl,⋯,rfl,⋯,⋯⟩
theorem qdG{f_is_whole:vC}{d_is_whole:vK}(F:Fun K "is_box" "is_box" q5Q f fd)(c_is_whole:Cal P w K mg base 1 f_is_whole d_is_whole "is_whole" ["thing"] 1 qp)(z_len:mg "len" = none)(z_isinstance:mg "isinstance" = none)(z_tuple:mg "tuple" = none)(i_tuple:IsT K .tup):
  FnOk P w K mg base CX0 2 f fd ["thing"] (spD K 1 q3a):=by
 have h:=fnD (P:=P) (w:=w) (mg:=mg) (base:=base) (k:=1) (body:=q5S) F qf8 (λcdv A outer s H E hr=>
   (qb (qf (XD.toE (qX (XE.toD (q0A (vV 0) i_tuple rfl z_isinstance rfl z_tuple q4f)) (qX (XE.toD (Wn hr.units (XE.toV (qu qB q0F rfl z_len q0I (qi (vV 0) ql))) (XD.toV YK))) (qX (XE.toD (xc c_is_whole hr (YG (XE.toD (YN (vV 0) (XD.toV YK))) YJ))) (q0V (XE.toD (xc c_is_whole hr (YG (XE.toD (YN (vV 0) (XD.toV YK))) YJ)))))))))))
 exact h
noncomputable def q52:FD:=(dOf (YQ q3a (YH (dOf (YI 0)) YS)))
noncomputable def q3P:FS:=(Ya (sIf (Wg (Yz (XX (vOf (YQ qp (YH (dOf (YI 0)) YS))))) (Wg (Yz (XX (vOf (YQ qp (YH (dOf (YI 1)) YS))))) (Yz (XX (vOf (WZ .lst (vOf (YI 2)))))))) (Ym (eOf (fC (.bl false)))) Xq)
  (Ym (Y4 X1 (YH (vOf (Yg 1 [] (Yy (dOf (YI 2))) (gN 0) Yc q52)) YS))))
noncomputable def q0q:List D->Option O:=mir 3 q3P
noncomputable abbrev q3E:vg:=top 8
theorem qau:FnScope ["home", "last", "boxes"] ["home", "last", "boxes"] (YL q3E):=⟨rfl,rfl,rfl,⋯,rfl,⋯,⋯⟩
theorem q94{f_is_whole:vC}{d_is_whole:vK}{f_is_box:vC}{d_is_box:vK}(F:Fun K "is_errand" "is_errand" q3E f fd)(c_is_whole:Cal P w K mg base 1 f_is_whole d_is_whole "is_whole" ["thing"] 1 qp)(c_is_box:Cal P w K mg base 2 f_is_box d_is_box "is_box" ["thing"] 1 q3a)(z_isinstance:mg "isinstance" = none)(z_list:mg "list" = none)(z_all:mg "all" = none)(i_list:IsT K .lst):
  FnOk P w K mg base CX0 3 f fd ["home", "last", "boxes"] (spD K 3 q0q):=by
 have h:=fnD (P:=P) (w:=w) (mg:=mg) (base:=base) (k:=2) (body:=q3P) F qau (λcdv A outer s H E hr=>
   (q0 (qZ (XW.toT (q20 (qK (qz (XE.toV (xc c_is_whole hr (YG (vD 0) YJ))))) (q20 (qK (qz (XE.toV (xc c_is_whole hr (YG (vD 1) YJ))))) (q2H (qK (qz (XE.toV (q0A (vV 2) i_list rfl z_isinstance rfl z_list q1j)))))))) (qb (qf (XD.toE XZ))) qE)
   (qb (qf (qu (q0j rfl) q25 rfl z_all q23 (qi (XE.toV (qA rfl (blk ["box"] [] [] rfl ⋯ ⋯ rfl trivial) (qo (vD 2)) (qj 0) (λ_ _ _ _=>⟨(qd (i:=0) (show ((["box"]:List Str)++([]:List Str):List Str).Nodup from by decide +kernel) rfl (Or.inl rfl)),qt,(XE.toD (xc c_is_box hr (YG (vD 0) YJ)))⟩))) ql))))))
 exact h
noncomputable def q1M:FS:=(sIf (Yz (XX (vOf (YQ q0q (YH (dOf (YI 0)) (YH (dOf (YI 1)) (YH (dOf (YI 2)) YS))))))) sNo Xq)
noncomputable def qL:List D->Option O:=mir 3 q1M
noncomputable abbrev q1B:vg:=top 9
theorem q75:FnScope ["home", "last", "boxes"] ["home", "last", "boxes"] (YL q1B):=⟨rfl,rfl,rfl,⋯,rfl,⋯,⋯⟩
theorem q6p{f_is_errand:vC}{d_is_errand:vK}(F:Fun K "check_errand" "check_errand" q1B f fd)(c_is_errand:Cal P w K mg base 3 f_is_errand d_is_errand "is_errand" ["home", "last", "boxes"] 3 q0q):
  FnOk P w K mg base CX0 4 f fd ["home", "last", "boxes"] (spD K 3 qL):=by
 have h:=fnD (P:=P) (w:=w) (mg:=mg) (base:=base) (k:=3) (body:=q1M) F q75 (λcdv A outer s H E hr=>
   (qb (qZ (qK (qz (XE.toV (xc c_is_errand hr (YG (vD 0) (YG (vD 1) (YG (vD 2) YJ))))))) (qb qcj) qE)))
 exact h
noncomputable def q5T:FS:=(sExt 3 (dOf (YI 4)))
noncomputable def q71:FS:=(Ya (W1 (YQ qL (YH (dOf (YI 0)) (YH (dOf (YI 1)) (YH (dOf (YI 2)) YS)))))
  (Ya (Yo 3 (X3 (YH (dOf (YI 0)) (YH (dOf (YI 1)) YS))))
  (Ya (WB (Yy (dOf (YI 2))) (gN 4) q5T)
  (Ym (Y8 (vOf (YI 3)))))))
noncomputable def q0e:List D->Option O:=mir 5 q71
noncomputable abbrev q78:vg:=top 10
theorem q76:FnScope ["home", "last", "boxes", "places", "box"] ["home", "last", "boxes"] (YL q78):=⟨rfl,rfl,rfl,⋯,rfl,⋯,⋯⟩
theorem qf6{f_check_errand:vC}{d_check_errand:vK}(F:Fun K "stops" "stops" q78 f fd)(c_check_errand:Cal P w K mg base 4 f_check_errand d_check_errand "check_errand" ["home", "last", "boxes"] 3 qL)(z_sorted:mg "sorted" = none)(z_set:mg "set" = none):
  FnOk P w K mg base CX0 5 f fd ["home", "last", "boxes"] (spD K 3 q0e):=by
 have h:=fnD (P:=P) (w:=w) (mg:=mg) (base:=base) (k:=4) (body:=q71) F q76 (λcdv A outer s H E hr=>
   (q0 (q7j (xc c_check_errand hr (YG (vD 0) (YG (vD 1) (YG (vD 2) YJ)))))
   (q0 (qm (i:=3) q76.nd rfl (Or.inl rfl) (Yt (YG (vD 0) (YG (vD 1) YJ))))
   (q0 (q0f PassesOwn.never rfl (qo (vD 2)) (qd (i:=4) q76.nd rfl (Or.inl rfl)) (qb (qcX (pv 3) (vD 4))))
   (qb (qf (q6K rfl z_sorted rfl z_set (vV 3))))))))
 exact h
noncomputable def q8J:FS:=(Ya (Yo 3 (eOf (dOf (YQ q0e (YH (dOf (YI 0)) (YH (dOf (YI 1)) (YH (dOf (YI 2)) YS)))))))
  (Ym (Y4 Y7 (YH (vOf (YI 3)) (YH (vOf (fSl (vOf (YI 3)) (pAt (fC (.int 1))) pNo)) YS)))))
noncomputable def q0t:List D->Option O:=mir 4 q8J
noncomputable abbrev q8Z:vg:=top 11
theorem qdd:FnScope ["home", "last", "boxes", "places"] ["home", "last", "boxes"] (YL q8Z):=⟨rfl,rfl,rfl,⋯,rfl,⋯,⋯⟩
theorem qh2{f_stops:vC}{d_stops:vK}(F:Fun K "gaps" "gaps" q8Z f fd)(c_stops:Cal P w K mg base 5 f_stops d_stops "stops" ["home", "last", "boxes"] 3 q0e)(z_list:mg "list" = none)(z_zip:mg "zip" = none):
  FnOk P w K mg base CX0 6 f fd ["home", "last", "boxes"] (spD K 3 q0t):=by
 have h:=fnD (P:=P) (w:=w) (mg:=mg) (base:=base) (k:=5) (body:=q8J) F qdd (λcdv A outer s H E hr=>
   (q0 (qm (i:=3) qdd.nd rfl (Or.inl rfl) (XD.toE (XE.toD (xc c_stops hr (YG (vD 0) (YG (vD 1) (YG (vD 2) YJ)))))))
   (qb (qf (q6B rfl z_list rfl z_zip (qi (vV 3) (qi (XE.toV (Y9 (vV 3) (XJ (XD.toV YK)) Xe)) ql)))))))
 exact h
noncomputable def q2R:FD:=(X9 (YH (dOf (YR oIx (vOf (YI 0)) (fC (.int 0)))) (YH (dOf (YR oIx (vOf (YI 0)) (fC (.int 1)))) (YH (dOf (YR Wk (vOf (YR oIx (vOf (YI 0)) (fC (.int 1)))) (vOf (YR oIx (vOf (YI 0)) (fC (.int 0)))))) YS))))
noncomputable def q3I:FS:=(Ym (Yg 1 [] (Yy (dOf (YQ q0t (YH (dOf (YI 0)) (YH (dOf (YI 1)) (YH (dOf (YI 2)) YS)))))) (gN 0) Yc q2R))
noncomputable def q0a:List D->Option O:=mir 3 q3I
noncomputable abbrev q3F:vg:=top 12
theorem qap:FnScope ["home", "last", "boxes"] ["home", "last", "boxes"] (YL q3F):=⟨rfl,rfl,rfl,⋯,rfl,⋯,⋯⟩
theorem q9o{f_gaps:vC}{d_gaps:vK}(F:Fun K "gap_edges" "gap_edges" q3F f fd)(c_gaps:Cal P w K mg base 6 f_gaps d_gaps "gaps" ["home", "last", "boxes"] 3 q0t):
  FnOk P w K mg base CX0 7 f fd ["home", "last", "boxes"] (spD K 3 q0a):=by
 have h:=fnD (P:=P) (w:=w) (mg:=mg) (base:=base) (k:=6) (body:=q3I) F qap (λcdv A outer s H E hr=>
   (qb (qf (qA rfl (blk ["gap"] [] [] rfl ⋯ ⋯ rfl trivial) (qo (XE.toD (xc c_gaps hr (YG (vD 0) (YG (vD 1) (YG (vD 2) YJ)))))) (qj 0) (λ_ _ _ _=>⟨(qd (i:=0) (show ((["gap"]:List Str)++([]:List Str):List Str).Nodup from by decide +kernel) rfl (Or.inl rfl)),qt,(Yw (YG (XE.toD (YN (vV 0) (XD.toV YK))) (YG (XE.toD (YN (vV 0) (XD.toV YK))) (YG (XE.toD (q0R (XE.toV (YN (vV 0) (XD.toV YK))) (XE.toV (YN (vV 0) (XD.toV YK))))) YJ))))⟩)))))
 exact h
noncomputable def q2G:FS:=(Ym (eOf (X5 (dOf (YR oLe (vOf (YI 0)) (vOf (YR oIx (vOf (YI 2)) (fC (.int 0)))))) (dOf (YR oLe (vOf (YR oIx (vOf (YI 2)) (fC (.int 1)))) (vOf (YI 1)))))))
noncomputable def q0c:List D->Option O:=mir 3 q2G
noncomputable abbrev q2K:vg:=top 14
theorem q8Q:FnScope ["start", "goal", "gap"] ["start", "goal", "gap"] (YL q2K):=⟨rfl,rfl,rfl,⋯,rfl,⋯,⋯⟩
theorem q82 (F:Fun K "leads_over" "leads_over" q2K f fd):
  FnOk P w K mg base CX0 1 f fd ["start", "goal", "gap"] (spD K 3 q0c):=by
 have h:=fnD (P:=P) (w:=w) (mg:=mg) (base:=base) (k:=0) (body:=q2G) F q8Q (λcdv A outer s H E hr=>
   (qb (qf (XD.toE (qX (XE.toD (qgh (vV 0) (XE.toV (YN (vV 2) (XD.toV YK))))) (q0V (XE.toD (qgh (XE.toV (YN (vV 2) (XD.toV YK))) (vV 1)))))))))
 exact h
noncomputable def q4v:FT:=(XX (vOf (YQ q0c (YH (dOf (YR oIx (vOf (YI 0)) (fC (.int 0)))) (YH (dOf (YR oIx (vOf (YI 0)) (fC (.int 1)))) (YH (dOf (YI 1)) YS))))))
noncomputable def q4n:FD:=(dOf (YI 0))
noncomputable def q4l:FT:=(XX (vOf (YQ q0c (YH (dOf (YR oIx (vOf (YI 0)) (fC (.int 1)))) (YH (dOf (YR oIx (vOf (YI 0)) (fC (.int 0)))) (YH (dOf (YI 1)) YS))))))
noncomputable def q4r:FD:=(dOf (YI 0))
noncomputable def q4N:FS:=(Ya (Yo 2 (Yg 1 [1] (Yy (dOf (YI 0))) (gN 0) q4v q4n))
  (Yp 2 (Ya (Yo 3 (Yg 1 [1] (Yy (dOf (YI 0))) (gN 0) q4l q4r))
  (Yp 3 (Ym (eOf (X9 (YH (dOf (Y4 WG (YH (vOf (YI 2)) YS))) (YH (dOf (Y4 WG (YH (vOf (YI 3)) YS))) YS)))))))))
noncomputable def q0h:List D->Option O:=mir 4 q4N
noncomputable abbrev q4O:vg:=top 15
theorem q4Q:FnScope ["boxes", "gap", "rights", "lefts"] ["boxes", "gap"] (YL q4O):=⟨rfl,rfl,rfl,⋯,rfl,⋯,⋯⟩
theorem qcB{f_leads_over:vC}{d_leads_over:vK}(F:Fun K "crossed" "crossed" q4O f fd)(c_leads_over:Cal P w K mg base 1 f_leads_over d_leads_over "leads_over" ["start", "goal", "gap"] 3 q0c)(z_len:mg "len" = none):
  FnOk P w K mg base CX0 2 f fd ["boxes", "gap"] (spD K 2 q0h):=by
 have h:=fnD (P:=P) (w:=w) (mg:=mg) (base:=base) (k:=1) (body:=q4N) F q4Q (λcdv A outer s H E hr=>
   (q0 (qT (i:=2) rfl q4Q.nd rfl rfl (blk ["box"] ["gap"] [1] rfl ⋯ ⋯ rfl ⟨⟨rfl,(by first|exact Or.inl rfl|exact Or.inr rfl),rfl⟩,trivial⟩) (qo (vD 0)) (qj 0) (λ_ _ _ _=>⟨(qd (i:=0) (show ((["box"]:List Str)++(["gap"]:List Str):List Str).Nodup from by decide +kernel) rfl (Or.inl rfl)),(q1g (qz (XE.toV (xc c_leads_over hr (YG (XE.toD (YN (vV 0) (XD.toV YK))) (YG (XE.toD (YN (vV 0) (XD.toV YK))) (YG (vD 1) YJ))))))),(vD 0)⟩))
   (qy 2 (q0 (qT (i:=3) rfl q4Q.nd rfl rfl (blk ["box"] ["gap"] [1] rfl ⋯ ⋯ rfl ⟨⟨rfl,(by first|exact Or.inl rfl|exact Or.inr rfl),rfl⟩,trivial⟩) (qo (vD 0)) (qj 0) (λ_ _ _ _=>⟨(qd (i:=0) (show ((["box"]:List Str)++(["gap"]:List Str):List Str).Nodup from by decide +kernel) rfl (Or.inl rfl)),(q1g (qz (XE.toV (xc c_leads_over hr (YG (XE.toD (YN (vV 0) (XD.toV YK))) (YG (XE.toD (YN (vV 0) (XD.toV YK))) (YG (vD 1) YJ))))))),(vD 0)⟩))
   (qy 3 (qb (qf (XD.toE (Yw (YG (XE.toD (qu qB q0F rfl z_len q0I (qi (vV 2) ql))) (YG (XE.toD (qu qB q0F rfl z_len q0I (qi (vV 3) ql))) YJ)))))))))))
 exact h
noncomputable def q9D:FS:=(Ya (Yo 4 (eOf (dOf (YQ q0h (YH (dOf (X3 (YH (X9 (YH (dOf (YI 0)) (YH (dOf (YI 1)) YS))) YS))) (YH (dOf (YI 3)) YS))))))
  (Ya (Yo 5 (eOf (dOf (YQ q0h (YH (dOf (YI 2)) (YH (dOf (YI 3)) YS))))))
  (Ym (YR Yv (vOf (YR Wk (vOf (YR Wk (vOf (YR oIx (vOf (YI 4)) (fC (.int 0)))) (vOf (YR oIx (vOf (YI 4)) (fC (.int 1)))))) (vOf (YR oIx (vOf (YI 5)) (fC (.int 0)))))) (vOf (YR oIx (vOf (YI 5)) (fC (.int 1))))))))
noncomputable def q4H:List D->Option O:=mir 6 q9D
noncomputable abbrev q9k:vg:=top 16
theorem q99:FnScope ["home", "last", "boxes", "gap", "own", "carried"] ["home", "last", "boxes", "gap"] (YL q9k):=⟨rfl,rfl,rfl,⋯,rfl,⋯,⋯⟩
theorem qhI{f_crossed:vC}{d_crossed:vK}(F:Fun K "lack" "lack" q9k f fd)(c_crossed:Cal P w K mg base 2 f_crossed d_crossed "crossed" ["boxes", "gap"] 2 q0h):
  FnOk P w K mg base CX0 3 f fd ["home", "last", "boxes", "gap"] (spD K 4 q4H):=by
 have h:=fnD (P:=P) (w:=w) (mg:=mg) (base:=base) (k:=2) (body:=q9D) F q99 (λcdv A outer s H E hr=>
   (q0 (qm (i:=4) q99.nd rfl (Or.inl rfl) (XD.toE (XE.toD (xc c_crossed hr (YG (XE.toD (Yt (YG (Yw (YG (vD 0) (YG (vD 1) YJ))) YJ))) (YG (vD 3) YJ))))))
   (q0 (qm (i:=5) q99.nd rfl (Or.inl rfl) (XD.toE (XE.toD (xc c_crossed hr (YG (vD 2) (YG (vD 3) YJ))))))
   (qb (qf (qv (XE.toV (q0R (XE.toV (q0R (XE.toV (YN (vV 4) (XD.toV YK))) (XE.toV (YN (vV 4) (XD.toV YK))))) (XE.toV (YN (vV 5) (XD.toV YK))))) (XE.toV (YN (vV 5) (XD.toV YK)))))))))
 exact h
noncomputable def q9u:FD:=(dOf (YQ q4H (YH (dOf (YI 1)) (YH (dOf (YI 2)) (YH (dOf (YI 3)) (YH (dOf (YI 0)) YS))))))
noncomputable def q7e:FS:=(Ym (Yg 1 [0,1,2] (Yy (dOf (YQ q0t (YH (dOf (YI 0)) (YH (dOf (YI 1)) (YH (dOf (YI 2)) YS)))))) (gN 0) Yc q9u))
noncomputable def q1C:List D->Option O:=mir 3 q7e
noncomputable abbrev q7f:vg:=top 17
theorem qhl:FnScope ["home", "last", "boxes"] ["home", "last", "boxes"] (YL q7f):=⟨rfl,rfl,rfl,⋯,rfl,⋯,⋯⟩
theorem qfp{f_gaps:vC}{d_gaps:vK}{f_lack:vC}{d_lack:vK}(F:Fun K "lacks" "lacks" q7f f fd)(c_gaps:Cal P w K mg base 6 f_gaps d_gaps "gaps" ["home", "last", "boxes"] 3 q0t)(c_lack:Cal P w K mg base 3 f_lack d_lack "lack" ["home", "last", "boxes", "gap"] 4 q4H):
  FnOk P w K mg base CX0 7 f fd ["home", "last", "boxes"] (spD K 3 q1C):=by
 have h:=fnD (P:=P) (w:=w) (mg:=mg) (base:=base) (k:=6) (body:=q7e) F qhl (λcdv A outer s H E hr=>
   (qb (qf (qA rfl (blk ["gap"] ["home", "last", "boxes"] [0,1,2] rfl ⋯ ⋯ rfl ⟨⟨rfl,(by first|exact Or.inl rfl|exact Or.inr rfl),rfl⟩,⟨⟨rfl,(by first|exact Or.inl rfl|exact Or.inr rfl),rfl⟩,⟨⟨rfl,(by first|exact Or.inl rfl|exact Or.inr rfl),rfl⟩,trivial⟩⟩⟩) (qo (XE.toD (xc c_gaps hr (YG (vD 0) (YG (vD 1) (YG (vD 2) YJ)))))) (qj 0) (λ_ _ _ _=>⟨(qd (i:=0) (show ((["gap"]:List Str)++(["home", "last", "boxes"]:List Str):List Str).Nodup from by decide +kernel) rfl (Or.inl rfl)),qt,(XE.toD (xc c_lack hr (YG (vD 1) (YG (vD 2) (YG (vD 3) (YG (vD 0) YJ))))))⟩)))))
 exact h
noncomputable def q4V:FS:=sNb
noncomputable def q1p:List D->Option O:=mir 5 q4V
noncomputable abbrev q2A:vg:=top 19
theorem q59:FnScope ["things", "ties", "beside", "thing", "tie"] ["things", "ties"] (YL q2A):=⟨rfl,rfl,rfl,⋯,rfl,⋯,⋯⟩
theorem q8f (F:Fun K "neighbours" "neighbours" q2A f fd):
  FnOk P w K mg base CX0 1 f fd ["things", "ties"] (spD K 2 q1p):=by
 have h:=fnD (P:=P) (w:=w) (mg:=mg) (base:=base) (k:=0) (body:=q4V) F q59 (λcdv A outer s H E hr=>
   (qhX hr.units PassesOwn.never rfl q59.nd rfl rfl rfl (by first|exact Or.inl rfl|exact Or.inr rfl) (by first|exact Or.inl rfl|exact Or.inr rfl) (by first|exact Or.inl rfl|exact Or.inr rfl) (by first|exact .inl rfl|exact .inr rfl) (by first|exact .inl rfl|exact .inr rfl) (by first|exact .inl rfl|exact .inr rfl) (pv 0) (pv 1) (pv 2) (pv 2) (pv 2) (pv 3) (pv 2) (XE.toD (YN (vV 4) (XD.toV YK))) (XE.toD (YN (vV 4) (XD.toV YK))) (XE.toD (YN (vV 4) (XD.toV YK))) (XE.toD (YN (vV 4) (XD.toV YK))) (λω e h=>qiT h) (λω e h=>qi5 h)))
 exact h
noncomputable def q3V:FS:=(sIf (W4 true 2 (dOf (YI 5))) (Ya (WW 2 (dOf (YI 5)) (fC (.bl true)))
  (zAH 3 (dOf (YI 5)))) Xq)
noncomputable def q1Y:FT:=(XX (vOf (YI 3)))
noncomputable def q3w:FS:=(Ya (zAL 4 (zAF 3))
  (WB (Yy (dOf (Xx 1 (dOf (YI 4))))) (gN 5) q3V))
noncomputable def q4s:FS:=(Ya (W3 2 (dOf (YI 0)) (fC (.bl true)))
  (Ya (Yo 3 (X3 (YH (dOf (YI 0)) YS)))
  (Ya (sWh 1000000 q1Y q3w)
  (Ym (Wo 2)))))
noncomputable def q1n:List D->Option O:=mir 6 q4s
noncomputable abbrev q4q:vg:=top 20
theorem q1m:FnScope ["thing", "beside", "found", "waiting", "here", "other"] ["thing", "beside"] (YL q4q):=⟨rfl,rfl,rfl,⋯,rfl,⋯,⋯⟩
theorem qa3 (F:Fun K "group_of" "group_of" q4q f fd)(z_sorted:mg "sorted" = none):
  FnOk P w K mg base CX0 1 f fd ["thing", "beside"] (spD K 2 q1n):=by
 have h:=fnD (P:=P) (w:=w) (mg:=mg) (base:=base) (k:=0) (body:=q4s) F q1m (λcdv A outer s H E hr=>
   (q0 (qfv (i:=2) q1m.nd rfl (Or.inl rfl) (vD 0) XZ)
   (q0 (qm (i:=3) q1m.nd rfl (Or.inl rfl) (Yt (YG (vD 0) YJ)))
   (q0 (qfS PassesOwn.never (qz (vV 3)) (q0 (qhd (i:=4) q1m.nd rfl (Or.inl rfl) (qhR (pv 3)))
   (qb (q0f PassesOwn.never rfl (qo (XE.toD (q1N hr.units (pv 1) (vD 4)))) (qd (i:=5) q1m.nd rfl (Or.inl rfl)) (qb (qZ (q7O hr.units (vD 5) (pv 2)) (q0 (q5o hr.units (pv 2) (vD 5) XZ)
   (qb (q2B (pv 3) (vD 5)))) qE))))))
   (qb (qf (qfz rfl rfl z_sorted (pv 2))))))))
 exact h
noncomputable def q56:FS:=(WW 3 (dOf (YI 7)) (fC (.bl true)))
noncomputable def q4L:FS:=(sIf (W4 true 3 (dOf (YI 5))) (Ya (Yo 6 (eOf (dOf (YQ q1n (YH (dOf (YI 5)) (YH (dOf (YI 2)) YS))))))
  (Ya (zAH 4 (dOf (YI 6)))
  (WB (Yy (dOf (YI 6))) (gN 7) q56))) Xq)
noncomputable def q63:FS:=(Ya (Yo 2 (eOf (dOf (YQ q1p (YH (dOf (YI 0)) (YH (dOf (YI 1)) YS))))))
  (Ya (Wz 3)
  (Ya (Yo 4 (X3 YS))
  (Ya (WB (Yy (dOf (WN (vOf (YI 0))))) (gN 5) q4L)
  (WD 4)))))
noncomputable def q0s:List D->Option O:=mir 8 q63
noncomputable abbrev q67:vg:=top 21
theorem q1f:FnScope ["things", "ties", "beside", "grouped", "told", "thing", "group", "member"] ["things", "ties"] (YL q67):=⟨rfl,rfl,rfl,⋯,rfl,⋯,⋯⟩
theorem qcS{f_neighbours:vC}{d_neighbours:vK}{f_group_of:vC}{d_group_of:vK}(F:Fun K "groups" "groups" q67 f fd)(c_neighbours:Cal P w K mg base 1 f_neighbours d_neighbours "neighbours" ["things", "ties"] 2 q1p)(c_group_of:Cal P w K mg base 1 f_group_of d_group_of "group_of" ["thing", "beside"] 2 q1n)(z_sorted:mg "sorted" = none):
  FnOk P w K mg base CX0 2 f fd ["things", "ties"] (spD K 2 q0s):=by
 have h:=fnD (P:=P) (w:=w) (mg:=mg) (base:=base) (k:=1) (body:=q63) F q1f (λcdv A outer s H E hr=>
   (q0 (qm (i:=2) q1f.nd rfl (Or.inl rfl) (XD.toE (XE.toD (xc c_neighbours hr (YG (vD 0) (YG (vD 1) YJ))))))
   (q0 (q73 (i:=3) q1f.nd rfl (Or.inl rfl))
   (q0 (qm (i:=4) q1f.nd rfl (Or.inl rfl) (Yt YJ))
   (q0 (q0f PassesOwn.never rfl (qo (XE.toD (qbO rfl z_sorted (vV 0)))) (qd (i:=5) q1f.nd rfl (Or.inl rfl)) (qb (qZ (q7O hr.units (vD 5) (pv 3)) (q0 (qm (i:=6) q1f.nd rfl (Or.inl rfl) (XD.toE (XE.toD (xc c_group_of hr (YG (vD 5) (YG (vD 2) YJ))))))
   (q0 (q2B (pv 4) (vD 6))
   (qb (q0f PassesOwn.never rfl (qo (vD 6)) (qd (i:=7) q1f.nd rfl (Or.inl rfl)) (qb (q5o hr.units (pv 3) (vD 7) XZ)))))) qE)))
   (qb (q5s (pv 4))))))))
 exact h
noncomputable def q4e:FT:=(tOf (YR (oEq true) (vOf (YI 1)) (fC (.int 0))))
noncomputable def q5P:FD:=(dOf (YI 0))
noncomputable def q7d:FS:=(Ya (Yo 3 (Yg 2 [] (iZp (YH (dOf (YQ q0t (YH (dOf (YI 0)) (YH (dOf (YI 1)) (YH (dOf (YI 2)) YS))))) (YH (dOf (YQ q1C (YH (dOf (YI 0)) (YH (dOf (YI 1)) (YH (dOf (YI 2)) YS))))) YS))) (gT 2 (YT (gN 0) (YT (gN 1) Ys))) q4e q5P))
  (Yp 3 (Ym (YR Yv (vOf (YR Yv (vOf (Y4 W9 (YH (vOf (YI 2)) YS))) (vOf (X3 (YH (X9 (YH (dOf (YI 0)) (YH (dOf (YI 1)) YS))) YS))))) (vOf (YI 3))))))
noncomputable def q1Q:List D->Option O:=mir 4 q7d
noncomputable abbrev q7m:vg:=top 22
theorem qbD:FnScope ["home", "last", "boxes", "lacking"] ["home", "last", "boxes"] (YL q7m):=⟨rfl,rfl,rfl,⋯,rfl,⋯,⋯⟩
theorem qf5{f_lacks:vC}{d_lacks:vK}{f_gaps:vC}{d_gaps:vK}(F:Fun K "knots" "knots" q7m f fd)(c_lacks:Cal P w K mg base 7 f_lacks d_lacks "lacks" ["home", "last", "boxes"] 3 q1C)(c_gaps:Cal P w K mg base 6 f_gaps d_gaps "gaps" ["home", "last", "boxes"] 3 q0t)(z_zip:mg "zip" = none)(z_list:mg "list" = none):
  FnOk P w K mg base CX0 8 f fd ["home", "last", "boxes"] (spD K 3 q1Q):=by
 have h:=fnD (P:=P) (w:=w) (mg:=mg) (base:=base) (k:=7) (body:=q7d) F qbD (λcdv A outer s H E hr=>
   (q0 (qT (i:=3) rfl qbD.nd rfl rfl (blk ["gap", "lack"] [] [] rfl ⋯ ⋯ rfl trivial) (q57 rfl z_zip (YG (XE.toD (xc c_gaps hr (YG (vD 0) (YG (vD 1) (YG (vD 2) YJ))))) (YG (XE.toD (xc c_lacks hr (YG (vD 0) (YG (vD 1) (YG (vD 2) YJ))))) YJ))) (q29 (qq (qj 0) (qq (qj 1) q0i))) (λ_ _ _ _=>⟨(q0S rfl (qr (qd (i:=0) (show ((["gap", "lack"]:List Str)++([]:List Str):List Str).Nodup from by decide +kernel) rfl (Or.inl rfl)) (qr (qd (i:=1) (show ((["gap", "lack"]:List Str)++([]:List Str):List Str).Nodup from by decide +kernel) rfl (Or.inl rfl)) q0r))),(q1g (We hr.units (vV 1) (XD.toV YK))),(vD 0)⟩))
   (qy 3 (qb (qf (qv (XE.toV (qv (XE.toV (qg2 q4E qbh rfl z_list q1j (qi (vV 2) ql))) (XE.toV (Yt (YG (Yw (YG (vD 0) (YG (vD 1) YJ))) YJ))))) (vV 3)))))))
 exact h
noncomputable def q9S:FS:=(Ym (YR oIx (vOf (YI 0)) (fC (.int 2))))
noncomputable def qH:List D->Option O:=mir 1 q9S
noncomputable abbrev q8X:vg:=top 24
theorem qiA:FnScope ["edge"] ["edge"] (YL q8X):=⟨rfl,rfl,rfl,⋯,rfl,⋯,⋯⟩
theorem qhG (F:Fun K "cost" "cost" q8X f fd):
  FnOk P w K mg base CX0 1 f fd ["edge"] (spD K 1 qH):=by
 have h:=fnD (P:=P) (w:=w) (mg:=mg) (base:=base) (k:=0) (body:=q9S) F qiA (λcdv A outer s H E hr=>
   (qb (qf (YN (vV 0) (XD.toV YK)))))
 exact h
noncomputable def q1b:FS:=(WW 1 (dOf (YI 4)) (dOf (YI 2)))
noncomputable def q1d:FS:=(WB (Yy (dOf (YI 3))) (gN 4) q1b)
noncomputable def q1A:FS:=(Ya (Wz 1)
  (Ya (WB (iEn (YH (dOf (YI 0)) YS)) (gT 2 (YT (gN 2) (YT (gN 3) Ys))) q1d)
  (Yp 1 (Ym (YI 1)))))
noncomputable def qD:List D->Option O:=mir 5 q1A
noncomputable abbrev q1l:vg:=top 25
theorem q01:FnScope ["parts", "numbers", "number", "part", "thing"] ["parts"] (YL q1l):=⟨rfl,rfl,rfl,⋯,rfl,⋯,⋯⟩
theorem q5G (F:Fun K "group_numbers" "group_numbers" q1l f fd)(z_enumerate:mg "enumerate" = none):
  FnOk P w K mg base CX0 1 f fd ["parts"] (spD K 1 qD):=by
 have h:=fnD (P:=P) (w:=w) (mg:=mg) (base:=base) (k:=0) (body:=q1A) F q01 (λcdv A outer s H E hr=>
   (q0 (q73 (i:=1) q01.nd rfl (Or.inl rfl))
   (q0 (q0f PassesOwn.never rfl (qhe rfl z_enumerate (YG (vD 0) YJ)) (q0S rfl (qr (qd (i:=2) q01.nd rfl (Or.inl rfl)) (qr (qd (i:=3) q01.nd rfl (Or.inl rfl)) q0r))) (qb (q0f PassesOwn.never rfl (qo (vD 3)) (qd (i:=4) q01.nd rfl (Or.inl rfl)) (qb (q5o hr.units (pv 1) (vD 4) (vD 2))))))
   (qy 1 (qb (qf (vE 1)))))))
 exact h
noncomputable def q0u:FS:=(WW 3 (dOf (YI 4)) (dOf (fIte (tOf (YR (oEq false) (vOf (Xx 0 (dOf (YI 4)))) (vOf (YI 2)))) (YI 1) (Xx 0 (dOf (YI 4))))))
noncomputable def q0O:FS:=(Ya (Wz 3)
  (Ya (WB (iDk 0) (gN 4) q0u)
  (Yp 3 (Ym (YI 3)))))
noncomputable def qR:List D->Option O:=mir 5 q0O
noncomputable abbrev q0N:vg:=top 26
theorem q0M:FnScope ["numbers", "one", "other", "joined", "thing"] ["numbers", "one", "other"] (YL q0N):=⟨rfl,rfl,rfl,⋯,rfl,⋯,⋯⟩
theorem q4J (F:Fun K "with_two_joined" "with_two_joined" q0N f fd):
  FnOk P w K mg base CX0 1 f fd ["numbers", "one", "other"] (spD K 3 qR):=by
 have h:=fnD (P:=P) (w:=w) (mg:=mg) (base:=base) (k:=0) (body:=q0O) F q0M (λcdv A outer s H E hr=>
   (q0 (q73 (i:=3) q0M.nd rfl (Or.inl rfl))
   (q0 (q0f PassesOwn.never rfl (qgP (pv 0)) (qd (i:=4) q0M.nd rfl (Or.inl rfl)) (qb (q5o hr.units (pv 3) (vD 4) (XE.toD (q9Z (WC hr.units (XE.toV (q1N hr.units (pv 0) (vD 4))) (vV 2)) (vE 1) (q1N hr.units (pv 0) (vD 4)))))))
   (qy 3 (qb (qf (vE 3)))))))
 exact h
noncomputable def q58:FS:=(Ya (Yo 6 (eOf (dOf (Xx 3 (dOf (YR oIx (vOf (YI 5)) (fC (.int 0))))))))
  (Ya (Yo 7 (eOf (dOf (Xx 3 (dOf (YR oIx (vOf (YI 5)) (fC (.int 1))))))))
  (sIf (tOf (YR (oEq true) (vOf (YI 6)) (vOf (YI 7)))) (Ya (zAH 4 (dOf (YI 5)))
  (Yo 3 (eOf (dOf (YQ qR (YH (dOf (YI 3)) (YH (dOf (YI 6)) (YH (dOf (YI 7)) YS)))))))) Xq)))
noncomputable def q5U:FS:=(Ya (Yo 3 (eOf (dOf (YQ qD (YH (dOf (YQ q0s (YH (dOf (YI 0)) (YH (dOf (YI 1)) YS)))) YS)))))
  (Ya (Yo 4 (X3 YS))
  (Ya (WB (Yy (dOf (Wx qH (vOf (YI 2))))) (gN 5) q58)
  (WD 4))))
noncomputable def q07:List D->Option O:=mir 8 q5U
noncomputable abbrev q5E:vg:=top 27
theorem q1e:FnScope ["things", "knots", "edges", "numbers", "taken", "edge", "one", "other"] ["things", "knots", "edges"] (YL q5E):=⟨rfl,rfl,rfl,⋯,rfl,⋯,⋯⟩
theorem qeL{f_group_numbers:vC}{d_group_numbers:vK}{f_groups:vC}{d_groups:vK}{f_cost:vC}{d_cost:vK}{f_with_two_joined:vC}{d_with_two_joined:vK}(F:Fun K "forest" "forest" q5E f fd)(c_group_numbers:Cal P w K mg base 1 f_group_numbers d_group_numbers "group_numbers" ["parts"] 1 qD)(c_groups:Cal P w K mg base 2 f_groups d_groups "groups" ["things", "ties"] 2 q0s)(c_cost:Cal P w K mg base 1 f_cost d_cost "cost" ["edge"] 1 qH)(c_with_two_joined:Cal P w K mg base 1 f_with_two_joined d_with_two_joined "with_two_joined" ["numbers", "one", "other"] 3 qR)(z_sorted:mg "sorted" = none):
  FnOk P w K mg base CX0 4 f fd ["things", "knots", "edges"] (spD K 3 q07):=by
 have h:=fnD (P:=P) (w:=w) (mg:=mg) (base:=base) (k:=3) (body:=q5U) F q1e (λcdv A outer s H E hr=>
   (q0 (qm (i:=3) q1e.nd rfl (Or.inl rfl) (XD.toE (XE.toD (xc c_group_numbers hr (YG (XE.toD (xc c_groups hr (YG (vD 0) (YG (vD 1) YJ)))) YJ)))))
   (q0 (qm (i:=4) q1e.nd rfl (Or.inl rfl) (Yt YJ))
   (q0 (q0f PassesOwn.never rfl (qo (XE.toD (qfm c_cost hr z_sorted (vV 2)))) (qd (i:=5) q1e.nd rfl (Or.inl rfl)) (q0 (qm (i:=6) q1e.nd rfl (Or.inl rfl) (XD.toE (XE.toD (q1N hr.units (pv 3) (XE.toD (YN (vV 5) (XD.toV YK)))))))
   (q0 (qm (i:=7) q1e.nd rfl (Or.inl rfl) (XD.toE (XE.toD (q1N hr.units (pv 3) (XE.toD (YN (vV 5) (XD.toV YK)))))))
   (qb (qZ (We hr.units (vV 6) (vV 7)) (q0 (q2B (pv 4) (vD 5))
   (qb (qm (i:=3) q1e.nd rfl (Or.inl rfl) (XD.toE (XE.toD (xc c_with_two_joined hr (YG (vD 3) (YG (vD 6) (YG (vD 7) YJ))))))))) qE)))))
   (qb (q5s (pv 4)))))))
 exact h
noncomputable def q1v:FT:=(tOf (YR oLt (vOf (YQ qH (YH (dOf (YI 0)) YS))) (vOf (YI 1))))
noncomputable def q1z:FD:=(X9 (YH (dOf (YR oIx (vOf (YI 0)) (fC (.int 0)))) (YH (dOf (YR oIx (vOf (YI 0)) (fC (.int 1)))) YS)))
noncomputable def q1E:FS:=(Ya (Yo 4 (Yg 1 [3] (Yy (dOf (YI 2))) (gN 0) q1v q1z))
  (Yp 4 (Ym (YQ q0s (YH (dOf (YI 0)) (YH (dOf (YR Yv (vOf (YI 1)) (vOf (YI 4)))) YS))))))
noncomputable def q0g:List D->Option O:=mir 5 q1E
noncomputable abbrev q1O:vg:=top 28
theorem q4a:FnScope ["things", "knots", "edges", "bound", "cheaper"] ["things", "knots", "edges", "bound"] (YL q1O):=⟨rfl,rfl,rfl,⋯,rfl,⋯,⋯⟩
theorem q6y{f_cost:vC}{d_cost:vK}{f_groups:vC}{d_groups:vK}(F:Fun K "groups_below" "groups_below" q1O f fd)(c_cost:Cal P w K mg base 1 f_cost d_cost "cost" ["edge"] 1 qH)(c_groups:Cal P w K mg base 2 f_groups d_groups "groups" ["things", "ties"] 2 q0s):
  FnOk P w K mg base CX0 3 f fd ["things", "knots", "edges", "bound"] (spD K 4 q0g):=by
 have h:=fnD (P:=P) (w:=w) (mg:=mg) (base:=base) (k:=2) (body:=q1E) F q4a (λcdv A outer s H E hr=>
   (q0 (qT (i:=4) rfl q4a.nd rfl rfl (blk ["edge"] ["bound"] [3] rfl ⋯ ⋯ rfl ⟨⟨rfl,(by first|exact Or.inl rfl|exact Or.inr rfl),rfl⟩,trivial⟩) (qo (vD 2)) (qj 0) (λ_ _ _ _=>⟨(qd (i:=0) (show ((["edge"]:List Str)++(["bound"]:List Str):List Str).Nodup from by decide +kernel) rfl (Or.inl rfl)),(q1g (q8l (XE.toV (xc c_cost hr (YG (vD 0) YJ))) (vV 1))),(Yw (YG (XE.toD (YN (vV 0) (XD.toV YK))) (YG (XE.toD (YN (vV 0) (XD.toV YK))) YJ)))⟩))
   (qy 4 (qb (qf (xc c_groups hr (YG (vD 0) (YG (XE.toD (qv (vV 1) (vV 4))) YJ))))))))
 exact h
noncomputable def q28:FD:=(dOf (YQ qH (YH (dOf (YI 0)) YS)))
noncomputable def q4D:FD:=(X9 (YH (dOf (YI 0)) (YH (dOf (YQ q0g (YH (dOf (YI 1)) (YH (dOf (YI 2)) (YH (dOf (YI 3)) (YH (dOf (YI 0)) YS)))))) YS)))
noncomputable def q5X:FS:=(Ya (Yo 3 (eOf (dOf (Y8 (vOf (Yg 1 [] (Yy (dOf (YQ q07 (YH (dOf (YI 0)) (YH (dOf (YI 1)) (YH (dOf (YI 2)) YS)))))) (gN 0) Yc q28))))))
  (Ym (Yg 1 [0,1,2] (Yy (dOf (YI 3))) (gN 0) Yc q4D)))
noncomputable def q1G:List D->Option O:=mir 4 q5X
noncomputable abbrev q5Z:vg:=top 29
theorem q9E:FnScope ["things", "knots", "edges", "costs"] ["things", "knots", "edges"] (YL q5Z):=⟨rfl,rfl,rfl,⋯,rfl,⋯,⋯⟩
theorem qeE{f_forest:vC}{d_forest:vK}{f_cost:vC}{d_cost:vK}{f_groups_below:vC}{d_groups_below:vK}(F:Fun K "levels" "levels" q5Z f fd)(c_forest:Cal P w K mg base 4 f_forest d_forest "forest" ["things", "knots", "edges"] 3 q07)(c_cost:Cal P w K mg base 1 f_cost d_cost "cost" ["edge"] 1 qH)(c_groups_below:Cal P w K mg base 3 f_groups_below d_groups_below "groups_below" ["things", "knots", "edges", "bound"] 4 q0g)(z_sorted:mg "sorted" = none)(z_set:mg "set" = none):
  FnOk P w K mg base CX0 5 f fd ["things", "knots", "edges"] (spD K 3 q1G):=by
 have h:=fnD (P:=P) (w:=w) (mg:=mg) (base:=base) (k:=4) (body:=q5X) F q9E (λcdv A outer s H E hr=>
   (q0 (qm (i:=3) q9E.nd rfl (Or.inl rfl) (XD.toE (XE.toD (q6K rfl z_sorted rfl z_set (XE.toV (qA rfl (blk ["edge"] [] [] rfl ⋯ ⋯ rfl trivial) (qo (XE.toD (xc c_forest hr (YG (vD 0) (YG (vD 1) (YG (vD 2) YJ)))))) (qj 0) (λ_ _ _ _=>⟨(qd (i:=0) (show ((["edge"]:List Str)++([]:List Str):List Str).Nodup from by decide +kernel) rfl (Or.inl rfl)),qt,(XE.toD (xc c_cost hr (YG (vD 0) YJ)))⟩)))))))
   (qb (qf (qA rfl (blk ["bound"] ["things", "knots", "edges"] [0,1,2] rfl ⋯ ⋯ rfl ⟨⟨rfl,(by first|exact Or.inl rfl|exact Or.inr rfl),rfl⟩,⟨⟨rfl,(by first|exact Or.inl rfl|exact Or.inr rfl),rfl⟩,⟨⟨rfl,(by first|exact Or.inl rfl|exact Or.inr rfl),rfl⟩,trivial⟩⟩⟩) (qo (vD 3)) (qj 0) (λ_ _ _ _=>⟨(qd (i:=0) (show ((["bound"]:List Str)++(["things", "knots", "edges"]:List Str):List Str).Nodup from by decide +kernel) rfl (Or.inl rfl)),qt,(Yw (YG (vD 0) (YG (XE.toD (xc c_groups_below hr (YG (vD 1) (YG (vD 2) (YG (vD 3) (YG (vD 0) YJ)))))) YJ)))⟩))))))
 exact h
noncomputable def q2s:FS:=(Ya (sAug (λi j=>i+j) 2 (vOf (YR WA (vOf (YR Wk (vOf (YI 4)) (vOf (YI 3)))) (vOf (YR Wk (vOf (Y4 WG (YH (vOf (YI 5)) YS))) (vOf (YI 1)))))))
  (Yo 3 (eOf (dOf (YI 4)))))
noncomputable def q4T:FS:=(Ya (Yo 2 (eOf (fC (.int 0))))
  (Ya (Yo 3 (eOf (fC (.int 0))))
  (Ya (WB (Yy (dOf (YI 0))) (gT 2 (YT (gN 4) (YT (gN 5) Ys))) q2s)
  (Ym (YI 2)))))
noncomputable def q22:List D->Option O:=mir 6 q4T
noncomputable abbrev q5a:vg:=top 30
theorem q0z:FnScope ["levels", "rest", "total", "ahead", "bound", "parts"] ["levels", "rest"] (YL q5a):=⟨rfl,rfl,rfl,⋯,rfl,⋯,⋯⟩
theorem qcm (F:Fun K "weighed" "weighed" q5a f fd)(z_len:mg "len" = none):
  FnOk P w K mg base CX0 1 f fd ["levels", "rest"] (spD K 2 q22):=by
 have h:=fnD (P:=P) (w:=w) (mg:=mg) (base:=base) (k:=0) (body:=q4T) F q0z (λcdv A outer s H E hr=>
   (q0 (qm (i:=2) q0z.nd rfl (Or.inl rfl) (XD.toE YK))
   (q0 (qm (i:=3) q0z.nd rfl (Or.inl rfl) (XD.toE YK))
   (q0 (q0f PassesOwn.never rfl (qo (vD 0)) (q0S rfl (qr (qd (i:=4) q0z.nd rfl (Or.inl rfl)) (qr (qd (i:=5) q0z.nd rfl (Or.inl rfl)) q0r))) (q0 (qie (i:=2) qi3 q0z.nd rfl (Or.inl rfl) (XE.toV (q48 (XE.toV (q0R (vV 4) (vV 3))) (XE.toV (q0R (XE.toV (qu qB q0F rfl z_len q0I (qi (vV 5) ql))) (vV 1))))))
   (qb (qm (i:=3) q0z.nd rfl (Or.inl rfl) (XD.toE (vD 4))))))
   (qb (qf (vE 2)))))))
 exact h
noncomputable def q5R:FS:=(Ym (eOf (X5 (dOf (YQ qp (YH (dOf (YI 0)) YS))) (dOf (YR (oIn false) (vOf (YI 0)) (X9 (YH (fC (.int 1)) (YH (dOf (zAy (fC (.int 1)))) YS))))))))
noncomputable def q34:List D->Option O:=mir 1 q5R
noncomputable abbrev q6a:vg:=top 32
theorem qfw:FnScope ["thing"] ["thing"] (YL q6a):=⟨rfl,rfl,rfl,⋯,rfl,⋯,⋯⟩
theorem qdi{f_is_whole:vC}{d_is_whole:vK}(F:Fun K "is_way" "is_way" q6a f fd)(c_is_whole:Cal P w K mg base 1 f_is_whole d_is_whole "is_whole" ["thing"] 1 qp):
  FnOk P w K mg base CX0 2 f fd ["thing"] (spD K 1 q34):=by
 have h:=fnD (P:=P) (w:=w) (mg:=mg) (base:=base) (k:=1) (body:=q5R) F qfw (λcdv A outer s H E hr=>
   (qb (qf (XD.toE (qX (XE.toD (xc c_is_whole hr (YG (vD 0) YJ))) (q0V (XE.toD (xe_in (vV 0) (XD.toV (Yw (YG YK (YG (XE.toD (q6L (XD.toV YK))) YJ))))))))))))
 exact h
noncomputable def q3R:FS:=(Ym (eOf (X5 (dOf (YQ qp (YH (dOf (YI 1)) YS))) (X5 (dOf (YR oGe (vOf (YI 1)) (fC (.int 0)))) (dOf (YR oLt (vOf (YI 1)) (vOf (YI 0))))))))
noncomputable def qN:List D->Option O:=mir 2 q3R
noncomputable abbrev q3K:vg:=top 33
theorem qaB:FnScope ["size", "thing"] ["size", "thing"] (YL q3K):=⟨rfl,rfl,rfl,⋯,rfl,⋯,⋯⟩
theorem q9h{f_is_whole:vC}{d_is_whole:vK}(F:Fun K "has_place" "has_place" q3K f fd)(c_is_whole:Cal P w K mg base 1 f_is_whole d_is_whole "is_whole" ["thing"] 1 qp):
  FnOk P w K mg base CX0 2 f fd ["size", "thing"] (spD K 2 qN):=by
 have h:=fnD (P:=P) (w:=w) (mg:=mg) (base:=base) (k:=1) (body:=q3R) F qaB (λcdv A outer s H E hr=>
   (qb (qf (XD.toE (qX (XE.toD (xc c_is_whole hr (YG (vD 1) YJ))) (qX (XE.toD (qjo (vV 1) (XD.toV YK))) (q0V (XE.toD (qcn (vV 1) (vV 0))))))))))
 exact h
noncomputable def q2c:FS:=(Ya (sIf (Wg (Yz (XX (vOf (WZ .tup (vOf (YI 1)))))) (tOf (YR (oEq true) (vOf (Y4 WG (YH (vOf (YI 1)) YS))) (fC (.int 3))))) (Ym (eOf (fC (.bl false)))) Xq)
  (Ym (eOf (X5 (dOf (YQ qN (YH (dOf (YI 0)) (YH (dOf (YR oIx (vOf (YI 1)) (fC (.int 0)))) YS)))) (X5 (dOf (YQ qN (YH (dOf (YI 0)) (YH (dOf (YR oIx (vOf (YI 1)) (fC (.int 1)))) YS)))) (dOf (YQ q34 (YH (dOf (YR oIx (vOf (YI 1)) (fC (.int 2)))) YS))))))))
noncomputable def q0o:List D->Option O:=mir 2 q2c
noncomputable abbrev q2g:vg:=top 34
theorem q8h:FnScope ["size", "thing"] ["size", "thing"] (YL q2g):=⟨rfl,rfl,rfl,⋯,rfl,⋯,⋯⟩
theorem q7i{f_is_way:vC}{d_is_way:vK}{f_has_place:vC}{d_has_place:vK}(F:Fun K "is_ring_box" "is_ring_box" q2g f fd)(c_is_way:Cal P w K mg base 2 f_is_way d_is_way "is_way" ["thing"] 1 q34)(c_has_place:Cal P w K mg base 2 f_has_place d_has_place "has_place" ["size", "thing"] 2 qN)(z_len:mg "len" = none)(z_isinstance:mg "isinstance" = none)(z_tuple:mg "tuple" = none)(i_tuple:IsT K .tup):
  FnOk P w K mg base CX0 3 f fd ["size", "thing"] (spD K 2 q0o):=by
 have h:=fnD (P:=P) (w:=w) (mg:=mg) (base:=base) (k:=2) (body:=q2c) F q8h (λcdv A outer s H E hr=>
   (q0 (qZ (XW.toT (q20 (qK (qz (XE.toV (q0A (vV 1) i_tuple rfl z_isinstance rfl z_tuple q4f)))) (q2H (We hr.units (XE.toV (qu qB q0F rfl z_len q0I (qi (vV 1) ql))) (XD.toV YK))))) (qb (qf (XD.toE XZ))) qE)
   (qb (qf (XD.toE (qX (XE.toD (xc c_has_place hr (YG (vD 0) (YG (XE.toD (YN (vV 1) (XD.toV YK))) YJ)))) (qX (XE.toD (xc c_has_place hr (YG (vD 0) (YG (XE.toD (YN (vV 1) (XD.toV YK))) YJ)))) (q0V (XE.toD (xc c_is_way hr (YG (XE.toD (YN (vV 1) (XD.toV YK))) YJ)))))))))))
 exact h
noncomputable def q4o:FD:=(dOf (YQ q0o (YH (dOf (YI 1)) (YH (dOf (YI 0)) YS))))
noncomputable def q4W:FS:=(Ya (sIf (Wg (Yz (XX (vOf (YQ qp (YH (dOf (YI 0)) YS))))) (Wg (Yz (XX (vOf (YQ qN (YH (dOf (YI 0)) (YH (dOf (YI 1)) YS)))))) (Yz (XX (vOf (YQ qN (YH (dOf (YI 0)) (YH (dOf (YI 2)) YS)))))))) (Ym (eOf (fC (.bl false)))) Xq)
  (Ym (eOf (X5 (dOf (WZ .lst (vOf (YI 3)))) (dOf (Y4 X1 (YH (vOf (Yg 1 [0] (Yy (dOf (YI 3))) (gN 0) Yc q4o)) YS)))))))
noncomputable def q27:List D->Option O:=mir 4 q4W
noncomputable abbrev q4F:vg:=top 35
theorem qen:FnScope ["size", "home", "last", "boxes"] ["size", "home", "last", "boxes"] (YL q4F):=⟨rfl,rfl,rfl,⋯,rfl,⋯,⋯⟩
theorem qcx{f_has_place:vC}{d_has_place:vK}{f_is_whole:vC}{d_is_whole:vK}{f_is_ring_box:vC}{d_is_ring_box:vK}(F:Fun K "is_ring" "is_ring" q4F f fd)(c_has_place:Cal P w K mg base 2 f_has_place d_has_place "has_place" ["size", "thing"] 2 qN)(c_is_whole:Cal P w K mg base 1 f_is_whole d_is_whole "is_whole" ["thing"] 1 qp)(c_is_ring_box:Cal P w K mg base 3 f_is_ring_box d_is_ring_box "is_ring_box" ["size", "thing"] 2 q0o)(z_all:mg "all" = none)(z_isinstance:mg "isinstance" = none)(z_list:mg "list" = none)(i_list:IsT K .lst):
  FnOk P w K mg base CX0 4 f fd ["size", "home", "last", "boxes"] (spD K 4 q27):=by
 have h:=fnD (P:=P) (w:=w) (mg:=mg) (base:=base) (k:=3) (body:=q4W) F qen (λcdv A outer s H E hr=>
   (q0 (qZ (XW.toT (q20 (qK (qz (XE.toV (xc c_is_whole hr (YG (vD 0) YJ))))) (q20 (qK (qz (XE.toV (xc c_has_place hr (YG (vD 0) (YG (vD 1) YJ)))))) (q2H (qK (qz (XE.toV (xc c_has_place hr (YG (vD 0) (YG (vD 2) YJ)))))))))) (qb (qf (XD.toE XZ))) qE)
   (qb (qf (XD.toE (qX (XE.toD (q0A (vV 3) i_list rfl z_isinstance rfl z_list q1j)) (q0V (XE.toD (qu (q0j rfl) q25 rfl z_all q23 (qi (XE.toV (qA rfl (blk ["box"] ["size"] [0] rfl ⋯ ⋯ rfl ⟨⟨rfl,(by first|exact Or.inl rfl|exact Or.inr rfl),rfl⟩,trivial⟩) (qo (vD 3)) (qj 0) (λ_ _ _ _=>⟨(qd (i:=0) (show ((["box"]:List Str)++(["size"]:List Str):List Str).Nodup from by decide +kernel) rfl (Or.inl rfl)),qt,(XE.toD (xc c_is_ring_box hr (YG (vD 1) (YG (vD 0) YJ))))⟩))) ql))))))))))
 exact h
noncomputable def q2O:FS:=(sIf (Yz (XX (vOf (YQ q27 (YH (dOf (YI 0)) (YH (dOf (YI 1)) (YH (dOf (YI 2)) (YH (dOf (YI 3)) YS)))))))) sNo Xq)
noncomputable def q0v:List D->Option O:=mir 4 q2O
noncomputable abbrev q3d:vg:=top 36
theorem q9f:FnScope ["size", "home", "last", "boxes"] ["size", "home", "last", "boxes"] (YL q3d):=⟨rfl,rfl,rfl,⋯,rfl,⋯,⋯⟩
theorem q81{f_is_ring:vC}{d_is_ring:vK}(F:Fun K "check_ring" "check_ring" q3d f fd)(c_is_ring:Cal P w K mg base 4 f_is_ring d_is_ring "is_ring" ["size", "home", "last", "boxes"] 4 q27):
  FnOk P w K mg base CX0 5 f fd ["size", "home", "last", "boxes"] (spD K 4 q0v):=by
 have h:=fnD (P:=P) (w:=w) (mg:=mg) (base:=base) (k:=4) (body:=q2O) F q9f (λcdv A outer s H E hr=>
   (qb (qZ (qK (qz (XE.toV (xc c_is_ring hr (YG (vD 0) (YG (vD 1) (YG (vD 2) (YG (vD 3) YJ)))))))) (qb qcj) qE)))
 exact h
noncomputable def q3u:FD:=(dOf (fSl (vOf (YI 0)) pNo (pAt (fC (.int 2)))))
noncomputable def q1R:FS:=(Ym (Yg 1 [] (Yy (dOf (YI 0))) (gN 0) Yc q3u))
noncomputable def qM:List D->Option O:=mir 1 q1R
noncomputable abbrev q1J:vg:=top 37
theorem q7p:FnScope ["boxes"] ["boxes"] (YL q1J):=⟨rfl,rfl,rfl,⋯,rfl,⋯,⋯⟩
theorem q6F (F:Fun K "without_ways" "without_ways" q1J f fd):
  FnOk P w K mg base CX0 1 f fd ["boxes"] (spD K 1 qM):=by
 have h:=fnD (P:=P) (w:=w) (mg:=mg) (base:=base) (k:=0) (body:=q1R) F q7p (λcdv A outer s H E hr=>
   (qb (qf (qA rfl (blk ["box"] [] [] rfl ⋯ ⋯ rfl trivial) (qo (vD 0)) (qj 0) (λ_ _ _ _=>⟨(qd (i:=0) (show ((["box"]:List Str)++([]:List Str):List Str).Nodup from by decide +kernel) rfl (Or.inl rfl)),qt,(XE.toD (Y9 (vV 0) Xe (XJ (XD.toV YK))))⟩)))))
 exact h
noncomputable def q5j:FS:=(Ym (YR oMod (vOf (YR WA (vOf (YR Wk (vOf (YI 2)) (vOf (YI 1)))) (vOf (YI 3)))) (vOf (YI 0))))
noncomputable def q00:List D->Option O:=mir 4 q5j
noncomputable abbrev q6W:vg:=top 38
theorem qhE:FnScope ["size", "start", "goal", "way"] ["size", "start", "goal", "way"] (YL q6W):=⟨rfl,rfl,rfl,⋯,rfl,⋯,⋯⟩
theorem qf7 (F:Fun K "steps" "steps" q6W f fd):
  FnOk P w K mg base CX0 1 f fd ["size", "start", "goal", "way"] (spD K 4 q00):=by
 have h:=fnD (P:=P) (w:=w) (mg:=mg) (base:=base) (k:=0) (body:=q5j) F qhE (λcdv A outer s H E hr=>
   (qb (qf (qJ (XE.toV (q48 (XE.toV (q0R (vV 2) (vV 1))) (vV 3))) (vV 0)))))
 exact h
noncomputable def q3M:FS:=(Ya (W1 (YQ q0v (YH (dOf (YI 0)) (YH (dOf (YI 1)) (YH (dOf (YI 2)) (YH (dOf (YI 3)) YS))))))
  (Ya (Yo 4 (eOf (dOf (YQ q0e (YH (dOf (YI 1)) (YH (dOf (YI 2)) (YH (dOf (YQ qM (YH (dOf (YI 3)) YS))) YS)))))))
  (Ym (Y4 Y7 (YH (vOf (YI 4)) (YH (vOf (YR Yv (vOf (fSl (vOf (YI 4)) (pAt (fC (.int 1))) pNo)) (vOf (fSl (vOf (YI 4)) pNo (pAt (fC (.int 1))))))) YS))))))
noncomputable def q09:List D->Option O:=mir 5 q3M
noncomputable abbrev q3L:vg:=top 39
theorem q5z:FnScope ["size", "home", "last", "boxes", "places"] ["size", "home", "last", "boxes"] (YL q3L):=⟨rfl,rfl,rfl,⋯,rfl,⋯,⋯⟩
theorem q9x{f_check_ring:vC}{d_check_ring:vK}{f_stops:vC}{d_stops:vK}{f_without_ways:vC}{d_without_ways:vK}(F:Fun K "ring_gaps" "ring_gaps" q3L f fd)(c_check_ring:Cal P w K mg base 5 f_check_ring d_check_ring "check_ring" ["size", "home", "last", "boxes"] 4 q0v)(c_stops:Cal P w K mg base 5 f_stops d_stops "stops" ["home", "last", "boxes"] 3 q0e)(c_without_ways:Cal P w K mg base 1 f_without_ways d_without_ways "without_ways" ["boxes"] 1 qM)(z_list:mg "list" = none)(z_zip:mg "zip" = none):
  FnOk P w K mg base CX0 6 f fd ["size", "home", "last", "boxes"] (spD K 4 q09):=by
 have h:=fnD (P:=P) (w:=w) (mg:=mg) (base:=base) (k:=5) (body:=q3M) F q5z (λcdv A outer s H E hr=>
   (q0 (q7j (xc c_check_ring hr (YG (vD 0) (YG (vD 1) (YG (vD 2) (YG (vD 3) YJ))))))
   (q0 (qm (i:=4) q5z.nd rfl (Or.inl rfl) (XD.toE (XE.toD (xc c_stops hr (YG (vD 1) (YG (vD 2) (YG (XE.toD (xc c_without_ways hr (YG (vD 3) YJ))) YJ)))))))
   (qb (qf (q6B rfl z_list rfl z_zip (qi (vV 4) (qi (XE.toV (qv (XE.toV (Y9 (vV 4) (XJ (XD.toV YK)) Xe)) (XE.toV (Y9 (vV 4) Xe (XJ (XD.toV YK)))))) ql))))))))
 exact h
noncomputable def q2X:FS:=(Ym (fIte (tOf (YR (oEq false) (vOf (YR oIx (vOf (YI 1)) (fC (.int 0)))) (vOf (YR oIx (vOf (YI 1)) (fC (.int 1)))))) (YI 0) (YQ q00 (YH (dOf (YI 0)) (YH (dOf (YR oIx (vOf (YI 1)) (fC (.int 0)))) (YH (dOf (YR oIx (vOf (YI 1)) (fC (.int 1)))) (YH (fC (.int 1)) YS)))))))
noncomputable def q0G:List D->Option O:=mir 2 q2X
noncomputable abbrev q2Z:vg:=top 40
theorem q9r:FnScope ["size", "gap"] ["size", "gap"] (YL q2Z):=⟨rfl,rfl,rfl,⋯,rfl,⋯,⋯⟩
theorem q8a{f_steps:vC}{d_steps:vK}(F:Fun K "gap_length" "gap_length" q2Z f fd)(c_steps:Cal P w K mg base 1 f_steps d_steps "steps" ["size", "start", "goal", "way"] 4 q00):
  FnOk P w K mg base CX0 2 f fd ["size", "gap"] (spD K 2 q0G):=by
 have h:=fnD (P:=P) (w:=w) (mg:=mg) (base:=base) (k:=1) (body:=q2X) F q9r (λcdv A outer s H E hr=>
   (qb (qf (q9Z (WC hr.units (XE.toV (YN (vV 1) (XD.toV YK))) (XE.toV (YN (vV 1) (XD.toV YK)))) (vE 0) (xc c_steps hr (YG (vD 0) (YG (XE.toD (YN (vV 1) (XD.toV YK))) (YG (XE.toD (YN (vV 1) (XD.toV YK))) (YG YK YJ)))))))))
 exact h
noncomputable def q2f:FD:=(dOf (YR Yv (vOf (YI 0)) (X9 (YH (dOf (YQ q0G (YH (dOf (YI 1)) (YH (dOf (YI 0)) YS)))) YS))))
noncomputable def q2z:FS:=(Ym (Yg 1 [0] (Yy (dOf (YQ q09 (YH (dOf (YI 0)) (YH (dOf (YI 1)) (YH (dOf (YI 2)) (YH (dOf (YI 3)) YS))))))) (gN 0) Yc q2f))
noncomputable def q0d:List D->Option O:=mir 4 q2z
noncomputable abbrev q2S:vg:=top 41
theorem q9A:FnScope ["size", "home", "last", "boxes"] ["size", "home", "last", "boxes"] (YL q2S):=⟨rfl,rfl,rfl,⋯,rfl,⋯,⋯⟩
theorem q8c{f_ring_gaps:vC}{d_ring_gaps:vK}{f_gap_length:vC}{d_gap_length:vK}(F:Fun K "ring_edges" "ring_edges" q2S f fd)(c_ring_gaps:Cal P w K mg base 6 f_ring_gaps d_ring_gaps "ring_gaps" ["size", "home", "last", "boxes"] 4 q09)(c_gap_length:Cal P w K mg base 2 f_gap_length d_gap_length "gap_length" ["size", "gap"] 2 q0G):
  FnOk P w K mg base CX0 7 f fd ["size", "home", "last", "boxes"] (spD K 4 q0d):=by
 have h:=fnD (P:=P) (w:=w) (mg:=mg) (base:=base) (k:=6) (body:=q2z) F q9A (λcdv A outer s H E hr=>
   (qb (qf (qA rfl (blk ["gap"] ["size"] [0] rfl ⋯ ⋯ rfl ⟨⟨rfl,(by first|exact Or.inl rfl|exact Or.inr rfl),rfl⟩,trivial⟩) (qo (XE.toD (xc c_ring_gaps hr (YG (vD 0) (YG (vD 1) (YG (vD 2) (YG (vD 3) YJ))))))) (qj 0) (λ_ _ _ _=>⟨(qd (i:=0) (show ((["gap"]:List Str)++(["size"]:List Str):List Str).Nodup from by decide +kernel) rfl (Or.inl rfl)),qt,(XE.toD (qv (vV 0) (XD.toV (Yw (YG (XE.toD (xc c_gap_length hr (YG (vD 1) (YG (vD 0) YJ)))) YJ)))))⟩)))))
 exact h
noncomputable def q3y:FS:=(Ym (YR oLt (vOf (YQ q00 (YH (dOf (YI 0)) (YH (dOf (YI 1)) (YH (dOf (YR oIx (vOf (YI 3)) (fC (.int 0)))) (YH (fC (.int 1)) YS)))))) (vOf (YQ q00 (YH (dOf (YI 0)) (YH (dOf (YI 1)) (YH (dOf (YI 2)) (YH (fC (.int 1)) YS))))))))
noncomputable def q08:List D->Option O:=mir 4 q3y
noncomputable abbrev q3T:vg:=top 42
theorem qaq:FnScope ["size", "start", "goal", "gap"] ["size", "start", "goal", "gap"] (YL q3T):=⟨rfl,rfl,rfl,⋯,rfl,⋯,⋯⟩
theorem q8H{f_steps:vC}{d_steps:vK}(F:Fun K "goes_over" "goes_over" q3T f fd)(c_steps:Cal P w K mg base 1 f_steps d_steps "steps" ["size", "start", "goal", "way"] 4 q00):
  FnOk P w K mg base CX0 2 f fd ["size", "start", "goal", "gap"] (spD K 4 q08):=by
 have h:=fnD (P:=P) (w:=w) (mg:=mg) (base:=base) (k:=1) (body:=q3y) F qaq (λcdv A outer s H E hr=>
   (qb (qf (qcn (XE.toV (xc c_steps hr (YG (vD 0) (YG (vD 1) (YG (XE.toD (YN (vV 3) (XD.toV YK))) (YG YK YJ)))))) (XE.toV (xc c_steps hr (YG (vD 0) (YG (vD 1) (YG (vD 2) (YG YK YJ))))))))))
 exact h
noncomputable def q2W:FT:=(Wd (tOf (YR (oEq false) (vOf (YR oIx (vOf (YI 0)) (fC (.int 2)))) (fC (.int 1)))) (XX (vOf (YQ q08 (YH (dOf (YI 1)) (YH (dOf (YR oIx (vOf (YI 0)) (fC (.int 0)))) (YH (dOf (YR oIx (vOf (YI 0)) (fC (.int 1)))) (YH (dOf (YI 2)) YS))))))))
noncomputable def q4P:FD:=(dOf (YI 0))
noncomputable def q32:FT:=(Wd (tOf (YR (oEq false) (vOf (YR oIx (vOf (YI 0)) (fC (.int 2)))) (vOf (zAy (fC (.int 1)))))) (XX (vOf (YQ q08 (YH (dOf (YI 1)) (YH (dOf (YR oIx (vOf (YI 0)) (fC (.int 1)))) (YH (dOf (YR oIx (vOf (YI 0)) (fC (.int 0)))) (YH (dOf (YI 2)) YS))))))))
noncomputable def q51:FD:=(dOf (YI 0))
noncomputable def q3O:FS:=(Ya (Yo 5 (eOf (dOf (fIte (XX (vOf (YQ q08 (YH (dOf (YI 0)) (YH (dOf (YI 1)) (YH (dOf (YI 2)) (YH (dOf (YI 4)) YS))))))) (eOf (fC (.int 1))) (eOf (fC (.int 0)))))))
  (Ya (Yo 6 (Yg 1 [0,4] (Yy (dOf (YI 3))) (gN 0) q2W q4P))
  (Yp 6 (Ya (Yo 7 (Yg 1 [0,4] (Yy (dOf (YI 3))) (gN 0) q32 q51))
  (Yp 7 (Ym (YR Yv (vOf (YR Wk (vOf (YI 5)) (vOf (Y4 WG (YH (vOf (YI 6)) YS))))) (vOf (Y4 WG (YH (vOf (YI 7)) YS))))))))))
noncomputable def q0Q:List D->Option O:=mir 8 q3O
noncomputable abbrev q3W:vg:=top 43
theorem q1X:FnScope ["size", "home", "last", "boxes", "gap", "own", "rights", "lefts"] ["size", "home", "last", "boxes", "gap"] (YL q3W):=⟨rfl,rfl,rfl,⋯,rfl,⋯,⋯⟩
theorem q9H{f_goes_over:vC}{d_goes_over:vK}(F:Fun K "bare_lack" "bare_lack" q3W f fd)(c_goes_over:Cal P w K mg base 2 f_goes_over d_goes_over "goes_over" ["size", "start", "goal", "gap"] 4 q08)(z_len:mg "len" = none):
  FnOk P w K mg base CX0 3 f fd ["size", "home", "last", "boxes", "gap"] (spD K 5 q0Q):=by
 have h:=fnD (P:=P) (w:=w) (mg:=mg) (base:=base) (k:=2) (body:=q3O) F q1X (λcdv A outer s H E hr=>
   (q0 (qm (i:=5) q1X.nd rfl (Or.inl rfl) (XD.toE (XE.toD (q9Z (qz (XE.toV (xc c_goes_over hr (YG (vD 0) (YG (vD 1) (YG (vD 2) (YG (vD 4) YJ))))))) (XD.toE YK) (XD.toE YK)))))
   (q0 (qT (i:=6) rfl q1X.nd rfl rfl (blk ["box"] ["size", "gap"] [0,4] rfl ⋯ ⋯ rfl ⟨⟨rfl,(by first|exact Or.inl rfl|exact Or.inr rfl),rfl⟩,⟨⟨rfl,(by first|exact Or.inl rfl|exact Or.inr rfl),rfl⟩,trivial⟩⟩) (qo (vD 3)) (qj 0) (λ_ _ _ _=>⟨(qd (i:=0) (show ((["box"]:List Str)++(["size", "gap"]:List Str):List Str).Nodup from by decide +kernel) rfl (Or.inl rfl)),(q1g (XW.toT (q91 (WC hr.units (XE.toV (YN (vV 0) (XD.toV YK))) (XD.toV YK)) (q6R (qz (XE.toV (xc c_goes_over hr (YG (vD 1) (YG (XE.toD (YN (vV 0) (XD.toV YK))) (YG (XE.toD (YN (vV 0) (XD.toV YK))) (YG (vD 2) YJ))))))))))),(vD 0)⟩))
   (qy 6 (q0 (qT (i:=7) rfl q1X.nd rfl rfl (blk ["box"] ["size", "gap"] [0,4] rfl ⋯ ⋯ rfl ⟨⟨rfl,(by first|exact Or.inl rfl|exact Or.inr rfl),rfl⟩,⟨⟨rfl,(by first|exact Or.inl rfl|exact Or.inr rfl),rfl⟩,trivial⟩⟩) (qo (vD 3)) (qj 0) (λ_ _ _ _=>⟨(qd (i:=0) (show ((["box"]:List Str)++(["size", "gap"]:List Str):List Str).Nodup from by decide +kernel) rfl (Or.inl rfl)),(q1g (XW.toT (q91 (WC hr.units (XE.toV (YN (vV 0) (XD.toV YK))) (XE.toV (q6L (XD.toV YK)))) (q6R (qz (XE.toV (xc c_goes_over hr (YG (vD 1) (YG (XE.toD (YN (vV 0) (XD.toV YK))) (YG (XE.toD (YN (vV 0) (XD.toV YK))) (YG (vD 2) YJ))))))))))),(vD 0)⟩))
   (qy 7 (qb (qf (qv (XE.toV (q0R (vV 5) (XE.toV (qu qB q0F rfl z_len q0I (qi (vV 6) ql))))) (XE.toV (qu qB q0F rfl z_len q0I (qi (vV 7) ql))))))))))))
 exact h
noncomputable def q2b:FD:=(dOf (YR Yv (vOf (YI 1)) (vOf (YQ q0Q (YH (dOf (YI 2)) (YH (dOf (YI 3)) (YH (dOf (YI 4)) (YH (dOf (YI 5)) (YH (dOf (YI 0)) YS)))))))))
noncomputable def q2J:FS:=(Ym (Yg 1 [4,0,1,2,3] (Yy (dOf (YQ q09 (YH (dOf (YI 0)) (YH (dOf (YI 1)) (YH (dOf (YI 2)) (YH (dOf (YI 3)) YS))))))) (gN 0) Yc q2b))
noncomputable def q0x:List D->Option O:=mir 5 q2J
noncomputable abbrev q37:vg:=top 44
theorem q8s:FnScope ["size", "home", "last", "boxes", "c"] ["size", "home", "last", "boxes", "c"] (YL q37):=⟨rfl,rfl,rfl,⋯,rfl,⋯,⋯⟩
theorem q87{f_ring_gaps:vC}{d_ring_gaps:vK}{f_bare_lack:vC}{d_bare_lack:vK}(F:Fun K "ring_lacks" "ring_lacks" q37 f fd)(c_ring_gaps:Cal P w K mg base 6 f_ring_gaps d_ring_gaps "ring_gaps" ["size", "home", "last", "boxes"] 4 q09)(c_bare_lack:Cal P w K mg base 3 f_bare_lack d_bare_lack "bare_lack" ["size", "home", "last", "boxes", "gap"] 5 q0Q):
  FnOk P w K mg base CX0 7 f fd ["size", "home", "last", "boxes", "c"] (spD K 5 q0x):=by
 have h:=fnD (P:=P) (w:=w) (mg:=mg) (base:=base) (k:=6) (body:=q2J) F q8s (λcdv A outer s H E hr=>
   (qb (qf (qA rfl (blk ["gap"] ["c", "size", "home", "last", "boxes"] [4,0,1,2,3] rfl ⋯ ⋯ rfl ⟨⟨rfl,(by first|exact Or.inl rfl|exact Or.inr rfl),rfl⟩,⟨⟨rfl,(by first|exact Or.inl rfl|exact Or.inr rfl),rfl⟩,⟨⟨rfl,(by first|exact Or.inl rfl|exact Or.inr rfl),rfl⟩,⟨⟨rfl,(by first|exact Or.inl rfl|exact Or.inr rfl),rfl⟩,⟨⟨rfl,(by first|exact Or.inl rfl|exact Or.inr rfl),rfl⟩,trivial⟩⟩⟩⟩⟩) (qo (XE.toD (xc c_ring_gaps hr (YG (vD 0) (YG (vD 1) (YG (vD 2) (YG (vD 3) YJ))))))) (qj 0) (λ_ _ _ _=>⟨(qd (i:=0) (show ((["gap"]:List Str)++(["c", "size", "home", "last", "boxes"]:List Str):List Str).Nodup from by decide +kernel) rfl (Or.inl rfl)),qt,(XE.toD (qv (vV 1) (XE.toV (xc c_bare_lack hr (YG (vD 2) (YG (vD 3) (YG (vD 4) (YG (vD 5) (YG (vD 0) YJ)))))))))⟩)))))
 exact h
noncomputable def q1W:FT:=(tOf (YR (oEq true) (vOf (YI 1)) (fC (.int 0))))
noncomputable def q40:FD:=(dOf (fSl (vOf (YI 0)) pNo (pAt (fC (.int 2)))))
noncomputable def q1V:FD:=(dOf (YR oIx (vOf (YI 0)) (fC (.int 0))))
noncomputable def q2j:FS:=(Ya (Yo 5 (Yg 2 [] (iZp (YH (dOf (YI 3)) (YH (dOf (YI 4)) YS))) (gT 2 (YT (gN 0) (YT (gN 1) Ys))) q1W q40))
  (Yp 5 (Ya (Yo 6 (Yg 1 [] (Yy (dOf (YI 3))) (gN 0) Yc q1V))
  (Yp 6 (Ym (YQ q07 (YH (dOf (YI 6)) (YH (dOf (YR Yv (vOf (YR Yv (vOf (YQ qM (YH (dOf (YI 2)) YS))) (vOf (X3 (YH (X9 (YH (dOf (YI 0)) (YH (dOf (YI 1)) YS))) YS))))) (vOf (YI 5)))) (YH (dOf (YI 3)) YS)))))))))
noncomputable def q0n:List D->Option O:=mir 7 q2j
noncomputable abbrev q2o:vg:=top 45
theorem q2m:FnScope ["home", "last", "boxes", "edges", "lacks", "lacking", "places"] ["home", "last", "boxes", "edges", "lacks"] (YL q2o):=⟨rfl,rfl,rfl,⋯,rfl,⋯,⋯⟩
theorem q7c{f_forest:vC}{d_forest:vK}{f_without_ways:vC}{d_without_ways:vK}(F:Fun K "ring_forest" "ring_forest" q2o f fd)(c_forest:Cal P w K mg base 4 f_forest d_forest "forest" ["things", "knots", "edges"] 3 q07)(c_without_ways:Cal P w K mg base 1 f_without_ways d_without_ways "without_ways" ["boxes"] 1 qM)(z_zip:mg "zip" = none):
  FnOk P w K mg base CX0 5 f fd ["home", "last", "boxes", "edges", "lacks"] (spD K 5 q0n):=by
 have h:=fnD (P:=P) (w:=w) (mg:=mg) (base:=base) (k:=4) (body:=q2j) F q2m (λcdv A outer s H E hr=>
   (q0 (qT (i:=5) rfl q2m.nd rfl rfl (blk ["edge", "lack"] [] [] rfl ⋯ ⋯ rfl trivial) (q57 rfl z_zip (YG (vD 3) (YG (vD 4) YJ))) (q29 (qq (qj 0) (qq (qj 1) q0i))) (λ_ _ _ _=>⟨(q0S rfl (qr (qd (i:=0) (show ((["edge", "lack"]:List Str)++([]:List Str):List Str).Nodup from by decide +kernel) rfl (Or.inl rfl)) (qr (qd (i:=1) (show ((["edge", "lack"]:List Str)++([]:List Str):List Str).Nodup from by decide +kernel) rfl (Or.inl rfl)) q0r))),(q1g (We hr.units (vV 1) (XD.toV YK))),(XE.toD (Y9 (vV 0) Xe (XJ (XD.toV YK))))⟩))
   (qy 5 (q0 (qT (i:=6) rfl q2m.nd rfl rfl (blk ["edge"] [] [] rfl ⋯ ⋯ rfl trivial) (qo (vD 3)) (qj 0) (λ_ _ _ _=>⟨(qd (i:=0) (show ((["edge"]:List Str)++([]:List Str):List Str).Nodup from by decide +kernel) rfl (Or.inl rfl)),qt,(XE.toD (YN (vV 0) (XD.toV YK)))⟩))
   (qy 6 (qb (qf (xc c_forest hr (YG (vD 6) (YG (XE.toD (qv (XE.toV (qv (XE.toV (xc c_without_ways hr (YG (vD 2) YJ))) (XE.toV (Yt (YG (Yw (YG (vD 0) (YG (vD 1) YJ))) YJ))))) (vV 5))) (YG (vD 3) YJ)))))))))))
 exact h
noncomputable def q1q:FD:=(dOf (YR WA (vOf (YQ qH (YH (dOf (YI 0)) YS))) (vOf (Y4 bAbs (YH (vOf (YI 1)) YS)))))
noncomputable def q1x:FD:=(dOf (YQ qH (YH (dOf (YI 0)) YS)))
noncomputable def q1F:FS:=(Ya (Yo 5 (Yg 2 [] (iZp (YH (dOf (YI 3)) (YH (dOf (YI 4)) YS))) (gT 2 (YT (gN 0) (YT (gN 1) Ys))) Yc q1q))
  (Yp 5 (Ym (YR Yv (vOf (Y4 zAt (YH (vOf (YI 5)) YS))) (vOf (YR WA (fC (.int 2)) (vOf (Y4 zAt (YH (vOf (Yg 1 [] (Yy (dOf (YQ q0n (YH (dOf (YI 0)) (YH (dOf (YI 1)) (YH (dOf (YI 2)) (YH (dOf (YI 3)) (YH (dOf (YI 4)) YS)))))))) (gN 0) Yc q1x)) YS)))))))))
noncomputable def qC:List D->Option O:=mir 6 q1F
noncomputable abbrev q1I:vg:=top 46
theorem q49:FnScope ["home", "last", "boxes", "edges", "lacks", "crossings"] ["home", "last", "boxes", "edges", "lacks"] (YL q1I):=⟨rfl,rfl,rfl,⋯,rfl,⋯,⋯⟩
theorem q6J{f_cost:vC}{d_cost:vK}{f_ring_forest:vC}{d_ring_forest:vK}(F:Fun K "empty_weight" "empty_weight" q1I f fd)(c_cost:Cal P w K mg base 1 f_cost d_cost "cost" ["edge"] 1 qH)(c_ring_forest:Cal P w K mg base 5 f_ring_forest d_ring_forest "ring_forest" ["home", "last", "boxes", "edges", "lacks"] 5 q0n)(z_zip:mg "zip" = none)(z_abs:mg "abs" = none)(z_sum:mg "sum" = none):
  FnOk P w K mg base CX0 6 f fd ["home", "last", "boxes", "edges", "lacks"] (spD K 5 qC):=by
 have h:=fnD (P:=P) (w:=w) (mg:=mg) (base:=base) (k:=5) (body:=q1F) F q49 (λcdv A outer s H E hr=>
   (q0 (qT (i:=5) rfl q49.nd rfl rfl (blk ["edge", "lack"] [] [] rfl ⋯ ⋯ rfl trivial) (q57 rfl z_zip (YG (vD 3) (YG (vD 4) YJ))) (q29 (qq (qj 0) (qq (qj 1) q0i))) (λ_ _ _ _=>⟨(q0S rfl (qr (qd (i:=0) (show ((["edge", "lack"]:List Str)++([]:List Str):List Str).Nodup from by decide +kernel) rfl (Or.inl rfl)) (qr (qd (i:=1) (show ((["edge", "lack"]:List Str)++([]:List Str):List Str).Nodup from by decide +kernel) rfl (Or.inl rfl)) q0r))),qt,(XE.toD (q48 (XE.toV (xc c_cost hr (YG (vD 0) YJ))) (XE.toV (qu q9t qdj rfl z_abs qd7 (qi (vV 1) ql)))))⟩))
   (qy 5 (qb (qf (qv (XE.toV (qu (q3p rfl) q6g rfl z_sum q6d (qi (vV 5) ql))) (XE.toV (q48 (XD.toV YK) (XE.toV (qu (q3p rfl) q6g rfl z_sum q6d (qi (XE.toV (qA rfl (blk ["edge"] [] [] rfl ⋯ ⋯ rfl trivial) (qo (XE.toD (xc c_ring_forest hr (YG (vD 0) (YG (vD 1) (YG (vD 2) (YG (vD 3) (YG (vD 4) YJ)))))))) (qj 0) (λ_ _ _ _=>⟨(qd (i:=0) (show ((["edge"]:List Str)++([]:List Str):List Str).Nodup from by decide +kernel) rfl (Or.inl rfl)),qt,(XE.toD (xc c_cost hr (YG (vD 0) YJ)))⟩))) ql)))))))))))
 exact h
noncomputable def q3f:FD:=(dOf (YQ q00 (YH (dOf (YI 3)) (YH (dOf (YI 0)) (YH (dOf (YI 1)) (YH (dOf (YI 2)) YS))))))
noncomputable def q62:FD:=(dOf (YR Yv (vOf (YI 0)) (vOf (YI 1))))
noncomputable def q4u:FS:=(Ya (Yo 9 (Yg 1 [8] (Yy (dOf (YI 5))) (gN 0) Yc q62))
  (Yp 9 (zAH 7 (X9 (YH (dOf (YI 8)) (YH (dOf (YR Yv (vOf (YI 6)) (vOf (YQ qC (YH (dOf (YI 1)) (YH (dOf (YI 2)) (YH (dOf (YI 3)) (YH (dOf (YI 4)) (YH (dOf (YI 9)) YS))))))))) YS))))))
noncomputable def q74:FS:=(Ya (Yo 4 (eOf (dOf (YQ q0d (YH (dOf (YI 0)) (YH (dOf (YI 1)) (YH (dOf (YI 2)) (YH (dOf (YI 3)) YS))))))))
  (Ya (Yo 5 (eOf (dOf (YQ q0x (YH (dOf (YI 0)) (YH (dOf (YI 1)) (YH (dOf (YI 2)) (YH (dOf (YI 3)) (YH (fC (.int 0)) YS)))))))))
  (Ya (Yo 6 (eOf (dOf (Y4 zAt (YH (vOf (Yg 3 [0] (Yy (dOf (YI 3))) (gT 3 (YT (gN 0) (YT (gN 1) (YT (gN 2) Ys)))) Yc q3f)) YS)))))
  (Ya (Yo 7 (X3 YS))
  (Ya (WB (iRg2 (YH (vOf (YR Wk (vOf (zAy (fC (.int 1)))) (vOf (Y4 bMax (YH (vOf (YI 5)) YS))))) (YH (vOf (YR Wk (fC (.int 2)) (vOf (Y4 bMin (YH (vOf (YI 5)) YS))))) YS))) (gN 8) q4u)
  (WD 7))))))
noncomputable def q2x:List D->Option O:=mir 10 q74
noncomputable abbrev q79:vg:=top 47
theorem q1D:FnScope ["size", "home", "last", "boxes", "edges", "bare", "loaded", "told", "c", "lacks"] ["size", "home", "last", "boxes"] (YL q79):=⟨rfl,rfl,rfl,⋯,rfl,⋯,⋯⟩
theorem qf1{f_ring_edges:vC}{d_ring_edges:vK}{f_ring_lacks:vC}{d_ring_lacks:vK}{f_steps:vC}{d_steps:vK}{f_empty_weight:vC}{d_empty_weight:vK}(F:Fun K "turns" "turns" q79 f fd)(c_ring_edges:Cal P w K mg base 7 f_ring_edges d_ring_edges "ring_edges" ["size", "home", "last", "boxes"] 4 q0d)(c_ring_lacks:Cal P w K mg base 7 f_ring_lacks d_ring_lacks "ring_lacks" ["size", "home", "last", "boxes", "c"] 5 q0x)(c_steps:Cal P w K mg base 1 f_steps d_steps "steps" ["size", "start", "goal", "way"] 4 q00)(c_empty_weight:Cal P w K mg base 6 f_empty_weight d_empty_weight "empty_weight" ["home", "last", "boxes", "edges", "lacks"] 5 qC)(z_sum:mg "sum" = none)(z_min:mg "min" = none)(z_max:mg "max" = none)(z_range:mg "range" = none):
  FnOk P w K mg base CX0 8 f fd ["size", "home", "last", "boxes"] (spD K 4 q2x):=by
 have h:=fnD (P:=P) (w:=w) (mg:=mg) (base:=base) (k:=7) (body:=q74) F q1D (λcdv A outer s H E hr=>
   (q0 (qm (i:=4) q1D.nd rfl (Or.inl rfl) (XD.toE (XE.toD (xc c_ring_edges hr (YG (vD 0) (YG (vD 1) (YG (vD 2) (YG (vD 3) YJ))))))))
   (q0 (qm (i:=5) q1D.nd rfl (Or.inl rfl) (XD.toE (XE.toD (xc c_ring_lacks hr (YG (vD 0) (YG (vD 1) (YG (vD 2) (YG (vD 3) (YG YK YJ)))))))))
   (q0 (qm (i:=6) q1D.nd rfl (Or.inl rfl) (XD.toE (XE.toD (qu (q3p rfl) q6g rfl z_sum q6d (qi (XE.toV (qA rfl (blk ["start", "goal", "way"] ["size"] [0] rfl ⋯ ⋯ rfl ⟨⟨rfl,(by first|exact Or.inl rfl|exact Or.inr rfl),rfl⟩,trivial⟩) (qo (vD 3)) (q29 (qq (qj 0) (qq (qj 1) (qq (qj 2) q0i)))) (λ_ _ _ _=>⟨(q0S rfl (qr (qd (i:=0) (show ((["start", "goal", "way"]:List Str)++(["size"]:List Str):List Str).Nodup from by decide +kernel) rfl (Or.inl rfl)) (qr (qd (i:=1) (show ((["start", "goal", "way"]:List Str)++(["size"]:List Str):List Str).Nodup from by decide +kernel) rfl (Or.inl rfl)) (qr (qd (i:=2) (show ((["start", "goal", "way"]:List Str)++(["size"]:List Str):List Str).Nodup from by decide +kernel) rfl (Or.inl rfl)) q0r)))),qt,(XE.toD (xc c_steps hr (YG (vD 3) (YG (vD 0) (YG (vD 1) (YG (vD 2) YJ))))))⟩))) ql)))))
   (q0 (qm (i:=7) q1D.nd rfl (Or.inl rfl) (Yt YJ))
   (q0 (q0f PassesOwn.never rfl (qcH rfl z_range (qi (XE.toV (q0R (XE.toV (q6L (XD.toV YK))) (XE.toV (qu (q7I rfl) qd4 rfl z_max qdp (qi (vV 5) ql))))) (qi (XE.toV (q0R (XD.toV YK) (XE.toV (qu (q7T rfl) qdX rfl z_min qdb (qi (vV 5) ql))))) ql))) (qd (i:=8) q1D.nd rfl (Or.inr rfl)) (q0 (qT (i:=9) rfl q1D.nd rfl rfl (blk ["lack"] ["c"] [8] rfl ⋯ ⋯ rfl ⟨⟨rfl,(by first|exact Or.inl rfl|exact Or.inr rfl),rfl⟩,trivial⟩) (qo (vD 5)) (qj 0) (λ_ _ _ _=>⟨(qd (i:=0) (show ((["lack"]:List Str)++(["c"]:List Str):List Str).Nodup from by decide +kernel) rfl (Or.inl rfl)),qt,(XE.toD (qv (vV 0) (vV 1)))⟩))
   (qy 9 (qb (q2B (pv 7) (Yw (YG (vD 8) (YG (XE.toD (qv (vV 6) (XE.toV (xc c_empty_weight hr (YG (vD 1) (YG (vD 2) (YG (vD 3) (YG (vD 4) (YG (vD 9) YJ))))))))) YJ))))))))
   (qb (q5s (pv 7)))))))))
 exact h
noncomputable def q4z:FD:=(dOf (YI 1))
noncomputable def q3c:FS:=(Ym (Y4 bMin (YH (vOf (Yg 2 [] (Yy (dOf (YQ q2x (YH (dOf (YI 0)) (YH (dOf (YI 1)) (YH (dOf (YI 2)) (YH (dOf (YI 3)) YS))))))) (gT 2 (YT (gN 0) (YT (gN 1) Ys))) Yc q4z)) YS)))
noncomputable def qU:List D->Option O:=mir 4 q3c
noncomputable abbrev q2M:vg:=top 48
theorem q9T:FnScope ["size", "home", "last", "boxes"] ["size", "home", "last", "boxes"] (YL q2M):=⟨rfl,rfl,rfl,⋯,rfl,⋯,⋯⟩
theorem q85{f_turns:vC}{d_turns:vK}(F:Fun K "ring_least" "ring_least" q2M f fd)(c_turns:Cal P w K mg base 8 f_turns d_turns "turns" ["size", "home", "last", "boxes"] 4 q2x)(z_min:mg "min" = none):
  FnOk P w K mg base CX0 9 f fd ["size", "home", "last", "boxes"] (spD K 4 qU):=by
 have h:=fnD (P:=P) (w:=w) (mg:=mg) (base:=base) (k:=8) (body:=q3c) F q9T (λcdv A outer s H E hr=>
   (qb (qf (qu (q7T rfl) qdX rfl z_min qdb (qi (XE.toV (qA rfl (blk ["c", "weight"] [] [] rfl ⋯ ⋯ rfl trivial) (qo (XE.toD (xc c_turns hr (YG (vD 0) (YG (vD 1) (YG (vD 2) (YG (vD 3) YJ))))))) (q29 (qq (qj 0) (qq (qj 1) q0i))) (λ_ _ _ _=>⟨(q0S rfl (qr (qd (i:=0) (show ((["c", "weight"]:List Str)++([]:List Str):List Str).Nodup from by decide +kernel) rfl (Or.inl rfl)) (qr (qd (i:=1) (show ((["c", "weight"]:List Str)++([]:List Str):List Str).Nodup from by decide +kernel) rfl (Or.inl rfl)) q0r))),qt,(vD 1)⟩))) ql)))))
 exact h
noncomputable def q2D:FD:=(dOf (YQ qp (YH (dOf (YI 0)) YS)))
noncomputable def q1Z:FS:=(Ym (Y4 X1 (YH (vOf (Yg 1 [] (Yy (dOf (YI 0))) (gN 0) Yc q2D)) YS)))
noncomputable def qP:List D->Option O:=mir 1 q1Z
noncomputable abbrev q3z:vg:=top 50
theorem qa7:FnScope ["parts"] ["parts"] (YL q3z):=⟨rfl,rfl,rfl,⋯,rfl,⋯,⋯⟩
theorem q9z{f_is_whole:vC}{d_is_whole:vK}(F:Fun K "all_whole" "all_whole" q3z f fd)(c_is_whole:Cal P w K mg base 1 f_is_whole d_is_whole "is_whole" ["thing"] 1 qp)(z_all:mg "all" = none):
  FnOk P w K mg base CX0 2 f fd ["parts"] (spD K 1 qP):=by
 have h:=fnD (P:=P) (w:=w) (mg:=mg) (base:=base) (k:=1) (body:=q1Z) F qa7 (λcdv A outer s H E hr=>
   (qb (qf (qu (q0j rfl) q25 rfl z_all q23 (qi (XE.toV (qA rfl (blk ["part"] [] [] rfl ⋯ ⋯ rfl trivial) (qo (vD 0)) (qj 0) (λ_ _ _ _=>⟨(qd (i:=0) (show ((["part"]:List Str)++([]:List Str):List Str).Nodup from by decide +kernel) rfl (Or.inl rfl)),qt,(XE.toD (xc c_is_whole hr (YG (vD 0) YJ)))⟩))) ql)))))
 exact h
noncomputable def q2N:FD:=(dOf (YR Yv (vOf (YI 0)) (vOf (YQ q0h (YH (dOf (YI 1)) (YH (dOf (YI 0)) YS))))))
noncomputable def q3x:FS:=(Ym (Yg 1 [2] (Yy (dOf (YQ q0t (YH (dOf (YI 0)) (YH (dOf (YI 1)) (YH (dOf (YI 2)) YS)))))) (gN 0) Yc q2N))
noncomputable def q06:List D->Option O:=mir 3 q3x
noncomputable abbrev q3G:vg:=top 51
theorem qaC:FnScope ["home", "last", "boxes"] ["home", "last", "boxes"] (YL q3G):=⟨rfl,rfl,rfl,⋯,rfl,⋯,⋯⟩
theorem q8Y{f_gaps:vC}{d_gaps:vK}{f_crossed:vC}{d_crossed:vK}(F:Fun K "counts_of" "counts_of" q3G f fd)(c_gaps:Cal P w K mg base 6 f_gaps d_gaps "gaps" ["home", "last", "boxes"] 3 q0t)(c_crossed:Cal P w K mg base 2 f_crossed d_crossed "crossed" ["boxes", "gap"] 2 q0h):
  FnOk P w K mg base CX0 7 f fd ["home", "last", "boxes"] (spD K 3 q06):=by
 have h:=fnD (P:=P) (w:=w) (mg:=mg) (base:=base) (k:=6) (body:=q3x) F qaC (λcdv A outer s H E hr=>
   (qb (qf (qA rfl (blk ["gap"] ["boxes"] [2] rfl ⋯ ⋯ rfl ⟨⟨rfl,(by first|exact Or.inl rfl|exact Or.inr rfl),rfl⟩,trivial⟩) (qo (XE.toD (xc c_gaps hr (YG (vD 0) (YG (vD 1) (YG (vD 2) YJ)))))) (qj 0) (λ_ _ _ _=>⟨(qd (i:=0) (show ((["gap"]:List Str)++(["boxes"]:List Str):List Str).Nodup from by decide +kernel) rfl (Or.inl rfl)),qt,(XE.toD (qv (vV 0) (XE.toV (xc c_crossed hr (YG (vD 1) (YG (vD 0) YJ))))))⟩)))))
 exact h
noncomputable def q2h:FD:=(dOf (YQ qP (YH (dOf (YI 0)) YS)))
noncomputable def q2F:FS:=(Ym (eOf (X5 (dOf (YR (oEq false) (vOf (YI 0)) (vOf (YI 1)))) (dOf (Y4 X1 (YH (vOf (Yg 1 [] (Yy (dOf (YI 0))) (gN 0) Yc q2h)) YS))))))
noncomputable def q0y:List D->Option O:=mir 2 q2F
noncomputable abbrev q3g:vg:=top 52
theorem q9O:FnScope ["thing", "wanted"] ["thing", "wanted"] (YL q3g):=⟨rfl,rfl,rfl,⋯,rfl,⋯,⋯⟩
theorem q8b{f_all_whole:vC}{d_all_whole:vK}(F:Fun K "are_counts" "are_counts" q3g f fd)(c_all_whole:Cal P w K mg base 2 f_all_whole d_all_whole "all_whole" ["parts"] 1 qP)(z_all:mg "all" = none):
  FnOk P w K mg base CX0 3 f fd ["thing", "wanted"] (spD K 2 q0y):=by
 have h:=fnD (P:=P) (w:=w) (mg:=mg) (base:=base) (k:=2) (body:=q2F) F q9O (λcdv A outer s H E hr=>
   (qb (qf (XD.toE (qX (XE.toD (Wn hr.units (vV 0) (vV 1))) (q0V (XE.toD (qu (q0j rfl) q25 rfl z_all q23 (qi (XE.toV (qA rfl (blk ["count"] [] [] rfl ⋯ ⋯ rfl trivial) (qo (vD 0)) (qj 0) (λ_ _ _ _=>⟨(qd (i:=0) (show ((["count"]:List Str)++([]:List Str):List Str).Nodup from by decide +kernel) rfl (Or.inl rfl)),qt,(XE.toD (xc c_all_whole hr (YG (vD 0) YJ)))⟩))) ql)))))))))
 exact h
noncomputable def q4m:FS:=(Ym (eOf (X5 (dOf (WZ .lst (vOf (YI 0)))) (X5 (dOf (YR oGt (vOf (Y4 WG (YH (vOf (YI 0)) YS))) (fC (.int 0)))) (dOf (YQ qP (YH (dOf (YI 0)) YS)))))))
noncomputable def q1s:List D->Option O:=mir 1 q4m
noncomputable abbrev q4i:vg:=top 53
theorem qc2:FnScope ["thing"] ["thing"] (YL q4i):=⟨rfl,rfl,rfl,⋯,rfl,⋯,⋯⟩
theorem qaz{f_all_whole:vC}{d_all_whole:vK}(F:Fun K "is_group" "is_group" q4i f fd)(c_all_whole:Cal P w K mg base 2 f_all_whole d_all_whole "all_whole" ["parts"] 1 qP)(z_len:mg "len" = none)(z_isinstance:mg "isinstance" = none)(z_list:mg "list" = none)(i_list:IsT K .lst):
  FnOk P w K mg base CX0 3 f fd ["thing"] (spD K 1 q1s):=by
 have h:=fnD (P:=P) (w:=w) (mg:=mg) (base:=base) (k:=2) (body:=q4m) F qc2 (λcdv A outer s H E hr=>
   (qb (qf (XD.toE (qX (XE.toD (q0A (vV 0) i_list rfl z_isinstance rfl z_list q1j)) (qX (XE.toD (qja (XE.toV (qu qB q0F rfl z_len q0I (qi (vV 0) ql))) (XD.toV YK))) (q0V (XE.toD (xc c_all_whole hr (YG (vD 0) YJ))))))))))
 exact h
noncomputable def q2n:FD:=(dOf (YQ q1s (YH (dOf (YI 0)) YS)))
noncomputable def q2d:FS:=(sExt 2 (dOf (YI 3)))
noncomputable def q3e:FS:=(Ya (sIf (Wg (Yz (XX (vOf (WZ .lst (vOf (YI 0)))))) (Yz (XX (vOf (Y4 X1 (YH (vOf (Yg 1 [] (Yy (dOf (YI 0))) (gN 0) Yc q2n)) YS)))))) (Ym (eOf (fC (.bl false)))) Xq)
  (Ya (Yo 2 (X3 YS))
  (Ya (WB (Yy (dOf (YI 0))) (gN 3) q2d)
  (Ym (YR (oEq false) (vOf (WN (vOf (YI 2)))) (vOf (YI 1)))))))
noncomputable def q0D:List D->Option O:=mir 4 q3e
noncomputable abbrev q36:vg:=top 54
theorem q2E:FnScope ["thing", "places", "grouped", "part"] ["thing", "places"] (YL q36):=⟨rfl,rfl,rfl,⋯,rfl,⋯,⋯⟩
theorem q8i{f_is_group:vC}{d_is_group:vK}(F:Fun K "are_groups" "are_groups" q36 f fd)(c_is_group:Cal P w K mg base 3 f_is_group d_is_group "is_group" ["thing"] 1 q1s)(z_all:mg "all" = none)(z_isinstance:mg "isinstance" = none)(z_list:mg "list" = none)(z_sorted:mg "sorted" = none)(i_list:IsT K .lst):
  FnOk P w K mg base CX0 4 f fd ["thing", "places"] (spD K 2 q0D):=by
 have h:=fnD (P:=P) (w:=w) (mg:=mg) (base:=base) (k:=3) (body:=q3e) F q2E (λcdv A outer s H E hr=>
   (q0 (qZ (XW.toT (q20 (qK (qz (XE.toV (q0A (vV 0) i_list rfl z_isinstance rfl z_list q1j)))) (q2H (qK (qz (XE.toV (qu (q0j rfl) q25 rfl z_all q23 (qi (XE.toV (qA rfl (blk ["part"] [] [] rfl ⋯ ⋯ rfl trivial) (qo (vD 0)) (qj 0) (λ_ _ _ _=>⟨(qd (i:=0) (show ((["part"]:List Str)++([]:List Str):List Str).Nodup from by decide +kernel) rfl (Or.inl rfl)),qt,(XE.toD (xc c_is_group hr (YG (vD 0) YJ)))⟩))) ql)))))))) (qb (qf (XD.toE XZ))) qE)
   (q0 (qm (i:=2) q2E.nd rfl (Or.inl rfl) (Yt YJ))
   (q0 (q0f PassesOwn.never rfl (qo (vD 0)) (qd (i:=3) q2E.nd rfl (Or.inl rfl)) (qb (qcX (pv 2) (vD 3))))
   (qb (qf (Wn hr.units (XE.toV (qbO rfl z_sorted (vV 2))) (vV 1))))))))
 exact h
noncomputable def q0L:FD:=(dOf (YR (oEq false) (vOf (Xx 1 (dOf (YR oIx (vOf (YI 0)) (fC (.int 0)))))) (vOf (Xx 1 (dOf (YR oIx (vOf (YI 0)) (fC (.int 1))))))))
noncomputable def q19:FS:=(Ya (Yo 2 (eOf (dOf (YQ qD (YH (dOf (YI 0)) YS)))))
  (Ym (Y4 X1 (YH (vOf (Yg 1 [2] (Yy (dOf (YI 1))) (gN 0) Yc q0L)) YS))))
noncomputable def qV:List D->Option O:=mir 3 q19
noncomputable abbrev q18:vg:=top 55
theorem q35:FnScope ["parts", "ties", "numbers"] ["parts", "ties"] (YL q18):=⟨rfl,rfl,rfl,⋯,rfl,⋯,⋯⟩
theorem q5v{f_group_numbers:vC}{d_group_numbers:vK}(F:Fun K "holds_together" "holds_together" q18 f fd)(c_group_numbers:Cal P w K mg base 1 f_group_numbers d_group_numbers "group_numbers" ["parts"] 1 qD)(z_all:mg "all" = none):
  FnOk P w K mg base CX0 2 f fd ["parts", "ties"] (spD K 2 qV):=by
 have h:=fnD (P:=P) (w:=w) (mg:=mg) (base:=base) (k:=1) (body:=q19) F q35 (λcdv A outer s H E hr=>
   (q0 (qm (i:=2) q35.nd rfl (Or.inr rfl) (XD.toE (XE.toD (xc c_group_numbers hr (YG (vD 0) YJ)))))
   (qb (qf (qu (q0j rfl) q25 rfl z_all q23 (qi (XE.toV (qA rfl (blk ["tie"] ["numbers"] [2] rfl ⋯ ⋯ rfl ⟨⟨rfl,(by first|exact Or.inl rfl|exact Or.inr rfl),rfl⟩,trivial⟩) (qo (vD 1)) (qj 0) (λ_ _ _ _=>⟨(qd (i:=0) (show ((["tie"]:List Str)++(["numbers"]:List Str):List Str).Nodup from by decide +kernel) rfl (Or.inl rfl)),qt,(XE.toD (Wn hr.units (XE.toV (q1N hr.units (pv 1) (XE.toD (YN (vV 0) (XD.toV YK))))) (XE.toV (q1N hr.units (pv 1) (XE.toD (YN (vV 0) (XD.toV YK)))))))⟩))) ql))))))
 exact h
noncomputable def q3H:FT:=(tOf (YR oLt (vOf (YQ qH (YH (dOf (YI 0)) YS))) (vOf (YR oIx (vOf (YI 1)) (fC (.int 0))))))
noncomputable def q3N:FD:=(dOf (YI 0))
noncomputable def q4d:FS:=(Ya (sIf (Wg (Yz (XX (vOf (WZ .tup (vOf (YI 0)))))) (Wg (tOf (YR (oEq true) (vOf (Y4 WG (YH (vOf (YI 0)) YS))) (fC (.int 2)))) (Yz (XX (vOf (YQ qp (YH (dOf (YR oIx (vOf (YI 0)) (fC (.int 0)))) YS))))))) (Ym (eOf (fC (.bl false)))) Xq)
  (Ya (sIf (Yz (XX (vOf (YQ q0D (YH (dOf (YR oIx (vOf (YI 0)) (fC (.int 1)))) (YH (dOf (YI 1)) YS)))))) (Ym (eOf (fC (.bl false)))) Xq)
  (Ya (Yo 4 (Yg 1 [0] (Yy (dOf (YI 3))) (gN 0) q3H q3N))
  (Yp 4 (Ym (YQ qV (YH (dOf (YR oIx (vOf (YI 0)) (fC (.int 1)))) (YH (dOf (YR Yv (vOf (YI 2)) (vOf (YI 4)))) YS))))))))
noncomputable def q1w:List D->Option O:=mir 5 q4d
noncomputable abbrev q4k:vg:=top 56
theorem q6v:FnScope ["thing", "places", "ties", "edges", "shorter"] ["thing", "places", "ties", "edges"] (YL q4k):=⟨rfl,rfl,rfl,⋯,rfl,⋯,⋯⟩
theorem qaj{f_is_whole:vC}{d_is_whole:vK}{f_are_groups:vC}{d_are_groups:vK}{f_cost:vC}{d_cost:vK}{f_holds_together:vC}{d_holds_together:vK}(F:Fun K "is_level" "is_level" q4k f fd)(c_is_whole:Cal P w K mg base 1 f_is_whole d_is_whole "is_whole" ["thing"] 1 qp)(c_are_groups:Cal P w K mg base 4 f_are_groups d_are_groups "are_groups" ["thing", "places"] 2 q0D)(c_cost:Cal P w K mg base 1 f_cost d_cost "cost" ["edge"] 1 qH)(c_holds_together:Cal P w K mg base 2 f_holds_together d_holds_together "holds_together" ["parts", "ties"] 2 qV)(z_len:mg "len" = none)(z_isinstance:mg "isinstance" = none)(z_tuple:mg "tuple" = none)(i_tuple:IsT K .tup):
  FnOk P w K mg base CX0 5 f fd ["thing", "places", "ties", "edges"] (spD K 4 q1w):=by
 have h:=fnD (P:=P) (w:=w) (mg:=mg) (base:=base) (k:=4) (body:=q4d) F q6v (λcdv A outer s H E hr=>
   (q0 (qZ (XW.toT (q20 (qK (qz (XE.toV (q0A (vV 0) i_tuple rfl z_isinstance rfl z_tuple q4f)))) (q20 (We hr.units (XE.toV (qu qB q0F rfl z_len q0I (qi (vV 0) ql))) (XD.toV YK)) (q2H (qK (qz (XE.toV (xc c_is_whole hr (YG (XE.toD (YN (vV 0) (XD.toV YK))) YJ))))))))) (qb (qf (XD.toE XZ))) qE)
   (q0 (qZ (qK (qz (XE.toV (xc c_are_groups hr (YG (XE.toD (YN (vV 0) (XD.toV YK))) (YG (vD 1) YJ)))))) (qb (qf (XD.toE XZ))) qE)
   (q0 (qT (i:=4) rfl q6v.nd rfl rfl (blk ["edge"] ["thing"] [0] rfl ⋯ ⋯ rfl ⟨⟨rfl,(by first|exact Or.inl rfl|exact Or.inr rfl),rfl⟩,trivial⟩) (qo (vD 3)) (qj 0) (λ_ _ _ _=>⟨(qd (i:=0) (show ((["edge"]:List Str)++(["thing"]:List Str):List Str).Nodup from by decide +kernel) rfl (Or.inl rfl)),(q1g (q8l (XE.toV (xc c_cost hr (YG (vD 0) YJ))) (XE.toV (YN (vV 1) (XD.toV YK))))),(vD 0)⟩))
   (qy 4 (qb (qf (xc c_holds_together hr (YG (XE.toD (YN (vV 0) (XD.toV YK))) (YG (XE.toD (qv (vV 2) (vV 4))) YJ))))))))))
 exact h
noncomputable def q1c:FD:=(dOf (YR oLt (vOf (YI 0)) (vOf (YI 1))))
noncomputable def q1o:FS:=(Ym (Y4 X1 (YH (vOf (Yg 2 [] (iZp (YH (dOf (YR Yv (vOf (X3 (YH (fC (.int 0)) YS))) (vOf (YI 0)))) (YH (dOf (YI 0)) YS))) (gT 2 (YT (gN 0) (YT (gN 1) Ys))) Yc q1c)) YS)))
noncomputable def q04:List D->Option O:=mir 1 q1o
noncomputable abbrev q1u:vg:=top 57
theorem q6q:FnScope ["bounds"] ["bounds"] (YL q1u):=⟨rfl,rfl,rfl,⋯,rfl,⋯,⋯⟩
theorem q5M (F:Fun K "rise_from_one" "rise_from_one" q1u f fd)(z_zip:mg "zip" = none)(z_all:mg "all" = none):
  FnOk P w K mg base CX0 1 f fd ["bounds"] (spD K 1 q04):=by
 have h:=fnD (P:=P) (w:=w) (mg:=mg) (base:=base) (k:=0) (body:=q1o) F q6q (λcdv A outer s H E hr=>
   (qb (qf (qu (q0j rfl) q25 rfl z_all q23 (qi (XE.toV (qA rfl (blk ["ahead", "bound"] [] [] rfl ⋯ ⋯ rfl trivial) (q57 rfl z_zip (YG (XE.toD (qv (XE.toV (Yt (YG YK YJ))) (vV 0))) (YG (vD 0) YJ))) (q29 (qq (qj 0) (qq (qj 1) q0i))) (λ_ _ _ _=>⟨(q0S rfl (qr (qd (i:=0) (show ((["ahead", "bound"]:List Str)++([]:List Str):List Str).Nodup from by decide +kernel) rfl (Or.inl rfl)) (qr (qd (i:=1) (show ((["ahead", "bound"]:List Str)++([]:List Str):List Str).Nodup from by decide +kernel) rfl (Or.inl rfl)) q0r))),qt,(XE.toD (qcn (vV 0) (vV 1)))⟩))) ql)))))
 exact h
noncomputable def q2k:FD:=(dOf (YQ q1w (YH (dOf (YI 0)) (YH (dOf (YI 1)) (YH (dOf (YI 2)) (YH (dOf (YI 3)) YS))))))
noncomputable def q2i:FD:=(dOf (YR oIx (vOf (YI 0)) (fC (.int 0))))
noncomputable def q2C:FS:=(Ya (sIf (Yz (XX (vOf (WZ .lst (vOf (YI 3)))))) (Ym (eOf (fC (.bl false)))) Xq)
  (Ya (Yo 4 (eOf (dOf (YQ q0e (YH (dOf (YI 0)) (YH (dOf (YI 1)) (YH (dOf (YI 2)) YS)))))))
  (Ya (Yo 5 (eOf (dOf (YQ q1Q (YH (dOf (YI 0)) (YH (dOf (YI 1)) (YH (dOf (YI 2)) YS)))))))
  (Ya (Yo 6 (eOf (dOf (YQ q0a (YH (dOf (YI 0)) (YH (dOf (YI 1)) (YH (dOf (YI 2)) YS)))))))
  (Ya (sIf (Yz (XX (vOf (Y4 X1 (YH (vOf (Yg 1 [4,5,6] (Yy (dOf (YI 3))) (gN 0) Yc q2k)) YS))))) (Ym (eOf (fC (.bl false)))) Xq)
  (Ym (YQ q04 (YH (dOf (Yg 1 [] (Yy (dOf (YI 3))) (gN 0) Yc q2i)) YS))))))))
noncomputable def q0w:List D->Option O:=mir 7 q2C
noncomputable abbrev q2T:vg:=top 58
theorem q1y:FnScope ["home", "last", "boxes", "thing", "places", "ties", "edges"] ["home", "last", "boxes", "thing"] (YL q2T):=⟨rfl,rfl,rfl,⋯,rfl,⋯,⋯⟩
theorem q89{f_stops:vC}{d_stops:vK}{f_knots:vC}{d_knots:vK}{f_gap_edges:vC}{d_gap_edges:vK}{f_is_level:vC}{d_is_level:vK}{f_rise_from_one:vC}{d_rise_from_one:vK}(F:Fun K "are_levels" "are_levels" q2T f fd)(c_stops:Cal P w K mg base 5 f_stops d_stops "stops" ["home", "last", "boxes"] 3 q0e)(c_knots:Cal P w K mg base 8 f_knots d_knots "knots" ["home", "last", "boxes"] 3 q1Q)(c_gap_edges:Cal P w K mg base 7 f_gap_edges d_gap_edges "gap_edges" ["home", "last", "boxes"] 3 q0a)(c_is_level:Cal P w K mg base 5 f_is_level d_is_level "is_level" ["thing", "places", "ties", "edges"] 4 q1w)(c_rise_from_one:Cal P w K mg base 1 f_rise_from_one d_rise_from_one "rise_from_one" ["bounds"] 1 q04)(z_isinstance:mg "isinstance" = none)(z_list:mg "list" = none)(z_all:mg "all" = none)(i_list:IsT K .lst):
  FnOk P w K mg base CX0 9 f fd ["home", "last", "boxes", "thing"] (spD K 4 q0w):=by
 have h:=fnD (P:=P) (w:=w) (mg:=mg) (base:=base) (k:=8) (body:=q2C) F q1y (λcdv A outer s H E hr=>
   (q0 (qZ (qK (qz (XE.toV (q0A (vV 3) i_list rfl z_isinstance rfl z_list q1j)))) (qb (qf (XD.toE XZ))) qE)
   (q0 (qm (i:=4) q1y.nd rfl (Or.inr rfl) (XD.toE (XE.toD (xc c_stops hr (YG (vD 0) (YG (vD 1) (YG (vD 2) YJ)))))))
   (q0 (qm (i:=5) q1y.nd rfl (Or.inr rfl) (XD.toE (XE.toD (xc c_knots hr (YG (vD 0) (YG (vD 1) (YG (vD 2) YJ)))))))
   (q0 (qm (i:=6) q1y.nd rfl (Or.inr rfl) (XD.toE (XE.toD (xc c_gap_edges hr (YG (vD 0) (YG (vD 1) (YG (vD 2) YJ)))))))
   (q0 (qZ (qK (qz (XE.toV (qu (q0j rfl) q25 rfl z_all q23 (qi (XE.toV (qA rfl (blk ["level"] ["places", "ties", "edges"] [4,5,6] rfl ⋯ ⋯ rfl ⟨⟨rfl,(by first|exact Or.inl rfl|exact Or.inr rfl),rfl⟩,⟨⟨rfl,(by first|exact Or.inl rfl|exact Or.inr rfl),rfl⟩,⟨⟨rfl,(by first|exact Or.inl rfl|exact Or.inr rfl),rfl⟩,trivial⟩⟩⟩) (qo (vD 3)) (qj 0) (λ_ _ _ _=>⟨(qd (i:=0) (show ((["level"]:List Str)++(["places", "ties", "edges"]:List Str):List Str).Nodup from by decide +kernel) rfl (Or.inl rfl)),qt,(XE.toD (xc c_is_level hr (YG (vD 0) (YG (vD 1) (YG (vD 2) (YG (vD 3) YJ))))))⟩))) ql))))) (qb (qf (XD.toE XZ))) qE)
   (qb (qf (xc c_rise_from_one hr (YG (XE.toD (qA rfl (blk ["level"] [] [] rfl ⋯ ⋯ rfl trivial) (qo (vD 3)) (qj 0) (λ_ _ _ _=>⟨(qd (i:=0) (show ((["level"]:List Str)++([]:List Str):List Str).Nodup from by decide +kernel) rfl (Or.inl rfl)),qt,(XE.toD (YN (vV 0) (XD.toV YK)))⟩))) YJ))))))))))
 exact h
noncomputable def q3D:FS:=(Ya (W1 (YQ qL (YH (dOf (YI 0)) (YH (dOf (YI 1)) (YH (dOf (YI 2)) YS)))))
  (Ya (sIf (Wg (Yz (XX (vOf (WZ .tup (vOf (YI 3)))))) (tOf (YR (oEq true) (vOf (Y4 WG (YH (vOf (YI 3)) YS))) (fC (.int 2))))) (Ym (eOf (fC (.bl false)))) Xq)
  (Ym (eOf (X5 (dOf (YQ q0y (YH (dOf (YR oIx (vOf (YI 3)) (fC (.int 0)))) (YH (dOf (YQ q06 (YH (dOf (YI 0)) (YH (dOf (YI 1)) (YH (dOf (YI 2)) YS))))) YS)))) (dOf (YQ q0w (YH (dOf (YI 0)) (YH (dOf (YI 1)) (YH (dOf (YI 2)) (YH (dOf (YR oIx (vOf (YI 3)) (fC (.int 1)))) YS)))))))))))
noncomputable def q0T:List D->Option O:=mir 4 q3D
noncomputable abbrev q3B:vg:=top 59
theorem qar:FnScope ["home", "last", "boxes", "thing"] ["home", "last", "boxes", "thing"] (YL q3B):=⟨rfl,rfl,rfl,⋯,rfl,⋯,⋯⟩
theorem q9s{f_check_errand:vC}{d_check_errand:vK}{f_are_levels:vC}{d_are_levels:vK}{f_are_counts:vC}{d_are_counts:vK}{f_counts_of:vC}{d_counts_of:vK}(F:Fun K "is_reason" "is_reason" q3B f fd)(c_check_errand:Cal P w K mg base 4 f_check_errand d_check_errand "check_errand" ["home", "last", "boxes"] 3 qL)(c_are_levels:Cal P w K mg base 9 f_are_levels d_are_levels "are_levels" ["home", "last", "boxes", "thing"] 4 q0w)(c_are_counts:Cal P w K mg base 3 f_are_counts d_are_counts "are_counts" ["thing", "wanted"] 2 q0y)(c_counts_of:Cal P w K mg base 7 f_counts_of d_counts_of "counts_of" ["home", "last", "boxes"] 3 q06)(z_len:mg "len" = none)(z_isinstance:mg "isinstance" = none)(z_tuple:mg "tuple" = none)(i_tuple:IsT K .tup):
  FnOk P w K mg base CX0 10 f fd ["home", "last", "boxes", "thing"] (spD K 4 q0T):=by
 have h:=fnD (P:=P) (w:=w) (mg:=mg) (base:=base) (k:=9) (body:=q3D) F qar (λcdv A outer s H E hr=>
   (q0 (q7j (xc c_check_errand hr (YG (vD 0) (YG (vD 1) (YG (vD 2) YJ)))))
   (q0 (qZ (XW.toT (q20 (qK (qz (XE.toV (q0A (vV 3) i_tuple rfl z_isinstance rfl z_tuple q4f)))) (q2H (We hr.units (XE.toV (qu qB q0F rfl z_len q0I (qi (vV 3) ql))) (XD.toV YK))))) (qb (qf (XD.toE XZ))) qE)
   (qb (qf (XD.toE (qX (XE.toD (xc c_are_counts hr (YG (XE.toD (YN (vV 3) (XD.toV YK))) (YG (XE.toD (xc c_counts_of hr (YG (vD 0) (YG (vD 1) (YG (vD 2) YJ))))) YJ)))) (q0V (XE.toD (xc c_are_levels hr (YG (vD 0) (YG (vD 1) (YG (vD 2) (YG (XE.toD (YN (vV 3) (XD.toV YK))) YJ))))))))))))))
 exact h
noncomputable def q2U:FS:=(Ym (YR WA (vOf (YR Wk (vOf (YR oIx (vOf (YI 0)) (fC (.int 1)))) (vOf (YR oIx (vOf (YI 0)) (fC (.int 0)))))) (vOf (YR Yv (vOf (YR Yv (vOf (YR oIx (vOf (YI 0)) (fC (.int 2)))) (vOf (YR oIx (vOf (YI 0)) (fC (.int 3)))))) (vOf (Y4 bAbs (YH (vOf (YI 1)) YS)))))))
noncomputable def q0E:List D->Option O:=mir 2 q2U
noncomputable abbrev q33:vg:=top 60
theorem q8K:FnScope ["count", "lack"] ["count", "lack"] (YL q33):=⟨rfl,rfl,rfl,⋯,rfl,⋯,⋯⟩
theorem q84 (F:Fun K "gap_weight" "gap_weight" q33 f fd)(z_abs:mg "abs" = none):
  FnOk P w K mg base CX0 1 f fd ["count", "lack"] (spD K 2 q0E):=by
 have h:=fnD (P:=P) (w:=w) (mg:=mg) (base:=base) (k:=0) (body:=q2U) F q8K (λcdv A outer s H E hr=>
   (qb (qf (q48 (XE.toV (q0R (XE.toV (YN (vV 0) (XD.toV YK))) (XE.toV (YN (vV 0) (XD.toV YK))))) (XE.toV (qv (XE.toV (qv (XE.toV (YN (vV 0) (XD.toV YK))) (XE.toV (YN (vV 0) (XD.toV YK))))) (XE.toV (qu q9t qdj rfl z_abs qd7 (qi (vV 1) ql)))))))))
 exact h
noncomputable def q4I:FD:=(dOf (YQ q0E (YH (dOf (YI 0)) (YH (dOf (YI 1)) YS))))
noncomputable def q6b:FS:=(Ya (sIf (Yz (XX (vOf (YQ q0T (YH (dOf (YI 0)) (YH (dOf (YI 1)) (YH (dOf (YI 2)) (YH (dOf (YI 3)) YS)))))))) sNo Xq)
  (Ya (Yo 4 (Yg 2 [] (iZp (YH (dOf (YR oIx (vOf (YI 3)) (fC (.int 0)))) (YH (dOf (YQ q1C (YH (dOf (YI 0)) (YH (dOf (YI 1)) (YH (dOf (YI 2)) YS))))) YS))) (gT 2 (YT (gN 0) (YT (gN 1) Ys))) Yc q4I))
  (Yp 4 (Ym (YR Yv (vOf (Y4 zAt (YH (vOf (YI 4)) YS))) (vOf (YR WA (fC (.int 2)) (vOf (YQ q22 (YH (dOf (YR oIx (vOf (YI 3)) (fC (.int 1)))) (YH (fC (.int 1)) YS)))))))))))
noncomputable def q3b:List D->Option O:=mir 5 q6b
noncomputable abbrev q66:vg:=top 61
theorem q9J:FnScope ["home", "last", "boxes", "thing", "crossings"] ["home", "last", "boxes", "thing"] (YL q66):=⟨rfl,rfl,rfl,⋯,rfl,⋯,⋯⟩
theorem qdt{f_is_reason:vC}{d_is_reason:vK}{f_lacks:vC}{d_lacks:vK}{f_gap_weight:vC}{d_gap_weight:vK}{f_weighed:vC}{d_weighed:vK}(F:Fun K "weight" "weight" q66 f fd)(c_is_reason:Cal P w K mg base 10 f_is_reason d_is_reason "is_reason" ["home", "last", "boxes", "thing"] 4 q0T)(c_lacks:Cal P w K mg base 7 f_lacks d_lacks "lacks" ["home", "last", "boxes"] 3 q1C)(c_gap_weight:Cal P w K mg base 1 f_gap_weight d_gap_weight "gap_weight" ["count", "lack"] 2 q0E)(c_weighed:Cal P w K mg base 1 f_weighed d_weighed "weighed" ["levels", "rest"] 2 q22)(z_zip:mg "zip" = none)(z_sum:mg "sum" = none):
  FnOk P w K mg base CX0 11 f fd ["home", "last", "boxes", "thing"] (spD K 4 q3b):=by
 have h:=fnD (P:=P) (w:=w) (mg:=mg) (base:=base) (k:=10) (body:=q6b) F q9J (λcdv A outer s H E hr=>
   (q0 (qZ (qK (qz (XE.toV (xc c_is_reason hr (YG (vD 0) (YG (vD 1) (YG (vD 2) (YG (vD 3) YJ)))))))) (qb qcj) qE)
   (q0 (qT (i:=4) rfl q9J.nd rfl rfl (blk ["count", "lack"] [] [] rfl ⋯ ⋯ rfl trivial) (q57 rfl z_zip (YG (XE.toD (YN (vV 3) (XD.toV YK))) (YG (XE.toD (xc c_lacks hr (YG (vD 0) (YG (vD 1) (YG (vD 2) YJ))))) YJ))) (q29 (qq (qj 0) (qq (qj 1) q0i))) (λ_ _ _ _=>⟨(q0S rfl (qr (qd (i:=0) (show ((["count", "lack"]:List Str)++([]:List Str):List Str).Nodup from by decide +kernel) rfl (Or.inl rfl)) (qr (qd (i:=1) (show ((["count", "lack"]:List Str)++([]:List Str):List Str).Nodup from by decide +kernel) rfl (Or.inl rfl)) q0r))),qt,(XE.toD (xc c_gap_weight hr (YG (vD 0) (YG (vD 1) YJ))))⟩))
   (qy 4 (qb (qf (qv (XE.toV (qu (q3p rfl) q6g rfl z_sum q6d (qi (vV 4) ql))) (XE.toV (q48 (XD.toV YK) (XE.toV (xc c_weighed hr (YG (XE.toD (YN (vV 3) (XD.toV YK))) (YG YK YJ)))))))))))))
 exact h
noncomputable def q68:FS:=(Ya (Yo 3 (eOf (dOf (YQ q1G (YH (dOf (YQ q0e (YH (dOf (YI 0)) (YH (dOf (YI 1)) (YH (dOf (YI 2)) YS))))) (YH (dOf (YQ q1Q (YH (dOf (YI 0)) (YH (dOf (YI 1)) (YH (dOf (YI 2)) YS))))) (YH (dOf (YQ q0a (YH (dOf (YI 0)) (YH (dOf (YI 1)) (YH (dOf (YI 2)) YS))))) YS)))))))
  (Ym (eOf (X9 (YH (dOf (YQ q06 (YH (dOf (YI 0)) (YH (dOf (YI 1)) (YH (dOf (YI 2)) YS))))) (YH (dOf (YI 3)) YS))))))
noncomputable def q3h:List D->Option O:=mir 4 q68
noncomputable abbrev q65:vg:=top 62
theorem q8W:FnScope ["home", "last", "boxes", "bounds"] ["home", "last", "boxes"] (YL q65):=⟨rfl,rfl,rfl,⋯,rfl,⋯,⋯⟩
theorem qdA{f_levels:vC}{d_levels:vK}{f_gap_edges:vC}{d_gap_edges:vK}{f_knots:vC}{d_knots:vK}{f_stops:vC}{d_stops:vK}{f_counts_of:vC}{d_counts_of:vK}(F:Fun K "reason" "reason" q65 f fd)(c_levels:Cal P w K mg base 5 f_levels d_levels "levels" ["things", "knots", "edges"] 3 q1G)(c_gap_edges:Cal P w K mg base 7 f_gap_edges d_gap_edges "gap_edges" ["home", "last", "boxes"] 3 q0a)(c_knots:Cal P w K mg base 8 f_knots d_knots "knots" ["home", "last", "boxes"] 3 q1Q)(c_stops:Cal P w K mg base 5 f_stops d_stops "stops" ["home", "last", "boxes"] 3 q0e)(c_counts_of:Cal P w K mg base 7 f_counts_of d_counts_of "counts_of" ["home", "last", "boxes"] 3 q06):
  FnOk P w K mg base CX0 9 f fd ["home", "last", "boxes"] (spD K 3 q3h):=by
 have h:=fnD (P:=P) (w:=w) (mg:=mg) (base:=base) (k:=8) (body:=q68) F q8W (λcdv A outer s H E hr=>
   (q0 (qm (i:=3) q8W.nd rfl (Or.inl rfl) (XD.toE (XE.toD (xc c_levels hr (YG (XE.toD (xc c_stops hr (YG (vD 0) (YG (vD 1) (YG (vD 2) YJ))))) (YG (XE.toD (xc c_knots hr (YG (vD 0) (YG (vD 1) (YG (vD 2) YJ))))) (YG (XE.toD (xc c_gap_edges hr (YG (vD 0) (YG (vD 1) (YG (vD 2) YJ))))) YJ)))))))
   (qb (qf (XD.toE (Yw (YG (XE.toD (xc c_counts_of hr (YG (vD 0) (YG (vD 1) (YG (vD 2) YJ))))) (YG (vD 3) YJ))))))))
 exact h
noncomputable def q70:FS:=(Ym (YQ q3b (YH (dOf (YI 0)) (YH (dOf (YI 1)) (YH (dOf (YI 2)) (YH (dOf (YQ q3h (YH (dOf (YI 0)) (YH (dOf (YI 1)) (YH (dOf (YI 2)) YS))))) YS))))))
noncomputable def q46:List D->Option O:=mir 3 q70
noncomputable abbrev q72:vg:=top 63
theorem qh4:FnScope ["home", "last", "boxes"] ["home", "last", "boxes"] (YL q72):=⟨rfl,rfl,rfl,⋯,rfl,⋯,⋯⟩
theorem qf4{f_weight:vC}{d_weight:vK}{f_reason:vC}{d_reason:vK}(F:Fun K "least" "least" q72 f fd)(c_weight:Cal P w K mg base 11 f_weight d_weight "weight" ["home", "last", "boxes", "thing"] 4 q3b)(c_reason:Cal P w K mg base 9 f_reason d_reason "reason" ["home", "last", "boxes"] 3 q3h):
  FnOk P w K mg base CX0 12 f fd ["home", "last", "boxes"] (spD K 3 q46):=by
 have h:=fnD (P:=P) (w:=w) (mg:=mg) (base:=base) (k:=11) (body:=q70) F qh4 (λcdv A outer s H E hr=>
   (qb (qf (xc c_weight hr (YG (vD 0) (YG (vD 1) (YG (vD 2) (YG (XE.toD (xc c_reason hr (YG (vD 0) (YG (vD 1) (YG (vD 2) YJ))))) YJ))))))))
 exact h
noncomputable def q3J:FS:=(Ya (sIf (tOf (YR oLt (vOf (YI 1)) (vOf (Y4 WG (YH (vOf (YI 0)) YS))))) (Ym (YR oIx (vOf (YI 0)) (vOf (YI 1)))) Xq)
  (Ym (eOf (fC (.int 0)))))
noncomputable def qG:List D->Option O:=mir 2 q3J
noncomputable abbrev q3C:vg:=top 65
theorem qaD:FnScope ["script", "k"] ["script", "k"] (YL q3C):=⟨rfl,rfl,rfl,⋯,rfl,⋯,⋯⟩
theorem q8u (F:Fun K "_law_cell" "_law_cell" q3C f fd)(z_len:mg "len" = none):
  FnOk P w K mg base CX0 1 f fd ["script", "k"] (spD K 2 qG):=by
 have h:=fnD (P:=P) (w:=w) (mg:=mg) (base:=base) (k:=0) (body:=q3J) F qaD (λcdv A outer s H E hr=>
   (q0 (qZ (q8l (vV 1) (XE.toV (qu qB q0F rfl z_len q0I (qi (vV 0) ql)))) (qb (qf (YN (vV 0) (vV 1)))) qE)
   (qb (qf (XD.toE YK)))))
 exact h
noncomputable def q1U:FS:=(Ya (Yo 3 (eOf (dOf (YQ qG (YH (dOf (YI 0)) (YH (dOf (YR Yv (fC (.int 2)) (vOf (YI 2)))) YS))))))
  (zAH 1 (dOf (YR oIx (vOf (X3 (YH (dOf (YR Yv (vOf (YI 2)) (vOf (YR oMod (vOf (YR oDiv (vOf (YI 3)) (fC (.int 3)))) (fC (.int 3)))))) (YH (dOf (YR oMod (vOf (YR oDiv (vOf (YI 3)) (fC (.int 3)))) (fC (.int 100)))) (YH (dOf (YR oMod (vOf (YR oDiv (vOf (YI 3)) (fC (.int 3)))) (vOf (YR oPow (fC (.int 10)) (fC (.int 30)))))) YS))))) (vOf (YR oMod (vOf (YI 3)) (fC (.int 3))))))))
noncomputable def q2l:FS:=(Ya (Yo 1 (X3 YS))
  (Ya (WB (iRg1 (YH (fC (.int 7)) YS)) (gN 2) q1U)
  (Ya (sIf (tOf (YR (oEq false) (vOf (YR oMod (vOf (YR oDiv (vOf (YQ qG (YH (dOf (YI 0)) (YH (fC (.int 1)) YS)))) (fC (.int 28)))) (fC (.int 3)))) (fC (.int 1)))) (zAo 1 (fC (.int 1)) (dOf (YR oIx (vOf (YI 1)) (fC (.int 0))))) Xq)
  (WD 1))))
noncomputable def q0m:List D->Option O:=mir 4 q2l
noncomputable abbrev q2e:vg:=top 66
theorem q0Y:FnScope ["script", "some", "k", "cell"] ["script"] (YL q2e):=⟨rfl,rfl,rfl,⋯,rfl,⋯,⋯⟩
theorem q6V{f__law_cell:vC}{d__law_cell:vK}(F:Fun K "_law_places" "_law_places" q2e f fd)(c__law_cell:Cal P w K mg base 1 f__law_cell d__law_cell "_law_cell" ["script", "k"] 2 qG)(z_range:mg "range" = none):
  FnOk P w K mg base CX0 2 f fd ["script"] (spD K 1 q0m):=by
 have h:=fnD (P:=P) (w:=w) (mg:=mg) (base:=base) (k:=1) (body:=q2l) F q0Y (λcdv A outer s H E hr=>
   (q0 (qm (i:=1) q0Y.nd rfl (Or.inl rfl) (Yt YJ))
   (q0 (q0f PassesOwn.never rfl (qcF rfl z_range (qi (XD.toV YK) ql)) (qd (i:=2) q0Y.nd rfl (Or.inl rfl)) (q0 (qm (i:=3) q0Y.nd rfl (Or.inl rfl) (XD.toE (XE.toD (xc c__law_cell hr (YG (vD 0) (YG (XE.toD (qv (XD.toV YK) (vV 2))) YJ))))))
   (qb (q2B (pv 1) (XE.toD (YN (XE.toV (Yt (YG (XE.toD (qv (vV 2) (XE.toV (qJ (XE.toV (q1h (vV 3) (XD.toV YK))) (XD.toV YK))))) (YG (XE.toD (qJ (XE.toV (q1h (vV 3) (XD.toV YK))) (XD.toV YK))) (YG (XE.toD (qJ (XE.toV (q1h (vV 3) (XD.toV YK))) (XE.toV (qeK (XD.toV YK) (XD.toV YK))))) YJ))))) (XE.toV (qJ (vV 3) (XD.toV YK)))))))))
   (q0 (qZ (WC hr.units (XE.toV (qJ (XE.toV (q1h (XE.toV (xc c__law_cell hr (YG (vD 0) (YG YK YJ)))) (XD.toV YK))) (XD.toV YK))) (XD.toV YK)) (qb (qhA (pv 1) YK (XE.toD (YN (vV 1) (XD.toV YK))))) qE)
   (qb (q5s (pv 1)))))))
 exact h
noncomputable def q3U:FS:=(Ya (sIf (Wg (tOf (YR oLt (vOf (YI 0)) (vOf (YI 1)))) (Wd (tOf (YR (oEq false) (vOf (YI 0)) (vOf (YI 1)))) (tOf (YR (oEq false) (vOf (YR oMod (vOf (YR oDiv (vOf (YI 2)) (fC (.int 49)))) (fC (.int 2)))) (fC (.int 0)))))) (Ym (eOf (fC (.int 1)))) Xq)
  (Ym (zAy (fC (.int 1)))))
noncomputable def q0P:List D->Option O:=mir 3 q3U
noncomputable abbrev q3A:vg:=top 67
theorem qan:FnScope ["start", "goal", "cell"] ["start", "goal", "cell"] (YL q3A):=⟨rfl,rfl,rfl,⋯,rfl,⋯,⋯⟩
theorem q8S (F:Fun K "_law_side" "_law_side" q3A f fd):
  FnOk P w K mg base CX0 1 f fd ["start", "goal", "cell"] (spD K 3 q0P):=by
 have h:=fnD (P:=P) (w:=w) (mg:=mg) (base:=base) (k:=0) (body:=q3U) F qan (λcdv A outer s H E hr=>
   (q0 (qZ (XW.toT (q20 (q8l (vV 0) (vV 1)) (q2H (XW.toT (q91 (WC hr.units (vV 0) (vV 1)) (q6R (WC hr.units (XE.toV (qJ (XE.toV (q1h (vV 2) (XD.toV YK))) (XD.toV YK))) (XD.toV YK)))))))) (qb (qf (XD.toE YK))) qE)
   (qb (qf (q6L (XD.toV YK))))))
 exact h
noncomputable def q8L:FS:=(Ya (Yo 6 (eOf (dOf (YR oIx (vOf (YI 1)) (vOf (YR oMod (vOf (YI 5)) (fC (.int 7))))))))
  (Ya (Yo 7 (eOf (dOf (YR oIx (vOf (YI 1)) (vOf (YR oMod (vOf (YR oDiv (vOf (YI 5)) (fC (.int 7)))) (fC (.int 7))))))))
  (Ya (zAH 3 (X9 (YH (dOf (YI 6)) (YH (dOf (YI 7)) YS))))
  (zAH 4 (X9 (YH (dOf (YI 6)) (YH (dOf (YI 7)) (YH (dOf (YQ q0P (YH (dOf (YI 6)) (YH (dOf (YI 7)) (YH (dOf (YI 5)) YS))))) YS))))))))
noncomputable def q4R:FD:=(X9 (YH (dOf (YR oMod (vOf (YR Yv (vOf (YI 0)) (vOf (YI 4)))) (vOf (YI 3)))) (YH (dOf (YR oMod (vOf (YR Yv (vOf (YI 1)) (vOf (YI 4)))) (vOf (YI 3)))) (YH (dOf (YI 2)) YS))))
noncomputable def qc6:FS:=(Ya (Yo 1 (eOf (dOf (YQ q0m (YH (dOf (YI 0)) YS)))))
  (Ya (Yo 2 (eOf (dOf (YQ qG (YH (dOf (YI 0)) (YH (fC (.int 1)) YS))))))
  (Ya (Yo 3 (X3 YS))
  (Ya (Yo 4 (X3 YS))
  (Ya (WB (Yy (dOf (fSl (vOf (YI 0)) (pAt (fC (.int 9))) (pAt (vOf (YR Yv (fC (.int 9)) (vOf (YR oIx (vOf (X3 (YH (fC (.int 5)) (YH (fC (.int 5)) (YH (dOf (YR oMod (vOf (YR oDiv (vOf (YI 2)) (fC (.int 4)))) (fC (.int 6)))) (YH (dOf (YR oMod (vOf (YR oDiv (vOf (YI 2)) (fC (.int 4)))) (fC (.int 3)))) YS)))))) (vOf (YR oMod (vOf (YI 2)) (fC (.int 4)))))))))))) (gN 5) q8L)
  (Ya (Yo 8 (eOf (dOf (YQ q46 (YH (dOf (YR oIx (vOf (YI 1)) (fC (.int 0)))) (YH (dOf (YR oIx (vOf (YI 1)) (fC (.int 1)))) (YH (dOf (Y4 W9 (YH (vOf (YI 3)) YS))) YS)))))))
  (Ya (Yo 9 (eOf (dOf (YR Yv (vOf (YR Yv (vOf (YR Yv (vOf (Y4 bMax (YH (vOf (YI 1)) YS))) (vOf (YI 8)))) (fC (.int 1)))) (vOf (YR oMod (vOf (YQ qG (YH (dOf (YI 0)) (YH (fC (.int 16)) YS)))) (vOf (YR oPow (fC (.int 10)) (fC (.int 38))))))))))
  (Ya (Yo 10 (eOf (dOf (YR oMod (vOf (YQ qG (YH (dOf (YI 0)) (YH (fC (.int 17)) YS)))) (vOf (YI 9))))))
  (Yp 4 (Ya (Yo 11 (Yg 3 [9,10] (Yy (dOf (YI 4))) (gT 3 (YT (gN 0) (YT (gN 1) (YT (gN 2) Ys)))) Yc q4R))
  (Yp 11 (Ym (YR (oEq false) (vOf (YQ qU (YH (dOf (YI 9)) (YH (dOf (YR oMod (vOf (YR Yv (vOf (YR oIx (vOf (YI 1)) (fC (.int 0)))) (vOf (YI 10)))) (vOf (YI 9)))) (YH (dOf (YR oMod (vOf (YR Yv (vOf (YR oIx (vOf (YI 1)) (fC (.int 1)))) (vOf (YI 10)))) (vOf (YI 9)))) (YH (dOf (YI 11)) YS)))))) (vOf (YI 8)))))))))))))))
noncomputable def q5p:List D->Option O:=mir 12 qc6
noncomputable abbrev q5g:vg:=top 68
theorem q0Z:FnScope ["script", "some", "cell", "boxes", "sided", "one", "start", "goal", "due", "size", "on", "turned"] ["script"] (YL q5g):=⟨rfl,rfl,rfl,⋯,rfl,⋯,⋯⟩
theorem qiI{f__law_places:vC}{d__law_places:vK}{f__law_cell:vC}{d__law_cell:vK}{f__law_side:vC}{d__law_side:vK}{f_least:vC}{d_least:vK}{f_ring_least:vC}{d_ring_least:vK}(F:Fun K "law" "law" q5g f fd)(c__law_places:Cal P w K mg base 2 f__law_places d__law_places "_law_places" ["script"] 1 q0m)(c__law_cell:Cal P w K mg base 1 f__law_cell d__law_cell "_law_cell" ["script", "k"] 2 qG)(c__law_side:Cal P w K mg base 1 f__law_side d__law_side "_law_side" ["start", "goal", "cell"] 3 q0P)(c_least:Cal P w K mg base 12 f_least d_least "least" ["home", "last", "boxes"] 3 q46)(c_ring_least:Cal P w K mg base 9 f_ring_least d_ring_least "ring_least" ["size", "home", "last", "boxes"] 4 qU)(z_list:mg "list" = none)(z_max:mg "max" = none):
  FnOk P w K mg base CX0 13 f fd ["script"] (spD K 1 q5p):=by
 have h:=fnD (P:=P) (w:=w) (mg:=mg) (base:=base) (k:=12) (body:=qc6) F q0Z (λcdv A outer s H E hr=>
   (q0 (qm (i:=1) q0Z.nd rfl (Or.inl rfl) (XD.toE (XE.toD (xc c__law_places hr (YG (vD 0) YJ)))))
   (q0 (qm (i:=2) q0Z.nd rfl (Or.inl rfl) (XD.toE (XE.toD (xc c__law_cell hr (YG (vD 0) (YG YK YJ))))))
   (q0 (qm (i:=3) q0Z.nd rfl (Or.inl rfl) (Yt YJ))
   (q0 (qm (i:=4) q0Z.nd rfl (Or.inl rfl) (Yt YJ))
   (q0 (q0f PassesOwn.never rfl (qo (XE.toD (Y9 (vV 0) (XJ (XD.toV YK)) (XJ (XE.toV (qv (XD.toV YK) (XE.toV (YN (XE.toV (Yt (YG YK (YG YK (YG (XE.toD (qJ (XE.toV (q1h (vV 2) (XD.toV YK))) (XD.toV YK))) (YG (XE.toD (qJ (XE.toV (q1h (vV 2) (XD.toV YK))) (XD.toV YK))) YJ)))))) (XE.toV (qJ (vV 2) (XD.toV YK))))))))))) (qd (i:=5) q0Z.nd rfl (Or.inl rfl)) (q0 (qm (i:=6) q0Z.nd rfl (Or.inl rfl) (XD.toE (XE.toD (YN (vV 1) (XE.toV (qJ (vV 5) (XD.toV YK)))))))
   (q0 (qm (i:=7) q0Z.nd rfl (Or.inl rfl) (XD.toE (XE.toD (YN (vV 1) (XE.toV (qJ (XE.toV (q1h (vV 5) (XD.toV YK))) (XD.toV YK)))))))
   (q0 (q2B (pv 3) (Yw (YG (vD 6) (YG (vD 7) YJ))))
   (qb (q2B (pv 4) (Yw (YG (vD 6) (YG (vD 7) (YG (XE.toD (xc c__law_side hr (YG (vD 6) (YG (vD 7) (YG (vD 5) YJ))))) YJ))))))))))
   (q0 (qm (i:=8) q0Z.nd rfl (Or.inl rfl) (XD.toE (XE.toD (xc c_least hr (YG (XE.toD (YN (vV 1) (XD.toV YK))) (YG (XE.toD (YN (vV 1) (XD.toV YK))) (YG (XE.toD (qg2 q4E qbh rfl z_list q1j (qi (vV 3) ql))) YJ)))))))
   (q0 (qm (i:=9) q0Z.nd rfl (Or.inr rfl) (XD.toE (XE.toD (qv (XE.toV (qv (XE.toV (qv (XE.toV (qu (q7I rfl) qd4 rfl z_max qdp (qi (vV 1) ql))) (vV 8))) (XD.toV YK))) (XE.toV (qJ (XE.toV (xc c__law_cell hr (YG (vD 0) (YG YK YJ)))) (XE.toV (qeK (XD.toV YK) (XD.toV YK)))))))))
   (q0 (qm (i:=10) q0Z.nd rfl (Or.inr rfl) (XD.toE (XE.toD (qJ (XE.toV (xc c__law_cell hr (YG (vD 0) (YG YK YJ)))) (vV 9)))))
   (qy 4 (q0 (qT (i:=11) rfl q0Z.nd rfl rfl (blk ["start", "goal", "side"] ["size", "on"] [9,10] rfl ⋯ ⋯ rfl ⟨⟨rfl,(by first|exact Or.inl rfl|exact Or.inr rfl),rfl⟩,⟨⟨rfl,(by first|exact Or.inl rfl|exact Or.inr rfl),rfl⟩,trivial⟩⟩) (qo (vD 4)) (q29 (qq (qj 0) (qq (qj 1) (qq (qj 2) q0i)))) (λ_ _ _ _=>⟨(q0S rfl (qr (qd (i:=0) (show ((["start", "goal", "side"]:List Str)++(["size", "on"]:List Str):List Str).Nodup from by decide +kernel) rfl (Or.inl rfl)) (qr (qd (i:=1) (show ((["start", "goal", "side"]:List Str)++(["size", "on"]:List Str):List Str).Nodup from by decide +kernel) rfl (Or.inl rfl)) (qr (qd (i:=2) (show ((["start", "goal", "side"]:List Str)++(["size", "on"]:List Str):List Str).Nodup from by decide +kernel) rfl (Or.inl rfl)) q0r)))),qt,(Yw (YG (XE.toD (qJ (XE.toV (qv (vV 0) (vV 4))) (vV 3))) (YG (XE.toD (qJ (XE.toV (qv (vV 1) (vV 4))) (vV 3))) (YG (vD 2) YJ))))⟩))
   (qy 11 (qb (qf (Wn hr.units (XE.toV (xc c_ring_least hr (YG (vD 9) (YG (XE.toD (qJ (XE.toV (qv (XE.toV (YN (vV 1) (XD.toV YK))) (vV 10))) (vV 9))) (YG (XE.toD (qJ (XE.toV (qv (XE.toV (YN (vV 1) (XD.toV YK))) (vV 10))) (vV 9))) (YG (vD 11) YJ)))))) (vV 8))))))))))))))))
 exact h
end
set_option compiler.extract_closed false
set_option hygiene false
local macro_rules|`(tactic| simp_arith $c:optConfig [$xs,*])=>`(tactic| simp $c only[qaT,qdg,qdy,qbp,e_wd,qcL,e_wz,qaJ,qde,qaF,qgy,qeq,qd8,qgf,qgl,qg8,qdO,qg6,qbR,qaH,qg7,qdP,qgc,qeD,qgn,qgw,qg3,qbi,qbA,q02,qbk,qaL,qgC,qg9,qbm,qb4,e_if,qeB,qdL,qgB,qbQ,qbj,qd3,qbB,qg5,zAG,qgx,q9B,q8U,qba,qbW,qfV,e_fs,qga,qbe,qb6,e_c,e_e,e_ed,e_d,qbF,qbs,e_v,qaQ,qbG,qaG,e_op,e_o2,qcU,e_cl,qbv,qbz,e_ac,e_ca,e_an,qfY,qgt,qgi,e_bl,qgb,e_sl,e_po,e_pa,e_ap,qgu,qcR,qeh,qfW,q7N,q9c,q7w,q7U,q7J,q80,e_t,e_tr,qd6,e_ta,qg0,qgm,e_to,qg1,qd9,e_tn,qe0,qb7,q9b,qel,e_va,qgv,qeF,qeg,qdY,qfU,qgk,qdk,Y5,qfX,e_ng,qbS,qbd,qbJ,q9j,q7g,q8P,qd0,qb8,qcM,qe4,qeG,qcQ,qaE,qg4,qgg,qgd,at0,at1,at2,q1S,qb5,WX,entry,yb,yx,zL,xz,zA,zR,yf,wW,yZ,ZH,ZI,ZV,ZW,yw,xK,Nat.reduceSub,Nat.reduceAdd,Nat.reduceLT,Int.reduceLT,Int.reduceLE,Int.reduceSub,Int.reduceAdd,Int.reduceMul,Int.reduceMod,Int.reduceDiv,Int.reduceNeg,Int.reducePow,Int.reduceBEq,Zx,↓reduceIte,wQ,YC,w8,wR,wE,Zg,ZO,Bool.or_true,xv,ZE,xm,beq_self_eq_true,yC,$xs,*])
set_option compiler.extract_closed true
set_option hygiene true
noncomputable def YZ(p:Int×Int):D:=.tup [.int p.1,.int p.2]
inductive Rch (es:List (Int×Int)) (a:Int):Int->Prop where
 | refl:Rch es a a
 | step {b c:Int}:Rch es a b->((b,c)∈es\/(c,b)∈es)->Rch es a c
theorem Rch.trans{es:List (Int×Int)}{a b c:Int}(h:Rch es a b)(h':Rch es b c):Rch es a c:=by
 induction h' with
 | refl=>exact h
 | step _ e ih=>exact ih.step e
theorem Rch.symm{es:List (Int×Int)}{a b:Int}(h:Rch es a b):Rch es b a:=by
 induction h with
 | refl=>exact .refl
 | step _ e ih=>exact(Rch.refl.step e.symm).trans ih
theorem Rch.inv{es:List (Int×Int)}{a:Int}(P:Int->Prop)(h0:P a)(hs:∀b c,P b->((b,c)∈es\/(c,b)∈es)->P c){c:Int}(h:Rch es a c):P c:=by
 induction h with
 | refl=>exact h0
 | step _ e ih=>exact hs _ _ ih e
theorem q60{α β:Type}(f:α->β):∀(ks:List Int)(xs:List α)(k:Int),Yl ks (xs.map f) k=(Yl ks xs k).map f
 | [],_,_=>rfl
 | _::_,[],_=>rfl
 | k'::ks,x::xs,k=>by
  show (if k'=k then some (f x)else Yl ks (xs.map f) k)=(if k'=k then some x else Yl ks xs k).map f
  by_cases z:k'=k
  ·rw[vH z,vH z];rfl
  ·rw[vJ z,vJ z,q60 f ks xs k]
theorem q3o{α:Type}:∀{ks:List Int}{xs:List α}{k:Int},ks.length=xs.length->(Yl ks xs k).isSome=decide (k∈ks)
 | [],[],_,_=>rfl
 | [],_::_,_,h=>by simp at h
 | _::_,[],_,h=>by simp at h
 | k'::ks,x::xs,k,h=>by
  show (if k'=k then some x else Yl ks xs k).isSome=_
  by_cases z:k'=k
  ·rw[vH z];simp[z]
  ·have z':¬k=k':=λy=>z y.symm
   rw[vJ z,q3o ⇑h];simp[z']
theorem q5L:∀(ks:List Int)(xss:List (List Int))(a' b a:Int),Yl ks (Wi ks xss a' b) a=(Yl ks xss a).map λxs=>if a=a' then xs++[b]else xs
 | [],_,_,_,_=>rfl
 | _::_,[],_,_,_=>rfl
 | k::ks,x::xss,a',b,a=>by
  unfold Wi
  by_cases z:k=a'
  ·rw[vH z]
   show (if k=a then some (x++[b])else Yl ks xss a)=(if k=a then some x else Yl ks xss a).map _
   by_cases y:k=a
   ·rw[vH y,vH y,yx,vH (y▸z)]
   ·rw[vJ y,vJ y]
    have:¬a=a':=λe=>y (z.trans e.symm);cases Yl ks xss a with
    | none=>rfl
    | some v=>rw[yx,vJ this]
  ·rw[vJ z]
   show (if k=a then some x else Yl ks (Wi ks xss a' b) a)=(if k=a then some x else Yl ks xss a).map _
   by_cases y:k=a
   ·have:¬a=a':=λe=>z (y.trans e)
    rw[vH y,vH y,yx,vJ this]
   ·rw[vJ y,vJ y];exact q5L ks xss a' b a
theorem qgF(ts:List Int)(a:Int)(ha:a∈ts):∀(es:List (Int×Int)),∃xs,Yl ts (nbT ts es) a=some xs/\∀c,c∈xs↔((a,c)∈es\/(c,a)∈es):=by
 intro es;have key:∀(post pre:List (Int×Int))(T:List (List Int))(xs:List Int),Yl ts T a=some xs->(∀c,c∈xs↔((a,c)∈pre\/(c,a)∈pre))->∃xs',Yl ts (post.foldl (XQ ts) T) a=some xs'/\∀c,c∈xs'↔((a,c)∈pre++post\/(c,a)∈pre++post):=by
  intro post
  induction post with
  | nil=>intro pre T xs h1 h2;exact⟨xs,h1,by rw[zw];exact h2⟩
  | cons e post ih=>
   intro pre T xs h1 h2;have h3:Yl ts (XQ ts T e) a=some (let ys:=if a=e.1 then xs++[e.2]else xs;if a=e.2 then ys++[e.1]else ys):=by
    unfold XQ;rw[q5L,q5L,h1];rfl
   obtain⟨xs',g1,g2⟩:=ih (pre++[e]) (XQ ts T e) _ h3 (λc=>by
    obtain⟨e1,e2⟩:=e;have m:∀x y:Int,(x,y)∈pre++[(e1,e2)]↔(x,y)∈pre\/(x=e1/\y=e2):=λx y=>by simp
    rw[m,m]
    by_cases y1:a=e1 <;> by_cases y2:a=e2 <;> simp[y1,y2,h2] <;> (try subst y1) <;> (try subst y2) <;> simp_all <;> grind)
   refine⟨xs',g1,λc=>?_⟩;rw[g2,yB];rfl
 have h0:Yl ts (ts.map λ_=>([]:List Int)) a=some []:=by
  have:(Yl ts (ts.map λ_=>([]:List Int)) a).isSome=true:=by rw[q3o (by rw[zA]),vW ha]
  obtain⟨x,hx⟩:=yd.mp this;rw[q60]at hx ⊢;obtain⟨y,hy,e⟩:=xl.mp hx;rw[hy];rfl
 obtain⟨xs',g1,g2⟩:=key es [] _ [] h0 (by simp);exact⟨xs',g1,by simpa using g2⟩
structure Ok (ts:List Int) (es:List (Int×Int)):Prop where
 nd:ts.Nodup
 inn:∀e∈es,e.1∈ts/\e.2∈ts
 l1:ts.length<64
 l2:es.length<=1000
noncomputable def nbD(ts:List Int)(es:List (Int×Int)):List D:=(nbT ts es).map λxs=>.lst (xs.map D.int)
theorem q8e{ts:List Int}{es:List (Int×Int)}(h:Ok ts es):q1p [.lst (ts.map D.int),.lst (es.map YU)]=↥(.dic ts (nbD ts es)):=by
 have hl:=h.l1;have e:nbM (ts.map D.int) (es.map YU)=some (.dic ts (nbD ts es)):=by
  unfold nbM;rw[q0k,q5x];exact vH ⟨h.nd,h.inn,∅,h.l2⟩
 show outM ((nbM (ts.map D.int) (es.map YU)).map _)=_;rw[e];rfl
theorem Rch.mem{ts:List Int}{es:List (Int×Int)}(h:Ok ts es){a c:Int}(ha:a∈ts)(r:Rch es a c):c∈ts :=
 r.inv (λx=>x∈ts) ha λb c _ e=>by
  rcases e with e|e
  ·exact(h.inn _ e).2
  ·exact(h.inn _ e).1
noncomputable def XL(F:List Int):List D:=F.map λ_=>.bl true
theorem q7S(F:List Int):F.length=(XL F).length:=by unfold XL;rw[zA]
theorem qbc{F:List Int}{c:Int}(h:c∉F):Xa F c=F++[c]/\putA F (XL F) c (.bl true)=XL (F++[c]):=by
 unfold Xa putA XL;rw[vJ h,vJ h,zX];exact⟨rfl,rfl⟩
theorem q0J:∀{F ts:List Int},F.Nodup->(∀c∈F,c∈ts)->F.length<=ts.length
 | [],_,_,_=>yQ _
 | a::r,ts,hn,hs=>by
  obtain⟨h1,h2⟩:=ye.mp hn;have ha:=hs a zD;have:=q0J (F:=r) (ts:=ts.erase a) h2 λc hc=>(List.mem_erase_of_ne (show c≠a from λz=>h1 (by rw[<- z];exact hc))).mpr (hs c (zG _ hc));rw[List.length_erase_of_mem ha]at this;have hp:0<ts.length:=List.length_pos_of_mem ha;rw[zL];omega
structure GI (ts:List Int) (es:List (Int×Int)) (a:Int) (F Wt:List Int):Prop where
 nd:F.Nodup
 st:a∈F
 wl:Wt.length<=F.length
 w:∀c∈Wt,c∈F
 r:∀c∈F,Rch es a c
 cl:∀b∈F,b∉Wt->∀c,((b,c)∈es\/(c,b)∈es)->c∈F
theorem qa4{ts:List Int}{es:List (Int×Int)}(h:Ok ts es){a:Int}(ha:a∈ts):
  ∃F:List Int,q1n [.int a,.dic ts (nbD ts es)]=some (.fr ((Yh F).map D.int))/\F.Nodup/\∀c,c∈F↔Rch es a c:=by
 unfold q1n q4s;simp_arith[q02];have hl1:=h.l1;obtain⟨ω',e,F,x4,x5,rfl,gi⟩:=qi8 (fc:=q1Y) (fb:=q3w) (n:=1000000)
  (λω=>∃(F Wt:List Int) (x4 x5:Option W),ω=[↥(.int a),↥(.dic ts (nbD ts es)),some (.od F (XL F)),some (.ow (Wt.map D.int)),x4,x5]/\GI ts es a F Wt)
  (λω=>match ω with
   | [_,_,some (.od F _),some (.ow w),_,_]=>(ts.length-F.length)+w.length
   | _=>0)
  (λω=>∃(F:List Int) (x4 x5:Option W),ω=[↥(.int a),↥(.dic ts (nbD ts es)),some (.od F (XL F)),some (.ow []),x4,x5]/\GI ts es a F [])
  (λω ⟨F,Wt,x4,x5,hω,gi⟩ hf=>by
   subst hω;unfold q1Y at hf;simp -implicitDefEqProofs only[qaT,qdg,qdy,qbp,e_wd,qcL,e_wz,qaJ,qde,qaF,qgy,qeq,qd8,qgf,qgl,qg8,qdO,qg6,qbR,qaH,qg7,qdP,qgc,qeD,qgn,qgw,qg3,qbi,qbA,q02,qbk,qaL,qgC,qg9,qbm,qb4,e_if,qeB,qdL,qgB,qbQ,qbj,qd3,qbB,qg5,zAG,qgx,q9B,q8U,qba,qbW,qfV,e_fs,qga,qbe,qb6,e_c,e_e,e_ed,e_d,qbF,qbs,e_v,qaQ,qbG,qaG,e_op,e_o2,qcU,e_cl,qbv,qbz,e_ac,e_ca,e_an,qfY,qgt,qgi,e_bl,qgb,e_sl,e_po,e_pa,e_ap,qgu,qcR,qeh,qfW,q7N,q9c,q7w,q7U,q7J,q80,e_t,e_tr,qd6,e_ta,qg0,qgm,e_to,qg1,qd9,e_tn,qe0,qb7,q9b,qel,e_va,qgv,qeF,qeg,qdY,qfU,qgk,qdk,Y5,qfX,e_ng,qbS,qbd,qbJ,q9j,q7g,q8P,qd0,qb8,qcM,qe4,qeG,qcQ,qaE,qg4,qgg,qgd,at0,at1,at2,q1S,qb5,WX,entry,yb,yx,zL,xz,zA,zR,yf,wW,yZ,ZH,ZI,ZV,ZW,yw,xK,Nat.reduceSub,Nat.reduceAdd,Nat.reduceLT,Int.reduceLT,Int.reduceLE,Int.reduceSub,Int.reduceAdd,Int.reduceMul,Int.reduceMod,Int.reduceDiv,Int.reduceNeg,Int.reducePow,Int.reduceBEq,Zx,↓reduceIte,wQ,YC,w8,wR,wE,Zg,ZO,Bool.or_true,xv,ZE,xm,beq_self_eq_true,yC]at hf;cases Wt with
   | nil=>exact⟨F,x4,x5,rfl,gi⟩
   | cons w r=>cases hf)
  (λω ⟨F,Wt,x4,x5,hω,gi⟩=>by
   subst hω;refine⟨!Wt.isEmpty,?_,λhk=>?_⟩
   ·unfold q1Y
    simp_arith[q02];cases Wt <;> rfl
   ·obtain⟨Wr,here,rfl⟩:∃Wr here,Wt=Wr++[here]:=by
     cases Wt with
     | nil=>cases hk
     | cons w r=>exact⟨(w::r).dropLast,(w::r).getLast (by simp),(List.dropLast_concat_getLast _).symm⟩
    have hF:here∈F:=gi.w here (by simp);have hts:here∈ts:=(gi.r here hF).mem h ha;obtain⟨xs,v1,v2⟩:=qgF ts here hts es;have vd:Yl ts (nbD ts es) here=some (.lst (xs.map D.int)):=by unfold nbD;rw[q60,v1];rfl
    have ew:(Wr++[here]).map D.int=Wr.map D.int++[D.int here]:=by rw[zX];rfl
    have ffl:=q0J gi.nd λc hc=>(gi.r c hc).mem h ha;unfold q3w;rw[ew];simp_arith[qhJ,vd];obtain⟨ω',e,F',W',x5',rfl,i1,i2,i3,i4,i5,i6,i7,i8⟩:=qQ (g:=gN 5) (b:=q3V) D.int xs
     (λpre ω=>∃(F' W':List Int) (x5:Option W),ω=[↥(.int a),↥(.dic ts (nbD ts es)),some (.od F' (XL F')),some (.ow (W'.map D.int)),↥(.int here),x5]/\F'.Nodup/\(∀c∈F,c∈F')/\(∀c∈Wr,c∈W')/\(∀c∈W',c∈F')/\(∀c∈F',Rch es a c)/\(∀c∈F',c∈F\/c∈W')/\(∀c∈pre,c∈F')/\F'.length+Wr.length=F.length+W'.length)
     (λpre c post ω hd ⟨F',W',x5,hω,i1,i2,i3,i4,i5,i6,i7,i8⟩=>by
      subst hω;refine⟨_,rfl,?_⟩;have hcx:c∈xs:=by rw[hd];simp
      have hcr:Rch es a c:=(gi.r here hF).step ((v2 c).mp hcx);have fl:=q0J i1 λc hc=>(i5 c hc).mem h ha;have hs:(Yl F' (XL F') c).isSome=decide (c∈F'):=q3o (q7S F');unfold q3V
      by_cases hc:c∈F'
      ·simp_arith[hs,hc,decide_true]
       exact⟨F',W',_,rfl,i1,i2,i3,i4,i5,i6,λx hx=>(by rcases zK.mp hx with y|y;exact i7 x y;cases zM.mp y;exact hc),i8⟩
      ·obtain⟨p1,p2⟩:=qbc hc
       have hwl:(W'.map D.int).length<1000000:=by
        rw[zA];have:=gi.wl;rw[zE,zd]at this;omega
       simp_arith[hs,hc,decide_false,q42 (show F'.length<1000000 by omega),p1,p2,zAG hwl];refine⟨F'++[c],W'++[c],_,by rw[zX];rfl,?_,λx hx=>zI _ (i2 x hx),λx hx=>zI _ (i3 x hx),λx hx=>?_,λx hx=>?_,λx hx=>?_,λx hx=>?_,by rw[zE,zE,zd];omega⟩
       ·rw[yU]
        exact⟨i1,by simp,λx hx y hy z=>by cases zM.mp hy;exact hc (z▸hx)⟩
       ·rcases zK.mp hx with y|y
        ·exact zI _ (i4 x y)
        ·exact zJ _ y
       ·rcases zK.mp hx with y|y
        ·exact i5 x y
        ·cases zM.mp y;exact hcr
       ·rcases zK.mp hx with y|y
        ·exact(i6 x y).elim .inl λz=>.inr (zI _ z)
        ·exact .inr (zJ _ y)
       ·rcases zK.mp hx with y|y
        ·exact zI _ (i7 x y)
        ·exact zJ _ y)
     (ω:=[↥(.int a),↥(.dic ts (nbD ts es)),some (.od F (XL F)),some (.ow (Wr.map D.int)),↥(.int here),x5])
     ⟨F,Wr,x5,rfl,gi.nd,λc hc=>hc,λc hc=>hc,λc hc=>gi.w c (zI _ hc),gi.r,λc hc=>.inl hc,λc hc=>(by cases hc),rfl⟩
    have fl':=q0J i1 λc hc=>(i5 c hc).mem h ha;simp_arith[e];have wl0:=gi.wl;rw[zE,zd]at wl0;refine⟨⟨F',W',_,_,rfl,i1,i2 a gi.st,∅,i4,i5,λb hb hw c hc=>?_⟩,?_⟩
    ·rcases i6 b hb with y|y
     ·by_cases z:b=here
      ·subst z
       exact i7 c ((v2 c).mpr hc)
      ·exact i2 c (gi.cl b y (λm=>by rcases zK.mp m with m|m;exact hw (i3 b m);exact z (zM.mp m)) c hc)
     ·exact vN y hw
    ·show (ts.length-F'.length)+(W'.map D.int).length<(ts.length-F.length)+(Wr.map D.int++[D.int here]).length
     rw[zA,zE,zA,zd];omega)
  (ω:=[↥(.int a),↥(.dic ts (nbD ts es)),some (.od [a] [.bl true]),some (.ow [.int a]),none,none])
  ⟨[a],[a],none,none,rfl,by simp,by simp,zN _,λc hc=>hc,λc hc=>by cases zM.mp hc;exact .refl,λb hb hw=>vN hb hw⟩
  (by show (ts.length-1)+1<1000000;omega)
 have fl:=q0J gi.nd λc hc=>(gi.r c hc).mem h ha;simp_arith[e,qfC (show F.length<64 by omega)];exact⟨F,rfl,gi.nd,λc=>⟨gi.r c,λr=>r.inv (λx=>x∈F) gi.st λb c hb hc=>gi.cl b hb (by simp) c hc⟩⟩
noncomputable def gD(g:List Int):D:=.lst (g.map D.int)
structure Cls (ts:List Int) (es:List (Int×Int)) (g:List Int) (a:Int):Prop where
 inn:a∈ts
 up:g.Pairwise (· < ·)
 mem:∀c,c∈g↔Rch es a c
 hd:g.head?=some a
theorem qgY{F:List Int}(h:F.Nodup):(Yh F).Pairwise (· < ·):=by
 have h1:(Yh F).Nodup:=(qI (l:=F)).nodup_iff.mpr h;have h2:=q1P (l:=F);have:=List.Pairwise.and h2 h1;exact this.imp λ{a b} h=>(by have h1:=h.1;have h2:=h.2;omega)
theorem qhY{ts:List Int}{es:List (Int×Int)}{F:List Int}{a:Int}(ha:a∈ts)(hn:F.Nodup)(hm:∀c,c∈F↔Rch es a c)(least:∀c∈F,a<=c):Cls ts es (Yh F) a:=by
 have pm:=qI (l:=F);have up:=qgY hn;refine⟨ha,up,λc=>by rw[pm.mem_iff,hm],?_⟩;have haF:a∈Yh F:=pm.mem_iff.mpr ((hm a).mpr .refl);cases q:Yh F with
 | nil=>rw[q]at haF;cases haF
 | cons b r=>
  rw[q]at haF up;have hb:a<=b:=least b (pm.mem_iff.mp (by rw[q];exact zD));rcases zF.mp haF with rfl|hr
  ·rfl
  ·have:=(zV.mp up).1 a hr
   omega
structure GS (ts:List Int) (es:List (Int×Int)) (gs:List (List Int)) (hs:List Int):Prop where
 len:gs.length=hs.length
 cls:∀(j:Nat)g a,gs[j]?=some g->hs[j]?=some a->Cls ts es g a
 up:hs.Pairwise (· < ·)
theorem GS.snoc{ts:List Int}{es:List (Int×Int)}{gs:List (List Int)}{hs:List Int}(h:GS ts es gs hs){g:List Int}{a:Int}(c:Cls ts es g a)(hu:∀b∈hs,b<a):GS ts es (gs++[g]) (hs++[a]):=by
 refine⟨by rw[zE,zE,h.len];rfl,λj g' a' e1 e2=>?_,?_⟩
 ·rcases zx j gs.length with z|z
  ·rw[zb z]at e1
   rw[zb (by rw[<- h.len];exact z)]at e2;exact h.cls j g' a' e1 e2
  ·rw[zW z]at e1
   rw[zW (by rw[<- h.len];exact z),<- h.len]at e2;cases hj:j-gs.length with
   | zero=>rw[hj]at e1 e2;cases e1;cases e2;exact c
   | succ n=>rw[hj]at e1;cases e1
 ·rw[xS]
  exact⟨h.up,by simp,λb hb c hc=>by cases zM.mp hc;exact hu b hb⟩
theorem GS.one{ts:List Int}{es:List (Int×Int)}{gs:List (List Int)}{hs:List Int}(h:GS ts es gs hs){g:List Int}(hg:g∈gs):∃a∈hs,Cls ts es g a:=by
 obtain⟨j,hj,rfl⟩:=zi.mp hg;have hj2:j<hs.length:=by rw[<- h.len];exact hj
 exact⟨hs[j],zZ _,h.cls j _ _ (zC hj) (zC hj2)⟩
theorem q7z{ts:List Int}{es:List (Int×Int)}(h:Ok ts es):∃gs hs,q0s [.lst (ts.map D.int),.lst (es.map YU)]=some (.fr (gs.map gD))/\GS ts es gs hs/\(∀t∈ts,∃g∈gs,t∈g)/\gs.length<=ts.length:=by
 unfold q0s q63;have hl1:=h.l1;have sp:=qI (l:=ts);have sl:=q1P (l:=ts);simp_arith[q8e h,qaN hl1];obtain⟨ω',e,gs,hs,Gd,x5,x6,x7,rfl,i1,i2,i3,i4,i5,i6⟩:=qQ (g:=gN 5) (b:=q4L) D.int (Yh ts)
  (λpre ω=>∃(gs:List (List Int)) (hs Gd:List Int) (x5 x6 x7:Option W),ω=[↥(.lst (ts.map D.int)),↥(.lst (es.map YU)),↥(.dic ts (nbD ts es)),some (.od Gd (XL Gd)),some (.ow (gs.map gD)),x5,x6,x7]/\GS ts es gs hs/\Gd.Nodup/\(∀c,c∈Gd↔∃g∈gs,c∈g)/\(∀t∈pre,t∈Gd)/\(∀a∈hs,a∈pre)/\gs.length<=pre.length)
  (λpre t post ω hd ⟨gs,hs,Gd,x5,x6,x7,hω,i1,i2,i3,i4,i5,i6⟩=>by
   subst hω;refine⟨_,rfl,?_⟩;have ht:t∈ts:=sp.mem_iff.mp (by rw[hd];simp);have hs1:(Yl Gd (XL Gd) t).isSome=decide (t∈Gd):=q3o (q7S Gd);have gts:∀c∈Gd,c∈ts:=λc hc=>by
    obtain⟨g,hg,hcg⟩:=(i3 c).mp hc;obtain⟨a,_,cl⟩:=i1.one hg;exact((cl.mem c).mp hcg).mem h cl.inn
   have plen:pre.length<=ts.length:=by rw[<- sp.length_eq,hd,zE];omega
   unfold q4L
   by_cases hc:t∈Gd
   ·simp_arith[hs1,hc,decide_true]
    exact⟨gs,hs,Gd,_,_,_,rfl,i1,i2,i3,λx hx=>(by rcases zK.mp hx with y|y;exact i4 x y;cases zM.mp y;exact hc),λa ha=>zI _ (i5 a ha),by rw[zE];omega⟩
   ·obtain⟨F,f1,f2,f3⟩:=qa4 h ht
    have least:∀c∈F,t<=c:=λc hcF=>by
     rcases Int.lt_or_le c t with z|z
     ·exfalso
      have rc:=(f3 c).mp hcF;have hcs:c∈Yh ts:=sp.mem_iff.mpr (rc.mem h ht);rw[hd]at hcs sl;have hcp:c∈pre:=by
       rcases zK.mp hcs with y|y
       ·exact y
       ·rcases zF.mp y with rfl|y
        ·omega
        ·have:=(zV.mp (xS.mp sl).2.1).1 c y
         omega
      obtain⟨g,hg,hcg⟩:=(i3 c).mp (i4 c hcp);obtain⟨a,_,cl⟩:=i1.one hg;exact hc ((i3 t).mpr ⟨g,hg,(cl.mem t).mpr (((cl.mem c).mp hcg).trans rc.symm)⟩)
     ·exact z
    have cl:=qhY ht f2 f3 least;have dis:∀c∈Yh F,c∉Gd:=λc hcg hcG=>by
     obtain⟨g,hg,hcg'⟩:=(i3 c).mp hcG;obtain⟨a,_,cl'⟩:=i1.one hg;exact hc ((i3 t).mpr ⟨g,hg,(cl'.mem t).mpr (((cl'.mem c).mp hcg').trans ((cl.mem c).mp hcg).symm)⟩)
    have hgl:(gs.map gD).length<1000000:=by rw[zA];omega
    simp_arith[hs1,hc,decide_false,f1,zAG hgl];obtain⟨ω',e,x7',rfl⟩:=qQ (g:=gN 7) (b:=q56) D.int (Yh F)
     (λpre' ω=>∃(x7:Option W),ω=[↥(.lst (ts.map D.int)),↥(.lst (es.map YU)),↥(.dic ts (nbD ts es)),some (.od (Gd++pre') (XL (Gd++pre'))),some (.ow (gs.map gD++[.lst ((Yh F).map D.int)])),↥(.int t),↥(.lst ((Yh F).map D.int)),x7])
     (λpre' c post' ω hd' ⟨x7,hω⟩=>by
      subst hω;refine⟨_,rfl,?_⟩;have ndF:(Yh F).Nodup:=(qI (l:=F)).nodup_iff.mpr f2;have hnew:c∉Gd++pre':=λm=>by
       rcases zK.mp m with y|y
       ·exact dis c (by rw[hd'];simp) y
       ·rw[hd',yU]at ndF
        exact ndF.2.2 c y c zD rfl
      obtain⟨p1,p2⟩:=qbc hnew;have hlen:(Gd++pre').length<1000000:=by
       have z1:=q0J i2 gts;have z2:pre'.length<=ts.length:=by
        have a1:(Yh F).length<=ts.length:=by
         rw[(qI (l:=F)).length_eq];exact q0J f2 λc hc=>((f3 c).mp hc).mem h ht
        rw[hd',zE]at a1;omega
       rw[zE];omega
      unfold q56;simp_arith[q42 hlen,p1,p2,yB];exact⟨_,rfl⟩)
     (ω:=[↥(.lst (ts.map D.int)),↥(.lst (es.map YU)),↥(.dic ts (nbD ts es)),some (.od Gd (XL Gd)),some (.ow (gs.map gD++[.lst ((Yh F).map D.int)])),↥(.int t),↥(.lst ((Yh F).map D.int)),x7]) ⟨x7,by rw[zw]⟩
    simp_arith[e];refine⟨gs++[Yh F],hs++[t],Gd++Yh F,_,_,_,by rw[zX];rfl,i1.snoc cl λb hb=>?_,?_,λc=>?_,λx hx=>?_,λa ha=>?_,by rw[zE,zE,zd,zd];omega⟩
    ·have hbp:=i5 b hb
     rw[hd]at sl;have le:b<=t:=(xS.mp sl).2.2 b hbp t zD;have ne:b≠t:=λz=>hc (i4 t (z▸hbp));omega
    ·rw[yU]
     exact⟨i2,(qI (l:=F)).nodup_iff.mpr f2,λx hx y hy z=>dis y hy (z▸hx)⟩
    ·rw[zK,i3]
     constructor
     ·rintro(⟨g,hg,hcg⟩|hcF)
      ·exact⟨g,zI _ hg,hcg⟩
      ·exact⟨_,zJ _ (zM.mpr rfl),hcF⟩
     ·rintro⟨g,hg,hcg⟩
      rcases zK.mp hg with y|y
      ·exact .inl ⟨g,y,hcg⟩
      ·cases zM.mp y;exact .inr hcg
    ·rcases zK.mp hx with y|y
     ·exact zI _ (i4 x y)
     ·cases zM.mp y
      exact zJ _ ((cl.mem t).mpr .refl)
    ·rcases zK.mp ha with y|y
     ·exact zI _ (i5 a y)
     ·exact zJ _ y)
  (ω:=[↥(.lst (ts.map D.int)),↥(.lst (es.map YU)),↥(.dic ts (nbD ts es)),some (.od [] []),some (.ow []),none,none,none])
  ⟨[],[],[],none,none,none,rfl,⟨rfl,λj g a e=>(by simp at e),.nil⟩,xk,by simp,by simp,by simp,zN _⟩
 simp_arith[e];refine⟨gs,hs,rfl,i1,λt ht=>?_,by rw[<- sp.length_eq];exact i6⟩;exact(i3 t).mp (i4 t (sp.mem_iff.mpr ht))
noncomputable def Xj:D->Bool
 | .int _=>true
 | _=>false
noncomputable def nsD:D->Bool
 | .scr _=>false
 | .exc _=>false
 | .dic _ _=>false
 | _=>true
noncomputable def noScr:D->Bool
 | .scr _=>false
 | .exc _=>false
 | .dic _ _=>false
 | .tup [a,b]=>nsD a&&nsD b
 | _=>true
noncomputable def isBoxL:List D->Bool
 | []=>false
 | [_]=>false
 | [a,b]=>Xj a&&Xj b
 | _::_::_::_=>false
noncomputable def zAC:D->Bool
 | .tup ds=>isBoxL ds
 | _=>false
theorem q2P{d:D}(h:nsD d=true):qp [d]=↥(.bl (Xj d)):=by
 cases d <;> first|rfl|cases h
theorem qj2{d:D}(h:noScr d=true):q3a [d]=↥(.bl (zAC d)):=by
 unfold q3a q5S
 match d,h with
 | .non,_=>rfl
 | .bl _,_=>rfl
 | .int _,_=>rfl
 | .str _,_=>rfl
 | .lst _,_=>rfl
 | .tup [],_=>rfl
 | .tup [_],_=>simp_arith[q02];rfl
 | .tup [a,b],h=>
  have h':=ZB.mp (show (_&&_)=true from h);have ha:=q2P h'.1;have hb:=q2P h'.2;simp_arith[ha,hb];simp_arith[show (((0+1+1:Nat):Int)==2)=true from rfl,ha,hb];cases a <;> cases b <;> rfl
 | .tup (a::b::c::r),_=>
  have hn:(((a::b::c::r).length:Int)==2)=false:=by
   simp only[zL,beq_eq_false_iff_ne,ne_eq];omega
  simp only[zL]at hn;simp_arith[hn];rfl
theorem q5V:∀(q:D->Bool)(ds:List D),allB (ds.map λd=>D.bl (q d))=some (ds.all q)
 | _,[]=>rfl
 | q,d::ds=>by
  show (allB (ds.map λd=>D.bl (q d))).map _=_;rw[q5V q ds];rfl
theorem qcZ{h l:D}{ds:List D}(hh:nsD h=true)(hl:nsD l=true)(hd:∀d∈ds,noScr d=true)(hlen:ds.length<=1000000):
  q0q [h,l,.lst ds]=↥(.bl (Xj h&&(Xj l&&ds.all zAC))):=by
 unfold q0q q3P;have e1:=q2P hh;have e2:=q2P hl;simp_arith[e1,e2,Y5 hlen];cases Xj h <;> cases Xj l <;> simp_arith[e2,Y5 hlen] <;> first|rfl|skip
 rw[q3t (λd=>D.bl (zAC d))]
 ·simp_arith[X1,q5V]
 ·intro d hd'
  unfold q52;simp_arith[inW,qj2 (hd d hd')]
noncomputable def flat(bs:List (Int×Int)):List Int:=bs.flatMap λp=>[p.1,p.2]
noncomputable def plc(h l:Int)(bs:List (Int×Int)):List Int:=h::l::flat bs
theorem qfG(bs:List (Int×Int))(p:Int×Int):flat (bs++[p])=flat bs++[p.1,p.2]:=by simp[flat]
theorem q2Q(bs:List (Int×Int)):(flat bs).length=2*bs.length:=by
 induction bs with
 | nil=>rfl
 | cons p r ih=>simp[flat]at ih ⊢;omega
theorem qgV(h l:Int)(bs:List (Int×Int))(p:Int×Int):plc h l (bs++[p])=plc h l bs++[p.1,p.2]:=by unfold plc;rw[qfG];rfl
theorem WV(x:Int):nsD (.int x)=true:=rfl
theorem qcY(p:Int×Int):zAC (YZ p)=true:=rfl
theorem qeH(bs:List (Int×Int)):(bs.map YZ).all zAC=true:=by
 rw[wd];exact yo.mpr λp _=>qcY p
theorem qdM{h l:Int}{bs:List (Int×Int)}(hb:bs.length<=1000):q0q [.int h,.int l,.lst (bs.map YZ)]=↥(.bl true):=by
 have:=qcZ (h:=.int h) (l:=.int l) (ds:=bs.map YZ) (WV h) (WV l) (λd hd=>by
  obtain⟨p,_,rfl⟩:=zS.mp hd;rfl) (by rw[zA];omega)
 rw[qeH]at this;exact this
theorem q9n{h l:Int}{bs:List (Int×Int)}(hb:bs.length<=1000):qL [.int h,.int l,.lst (bs.map YZ)]=some (.sh .non):=by
 unfold qL q1M;simp_arith[qdM hb]
theorem q4w{h l:Int}{bs:List (Int×Int)}(hb:bs.length<=30):q0e [.int h,.int l,.lst (bs.map YZ)]=some (.fr ((YY (plc h l bs)).map D.int)):=by
 unfold q0e q71;simp_arith[q9n (show bs.length<=1000 by omega)];obtain⟨ω',e,x4,rfl⟩:=qQ (g:=gN 4) (b:=q5T) YZ bs
  (λpre ω=>∃x4,ω=[↥(.int h),↥(.int l),↥(.lst (bs.map YZ)),some (.ow ((plc h l pre).map D.int)),x4])
  (λpre p post ω hd ⟨x4,hω⟩=>by
   subst hω;refine⟨_,rfl,?_⟩;unfold q5T;have hl:(plc h l pre).length<=1000:=by
    have:=vj yr hd;rw[zE,zL]at this;show (flat pre).length+1+1<=1000;rw[q2Q];omega
   have e1:=q9B (i:=3) (ω:=[↥(.int h),↥(.int l),↥(.lst (bs.map YZ)),some (.ow ((plc h l pre).map D.int)),↥(YZ p)]) (ds:=(plc h l pre).map D.int) (ds':=[.int p.1,.int p.2]) (by rw[zA,zL,zd];omega);simp_arith[q02];show WF (extS 3 _ (some (YZ p)) _) _;rw[show YZ p=D.tup [.int p.1,.int p.2]from rfl]at e1 ⊢;rw[e1,qgV,zX];exact⟨_,rfl⟩)
  (ω:=[↥(.int h),↥(.int l),↥(.lst (bs.map YZ)),some (.ow [.int h,.int l]),none]) ⟨none,rfl⟩
 simp_arith[e];have hlen:(plc h l bs).length<64:=by
  show (flat bs).length+1+1<64;rw[q2Q];omega
 have:Y8 (vOf (YI 3)) [↥(.int h),↥(.int l),↥(.lst (bs.map YZ)),some (.ow ((plc h l bs).map D.int)),x4]=some (.fr ((YY (plc h l bs)).map D.int)):=by
  show WJ (.lst ((plc h l bs).map D.int))=_;show (intsOf ((plc h l bs).map D.int)).bind _=_;rw[q0k];exact vH (qdq hlen)
 simp_arith[this]
noncomputable def YO(P:List Int):List (Int×Int):=P.zip (P.drop 1)
theorem q0H(P:List Int):(YO P).length=P.length-1:=by
 unfold YO;rw[yT,yK];omega
theorem qfj{P:List Int}{i:Nat}(h:i+1<P.length):(YO P)[i]?=some (P[i],P[i+1]):=by
 unfold YO;rw[yc];refine⟨zC ∅,?_⟩;show (P.drop 1)[i]?=some P[i+1];rw[yp,Nat.add_comm 1 i];exact zC h
theorem q4Z:∀(xs ys:List Int),wA pairD (xs.map D.int) (ys.map D.int)=(xs.zip ys).map YZ
 | [],_=>rfl
 | _::_,[]=>rfl
 | x::xs,y::ys=>by
  show _::wA pairD (xs.map D.int) (ys.map D.int)=_::(xs.zip ys).map YZ;rw[q4Z xs ys];rfl
theorem q9K(ds:List D):cutD ds (some 1) none=ds.drop 1:=by
 unfold cutD;have e:HT.sIx ds.length 0 (some 1)=min 1 ds.length:=HT.q5m ds.length 0 1;rw[e,HT.q9a];cases ds with
 | nil=>rfl
 | cons d r=>
  have:min 1 (d::r).length=1:=by rw[zL];omega
  rw[this];show List.take _ r=r;rw[zL,ZU,xr]
theorem q5r{h l:Int}{bs:List (Int×Int)}(hb:bs.length<=30):q0t [.int h,.int l,.lst (bs.map YZ)]=some (.fr ((YO (YY (plc h l bs))).map YZ)):=by
 unfold q0t q8J;have hz:Y7 [.lst ((YY (plc h l bs)).map D.int),.lst (cutD ((YY (plc h l bs)).map D.int) (some 1) none)]=some (.fr ((YO (YY (plc h l bs))).map YZ)):=by
  rw[q9K,<- ZN];show some (R.fr (wA pairD _ _))=_;rw[q4Z];rfl
 simp_arith[q4w hb,qfZ,hz]
structure Stp (P:List Int):Prop where
 ne:P≠[]
 rise:P.Pairwise (· < ·)
 len:P.length<=1000
theorem stp(h l:Int){bs:List (Int×Int)}(hb:bs.length<=30):Stp (YY (plc h l bs)):=by
 refine⟨λe=>?_,q05,?_⟩
 ·have:h∈YY (plc h l bs):=q0B.mpr (by simp[plc])
  rw[e]at this;simp at this
 ·have:(YY (plc h l bs)).length<=(plc h l bs).length:=q0C _
  have h2:(plc h l bs).length=2*bs.length+2:=by show (flat bs).length+1+1=_;rw[q2Q]
  omega
theorem Stp.lt{P:List Int}(S:Stp P){i j:Nat}(hi:i<P.length)(hj:j<P.length)(h:i<j):P[i]<P[j]:=yF.mp S.rise i j hi hj h
theorem Stp.le{P:List Int}(S:Stp P){i j:Nat}(hi:i<P.length)(hj:j<P.length)(h:i<=j):P[i]<=P[j]:=by
 rcases zx i j with z|z
 ·exact xG (S.lt hi hj z)
 ·have:i=j:=∅
  subst this;exact z7 _
theorem Stp.amid{P:List Int}(S:Stp P){i:Nat}(h:i+1<P.length){x:Int}(hx:x∈P):x<=P[i]\/P[i+1]<=x:=by
 obtain⟨j,hj,rfl⟩:=zi.mp hx;rcases zx i j with z|z
 ·right;exact S.le h hj z
 ·left;exact S.le hj ∅ z
theorem q3Z(a b:Int):YZ (a,b)=.tup [.int a,.int b]:=rfl
noncomputable def over(s g:Int)(q:Int×Int):Bool:=decide (s<=q.1)&&decide (q.2<=g)
theorem q8V(s g a b:Int):q0c [.int s,.int g,.tup [.int a,.int b]]=↥(.bl (over s g (a,b))):=by
 unfold q0c q2G over;simp_arith[q02]
noncomputable def rts(bs:List (Int×Int))(q:Int×Int):Int:=((bs.filter λp=>over p.1 p.2 q).length:Nat)
noncomputable def lfs(bs:List (Int×Int))(q:Int×Int):Int:=((bs.filter λp=>over p.2 p.1 q).length:Nat)
noncomputable def onP(f:Int->Int->Bool):D->Bool
 | .tup [.int a,.int b]=>f a b
 | _=>false
theorem q7V(f:Int->Int->Bool)(bs:List (Int×Int)):((bs.map YZ).filter (onP f)).map (λd=>d)=(bs.filter λp=>f p.1 p.2).map YZ:=by
 rw[Zi,yy];rfl
theorem q4g{bs:List (Int×Int)}{q:Int×Int}(hb:bs.length<=1000):q0h [.lst (bs.map YZ),YZ q]=↥(.tup [.int (rts bs q),.int (lfs bs q)]):=by
 unfold q0h q4N;have hl:(bs.map YZ).length<=1000000:=by rw[zA];omega
 obtain⟨a,b⟩:=q;have c1:Yu (gN 0) q4v q4n (bs.map YZ) [none,↥(.tup [.int a,.int b])]=some ((bs.filter λp=>over p.1 p.2 (a,b)).map YZ):=by
  rw[<- q7V (λs g=>over s g (a,b))];refine q7X (onP λs g=>over s g (a,b)) (λd=>d) (bs.map YZ) λd hd=>?_;obtain⟨⟨s,g⟩,_,rfl⟩:=zS.mp hd;unfold q4v q4n;simp_arith[q3Z,q8V];exact⟨rfl,λ_=>trivial⟩
 have c2:Yu (gN 0) q4l q4r (bs.map YZ) [none,↥(.tup [.int a,.int b])]=some ((bs.filter λp=>over p.2 p.1 (a,b)).map YZ):=by
  rw[<- q7V (λs g=>over g s (a,b))];refine q7X (onP λs g=>over g s (a,b)) (λd=>d) (bs.map YZ) λd hd=>?_;obtain⟨⟨s,g⟩,_,rfl⟩:=zS.mp hd;unfold q4l q4r;simp_arith[q3Z,q8V];exact⟨rfl,λ_=>trivial⟩
 simp_arith[q3Z,Y5 hl,inW,XC,c1,c2];rfl
noncomputable def Yj(h l:Int)(bs:List (Int×Int))(q:Int×Int):Int:=rts [(h,l)] q-lfs [(h,l)] q-rts bs q+lfs bs q
theorem qh7{h l:Int}{bs:List (Int×Int)}{q:Int×Int}(hb:bs.length<=1000):q4H [.int h,.int l,.lst (bs.map YZ),YZ q]=↥(.int (Yj h l bs q)):=by
 unfold q4H q9D;have e1:=q4g (bs:=[(h,l)]) (q:=q) (by show 1<=1000;decide);have e2:=q4g (bs:=bs) (q:=q) hb;rw[zR,yf,q3Z]at e1;simp_arith[e1,e2];rfl
theorem q9y{h l:Int}{bs:List (Int×Int)}(hb:bs.length<=30):q1C [.int h,.int l,.lst (bs.map YZ)]=some (.fr (((YO (YY (plc h l bs))).map (Yj h l bs)).map D.int)):=by
 unfold q1C q7e;have S:=stp h l hb;have hl:((YO (YY (plc h l bs))).map YZ).length<=1000000:=by rw[zA,q0H];have:=S.len;omega
 simp_arith[q5r hb,Y5 hl,inW,XC];rw[q3t (λd=>match d with|.tup [.int a,.int b]=>D.int (Yj h l bs (a,b))|d=>d)]
 case h=>
  intro d hd;obtain⟨⟨a,b⟩,_,rfl⟩:=zS.mp hd;unfold q9u;have e:=qh7 (h:=h) (l:=l) (bs:=bs) (q:=(a,b)) ∅;rw[q3Z]at e ⊢;simp_arith[e]
 rw[zc,zc];rfl
noncomputable def ov(s g:Int)(q:Int×Int):Int:=if over s g q=true then 1 else if over g s q=true then -1 else 0
theorem q8D(f:Int×Int->Int):∀L:List (Int×Int),Xs (L.map YZ) ((L.map f).map D.int)=L.map λq=>D.tup [YZ q,.int (f q)]
 | []=>rfl
 | q::r=>by
  show D.tup [YZ q,.int (f q)]::Xs (r.map YZ) ((r.map f).map D.int)=_;rw[q8D f r];rfl
noncomputable def snd0:D->Bool
 | .tup [_,.int k]=>!(k==0)
 | _=>false
noncomputable def fst0:D->D
 | .tup [x,_]=>x
 | d=>d
theorem qct(f:Int×Int->Int)(L:List (Int×Int)):Yu (gT 2 (YT (gN 0) (YT (gN 1) Ys))) q4e q5P (L.map λq=>D.tup [YZ q,.int (f q)]) [none,none]=some ((L.filter λq=>!(f q==0)).map YZ):=by
 have:=q3m (g:=gT 2 (YT (gN 0) (YT (gN 1) Ys))) (c:=q4e) (f:=q5P) (λw=>∃a b,w=[a,b]) snd0 fst0 (L.map λq=>D.tup [YZ q,.int (f q)]) (ω:=[none,none]) ⟨_,_,rfl⟩ (λd hd w ⟨a,b,hw⟩=>by
  obtain⟨q,_,rfl⟩:=zS.mp hd;subst hw;refine⟨[↥(YZ q),↥(.int (f q))],rfl,⟨_,_,rfl⟩,?_,λ_=>rfl⟩;unfold q4e;simp_arith[q02];rfl)
 rw[this,yy,zc];rfl
theorem q8A{h l:Int}{bs:List (Int×Int)}(hb:bs.length<=30):q1Q [.int h,.int l,.lst (bs.map YZ)]=some (.fr ((bs++[(h,l)]++(YO (YY (plc h l bs))).filter λq=>!(Yj h l bs q==0)).map YZ)):=by
 unfold q1Q q7d;have S:=stp h l hb;have hg:=q5r (h:=h) (l:=l) hb;have hk:=q9y (h:=h) (l:=l) hb;have hL:(YO (YY (plc h l bs))).length<=1000:=by rw[q0H];have:=S.len;omega
 generalize YO (YY (plc h l bs))=L at hg hk hL ⊢;have hl:(L.map λq=>D.tup [YZ q,.int (Yj h l bs q)]).length<=1000000:=by rw[zA];omega
 have hf:=yG (λq=>!(Yj h l bs q==0)) L;simp_arith[hg,hk,q8D,Y5 hl,inW,qct (Yj h l bs)];have a1:Yv (.lst (bs.map YZ)) (.lst [.tup [.int h,.int l]])=some (.fr (bs.map YZ++[.tup [.int h,.int l]])):=q5h (by rw[zA,zd];omega);have a2:Yv (.lst (bs.map YZ++[.tup [.int h,.int l]])) (.lst ((L.filter λq=>!(Yj h l bs q==0)).map YZ))=some (.fr (bs.map YZ++[.tup [.int h,.int l]]++(L.filter λq=>!(Yj h l bs q==0)).map YZ)):=q5h (by rw[zE,zA,zA,zd];omega);simp_arith[a1,a2];rw[zX,zX];rfl
theorem q03{α:Type}{g:FG}{c:FT}{f:FD}(P:WSt->Prop)(q:α->Bool)(B F:α->D):∀(xs:List α){ω:WSt},P ω ->
  (∀x∈xs,∀ω,P ω->∃w,g (B x) ω=some w/\P w/\c w=some (q x)/\(q x=true->f w=some (F x)))->Yu g c f (xs.map B) ω=some ((xs.filter q).map F)
 | [],_,_,_=>rfl
 | x::xs,ω,h,t=>by
  obtain⟨w,h1,h2,h3,h4⟩:=t x zD ω h;have ih:=q03 P q B F xs h2 (λe he=>t e (zG _ he));rw[zR,Yu,h1,yb,h3,yb];cases hq:q x with
  | true=>rw[vH rfl,h4 hq,yb,ih,yW hq];rfl
  | false=>rw[vJ (by decide),ih,yX (by rw[hq];decide)]
theorem q1k{α:Type}{i:Nat}{c:FT}{f:FD}(q:α->Bool)(B F:α->D)(xs:List α){ω:WSt}(h:∀x∈xs,c (ω.set i ↥(B x))=some (q x)/\(q x=true->f (ω.set i ↥(B x))=some (F x))):Yu (gN i) c f (xs.map B) ω=some ((xs.filter q).map F) :=
 q03 (g:=gN i) (c:=c) (f:=f) (λw=>∀x,w.set i x=ω.set i x) q B F xs (ω:=ω) (λx=>rfl) λd hd w hw=>
  ⟨w.set i ↥(B d),rfl,λx=>by rw[Zf,hw],by rw[hw];exact(h d hd).1,λz=>by rw[hw];exact(h d hd).2 z⟩
theorem qx{α:Type}{i:Nat}{f:FD}(B F:α->D)(xs:List α){ω:WSt}(h:∀x∈xs,f (ω.set i ↥(B x))=some (F x)):Yu (gN i) Yc f (xs.map B) ω=some (xs.map F):=by
 have:=q1k (c:=Yc) (i:=i) (f:=f) (λ_=>true) B F xs (ω:=ω) λx hx=>⟨rfl,λ_=>h x hx⟩;rw[this,yR.mpr (λ_ _=>rfl)]
theorem qcV{α:Type}(f:α->Int):∀bs:List α,zAv (bs.map λp=>D.int (f p))=some (bs.map f).sum
 | []=>rfl
 | b::r=>by
  show (zAv (r.map λp=>D.int (f p))).map _=_;rw[qcV f r];rfl
theorem q6n{α:Type}(f:α->Int)(bs:List α):zAt [.lst (bs.map λp=>D.int (f p))]=↥(.int (bs.map f).sum):=by
 show (zAv _).map _=_;rw[qcV];rfl
theorem q96{α:Type}(q:α->Bool):∀bs:List α,allB (bs.map λp=>D.bl (q p))=some (bs.all q)
 | []=>rfl
 | b::r=>by
  show (allB (r.map λp=>D.bl (q p))).map _=_;rw[q96 q r];rfl
structure Lev (P:List Int) (kn:List (Int×Int)) (r:Int×List (List Int)):Prop where
 ne:∀g∈r.2,g≠[]
 pm:r.2.flatten.Perm P
 tie:∀e∈kn++(YO P).filter (λq=>decide (q.2-q.1<r.1)),∃g∈r.2,e.1∈g/\e.2∈g
noncomputable def wgh(a:Int):List (Int×List (List Int))->Int
 | []=>0
 | r::rs=>(r.1-a)*((r.2.length:Int)-1)+wgh r.1 rs
def zAY(a:Int):List (Int×List (List Int))->Prop
 | []=>True
 | r::rs=>a<r.1/\zAY r.1 rs
structure Gap (h l:Int) (bs:List (Int×Int)) (g:Int×Int):Prop where
 lt:g.1<g.2
 h:h<=g.1\/g.2<=h
 l:l<=g.1\/g.2<=l
 b:∀b∈bs,(b.1<=g.1\/g.2<=b.1)/\(b.2<=g.1\/g.2<=b.2)
noncomputable def Yn(c:Int):Int:=if c<0 then -c else c
theorem Cls.low{ts:List Int}{es:List (Int×Int)}{g:List Int}{a:Int}(c:Cls ts es g a):∀x∈g,a<=x:=λx hx=>by
 have h:=c.hd;have u:=c.up;cases g with
 | nil=>cases hx
 | cons b r=>
  cases h;rcases zF.mp hx with rfl|hx
  ·exact z7 _
  ·exact xG ((zV.mp u).1 x hx)
theorem GS.apart{ts:List Int}{es:List (Int×Int)}{gs:List (List Int)}{hs:List Int}(h:GS ts es gs hs){i j:Nat}{g g':List Int}{c:Int}(e1:gs[i]?=some g)(e2:gs[j]?=some g')(h1:c∈g)(h2:c∈g'):i=j:=by
 have li:=(zy.mp e1).1;have lj:=(zy.mp e2).1;rw[h.len]at li lj;have c1:=h.cls i g _ e1 (zC li);have c2:=h.cls j g' _ e2 (zC lj);have r1:=(c1.mem c).mp h1;have r2:=(c2.mem c).mp h2;have a1:=c1.low _ ((c1.mem _).mpr (r1.trans r2.symm));have a2:=c2.low _ ((c2.mem _).mpr (r2.trans r1.symm));rcases wN i j with z|z|z
 ·have:=yF.mp h.up i j li lj z;omega
 ·exact z
 ·have:=yF.mp h.up j i lj li z;omega
theorem qbI:∀{gs:List (List Int)},(∀g∈gs,g.Nodup)->(∀(i j:Nat)g g' c,gs[i]?=some g->gs[j]?=some g'->c∈g->c∈g'->i=j)->gs.flatten.Nodup
 | [],_,_=>xk
 | g::gs,h1,h2=>by
  rw[xH,yU];refine⟨h1 g zD,qbI (λg hg=>h1 g (zG _ hg)) (λi j a b c e1 e2 m1 m2=>?_),λx hx y hy e=>?_⟩
  ·have:=h2 (i+1) (j+1) a b c e1 e2 m1 m2;omega
  ·subst e
   obtain⟨g',hg',hx'⟩:=xu.mp hy;obtain⟨j,hj,rfl⟩:=zi.mp hg';have:=h2 0 (j+1) g _ x rfl (zC hj) hx hx';omega
theorem GS.flat{ts:List Int}{es:List (Int×Int)}{gs:List (List Int)}{hs:List Int}(ok:Ok ts es)(h:GS ts es gs hs)(all:∀t∈ts,∃g∈gs,t∈g):gs.flatten.Perm ts:=by
 have nd:gs.flatten.Nodup:=qbI (λg hg=>by
  obtain⟨a,_,c⟩:=h.one hg;exact c.up.imp λ{a b} h e=>∅) λi j g g' c e1 e2 m1 m2=>h.apart e1 e2 m1 m2
 refine(y9 nd ok.nd).mpr λx=>⟨λhx=>?_,λhx=>?_⟩
 ·obtain⟨g,hg,hx⟩:=xu.mp hx
  obtain⟨a,_,c⟩:=h.one hg;exact((c.mem x).mp hx).mem ok c.inn
 ·obtain⟨g,hg,hx⟩:=all x hx
  exact xu.mpr ⟨g,hg,hx⟩
theorem qi6{P:List Int}{es kn:List (Int×Int)}{gs:List (List Int)}{hs:List Int}{t:Int}(ok:Ok P es)(h:GS P es gs hs)(all:∀t∈P,∃g∈gs,t∈g)(sub:∀e∈kn++(YO P).filter (λq=>decide (q.2-q.1<t)),e∈es):Lev P kn (t,gs) where
 ne:=λg hg e=>by
  obtain⟨a,_,c⟩:=h.one hg;have:=c.hd;rw[e]at this;cases this
 pm:=h.flat ok all
 tie:=λe he=>by
  have he:=sub e he;obtain⟨g,hg,h1⟩:=all _ (ok.inn e he).1;obtain⟨a,_,c⟩:=h.one hg;exact⟨g,hg,h1,(c.mem _).mpr (((c.mem _).mp h1).step (.inl he))⟩
noncomputable def nmP:Nat->List (List Int)->List (Nat×List Int)
 | _,[]=>[]
 | k,g::gs=>(k,g)::nmP (k+1) gs
noncomputable def kkP(ps:List (Nat×List Int)):List Int:=ps.flatMap (·.2)
noncomputable def vvP(ps:List (Nat×List Int)):List D:=ps.flatMap λp=>p.2.map λ_=>D.int (p.1:Int)
theorem q5c:∀(k:Nat)(gs:List (List Int)),kkP (nmP k gs)=gs.flatten
 | _,[]=>rfl
 | k,g::gs=>by show g++kkP (nmP (k+1) gs)=_;rw[q5c];rfl
theorem qej:∀ps:List (Nat×List Int),(kkP ps).length=(vvP ps).length
 | []=>rfl
 | p::ps=>by show (p.2++kkP ps).length=((p.2.map λ_=>D.int (p.1:Int))++vvP ps).length;rw[zE,zE,zA,qej ps]
theorem qbY{α:Type}(v:α):∀(g:List Int){x:Int},x∈g->Yl g (g.map λ_=>v) x=some v
 | [],_,h=>by cases h
 | y::g,x,h=>by
  show (if y=x then some v else Yl g (g.map λ_=>v) x)=some v
  by_cases z:y=x
  ·rw[vH z]
  ·rw[vJ z]
   rcases zF.mp h with rfl|h
   ·exact vN rfl z
   ·exact qbY v g h
theorem q9Y{α:Type}:∀{a:List Int}{c:List α}{b:List Int}{d:List α}{x:Int},a.length=c.length->x∈a->Yl (a++b) (c++d) x=Yl a c x
 | [],_,_,_,_,_,h=>by cases h
 | _::_,[],_,_,_,h,_=>by simp at h
 | y::a,v::c,b,d,x,hl,h=>by
  show (if y=x then some v else Yl (a++b) (c++d) x)=if y=x then some v else Yl a c x
  by_cases z:y=x
  ·rw[vH z,vH z]
  ·rw[vJ z,vJ z]
   rcases zF.mp h with rfl|h
   ·exact vN rfl z
   ·exact q9Y ⇑hl h
theorem q7D{α:Type}:∀{a:List Int}{c:List α}{b:List Int}{d:List α}{x:Int},a.length=c.length->x∉a->Yl (a++b) (c++d) x=Yl b d x
 | [],[],_,_,_,_,_=>rfl
 | [],_::_,_,_,_,h,_=>by simp at h
 | _::_,[],_,_,_,h,_=>by simp at h
 | y::a,v::c,b,d,x,hl,h=>by
  show (if y=x then some v else Yl (a++b) (c++d) x)=_;rw[vJ (λz=>h (by rw[z];exact zD))];exact q7D ⇑hl λz=>h (zG _ z)
theorem q4G:∀{gs:List (List Int)}{k:Nat},gs.flatten.Nodup->∀{j:Nat}{g:List Int}{x:Int},gs[j]?=some g->x∈g->Yl (kkP (nmP k gs)) (vvP (nmP k gs)) x=some (.int ((k+j:Nat):Int))
 | [],k,_,j,g,x,h,_=>by cases h
 | g'::gs,k,hn,j,g,x,h,hx=>by
  rw[xH,yU]at hn;show Yl (g'++kkP (nmP (k+1) gs)) ((g'.map λ_=>D.int (k:Int))++vvP (nmP (k+1) gs)) x=_;cases j with
  | zero=>cases h;rw[q9Y (by rw[zA]) hx,qbY _ _ hx];rfl
  | succ j=>
   have hg:gs[j]?=some g:=h;have hf:x∈gs.flatten:=xu.mpr ⟨g,yJ hg,hx⟩;rw[q7D (by rw[zA]) (λz=>hn.2.2 x z x hf rfl),q4G hn.2.1 hg hx,show k+1+j=k+(j+1) by omega]
theorem qfo{gs:List (List Int)}(hn:gs.flatten.Nodup){g:List Int}(hg:g∈gs){p q:Int}(hp:p∈g)(hq:q∈g):∃i:Int,Yl (kkP (nmP 0 gs)) (vvP (nmP 0 gs)) p=some (.int i)/\Yl (kkP (nmP 0 gs)) (vvP (nmP 0 gs)) q=some (.int i):=by
 obtain⟨k,hk,rfl⟩:=zi.mp hg;exact⟨_,q4G hn (zC hk) hp,q4G hn (zC hk) hq⟩
theorem qaZ{α:Type}{ks:List Int}{xs:List α}{k:Int}(y:α)(h:k∉ks):Xa ks k=ks++[k]/\putA ks xs k y=xs++[y]:=by
 unfold Xa putA;rw[vJ h,vJ h];exact⟨rfl,rfl⟩
noncomputable def X8(r:Int×List (List Int)):D:=.tup [.int r.1,.lst (r.2.map gD)]
noncomputable def Xn(bs:List (Int×Int))(q:Int×Int):D:=.tup [.int q.1,.int q.2,.int (rts bs q),.int (lfs bs q)]
noncomputable def edD(q:Int×Int):D:=.tup [.int q.1,.int q.2,.int (q.2-q.1)]
noncomputable def Pz(h l:Int)(bs:List (Int×Int)):List Int:=YY (plc h l bs)
noncomputable def Kn(h l:Int)(bs:List (Int×Int)):List (Int×Int):=bs++[(h,l)]++(YO (Pz h l bs)).filter λq=>!(Yj h l bs q==0)
theorem q6O{h l:Int}{bs:List (Int×Int)}(hb:bs.length<=30):(YO (Pz h l bs)).length<=1000:=by
 rw[q0H];have:=(stp h l hb).len;unfold Pz;omega
theorem qbg(h l:Int)(bs:List (Int×Int)):(Pz h l bs).Pairwise (· < ·):=q05
theorem q6N{h l:Int}{bs:List (Int×Int)}(hb:bs.length<=30):(Pz h l bs).length<64:=by
 have h1:(Pz h l bs).length<=(plc h l bs).length:=q0C _;have h2:(plc h l bs).length=2*bs.length+2:=by show (flat bs).length+1+1=_;rw[q2Q]
 omega
theorem q4X{h l:Int}{bs:List (Int×Int)}(hb:bs.length<=30):q06 [.int h,.int l,.lst (bs.map YZ)]=some (.fr ((YO (Pz h l bs)).map (Xn bs))):=by
 unfold q06 q3x;have hl:((YO (Pz h l bs)).map YZ).length<=1000000:=by rw[zA];have:=q6O (h:=h) (l:=l) hb;omega
 have cm:=qx (i:=0) (f:=q2N) YZ (Xn bs) (YO (Pz h l bs)) (ω:=[none,↥(.lst (bs.map YZ))]) (λq hq=>by
  have c:=q4g (bs:=bs) (q:=q) ∅;have ha:Yv (YZ q) (.tup [.int (rts bs q),.int (lfs bs q)])=↥(Xn bs q):=rfl;unfold q2N;simp_arith[c,ha])
 have g:=q5r (h:=h) (l:=l) hb;rw[show YY (plc h l bs)=Pz h l bs from rfl]at g;simp_arith[g,Y5 hl,inW,XC,cm]
theorem qbT(n:Int):qp [.int n]=↥(.bl true):=q2P (d:=.int n) rfl
theorem q6H(ns:List Int):Yu (gN 0) Yc q2D (ns.map D.int) [none]=some (ns.map λ_=>D.bl true):=qx D.int (λ_=>D.bl true) ns λn _=>by
 unfold q2D;simp_arith[qbT]
theorem q5f{α:Type}(xs:List α):allB (xs.map λ_=>D.bl true)=some true:=by
 rw[q96 (λ_=>true) xs];simp
theorem qeQ{ns:List Int}(h:ns.length<=1000):qP [.tup (ns.map D.int)]=↥(.bl true):=by
 unfold qP q1Z;have hl:(ns.map D.int).length<=1000000:=by rw[zA];omega
 simp_arith[Y5 hl,inW,XC,q6H,X1,q5f]
theorem qfd{ns:List Int}(h:ns.length<=1000):qP [.lst (ns.map D.int)]=↥(.bl true):=by
 unfold qP q1Z;have hl:(ns.map D.int).length<=1000000:=by rw[zA];omega
 simp_arith[Y5 hl,inW,XC,q6H,X1,q5f]
theorem qhz(bs:List (Int×Int))(q:Int×Int):(Xn bs q).py.canLay0=true/\(Xn bs q).py.depth<=2:=⟨rfl,by show 1<=2;decide⟩
theorem qeZ(bs gs:List (Int×Int)):shp (.lst (gs.map (Xn bs)))=true:=qaO 2 (by decide) λd hd=>by
 obtain⟨q,_,rfl⟩:=zS.mp hd;exact qhz bs q
theorem q88{bs gs:List (Int×Int)}(h:gs.length<=1000):q0y [.lst (gs.map (Xn bs)),.lst (gs.map (Xn bs))]=↥(.bl true):=by
 unfold q0y q2F;have hl:(gs.map (Xn bs)).length<=1000000:=by rw[zA];omega
 have cm:=qx (i:=0) (f:=q2h) (Xn bs) (λ_=>D.bl true) gs (ω:=[none]) (λq hq=>by
  have w:=qeQ (ns:=[q.1,q.2,rts bs q,lfs bs q]) (by show 4<=1000;decide);rw[show D.tup ([q.1,q.2,rts bs q,lfs bs q].map D.int)=Xn bs q from rfl]at w;unfold q2h;simp_arith[w])
 simp_arith[q5F (qeZ bs gs),Y5 hl,inW,XC,cm,X1,q5f]
theorem qak{g:List Int}(hn:g≠[])(h:g.length<=1000):q1s [gD g]=↥(.bl true):=by
 unfold q1s q4m gD;have w:=qfd h;have hp:(0:Int)<(g.length:Nat):=by have:=xb.mpr hn;omega
 simp_arith[w,hp,decide_true]
theorem qcT{P:List Int}{gs:List (List Int)}(hP:P.Pairwise (· < ·))(h:gs.flatten.Perm P):Yh gs.flatten=P:=by
 have hn:P.Nodup:=hP.imp λ{a b} z=>Int.ne_of_lt z;exact q2q q1P (hP.imp λ{a b} z=>xG z) ((qI (l:=gs.flatten)).trans h)
theorem qfb(ns:List Int):shp (.lst (ns.map D.int))=true:=qaO 2 (by decide) λd hd=>by
 obtain⟨q,_,rfl⟩:=zS.mp hd;exact⟨rfl,by show 0<=2;decide⟩
theorem q5D:∀{gs:List (List Int)}{g:List Int},g∈gs->g.length<=gs.flatten.length
 | g'::gs,g,h=>by
  rw[xH,zE];rcases zF.mp h with rfl|h
  ·omega
  ·have:=q5D h;omega
theorem q4K:∀{gs:List (List Int)},(∀g∈gs,g≠[])->gs.length<=gs.flatten.length
 | [],_=>zN _
 | g::gs,h=>by
  rw[xH,zE,zL];have:=q4K (gs:=gs) λg hg=>h g (zG _ hg);have:=xb.mpr (h g zD);omega
theorem q83{P:List Int}{gs:List (List Int)}(hP:P.Pairwise (· < ·))(hl:P.length<64)(ne:∀g∈gs,g≠[])(pm:gs.flatten.Perm P):q0D [.lst (gs.map gD),.lst (P.map D.int)]=↥(.bl true):=by
 unfold q0D q3e;have fl:gs.flatten.length<64:=by rw[pm.length_eq];exact hl
 have gl:=q4K ne;have hl2:(gs.map gD).length<=1000000:=by rw[zA];omega
 have cm:=qx (i:=0) (f:=q2n) gD (λ_=>D.bl true) gs (ω:=[none]) (λg hg=>by
  have w:=qak (ne g hg) (by have:=q5D hg;omega);unfold q2n;simp_arith[w])
 simp_arith[Y5 hl2,inW,XC,cm,X1,q5f];obtain⟨ω',e,x3,rfl⟩:=qQ (g:=gN 3) (b:=q2d) gD gs
  (λpre ω=>∃x3,ω=[↥(.lst (gs.map gD)),↥(.lst (P.map D.int)),some (.ow (pre.flatten.map D.int)),x3])
  (λpre g post ω hd ⟨x3,hω⟩=>by
   subst hω;refine⟨_,rfl,?_⟩;have hle:(pre.flatten.map D.int).length+(g.map D.int).length<=1000000:=by
    have:=vj (λz=>z.flatten.length) hd;simp only[ZJ,xH,zE]at this;rw[zA,zA];omega
   have e1:=q8U (i:=2) (ω:=[↥(.lst (gs.map gD)),↥(.lst (P.map D.int)),some (.ow (pre.flatten.map D.int)),↥(.lst (g.map D.int))]) (ds:=pre.flatten.map D.int) (ds':=g.map D.int) hle;unfold q2d;show WF (sExt 2 (dOf (YI 3)) [↥(.lst (gs.map gD)),↥(.lst (P.map D.int)),some (.ow (pre.flatten.map D.int)),↥(.lst (g.map D.int))]) _;simp_arith[e1];have ef:(pre++[g]).flatten=pre.flatten++g:=by rw[ZJ,xH,List.flatten_nil,zw]
   rw[ef,zX];exact⟨_,rfl⟩)
  (ω:=[↥(.lst (gs.map gD)),↥(.lst (P.map D.int)),some (.ow []),none]) ⟨none,rfl⟩
 simp_arith[e,qaN fl,qcT hP pm,q5F (qfb P)]
noncomputable def nmD(p:Nat×List Int):D:=.tup [.int (p.1:Int),gD p.2]
theorem qbM:∀(k:Nat)(gs:List (List Int)),Xp k (gs.map gD)=(nmP k gs).map nmD
 | _,[]=>rfl
 | k,g::gs=>by show D.tup [.int (k:Int),gD g]::Xp (k+1) (gs.map gD)=_;rw[qbM];rfl
theorem qd1(a b:List (Nat×List Int)):kkP (a++b)=kkP a++kkP b:=by unfold kkP;rw[ZK]
theorem qj0(a b:List (Nat×List Int)):vvP (a++b)=vvP a++vvP b:=by unfold vvP;rw[ZK]
theorem q6I{gs:List (List Int)}(nd:gs.flatten.Nodup)(fl:gs.flatten.length<64):qD [.lst (gs.map gD)]=↥(.dic (kkP (nmP 0 gs)) (vvP (nmP 0 gs))):=by
 unfold qD q1A;simp_arith[qbM];have nd':(kkP (nmP 0 gs)).Nodup:=by rw[q5c];exact nd
 have fl':(kkP (nmP 0 gs)).length<64:=by rw[q5c];exact fl
 generalize nmP 0 gs=ps at nd' fl';obtain⟨ω',e,x2,x3,x4,rfl⟩:=qQ (g:=gT 2 (YT (gN 2) (YT (gN 3) Ys))) (b:=q1d) nmD ps
  (λpre ω=>∃x2 x3 x4,ω=[↥(.lst (gs.map gD)),some (.od (kkP pre) (vvP pre)),x2,x3,x4])
  (λpre p post ω hd ⟨x2,x3,x4,hω⟩=>by
   subst hω;refine⟨_,rfl,?_⟩;unfold q1d;obtain⟨k,g⟩:=p;rw[hd,qd1]at nd' fl';show WF (WB _ _ _ [↥(.lst (gs.map gD)),some (.od (kkP pre) (vvP pre)),↥(.int (k:Int)),↥(.lst (g.map D.int)),x4]) _;simp_arith[q02];obtain⟨ω',e,y4,rfl⟩:=qQ (g:=gN 4) (b:=q1b) D.int g
    (λpre' ω=>∃y4,ω=[↥(.lst (gs.map gD)),some (.od (kkP pre++pre') (vvP pre++pre'.map λ_=>D.int (k:Int))),↥(.int (k:Int)),↥(.lst (g.map D.int)),y4])
    (λpre' c post' ω hd' ⟨y4,hω⟩=>by
     subst hω;refine⟨_,rfl,?_⟩;have nd2:(kkP pre++(pre'++c::post')).Nodup:=by
      have:(kkP pre++(g++kkP post)).Nodup:=nd';rw[hd',<- yB]at this;exact(yU.mp this).1
     have hnew:c∉kkP pre++pre':=λm=>by
      rw[<- yB]at nd2;exact(yU.mp nd2).2.2 c m c zD rfl
     have hlen:(kkP pre++pre').length<1000000:=by
      have:(kkP pre++(g++kkP post)).length<64:=fl';rw[hd']at this;simp only[zE,zL]at this ⊢;omega
     obtain⟨p1,p2⟩:=qaZ (xs:=vvP pre++pre'.map λ_=>D.int (k:Int)) (D.int (k:Int)) hnew;unfold q1b;simp_arith[q42 hlen,p1,p2,yB];exact⟨_,by rw[zX];rfl⟩)
    (ω:=[↥(.lst (gs.map gD)),some (.od (kkP pre) (vvP pre)),↥(.int (k:Int)),↥(.lst (g.map D.int)),x4]) ⟨x4,by rw[zw,yf,zw]⟩
   simp_arith[e];have ek:kkP (pre++[(k,g)])=kkP pre++g:=by
    rw[qd1];show kkP pre++(g++[])=_;rw[zw]
   have ev:vvP (pre++[(k,g)])=vvP pre++g.map λ_=>D.int (k:Int):=by
    rw[qj0];show vvP pre++((g.map λ_=>D.int (k:Int))++[])=_;rw[zw]
   rw[ek,ev];exact⟨_,_,_,rfl⟩)
  (ω:=[↥(.lst (gs.map gD)),some (.od [] []),none,none,none]) ⟨none,none,none,rfl⟩
 simp_arith[e]
theorem qeO{gs:List (List Int)}{ds:List D}(nd:gs.flatten.Nodup)(fl:gs.flatten.length<64)(hl:ds.length<=10000)(h:∀d∈ds,∃a b r,d=.tup (.int a::.int b::r)/\∃g∈gs,a∈g/\b∈g):
  qV [.lst (gs.map gD),.lst ds]=↥(.bl true):=by
 unfold qV q19;have hl2:ds.length<=1000000:=∅
 have cm:=q3t (i:=0) (f:=q0L) (λ_=>D.bl true) ds (ω:=[none,↥(.dic (kkP (nmP 0 gs)) (vvP (nmP 0 gs)))]) (λd hd=>by
  obtain⟨a,b,r,rfl,g,hg,h1,h2⟩:=h d hd;obtain⟨i,v1,v2⟩:=qfo nd hg h1 h2;unfold q0L;have q:oEq false (.int i) (.int i)=↥(.bl true):=q5F rfl;simp_arith[v1,v2,q])
 simp_arith[q6I nd fl,Y5 hl2,inW,XC,cm,X1,q5f]
theorem qhT(q:Int×Int):qH [edD q]=↥(.int (q.2-q.1)):=by
 unfold qH q9S edD;simp_arith[q02]
theorem qab{P:List Int}{kn:List (Int×Int)}{r:Int×List (List Int)}(hP:P.Pairwise (· < ·))(hl:P.length<64)(hk:kn.length<=1000)(L:Lev P kn r):
  q1w [X8 r,.lst (P.map D.int),.lst (kn.map YZ),.lst ((YO P).map edD)]=↥(.bl true):=by
 obtain⟨t,gs⟩:=r;have hPn:P.Nodup:=hP.imp λ{a b} z=>Int.ne_of_lt z;have nd:gs.flatten.Nodup:=L.pm.nodup_iff.mpr hPn;have fl:gs.flatten.length<64:=by rw[L.pm.length_eq];exact hl
 have glen:(YO P).length<=64:=by rw[q0H];omega
 unfold q1w q4d X8;have ag:=q83 hP hl L.ne L.pm;have hl2:((YO P).map edD).length<=1000000:=by rw[zA];omega
 have cm:=q1k (i:=0) (c:=q3H) (f:=q3N) (λq=>decide (q.2-q.1<t)) edD edD (YO P) (ω:=[none,↥(.tup [.int t,.lst (gs.map gD)])]) (λq hq=>by
  unfold q3H q3N;have c:=qhT q;simp_arith[c];exact⟨trivial,λ_=>trivial⟩)
 have fil_len:((YO P).filter λq=>decide (q.2-q.1<t)).length<=64:=yA (yG _ _) glen;have ad:Yv (.lst (kn.map YZ)) (.lst (((YO P).filter λq=>decide (q.2-q.1<t)).map edD))=some (.fr (kn.map YZ++((YO P).filter λq=>decide (q.2-q.1<t)).map edD)):=q5h (by rw[zA,zA];omega);have ho:=qeO (gs:=gs) (ds:=kn.map YZ++((YO P).filter λq=>decide (q.2-q.1<t)).map edD) nd fl (by rw[zE,zA,zA];omega) λd hd=>by
  rcases zK.mp hd with z|z
  ·obtain⟨q,hq,rfl⟩:=zS.mp z
   exact⟨q.1,q.2,[],rfl,L.tie q (zI _ hq)⟩
  ·obtain⟨q,hq,rfl⟩:=zS.mp z
   exact⟨q.1,q.2,[.int (q.2-q.1)],rfl,L.tie q (zJ _ hq)⟩
 have l2:(((2:Nat):Int)==2)=true:=rfl;simp_arith[l2,qbT,ag,Y5 hl2,inW,XC,cm,ad,ho]
theorem qbV:∀(xs ys:List Int),Xs (xs.map D.int) (ys.map D.int)=(xs.zip ys).map YZ
 | x::xs,y::ys=>by show D.tup [.int x,.int y]::Xs (xs.map D.int) (ys.map D.int)=_;rw[qbV xs ys];rfl
 | [],ys=>by cases ys <;> rfl
 | x::xs,[]=>rfl
theorem qb1:∀{rows:List (Int×List (List Int))}{a:Int},zAY a rows->((a::rows.map (·.1)).zip (rows.map (·.1))).all (λp=>decide (p.1<p.2))=true
 | [],a,_=>rfl
 | r::rs,a,⟨h1,h2⟩=>by
  show (decide (a<r.1)&&((r.1::rs.map (·.1)).zip (rs.map (·.1))).all (λp=>decide (p.1<p.2)))=true;rw[vW h1,qb1 h2];rfl
theorem qhO{rows:List (Int×List (List Int))}(h:zAY 0 rows)(hl:rows.length<=1000):q04 [.lst (rows.map λr=>D.int r.1)]=↥(.bl true):=by
 unfold q04 q1o;have e0:(rows.map λr=>D.int r.1)=(rows.map (·.1)).map D.int:=by rw[zc];rfl
 have ad:Yv (.lst [.int 0]) (.lst ((rows.map (·.1)).map D.int))=some (.fr ((0::rows.map (·.1)).map D.int)):=q5h (by rw[zA,zA,zd];omega);have hl2:(((0::rows.map (·.1)).zip (rows.map (·.1))).map YZ).length<=1000000:=by rw[zA,yT,zA];omega
 have cm:=q03 (g:=gT 2 (YT (gN 0) (YT (gN 1) Ys))) (c:=Yc) (f:=q1c) (λw=>∃a b,w=[a,b]) (λ_=>true) YZ (λp=>D.bl (decide (p.1<p.2))) ((0::rows.map (·.1)).zip (rows.map (·.1))) (ω:=[none,none]) ⟨_,_,rfl⟩ (λp _ w ⟨a,b,hw⟩=>by
  subst hw;refine⟨[↥(.int p.1),↥(.int p.2)],rfl,⟨_,_,rfl⟩,rfl,λ_=>?_⟩;unfold q1c;simp_arith[q02])
 rw[yR.mpr (λ_ _=>rfl)]at cm;rw[e0];have tz:Xs (.int 0::(rows.map (·.1)).map D.int) ((rows.map (·.1)).map D.int)=(((0:Int)::rows.map (·.1)).zip (rows.map (·.1))).map YZ:=qbV (0::List.map Prod.fst rows) (List.map Prod.fst rows);simp_arith[ad,tz,Y5 hl2,inW,XC,cm,X1,q96,qb1 h]
theorem q8M{h l:Int}{bs:List (Int×Int)}(hb:bs.length<=30):q0a [.int h,.int l,.lst (bs.map YZ)]=some (.fr ((YO (Pz h l bs)).map edD)):=by
 unfold q0a q3I;have hl:((YO (Pz h l bs)).map YZ).length<=1000000:=by rw[zA];have:=q6O (h:=h) (l:=l) hb;omega
 have cm:=qx (i:=0) (f:=q2R) YZ edD (YO (Pz h l bs)) (ω:=[none]) (λq hq=>by
  obtain⟨a,b⟩:=q;unfold q2R YZ edD;simp_arith[q02])
 have g:=q5r (h:=h) (l:=l) hb;rw[show YY (plc h l bs)=Pz h l bs from rfl]at g;simp_arith[g,Y5 hl,inW,XC,cm]
theorem qia{h l:Int}{bs:List (Int×Int)}(hb:bs.length<=30):(Kn h l bs).length<=1000:=by
 unfold Kn;have h1:=yG (λq=>!(Yj h l bs q==0)) (YO (Pz h l bs));have h2:(YO (Pz h l bs)).length<=64:=by rw[q0H];have:=q6N (h:=h) (l:=l) hb;omega
 rw[zE,zE,zd];omega
theorem q8j{h l:Int}{bs:List (Int×Int)}{rows:List (Int×List (List Int))}(hb:bs.length<=30)(hr:rows.length<=1000)(ris:zAY 0 rows)(L:∀r∈rows,Lev (Pz h l bs) (Kn h l bs) r):
  q0w [.int h,.int l,.lst (bs.map YZ),.lst (rows.map X8)]=↥(.bl true):=by
 unfold q0w q2C;have s:=q4w (h:=h) (l:=l) hb;have k:=q8A (h:=h) (l:=l) hb;rw[show YY (plc h l bs)=Pz h l bs from rfl]at s k;rw[show (bs++[(h,l)]++(YO (Pz h l bs)).filter λq=>!(Yj h l bs q==0))=Kn h l bs from rfl]at k;have ed:=q8M (h:=h) (l:=l) hb;have hl:(rows.map X8).length<=1000000:=by rw[zA];omega
 have c1:=qx (i:=0) (f:=q2k) X8 (λ_=>D.bl true) rows (ω:=[none,↥(.lst ((Pz h l bs).map D.int)),↥(.lst ((Kn h l bs).map YZ)),↥(.lst ((YO (Pz h l bs)).map edD))]) (λr hr=>by
  have il:=qab (qbg h l bs) (q6N hb) (qia hb) (L r hr);unfold q2k;simp_arith[il])
 have c2:=qx (i:=0) (f:=q2i) X8 (λr=>D.int r.1) rows (ω:=[none]) (λr hr=>by
  unfold q2i X8;simp_arith[q02])
 simp_arith[s,k,ed,Y5 hl,inW,XC,c1,c2,X1,q5f,qhO ris hr]
theorem q9L{h l:Int}{bs:List (Int×Int)}{rows:List (Int×List (List Int))}(hb:bs.length<=30)(hr:rows.length<=1000)(ris:zAY 0 rows)(L:∀r∈rows,Lev (Pz h l bs) (Kn h l bs) r):
  q0T [.int h,.int l,.lst (bs.map YZ),.tup [.lst ((YO (Pz h l bs)).map (Xn bs)),.lst (rows.map X8)]]=↥(.bl true):=by
 unfold q0T q3D;have c:=q9n (h:=h) (l:=l) (bs:=bs) ∅;have l2:(((2:Nat):Int)==2)=true:=rfl;simp_arith[l2,c,q4X hb,q88 (q6O hb),q8j hb hr ris L]
theorem q6M{D0 D1:Option W}:∀(rows:List (Int×List (List Int)))(tot a:Int)(x4 x5:Option W),(∀r∈rows,r.2.length<=1000)->∃a' y4 y5,WM (gT 2 (YT (gN 4) (YT (gN 5) Ys))) q2s (rows.map X8) [D0,↥(.int 1),↥(.int tot),↥(.int a),x4,x5] =
  some (.nx,[D0,↥(.int 1),↥(.int (tot+wgh a rows)),↥(.int a'),y4,y5])
 | [],tot,a,x4,x5,_=>⟨a,x4,x5,by show some _=_;rw[show tot+wgh a []=tot from wf _]⟩
 | r::rs,tot,a,x4,x5,h=>by
  obtain⟨t,gs⟩:=r;have hg:=h (t,gs) zD;obtain⟨a',y4,y5,ih⟩:=q6M (D0:=D0) (D1:=D1) rs (tot+(t-a)*((gs.length:Int)-1)) t ↥(.int t) ↥(.lst (gs.map gD)) λr hr=>h r (zG _ hr);refine⟨a',y4,y5,?_⟩;have mu:WA (.int (t-a)) (.int ((gs.length:Int)-1))=↥(.int ((t-a)*((gs.length:Int)-1))):=q39 (by simp only at hg;omega) (by simp only at hg;omega);rw[zR,WM];show Option.bind (some [D0,↥(.int 1),↥(.int tot),↥(.int a),↥(.int t),↥(.lst (gs.map gD))]) _=_;rw[yb];have st:q2s [D0,↥(.int 1),↥(.int tot),↥(.int a),↥(.int t),↥(.lst (gs.map gD))]=some (.nx,[D0,↥(.int 1),↥(.int (tot+(t-a)*((gs.length:Int)-1))),↥(.int t),↥(.int t),↥(.lst (gs.map gD))]):=by
   unfold q2s;simp_arith[mu]
  rw[st];show WM _ _ _ _=_;rw[ih,show wgh a ((t,gs)::rs)=(t-a)*((gs.length:Int)-1)+wgh t rs from rfl,ZP]
theorem qbZ{rows:List (Int×List (List Int))}(h:∀r∈rows,r.2.length<=1000):q22 [.lst (rows.map X8),.int 1]=↥(.int (wgh 0 rows)):=by
 unfold q22 q4T;obtain⟨a',y4,y5,e⟩:=q6M (D0:=↥(.lst (rows.map X8))) (D1:=none) rows 0 0 none none h;simp_arith[e,xn]
theorem q3i{bs:List (Int×Int)}{q:Int×Int}:0<=rts bs q/\rts bs q<=bs.length/\0<=lfs bs q/\lfs bs q<=bs.length:=by
 unfold rts lfs;have h1:=yG (λp:Int×Int=>over p.1 p.2 q) bs;have h2:=yG (λp:Int×Int=>over p.2 p.1 q) bs;omega
theorem q6w{h l:Int}{bs:List (Int×Int)}{q:Int×Int}(hb:bs.length<=30):-100<=Yj h l bs q/\Yj h l bs q<=100:=by
 unfold Yj;have h1:=q3i (bs:=bs) (q:=q);have h2:=q3i (bs:=[(h,l)]) (q:=q);simp only[zd]at h2;omega
noncomputable def gwt(h l:Int)(bs:List (Int×Int))(g:Int×Int):Int:=(g.2-g.1)*(rts bs g+lfs bs g+Yn (Yj h l bs g))
theorem q8d{h l:Int}{bs:List (Int×Int)}{q:Int×Int}(hb:bs.length<=30):q0E [Xn bs q,.int (Yj h l bs q)]=↥(.int (gwt h l bs q)):=by
 unfold q0E q2U Xn gwt;have h1:=q3i (bs:=bs) (q:=q);have h2:=q6w (h:=h) (l:=l) (q:=q) hb;have ha:bAbs [.int (Yj h l bs q)]=↥(.int (Yn (Yj h l bs q))):=rfl;have h3:-100<=Yn (Yj h l bs q)/\Yn (Yj h l bs q)<=100:=by unfold Yn;split <;> omega
 have mu:WA (.int (q.2-q.1)) (.int (rts bs q+lfs bs q+Yn (Yj h l bs q)))=↥(.int ((q.2-q.1)*(rts bs q+lfs bs q+Yn (Yj h l bs q)))):=q39 ∅ ∅;have a3:∀a b c d:D,atI [a,b,c,d] 3=some d:=λ_ _ _ _=>rfl;simp_arith[ha,a3,mu]
theorem qdW(f:Int×Int->Int)(B:Int×Int->D):∀L:List (Int×Int),Xs (L.map B) ((L.map f).map D.int)=L.map λq=>D.tup [B q,.int (f q)]
 | []=>rfl
 | q::L=>by show D.tup [B q,.int (f q)]::Xs (L.map B) ((L.map f).map D.int)=_;rw[qdW f B L];rfl
theorem qee{h l:Int}{bs:List (Int×Int)}{rows:List (Int×List (List Int))}(hb:bs.length<=30)(hr:rows.length<=1000)(ris:zAY 0 rows)(L:∀r∈rows,Lev (Pz h l bs) (Kn h l bs) r):
  q3b [.int h,.int l,.lst (bs.map YZ),.tup [.lst ((YO (Pz h l bs)).map (Xn bs)),.lst (rows.map X8)]]=↥(.int (((YO (Pz h l bs)).map (gwt h l bs)).sum+2*wgh 0 rows)):=by
 unfold q3b q6b;have lk:=q9y (h:=h) (l:=l) hb;rw[show YY (plc h l bs)=Pz h l bs from rfl]at lk;have hz:Xs ((YO (Pz h l bs)).map (Xn bs)) (((YO (Pz h l bs)).map (Yj h l bs)).map D.int)=(YO (Pz h l bs)).map λq=>D.tup [Xn bs q,.int (Yj h l bs q)]:=qdW _ _ _;have hl:((YO (Pz h l bs)).map λq=>D.tup [Xn bs q,.int (Yj h l bs q)]).length<=1000000:=by rw[zA];have:=q6O (h:=h) (l:=l) hb;omega
 have cm:=q03 (g:=gT 2 (YT (gN 0) (YT (gN 1) Ys))) (c:=Yc) (f:=q4I) (λw=>∃a b,w=[a,b]) (λ_=>true) (λq=>D.tup [Xn bs q,.int (Yj h l bs q)]) (λq=>D.int (gwt h l bs q)) (YO (Pz h l bs)) (ω:=[none,none]) ⟨_,_,rfl⟩ (λq _ w ⟨a,b,hw⟩=>by
  subst hw;refine⟨[↥(Xn bs q),↥(.int (Yj h l bs q))],rfl,⟨_,_,rfl⟩,rfl,λ_=>?_⟩;have g:=q8d (h:=h) (l:=l) (q:=q) hb;unfold q4I;simp_arith[g])
 rw[yR.mpr (λ_ _=>rfl)]at cm;have gl:∀r∈rows,r.2.length<=1000:=λr hr=>by
  have h1:=q4K (L r hr).ne;rw[(L r hr).pm.length_eq]at h1;have:=q6N (h:=h) (l:=l) hb;omega
 have wg:=qbZ gl;have mu:WA (.int 2) (.int (wgh 0 rows))=↥(.int (2*wgh 0 rows)):=q9q (by decide) (by decide);simp_arith[q9L hb hr ris L,lk,hz,Y5 hl,inW,XC,cm,q6n,wg,mu]
theorem q0U{h l:Int}{bs:List (Int×Int)}(p:Int):p∈Pz h l bs↔p=h\/p=l\/∃b∈bs,p=b.1\/p=b.2:=by
 unfold Pz;rw[q0B];unfold plc flat;simp only[zF,xY,zg,or_false]
theorem q8y{P:List Int}{g:Int×Int}(h:g∈YO P):∃(i:Nat) (hi:i+1<P.length),g=(P[i],P[i+1]):=by
 obtain⟨i,hi,rfl⟩:=zi.mp h;have hi':=hi;rw[q0H]at hi';have e:=qfj (P:=P) (i:=i) ∅;refine⟨i,∅,?_⟩;rw[zC hi]at e;exact z5 e
theorem q45{P:List Int}{g:Int×Int}(h:g∈YO P):g.1∈P/\g.2∈P:=by
 obtain⟨i,hi,rfl⟩:=q8y h;exact⟨zZ _,zZ _⟩
theorem q8z{h l:Int}{bs:List (Int×Int)}(hb:bs.length<=30):∀g∈YO (Pz h l bs),Gap h l bs g:=λg hg=>by
 have S:=stp h l hb;obtain⟨i,hi,rfl⟩:=q8y hg;have am:∀x∈Pz h l bs,x<=(Pz h l bs)[i]\/(Pz h l bs)[i+1]<=x:=λx hx=>Stp.amid (P:=Pz h l bs) S hi hx;exact⟨Stp.lt (P:=Pz h l bs) S ∅ hi ∅,am h ((q0U h).mpr (.inl rfl)),am l ((q0U l).mpr (.inr (.inl rfl))),λb hb=>⟨am _ ((q0U _).mpr (.inr (.inr ⟨b,hb,.inl rfl⟩))),am _ ((q0U _).mpr (.inr (.inr ⟨b,hb,.inr rfl⟩)))⟩⟩
theorem qgp{h l:Int}{bs:List (Int×Int)}{e:Int×Int}(he:e∈Kn h l bs):e.1∈Pz h l bs/\e.2∈Pz h l bs:=by
 unfold Kn at he;rcases zK.mp he with he|he
 ·rcases zK.mp he with he|he
  ·exact⟨(q0U _).mpr (.inr (.inr ⟨e,he,.inl rfl⟩)),(q0U _).mpr (.inr (.inr ⟨e,he,.inr rfl⟩))⟩
  ·cases zM.mp he
   exact⟨(q0U _).mpr (.inl rfl),(q0U _).mpr (.inr (.inl rfl))⟩
 ·exact q45 (zp.mp he).1
theorem Cls.least{ts:List Int}{es:List (Int×Int)}{g:List Int}{a:Int}(c:Cls ts es g a):∀x∈g,a<=x:=λx hx=>by
 have hh:=c.hd;have up:=c.up;cases g with
 | nil=>cases hx
 | cons b r=>
  cases hh;rcases zF.mp hx with rfl|y
  ·exact z7 _
  ·exact xG ((zV.mp up).1 x y)
theorem GS.heads{ts:List Int}{es:List (Int×Int)}{gs:List (List Int)}{hs:List Int}(h:GS ts es gs hs)(all:∀t∈ts,∃g∈gs,t∈g)(a:Int):a∈hs↔(a∈ts/\∀c,Rch es a c->a<=c):=by
 constructor
 ·intro ha
  obtain⟨j,hj,rfl⟩:=zi.mp ha;have hj2:j<gs.length:=by rw[h.len];exact hj
  have cl:=h.cls j _ _ (zC hj2) (zC hj);exact⟨cl.inn,λc r=>cl.least c ((cl.mem c).mpr r)⟩
 ·rintro⟨h1,h2⟩
  obtain⟨g,hg,hag⟩:=all a h1;obtain⟨b,hb,cl⟩:=h.one hg;have l1:=cl.least a hag;have r:=(cl.mem a).mp hag;have l2:=h2 b r.symm;have:a=b:=∅
  rw[this];exact hb
theorem Rch.mono{es fs:List (Int×Int)}{a c:Int}(h:∀e∈es,e∈fs)(r:Rch es a c):Rch fs a c:=by
 induction r with
 | refl=>exact .refl
 | step _ e ih=>exact ih.step (e.elim (λz=>.inl (h _ z)) λz=>.inr (h _ z))
noncomputable def Yq(f:Int->Int)(a b:Int):Int->Int:=λx=>if f x=b then a else f x
def Tells(ts:List Int)(es:List (Int×Int))(f:Int->Int):Prop:=∀x∈ts,∀y∈ts,f x=f y↔Rch es x y
theorem Tells.skip{ts:List Int}{es:List (Int×Int)}{f:Int->Int}(h:Tells ts es f){p q:Int}(hp:p∈ts)(hq:q∈ts)(e:f p=f q):Tells ts (es++[(p,q)]) f:=by
 intro x hx y hy;rw[h x hx y hy];have pq:=(h p hp q hq).mp e;refine⟨λr=>r.mono λe he=>zI _ he,λr=>?_⟩;refine Rch.inv (λz=>Rch es x z) .refl (λb c hb hbc=>?_) r;have key:∀{u v:Int},(u,v)∈es++[(p,q)]->Rch es u v:=λ{u v} m=>by
  rcases zK.mp m with m|m
  ·exact Rch.refl.step (.inl m)
  ·cases zM.mp m;exact pq
 rcases hbc with m|m
 ·exact hb.trans (key m)
 ·exact hb.trans (key m).symm
theorem Tells.join{ts:List Int}{es:List (Int×Int)}{f:Int->Int}(h:Tells ts es f)(inn:∀e∈es,e.1∈ts/\e.2∈ts){p q:Int}(hp:p∈ts)(hq:q∈ts):Tells ts (es++[(p,q)]) (Yq f (f p) (f q)):=by
 intro x hx y hy;have up:∀{u v:Int},Rch es u v->Rch (es++[(p,q)]) u v:=λr=>r.mono λe he=>zI _ he;have pq:Rch (es++[(p,q)]) p q:=Rch.refl.step (.inl (by simp))
 constructor
 ·intro e
  unfold Yq at e
  by_cases h1:f x=f q
  ·rw[vH h1]at e
   by_cases h2:f y=f q
   ·exact up ((h x hx y hy).mp (by rw[h1,h2]))
   ·rw[vJ h2]at e
    exact((up ((h x hx q hq).mp h1)).trans pq.symm).trans (up ((h p hp y hy).mp e))
  ·rw[vJ h1]at e
   by_cases h2:f y=f q
   ·rw[vH h2]at e
    exact((up ((h x hx p hp).mp e)).trans pq).trans (up ((h q hq y hy).mp h2.symm))
   ·rw[vJ h2]at e
    exact up ((h x hx y hy).mp e)
 ·intro r
  have key:∀{u v:Int},(u,v)∈es++[(p,q)]->u∈ts/\v∈ts/\Yq f (f p) (f q) u=Yq f (f p) (f q) v:=λ{u v} m=>by
   rcases zK.mp m with m|m
   ·obtain⟨a,b⟩:=inn _ m
    have e:=(h u a v b).mpr (Rch.refl.step (.inl m));exact⟨a,b,by unfold Yq;rw[e]⟩
   ·cases zM.mp m
    refine⟨hp,hq,?_⟩;unfold Yq;rw[vH rfl]
    by_cases z:f p=f q
    ·rw[vH z]
    ·rw[vJ z]
  exact(Rch.inv (λz=>z∈ts/\Yq f (f p) (f q) x=Yq f (f p) (f q) z) ⟨hx,rfl⟩ (λb c hb hbc=>by
   rcases hbc with m|m
   ·obtain⟨a1,a2,a3⟩:=key m;exact⟨a2,hb.2.trans a3⟩
   ·obtain⟨a1,a2,a3⟩:=key m;exact⟨a1,hb.2.trans a3.symm⟩) r).2
noncomputable def zAu(f:Int->Int)(ts:List Int)(a:Int):Bool:=ts.all λc=>f c != f a || decide (a<=c)
noncomputable def many(f:Int->Int)(ts:List Int):Nat:=(ts.filter (zAu f ts)).length
theorem q1H{f:Int->Int}{ts:List Int}{a:Int}:zAu f ts a=true↔∀c∈ts,f c=f a->a<=c:=by
 unfold zAu;rw[yo]
 constructor
 ·intro h c hc e
  have:=h c hc;simp[e]at this;exact this
 ·intro h c hc
  by_cases e:f c=f a
  ·simp[h c hc e]
  ·simp[e]
theorem q43{l m:List Int}(h1:l.Nodup)(h2:m.Nodup)(h:∀c,c∈l↔c∈m):l.length=m.length :=
 Nat.le_antisymm (q0J h1 λc hc=>(h c).mp hc) (q0J h2 λc hc=>(h c).mpr hc)
theorem q8O{l:List Int}(h:l.Pairwise (· < ·)):l.Nodup:=h.imp λa b=>∅
theorem GS.many{ts:List Int}{es:List (Int×Int)}{gs:List (List Int)}{hs:List Int}(ok:Ok ts es)(h:GS ts es gs hs)(all:∀t∈ts,∃g∈gs,t∈g){f:Int->Int}(t:Tells ts es f):gs.length=Kx.many f ts:=by
 rw[h.len];refine q43 (q8O h.up) (ok.nd.filter _) λa=>?_;rw[h.heads all,zp,q1H];refine and_congr_right λha=>?_
 constructor
 ·intro k c hc e
  exact k c ((t a ha c hc).mp e.symm)
 ·intro k c r
  have hc:=r.mem ok ha;exact k c hc ((t a ha c hc).mpr r).symm
theorem q9G{ts:List Int}(P:Int->Prop)[DecidablePred P]{p:Int}(hp:p∈ts)(h:P p):∃a∈ts,P a/\∀c∈ts,P c->a<=c:=by
 induction ts with
 | nil=>cases hp
 | cons t r ih=>
  by_cases z:∃x∈r,P x
  ·obtain⟨x,hx,px⟩:=z
   have ih':∃a∈r,P a/\∀c∈r,P c->a<=c:=by
    clear ih hp
    induction r generalizing x with
    | nil=>cases hx
    | cons u r ih2=>
     by_cases y:∃w∈r,P w
     ·obtain⟨w,hw,pw⟩:=y
      obtain⟨a,a1,a2,a3⟩:=ih2 w hw pw
      by_cases pu:P u
      ·by_cases l:u<=a
       ·exact⟨u,zD,pu,λc hc pc=>(zF.mp hc).elim (λe=>by rw[e];exact z7 _) λhc=>xX l (a3 c hc pc)⟩
       ·exact⟨a,zG _ a1,a2,λc hc pc=>(zF.mp hc).elim (λe=>by rw[e];omega) λhc=>a3 c hc pc⟩
      ·exact⟨a,zG _ a1,a2,λc hc pc=>(zF.mp hc).elim (λe=>vN (e▸pc) pu) λhc=>a3 c hc pc⟩
     ·have pu:P u:=(zF.mp hx).elim (λe=>e▸px) λhx=>vN ⟨x,hx,px⟩ y
      exact⟨u,zD,pu,λc hc pc=>(zF.mp hc).elim (λe=>by rw[e];exact z7 _) λhc=>vN ⟨c,hc,pc⟩ y⟩
   obtain⟨a,a1,a2,a3⟩:=ih'
   by_cases pt:P t
   ·by_cases l:t<=a
    ·exact⟨t,zD,pt,λc hc pc=>(zF.mp hc).elim (λe=>by rw[e];exact z7 _) λhc=>xX l (a3 c hc pc)⟩
    ·exact⟨a,zG _ a1,a2,λc hc pc=>(zF.mp hc).elim (λe=>by rw[e];omega) λhc=>a3 c hc pc⟩
   ·exact⟨a,zG _ a1,a2,λc hc pc=>(zF.mp hc).elim (λe=>vN (e▸pc) pt) λhc=>a3 c hc pc⟩
  ·have pt:P t:=(zF.mp hp).elim (λe=>e▸h) λhx=>vN ⟨p,hx,h⟩ z
   exact⟨t,zD,pt,λc hc pc=>(zF.mp hc).elim (λe=>by rw[e];exact z7 _) λhc=>vN ⟨c,hc,pc⟩ z⟩
theorem qaw{l:List Int}(hn:l.Nodup){P Q:Int->Bool}{m:Int}(hm:m∈l)(pm:P m=true)(h:∀c∈l,Q c=(P c&&c != m)):(l.filter Q).length+1=(l.filter P).length:=by
 induction l with
 | nil=>cases hm
 | cons a r ih=>
  obtain⟨n1,n2⟩:=ye.mp hn;rw[yD,yD,h a zD]
  by_cases e:a=m
  ·subst e
   have:r.filter Q=r.filter P:=xo λc hc=>by
    rw[h c (zG _ hc)];have:(c != a)=true:=by simp;intro z;exact n1 (z▸hc)
    rw[this,wR]
   simp[pm,this]
  ·have hm':m∈r:=(zF.mp hm).elim (λz=>vN z.symm e) id
   have ih':=ih n2 hm' λc hc=>h c (zG _ hc);have e':(a != m)=true:=by simpa using e
   rw[e',wR];cases P a with
   | true=>simp;omega
   | false=>simpa using ih'
theorem qcO{ts:List Int}{f:Int->Int}(hn:ts.Nodup){p q:Int}(hp:p∈ts)(hq:q∈ts)(ne:f p≠f q):many (Yq f (f p) (f q)) ts+1=many f ts:=by
 obtain⟨a,a1,a2,a3⟩:=q9G (λc=>f c=f p) hp rfl;obtain⟨b,b1,b2,b3⟩:=q9G (λc=>f c=f q) hq rfl;have ab:a≠b:=λz=>ne (by rw[<- a2,<- b2,z]);have hmax:max a b=a\/max a b=b:=∅
 have la:zAu f ts a=true:=q1H.mpr λc hc e=>a3 c hc (by rw[e,a2]);have lb:zAu f ts b=true:=q1H.mpr λc hc e=>b3 c hc (by rw[e,b2]);refine qaw hn (m:=max a b) (hmax.elim (λz=>by rw[z];exact a1) λz=>by rw[z];exact b1) (hmax.elim (λz=>by rw[z];exact la) λz=>by rw[z];exact lb) λc hc=>?_;rw[ww,z6,q1H,q1H,bne_iff_ne];have jf:∀x,Yq f (f p) (f q) x=if f x=f q then f p else f x:=λ_=>rfl
 constructor
 ·intro h
  refine⟨λd hd e=>h d hd (by rw[jf,jf,e]),λz=>?_⟩;rcases hmax with y|y
  ·have:=h b b1 (by rw[jf,jf,vH b2,z,y,a2,vJ ne])
   omega
  ·have:=h a a1 (by rw[jf,jf,a2,vJ ne,z,y,vH b2])
   omega
 ·rintro⟨h1,h2⟩ d hd e
  rw[jf,jf]at e
  by_cases y1:f d=f q
  ·rw[vH y1]at e
   by_cases y2:f c=f q
   ·exact h1 d hd (by rw[y1,y2])
   ·rw[vJ y2]at e
    have c1:=h1 a a1 (by rw[a2,e]);have c2:=a3 c hc e.symm;have c3:=b3 d hd y1;omega
  ·rw[vJ y1]at e
   by_cases y2:f c=f q
   ·rw[vH y2]at e
    have c1:=h1 b b1 (by rw[b2,y2]);have c2:=b3 c hc y2;have c3:=a3 d hd e;omega
   ·rw[vJ y2]at e
    exact h1 d hd e
noncomputable abbrev Eg:=Int×Int×Int
noncomputable def Yr(e:Eg):Int×Int:=(e.1,e.2.1)
noncomputable def YM(e:Eg):Int:=e.2.2
noncomputable def Yx(s:(Int->Int)×List Eg)(e:Eg):(Int->Int)×List Eg:=if s.1 e.1=s.1 e.2.1 then s else (Yq s.1 (s.1 e.1) (s.1 e.2.1),s.2++[e])
noncomputable def Yk(f:Int->Int)(es:List Eg):(Int->Int)×List Eg:=es.foldl Yx (f,[])
theorem q26(f:Int->Int)(es:List Eg)(e:Eg):Yk f (es++[e])=Yx (Yk f es) e:=by unfold Yk;rw[wM];rfl
theorem q0X{α:Type}{P:List α->Prop}(h0:P [])(hs:∀l a,P l->P (l++[a]))(l:List α):P l:=by
 have:∀l:List α,P l.reverse:=λl=>by
  induction l with
  | nil=>exact h0
  | cons a r ih=>rw[List.reverse_cons];exact hs _ _ ih
 have:=this l.reverse
 rwa [ZD]at this
theorem q6k{ts:List Int}{kn:List (Int×Int)}{f:Int->Int}(hn:ts.Nodup)(h:Tells ts kn f)(inn:∀e∈kn,e.1∈ts/\e.2∈ts)(es:List Eg):(∀e∈es,e.1∈ts/\e.2.1∈ts)->Tells ts (kn++es.map Yr) (Yk f es).1/\many (Yk f es).1 ts+(Yk f es).2.length=many f ts:=by
 refine q0X (P:=λes=>(∀e∈es,e.1∈ts/\e.2.1∈ts)->Tells ts (kn++es.map Yr) (Yk f es).1/\many (Yk f es).1 ts+(Yk f es).2.length=many f ts) (λ_=>⟨by rw[yf,zw];exact h,rfl⟩) (λl e ih he=>?_) es;obtain⟨h1,h2⟩:=ih λx hx=>he x (zI _ hx);obtain⟨p1,p2⟩:=he e (by simp);have inn':∀x∈kn++l.map Yr,x.1∈ts/\x.2∈ts:=λx hx=>by
  rcases zK.mp hx with m|m
  ·exact inn x m
  ·obtain⟨y,hy,rfl⟩:=zS.mp m
   exact he y (zI _ hy)
 rw[q26,zX,<- yB];unfold Yx
 by_cases z:(Yk f l).1 e.1=(Yk f l).1 e.2.1
 ·rw[vH z]
  exact⟨h1.skip p1 p2 z,h2⟩
 ·rw[vJ z]
  refine⟨h1.join inn' p1 p2,?_⟩;have:=qcO hn p1 p2 z;show many (Yq _ _ _) ts+((Yk f l).2++[e]).length=_;rw[zE,zd];omega
theorem qfO(f:Int->Int)(as bs:List Eg):∃r,(Yk f (as++bs)).2=(Yk f as).2++r/\∀e∈r,e∈bs:=by
 refine q0X (P:=λbs=>∃r,(Yk f (as++bs)).2=(Yk f as).2++r/\∀e∈r,e∈bs) ⟨[],by simp⟩ (λl e ⟨r,h1,h2⟩=>?_) bs;rw[<- yB,q26];unfold Yx
 by_cases z:(Yk f (as++l)).1 e.1=(Yk f (as++l)).1 e.2.1
 ·rw[vH z]
  exact⟨r,h1,λx hx=>zI _ (h2 x hx)⟩
 ·rw[vJ z]
  refine⟨r++[e],by show (Yk f (as++l)).2++[e]=_;rw[h1,yB],λx hx=>?_⟩;rcases zK.mp hx with m|m
  ·exact zI _ (h2 x m)
  ·exact zJ _ m
theorem qY(f:Int->Int)(es:List Eg):(Yk f es).2.Sublist es:=by
 refine q0X (P:=λes=>(Yk f es).2.Sublist es) (Zj _) (λl e ih=>?_) es;rw[q26];unfold Yx
 split
 ·exact ih.trans (List.sublist_append_left _ _)
 ·exact ih.append (Zj _)
noncomputable def egD(e:Eg):D:=.tup [.int e.1,.int e.2.1,.int e.2.2]
theorem q1K(e:Eg):qH [egD e]=↥(.int (YM e)):=rfl
theorem qey(e:Eg):W0 qH (egD e)=YM e:=by unfold W0;rw[q1K]
theorem qc8(e:Eg):keyOk qH (egD e)=true:=by unfold keyOk;rw[q1K]
theorem qdT(es:List Eg):YV (W0 qH) (es.map egD)=(YV YM es).map egD:=by
 rw[q24,q3Q λx _=>qey x]
noncomputable def X2(f:Int->Int)(ks:List Int):List D:=ks.map λk=>.int (f k)
theorem q4t{f:Int->Int}:∀{ks:List Int}{x:Int},x∈ks->Yl ks (X2 f ks) x=some (.int (f x))
 | [],_,h=>by cases h
 | k::ks,x,h=>by
  by_cases e:k=x
  ·subst e
   show (if k=k then some (D.int (f k))else Yl ks (X2 f ks) k)=_;rw[vH rfl]
  ·show (if k=x then some (D.int (f k))else Yl ks (X2 f ks) x)=_
   rw[vJ e];exact q4t ((zF.mp h).elim (λz=>vN z.symm e) id)
theorem qis{f:Int->Int}{ks:List Int}{a b:Int}(hn:ks.Nodup)(hl:ks.length<1000):qR [.dic ks (X2 f ks),.int a,.int b]=↥(.dic ks (X2 (Yq f a b) ks)):=by
 unfold qR q0O;obtain⟨ω',e,x4,rfl⟩:=qQ (g:=gN 4) (b:=q0u) D.int ks
  (λpre ω=>∃x4:Option W,ω=[↥(.dic ks (X2 f ks)),↥(.int a),↥(.int b),some (.od pre (X2 (Yq f a b) pre)),x4])
  (λpre k post ω hd ⟨x4,hω⟩=>by
   subst hω;refine⟨_,rfl,?_⟩;have hk:k∈ks:=by rw[hd];simp
   have hnk:k∉pre:=λz=>by
    rw[hd]at hn;exact(yU.mp hn).2.2 k z k (by simp) rfl
   have hp:pre.length<ks.length:=by rw[hd,zE,zL];omega
   have hv:=q4t (f:=f) hk;have hds:pre.length<1000000:=∅
   obtain⟨p1,p2⟩:=qaZ (xs:=X2 (Yq f a b) pre) (D.int (Yq f a b k)) hnk;have ev:X2 (Yq f a b) (pre++[k])=X2 (Yq f a b) pre++[.int (Yq f a b k)]:=by unfold X2;rw[zX];rfl
   unfold q0u
   by_cases z:f k=b
   ·have z':(f k==b)=true:=by simpa using z
    have jk:Yq f a b k=a:=vH z;rw[jk]at p2 ev;simp_arith[hv,z',q42 hds,p1,p2];exact⟨_,by rw[ev]⟩
   ·have z':(f k==b)=false:=by simpa using z
    have jk:Yq f a b k=f k:=vJ z;rw[jk]at p2 ev;simp_arith[hv,z',q42 hds,p1,p2];exact⟨_,by rw[ev]⟩)
  (ω:=[↥(.dic ks (X2 f ks)),↥(.int a),↥(.int b),some (.od [] []),none]) ⟨none,rfl⟩
 simp_arith[e]
noncomputable def WU(ks:List Int)(vs:List D)(x:Int):Int:=match Yl ks vs x with
 | some (.int i)=>i
 | _=>0
theorem qaY:∀{ks:List Int}{vs:List D},ks.Nodup->ks.length=vs.length->(∀v∈vs,∃i:Int,v=.int i)->vs=X2 (WU ks vs) ks
 | [],[],_,_,_=>rfl
 | [],_::_,_,h,_=>by simp at h
 | _::_,[],_,h,_=>by simp at h
 | k::ks,v::vs,hn,hl,hv=>by
  obtain⟨n1,n2⟩:=ye.mp hn;obtain⟨i,rfl⟩:=hv v zD;have ih:=qaY n2 ⇑hl λu hu=>hv u (zG _ hu);have e1:WU (k::ks) (.int i::vs) k=i:=by
   unfold WU;show (match (if k=k then some (D.int i)else Yl ks vs k)with|some (.int i)=>i|_=>0)=i;rw[vH rfl]
  have e2:∀x∈ks,WU (k::ks) (.int i::vs) x=WU ks vs x:=λx hx=>by
   unfold WU;have:Yl (k::ks) (D.int i::vs) x=Yl ks vs x:=vJ (λz:k=x=>by subst z;exact n1 hx);rw[this]
  show D.int i::vs=D.int (WU (k::ks) (.int i::vs) k)::ks.map _;rw[e1]
  congr 1
  have:ks.map (λk'=>D.int (WU (k::ks) (.int i::vs) k'))=X2 (WU ks vs) ks:=by
   unfold X2;exact yE λx hx=>by rw[e2 x hx]
  rw[this];exact ih
theorem qhN:∀(ps:List (Nat×List Int)),∀v∈vvP ps,∃i:Int,v=.int i:=λps v hv=>by
 unfold vvP at hv;obtain⟨p,_,h⟩:=xY.mp hv;obtain⟨_,_,rfl⟩:=zS.mp h;exact⟨_,rfl⟩
theorem q9N{ts:List Int}{kn:List (Int×Int)}(ok:Ok ts kn):∃(gs:List (List Int)) (ks:List Int) (f:Int->Int),q0s [.lst (ts.map D.int),.lst (kn.map YU)]=some (.fr (gs.map gD))/\qD [.lst (gs.map gD)]=↥(.dic ks (X2 f ks))/\ks.Nodup/\(∀x,x∈ks↔x∈ts)/\ks.length<64/\Tells ts kn f:=by
 obtain⟨gs,hs,g1,g2,g3,g4⟩:=q7z ok;have pf:=g2.flat ok g3;have nd:gs.flatten.Nodup:=pf.nodup_iff.mpr ok.nd;have fl:gs.flatten.length<64:=by rw[pf.length_eq];exact ok.l1
 have nm:=q6I nd fl;have kk:=q5c 0 gs;have lv:=qaY (ks:=kkP (nmP 0 gs)) (vs:=vvP (nmP 0 gs)) (by rw[kk];exact nd) (qej _) (qhN _);refine⟨gs,kkP (nmP 0 gs),WU (kkP (nmP 0 gs)) (vvP (nmP 0 gs)),g1,by rw[<- lv];exact nm,by rw[kk];exact nd,λx=>by rw[kk];exact pf.mem_iff,by rw[kk];exact fl,λx hx y hy=>?_⟩;obtain⟨gx,mx,hxg⟩:=g3 x hx;obtain⟨gy,my,hyg⟩:=g3 y hy;obtain⟨i,hi⟩:=ym.mp mx;obtain⟨j,hj⟩:=ym.mp my;have vx:=q4G (k:=0) nd hi hxg;have vy:=q4G (k:=0) nd hj hyg;have fx:WU (kkP (nmP 0 gs)) (vvP (nmP 0 gs)) x=((0+i:Nat):Int):=by unfold WU;rw[vx]
 have fy:WU (kkP (nmP 0 gs)) (vvP (nmP 0 gs)) y=((0+j:Nat):Int):=by unfold WU;rw[vy]
 rw[fx,fy];obtain⟨a,_,cx⟩:=g2.one mx;obtain⟨b,_,cy⟩:=g2.one my
 constructor
 ·intro e
  have:i=j:=∅
  subst this;rw[hi]at hj;cases hj;exact((cx.mem x).mp hxg).symm.trans ((cx.mem y).mp hyg)
 ·intro r
  have:y∈gx:=(cx.mem y).mpr (((cx.mem x).mp hxg).trans r);have:=g2.apart hi hj this hyg;rw[this]
theorem q7W{ts:List Int}{kn:List (Int×Int)}{es:List Eg}(ok:Ok ts kn)(he:∀e∈es,e.1∈ts/\e.2.1∈ts)(hl:es.length<64):∃f:Int->Int,Tells ts kn f/\q07 [.lst (ts.map D.int),.lst (kn.map YU),.lst (es.map egD)]=some (.fr ((Yk f (YV YM es)).2.map egD)):=by
 obtain⟨gs,ks,f,g1,g2,nd,mem,lk,tl⟩:=q9N ok;refine⟨f,tl,?_⟩;unfold q07 q5U;have sk:=qjk (m:=qH) (ds:=es.map egD) (by rw[zA];exact hl) (λd hd=>by obtain⟨e,_,rfl⟩:=zS.mp hd;exact qc8 e);rw[qdT]at sk;have pm:=qO (f:=YM) (l:=es);have hS:∀e∈YV YM es,e.1∈ts/\e.2.1∈ts:=λe h=>he e (pm.mem_iff.mp h);have lS:(YV YM es).length=es.length:=pm.length_eq;generalize YV YM es=S at sk hS lS;simp_arith[g1,g2,sk];obtain⟨ω',e,x5,x6,x7,rfl⟩:=qQ (g:=gN 5) (b:=q58) egD S
  (λpre ω=>∃(x5 x6 x7:Option W),ω=[↥(.lst (ts.map D.int)),↥(.lst (kn.map YU)),↥(.lst (es.map egD)),↥(.dic ks (X2 (Yk f pre).1 ks)),some (.ow ((Yk f pre).2.map egD)),x5,x6,x7])
  (λpre e post ω hd ⟨x5,x6,x7,hω⟩=>by
   subst hω;refine⟨_,rfl,?_⟩;obtain⟨m1,m2⟩:=hS e (by rw[hd];simp);have v1:=q4t (f:=(Yk f pre).1) ((mem e.1).mpr m1);have v2:=q4t (f:=(Yk f pre).1) ((mem e.2.1).mpr m2);have lp:((Yk f pre).2.map egD).length<1000000:=by
    have:=(qY f pre).length_le;have:pre.length<=S.length:=by rw[hd,zE];omega
    rw[zA];omega
   have tw:=qis (f:=(Yk f pre).1) (a:=(Yk f pre).1 e.1) (b:=(Yk f pre).1 e.2.1) nd ∅;have ed:egD e=.tup [.int e.1,.int e.2.1,.int e.2.2]:=rfl;unfold q58;rw[q26];unfold Yx
   by_cases z:(Yk f pre).1 e.1=(Yk f pre).1 e.2.1
   ·have z':((Yk f pre).1 e.1==(Yk f pre).1 e.2.1)=true:=by simpa using z
    rw[vH z];simp_arith[ed,v1,v2,z'];exact⟨_,_,_,rfl⟩
   ·have z':((Yk f pre).1 e.1==(Yk f pre).1 e.2.1)=false:=by simpa using z
    rw[vJ z];simp_arith[ed,v1,v2,z',zAG lp,tw];exact⟨_,_,_,by rw[zX];rfl⟩)
  (ω:=[↥(.lst (ts.map D.int)),↥(.lst (kn.map YU)),↥(.lst (es.map egD)),↥(.dic ks (X2 f ks)),some (.ow []),none,none,none]) ⟨none,none,none,rfl⟩
 simp_arith[e]
theorem Tells.same{ts:List Int}{es es':List (Int×Int)}{f:Int->Int}(h:Tells ts es f)(s:∀e,e∈es↔e∈es'):Tells ts es' f:=λx hx y hy=>(h x hx y hy).trans ⟨λr=>r.mono λe he=>(s e).mp he,λr=>r.mono λe he=>(s e).mpr he⟩
noncomputable def blw(b:Int)(e:Eg):Bool:=decide (YM e<b)
theorem q6E{b:Int}:∀{S:List Eg},S.Pairwise (λa b=>YM a<=YM b)->S.filter (blw b)++S.filter (λe=>!blw b e)=S
 | [],_=>rfl
 | e::S,h=>by
  obtain⟨h1,h2⟩:=zV.mp h;cases hq:blw b e with
  | true=>rw[yW hq,yX (by rw[hq];decide),wW,q6E h2]
  | false=>
   have:∀x∈S,blw b x=false:=λx hx=>by have:=h1 x hx;unfold blw at hq ⊢;simp at hq ⊢;omega
   rw[yX (by rw[hq];decide),yW (by rw[hq];rfl),yi.mpr λx hx=>by rw[this x hx];decide,yZ,yR.mpr λx hx=>by rw[this x hx];rfl]
theorem qav{f:Int->Int}{S:List Eg}{b:Int}(h:S.Pairwise (λa b=>YM a<=YM b)):(Yk f (S.filter (blw b))).2=((Yk f S).2).filter (blw b):=by
 obtain⟨r,e,hr⟩:=qfO f (S.filter (blw b)) (S.filter λe=>!blw b e);rw[q6E h]at e;have e1:(Yk f (S.filter (blw b))).2.filter (blw b)=(Yk f (S.filter (blw b))).2:=yR.mpr λx hx=>(zp.mp ((qY f _).subset hx)).2;have e2:r.filter (blw b)=[]:=yi.mpr λx hx=>by have:=(zp.mp (hr x hx)).2;simpa using this
 rw[e,wH,e1,e2,zw]
theorem qbu{ts:List Int}{kn:List (Int×Int)}(ok:Ok ts kn)(hk:kn.length<=900){es:List Eg}(he:∀e∈es,e.1∈ts/\e.2.1∈ts)(hl:es.length<64):Ok ts (kn++es.map Yr):=⟨ok.nd,λe h=>by
 rcases zK.mp h with m|m
 ·exact ok.inn e m
 ·obtain⟨y,hy,rfl⟩:=zS.mp m
  exact he y hy,ok.l1,by rw[zE,zA];omega⟩
theorem qeV{kn:List (Int×Int)}{es:List Eg}(hk:kn.length<=900)(hl:es.length<64):Yv (.lst (kn.map YU)) (.lst (es.map λe=>YU (Yr e)))=some (.fr ((kn++es.map Yr).map YU)):=by
 rw[zX,zc];exact vH (by rw[zA,zA];omega)
theorem qeX{ts:List Int}{kn:List (Int×Int)}{es:List Eg}(ok:Ok ts kn)(hk:kn.length<=900)(he:∀e∈es,e.1∈ts/\e.2.1∈ts)(hl:es.length<64){f:Int->Int}(tl:Tells ts kn f)(b:Int):∃gs:List (List Int),q0g [.lst (ts.map D.int),.lst (kn.map YU),.lst (es.map egD),.int b]=some (.fr (gs.map gD))/\gs.length+((Yk f (YV YM es)).2.filter (blw b)).length=many f ts/\gs.length<64/\(∃hs,GS ts (kn++(es.filter (blw b)).map Yr) gs hs/\∀t∈ts,∃g∈gs,t∈g):=by
 unfold q0g q1E;have cm:=q1k (i:=0) (c:=q1v) (f:=q1z) (blw b) egD (λe=>YU (Yr e)) es (ω:=[none,↥(.int b)]) (λe _=>⟨by
   have c:=q1K e;unfold q1v;simp_arith[c];rfl,λ_=>by
   unfold q1z egD;simp_arith[q02];rfl⟩)
 have hl2:(es.map egD).length<=1000000:=by rw[zA];omega
 have fl:(es.filter (blw b)).length<=es.length:=yG _ _;have ad:=qeV (kn:=kn) (es:=es.filter (blw b)) hk ∅;have he':∀e∈es.filter (blw b),e.1∈ts/\e.2.1∈ts:=λe h=>he e (zp.mp h).1;have ok':=qbu ok hk he' ∅;obtain⟨gs,hs,g1,g2,g3,g4⟩:=q7z ok';refine⟨gs,by simp_arith[Y5 hl2,inW,XC,cm,ad,g1],?_,by have:=ok.l1;omega,hs,g2,g3⟩;have pm:=qO (f:=YM) (l:=es);have kt:=q6k ok.nd tl ok.inn ((YV YM es).filter (blw b)) (λe h=>he e (pm.mem_iff.mp (zp.mp h).1));have t2:Tells ts (kn++(es.filter (blw b)).map Yr) (Yk f ((YV YM es).filter (blw b))).1:=kt.1.same λe=>by
  rw[zK,zK,((pm.filter (blw b)).map Yr).mem_iff]
 rw[GS.many ok' g2 g3 t2,<- qav q2I];exact kt.2
theorem qdz{ts:List Int}{kn:List (Int×Int)}{es:List Eg}(ok:Ok ts kn)(hk:kn.length<=900)(he:∀e∈es,e.1∈ts/\e.2.1∈ts)(hl:es.length<64){f:Int->Int}(tl:Tells ts kn f)(hf:q07 [.lst (ts.map D.int),.lst (kn.map YU),.lst (es.map egD)]=some (.fr ((Yk f (YV YM es)).2.map egD))):
  ∃rows:List (Int×List (List Int)),q1G [.lst (ts.map D.int),.lst (kn.map YU),.lst (es.map egD)]=some (.fr (rows.map X8))/\rows.map (·.1)=YY ((Yk f (YV YM es)).2.map YM)/\∀r∈rows,r.2.length+((Yk f (YV YM es)).2.filter (blw r.1)).length=many f ts/\r.2.length<64/\(∃hs,GS ts (kn++(es.filter (blw r.1)).map Yr) r.2 hs/\∀t∈ts,∃g∈r.2,t∈g):=by
 obtain⟨G,hG⟩:=Classical.axiomOfChoice (qeX ok hk he hl tl);have lS:(YV YM es).length=es.length:=q3r _ _;have lF:=(qY f (YV YM es)).length_le;generalize (Yk f (YV YM es)).2=F at *;refine⟨(YY (F.map YM)).map λb=>(b,G b),?_,by rw[zc];exact Zr _,λr hr=>?_⟩
 ·unfold q1G q5X
  have cm:=qx (i:=0) (f:=q28) egD (λe=>D.int (YM e)) F (ω:=[none]) (λe _=>by
   have c:=q1K e;unfold q28;simp_arith[c])
  have hl2:(F.map egD).length<=1000000:=by rw[zA];omega
  have ss:∀ω:WSt,(Yg 1 [] (Yy (dOf (YQ q07 (YH (dOf (YI 0)) (YH (dOf (YI 1)) (YH (dOf (YI 2)) YS)))))) (gN 0) Yc q28) ω=some (.fr (F.map λe=>D.int (YM e)))->Y8 (vOf (Yg 1 [] (Yy (dOf (YQ q07 (YH (dOf (YI 0)) (YH (dOf (YI 1)) (YH (dOf (YI 2)) YS)))))) (gN 0) Yc q28)) ω=some (.fr ((YY (F.map YM)).map D.int)):=λω h=>by
   unfold Y8 vOf;rw[h];show (intsOf (F.map λe=>D.int (YM e))).bind _=_;rw[show (F.map λe=>D.int (YM e))=(F.map YM).map D.int by rw[zc];rfl,q0k];exact vH (qdq (by rw[zA];omega))
  have c1:=ss [↥(.lst (ts.map D.int)),↥(.lst (kn.map YU)),↥(.lst (es.map egD)),none] (by simp_arith[hf,Y5 hl2,inW,XC,cm]);have cm2:=qx (i:=0) (f:=q4D) D.int (λb=>X8 (b,G b)) (YY (F.map YM)) (ω:=[none,↥(.lst (ts.map D.int)),↥(.lst (kn.map YU)),↥(.lst (es.map egD))]) (λb _=>by
   have c:=(hG b).1;unfold q4D;simp_arith[c];rfl)
  have hl3:((YY (F.map YM)).map D.int).length<=1000000:=by
   have:=q0C (F.map YM);rw[zA]at this ⊢;omega
  rw[zc];simp_arith[c1,Y5 hl3,inW,XC,cm2];rfl
 ·obtain⟨b,_,rfl⟩:=zS.mp hr
  exact(hG b).2
noncomputable def wghK(k a:Int):List (Int×List (List Int))->Int
 | []=>0
 | r::rs=>(r.1-a)*((r.2.length:Int)-k)+wghK k r.1 rs
noncomputable def ws(c:Int->Int)(a:Int):List Int->Int
 | []=>0
 | b::C=>(b-a)*c b+ws c b C
theorem qgr{k:Int}{c:Int->Int}:∀{rows:List (Int×List (List Int))}{a:Int},(∀r∈rows,(r.2.length:Int)-k=c r.1)->wghK k a rows=ws c a (rows.map (·.1))
 | [],_,_=>rfl
 | r::rs,a,h=>by
  show (r.1-a)*((r.2.length:Int)-k)+wghK k r.1 rs=(r.1-a)*c r.1+ws c r.1 (rs.map (·.1));rw[h r zD,qgr λx hx=>h x (zG _ hx)]
theorem qe6{c d:Int->Int}:∀{C:List Int}{a:Int},ws (λb=>c b-d b) a C=ws c a C-ws d a C
 | [],_=>rfl
 | b::C,a=>by
  show (b-a)*(c b-d b)+ws (λb=>c b-d b) b C=((b-a)*c b+ws c b C)-((b-a)*d b+ws d b C);rw[qe6,Int.mul_sub];omega
theorem qeI{c d:Int->Int}:∀{C:List Int}{a:Int},ws (λb=>c b+d b) a C=ws c a C+ws d a C
 | [],_=>rfl
 | b::C,a=>by
  show (b-a)*(c b+d b)+ws (λb=>c b+d b) b C=((b-a)*c b+ws c b C)+((b-a)*d b+ws d b C);rw[qeI,xV];omega
theorem q6Q{c:Int->Int}:∀{C:List Int}{a:Int},(∀b∈C,c b=0)->ws c a C=0
 | [],_,_=>rfl
 | b::C,a,h=>by
  show (b-a)*c b+ws c b C=0;rw[h b zD,q6Q λx hx=>h x (zG _ hx),Zk];rfl
theorem q9V{d:Int}:∀{C:List Int}{a:Int},ws (λ_=>d) a C=((C.getLast?).getD a-a)*d
 | [],a=>by show (0:Int)=(a-a)*d;rw[wj,Int.zero_mul]
 | b::C,a=>by
  show (b-a)*d+ws (λ_=>d) b C=_;rw[q9V,List.getLast?_cons,Option.getD_some,<- Int.add_mul]
  congr 1;omega
theorem qer{c:Int}:∀{C:List Int}{a:Int},C.Pairwise (· < ·)->c∈C->ws (λb=>if b<=c then 1 else 0) a C=c-a
 | b::C,a,h,m=>by
  obtain⟨h1,h2⟩:=zV.mp h;show (b-a)*(if b<=c then 1 else 0)+ws (λb=>if b<=c then 1 else 0) b C=_;rcases zF.mp m with rfl|m
  ·rw[vH (z7 _),q6Q λx hx=>vJ (by have:=h1 x hx;omega)];omega
  ·have:=h1 c m
   rw[vH ∅,qer h2 m];omega
noncomputable def zAb(L:List Int)(b:Int):Int:=((L.filter λc=>decide (b<=c)).length:Int)
theorem qdJ{C:List Int}(h:C.Pairwise (· < ·)):∀{L:List Int},(∀c∈L,c∈C)->ws (zAb L) 0 C=L.sum
 | [],_=>q6Q λ_ _=>rfl
 | c::L,m=>by
  have e:zAb (c::L)=λb=>(if b<=c then 1 else 0)+zAb L b:=by
   funext b
   unfold zAb
   by_cases z:b<=c
   ·rw[vH z,yW ⇑z,zL];omega
   ·rw[vJ z,yX ⇑z];omega
  rw[e,qeI,qer h (m c zD),qdJ h λx hx=>m x (zG _ hx),zj];omega
theorem qi9(F:List Eg)(b:Int):(F.length:Int)-((F.filter (blw b)).length:Int)=zAb (F.map YM) b:=by
 unfold zAb
 induction F with
 | nil=>rfl
 | cons e F ih=>
  rw[zR]
  by_cases z:YM e<b
  ·rw[yW (show blw b e=true by unfold blw;simpa using z),yX (by simp;omega),zL,zL,<- ih];omega
  ·rw[yX (show ¬blw b e=true by unfold blw;simpa using z),yW (by simp;omega),zL,zL]
   omega
theorem qdc{rows:List (Int×List (List Int))}{F:List Eg}{N n:Nat}{d:Int}(h1:rows.map (·.1)=YY (F.map YM))(h2:∀r∈rows,r.2.length+(F.filter (blw r.1)).length=N)(h3:n+F.length=N):wghK ((n:Int)+d) 0 rows=(F.map YM).sum-((rows.map (·.1)).getLast?.getD 0)*d:=by
 rw[qgr (c:=λb=>zAb (F.map YM) b-d) (λr hr=>by
  have:=h2 r hr;rw[<- qi9];omega),h1,qe6,qdJ q05 (λc hc=>q0B.mpr hc),q9V,Zl]
theorem q7Q(a b:Int)(r:List Int):YO (a::b::r)=(a,b)::YO (b::r):=rfl
theorem qcd{ts:List Int}{kn:List (Int×Int)}{f:Int->Int}(h:Tells ts kn f)(inn:∀e∈kn,e.1∈ts/\e.2∈ts)(es:List Eg):(∀e∈es,e.1∈ts/\e.2.1∈ts)->Tells ts (kn++(Yk f es).2.map Yr) (Yk f es).1:=by
 refine q0X (P:=λes=>(∀e∈es,e.1∈ts/\e.2.1∈ts)->Tells ts (kn++(Yk f es).2.map Yr) (Yk f es).1) (λ_=>by show Tells ts (kn++[]) f;rw[zw];exact h) (λl e ih he=>?_) es;have h1:=ih λx hx=>he x (zI _ hx);obtain⟨p1,p2⟩:=he e (by simp);rw[q26];unfold Yx
 by_cases z:(Yk f l).1 e.1=(Yk f l).1 e.2.1
 ·rw[vH z];exact h1
 ·rw[vJ z]
  show Tells ts (kn++((Yk f l).2++[e]).map Yr) _;rw[zX,<- yB];exact h1.join (λx hx=>by
   rcases zK.mp hx with m|m
   ·exact inn x m
   ·obtain⟨y,hy,rfl⟩:=zS.mp m
    exact he y (zI _ ((qY f l).subset hy))) p1 p2
theorem qfF{ts:List Int}{f:Int->Int}(hn:ts.Nodup)(hne:ts≠[])(h:∀x∈ts,∀y∈ts,f x=f y):many f ts=1:=by
 obtain⟨t,ht⟩:=List.exists_mem_of_ne_nil _ hne;obtain⟨a,a1,_,a3⟩:=q9G (λ_=>True) ht trivial;show (ts.filter (zAu f ts)).length=[a].length;refine q43 (hn.filter _) (by simp) λc=>?_;rw[zp,q1H,zM]
 constructor
 ·rintro⟨h1,h2⟩
  have:=h2 a a1 (h a a1 c h1);have:=a3 c h1 trivial;omega
 ·rintro rfl
  exact⟨a1,λc hc _=>a3 c hc trivial⟩
theorem q4c:∀(r:List Int)(k:Int),∀p∈k::r,Rch (YO (k::r)) k p
 | [],k,p,hp=>by cases zM.mp hp;exact .refl
 | k1::r,k,p,hp=>by
  rcases zF.mp hp with rfl|hp
  ·exact .refl
  ·rw[q7Q]
   exact(Rch.refl.step (.inl zD)).trans ((q4c r k1 p hp).mono λe he=>zG _ he)
theorem qdH:∀{rows:List (Int×List (List Int))}{a:Int},(rows.map (·.1)).Pairwise (· < ·)->(∀c∈rows.map (·.1),a<c)->zAY a rows
 | [],_,_,_=>trivial
 | r::rows,a,h,h2=>by
  rw[zR]at h h2;exact⟨h2 _ zD,qdH (zV.mp h).2 (zV.mp h).1⟩
theorem qgA:∀(rows:List (Int×List (List Int)))(a:Int),wgh a rows=wghK 1 a rows
 | [],_=>rfl
 | r::rs,a=>by show (r.1-a)*((r.2.length:Int)-1)+wgh r.1 rs=_;rw[qgA];rfl
noncomputable def egO(q:Int×Int):Eg:=(q.1,q.2,q.2-q.1)
theorem qbP(G:List (Int×Int)):(G.map egO).map Yr=G:=by rw[zc];exact Zr _
theorem qgS{h l:Int}{bs:List (Int×Int)}(hb:bs.length<=30):∃f:Int->Int,Tells (Pz h l bs) (Kn h l bs) f/\q46 [.int h,.int l,.lst (bs.map YZ)]=↥(.int (((YO (Pz h l bs)).map (gwt h l bs)).sum+2*((Yk f (YV YM ((YO (Pz h l bs)).map egO))).2.map YM).sum)):=by
 have hP:=qbg h l bs;have hl:=q6N (h:=h) (l:=l) hb;have hG:=q8z (h:=h) (l:=l) hb;have hK:=q8A (h:=h) (l:=l) hb;have hS:=q4w (h:=h) (l:=l) hb;have hE:=q8M (h:=h) (l:=l) hb;rw[show (YO (Pz h l bs)).map edD=((YO (Pz h l bs)).map egO).map egD by rw[zc];rfl]at hE;have hC:=q4X (h:=h) (l:=l) hb;have gl:=q0H (Pz h l bs);have fl:=yG (λq=>!(Yj h l bs q==0)) (YO (Pz h l bs));have kl:(Kn h l bs).length<=900:=by unfold Kn;rw[zE,zE,zd];omega
 have ok:Ok (Pz h l bs) (Kn h l bs):=⟨q8O hP,λe he=>qgp he,hl,∅⟩;have he:∀e∈(YO (Pz h l bs)).map egO,e.1∈Pz h l bs/\e.2.1∈Pz h l bs:=λe he=>by
  obtain⟨g,hg,rfl⟩:=zS.mp he;exact q45 hg
 have el:((YO (Pz h l bs)).map egO).length<64:=by rw[zA];omega
 obtain⟨f,tl,hf⟩:=q7W ok he el;refine⟨f,tl,?_⟩;obtain⟨rows,r1,r2,r3⟩:=qdz ok kl he el tl hf;have pm:=qO (f:=YM) (l:=(YO (Pz h l bs)).map egO);have heS:∀e∈YV YM ((YO (Pz h l bs)).map egO),e.1∈Pz h l bs/\e.2.1∈Pz h l bs:=λe h=>he e (pm.mem_iff.mp h);have kt:=q6k ok.nd tl ok.inn _ heS;have k2:=qcd tl ok.inn _ heS;have fs:∀e∈(Yk f (YV YM ((YO (Pz h l bs)).map egO))).2,∃g∈YO (Pz h l bs),e=egO g:=λe he=>by
  obtain⟨g,hg,e1⟩:=zS.mp (pm.mem_iff.mp ((qY f _).subset he));exact⟨g,hg,e1.symm⟩
 have lS:(YV YM ((YO (Pz h l bs)).map egO)).length=(YO (Pz h l bs)).length:=by rw[q3r,zA]
 have lF:=(qY f (YV YM ((YO (Pz h l bs)).map egO))).length_le;have hne:Pz h l bs≠[]:=λz=>by
  have:h∈Pz h l bs:=(q0U h).mpr (.inl rfl);rw[z]at this;cases this
 have one:∀x∈Pz h l bs,∀y∈Pz h l bs,(Yk f (YV YM ((YO (Pz h l bs)).map egO))).1 x=(Yk f (YV YM ((YO (Pz h l bs)).map egO))).1 y:=λx hx y hy=>by
  refine(kt.1 x hx y hy).mpr ?_;have up:∀e∈YO (Pz h l bs),e∈Kn h l bs++(YV YM ((YO (Pz h l bs)).map egO)).map Yr:=λe he=>by
   refine zJ _ ((pm.map Yr).mem_iff.mpr ?_);rw[qbP];exact he
  have all:∀p∈Pz h l bs,∀q∈Pz h l bs,Rch (YO (Pz h l bs)) p q:=by
   generalize Pz h l bs=P at *;cases P with
   | nil=>intro p hp;cases hp
   | cons k r=>exact λp hp q hq=>(q4c r k p hp).symm.trans (q4c r k q hq)
  exact(all x hx y hy).mono up
 have m1:=qfF ok.nd hne one;have n1:=kt.2;rw[m1]at n1;generalize (Yk f (YV YM ((YO (Pz h l bs)).map egO))).2=F at *;have ws:=qdc (d:=0) r2 (λr hr=>(r3 r hr).1) n1;rw[Zk,Zl,show ((1:Nat):Int)+0=1 from rfl,<- qgA]at ws;have cpos:∀c∈rows.map (·.1),0<c:=λc hc=>by
  rw[r2,q0B]at hc;obtain⟨e,he,rfl⟩:=zS.mp hc;obtain⟨g,hg,rfl⟩:=fs e he;have:=(hG g hg).lt;show 0<g.2-g.1;omega
 have ris:zAY 0 rows:=qdH (by rw[r2];exact q05) cpos;have L:∀r∈rows,Lev (Pz h l bs) (Kn h l bs) r:=λr hr=>by
  obtain⟨hs,g2,g3⟩:=(r3 r hr).2.2;have ok':=qbu ok kl (es:=((YO (Pz h l bs)).map egO).filter (blw r.1)) (λe h=>he e (zp.mp h).1) (by have:=yG (blw r.1) ((YO (Pz h l bs)).map egO);omega);refine qi6 (t:=r.1) (gs:=r.2) ok' g2 g3 λe he=>?_;rcases zK.mp he with m|m
  ·exact zI _ m
  ·obtain⟨m1,m2⟩:=zp.mp m
   refine zJ _ (zS.mpr ⟨egO e,zp.mpr ⟨zS.mpr ⟨e,m1,rfl⟩,m2⟩,rfl⟩)
 have rl:rows.length<=1000:=by
  have e1:(rows.map (·.1)).length=rows.length:=zA ..;have:=q0C (F.map YM);rw[<- r2,e1,zA]at this;omega
 have wt:=qee hb rl ris L;rw[<- ws];unfold q46 q70;have rs:q3h [.int h,.int l,.lst (bs.map YZ)]=↥(.tup [.lst ((YO (Pz h l bs)).map (Xn bs)),.lst (rows.map X8)]):=by
  unfold q3h q68;have r1':q1G [.lst ((YY (plc h l bs)).map D.int),.lst ((bs++[(h,l)]++(YO (YY (plc h l bs))).filter λq=>!(Yj h l bs q==0)).map YZ),.lst (((YO (Pz h l bs)).map egO).map egD)]=some (.fr (rows.map X8)):=r1;simp_arith[hS,hK,hE,r1',hC]
 simp_arith[rs,wt]
theorem q31{ns:List Int}{k:Int}(h:0<=k):qG [.scr ns,.int k]=↥(.int (ns.getD k.toNat 0)):=by
 unfold qG q3J
 by_cases hk:k<ns.length
 ·simp_arith[hk,decide_true,q21 h hk]
  simp[zq,zC (show k.toNat<ns.length by omega)]
 ·simp_arith[hk,decide_false]
  simp[zq,zu (show ns.length<=k.toNat by omega)]
theorem qdQ{ds:List D}{i:Int}(P:D->Prop)(h0:0<=i)(h1:i<ds.length)(h:∀d∈ds,P d):∃d,atI ds i=some d/\P d :=
 ⟨_,q21 h0 h1,h _ (zZ _)⟩
noncomputable def tri(x:Int×Int×Int):D:=.tup [.int x.1,.int x.2.1,.int x.2.2]
theorem pick7{xs:List Int}(h7:xs.length=7)(x:Int):∃y,y∈xs/\atI (xs.map D.int) (x%7)=some (.int y):=by
 refine⟨xs[(x%7).toNat]'∅,zZ _,?_⟩;rw[q21 ∅ (by rw[zA];omega),List.getElem_map]
noncomputable def wD:D->Bool
 | .int _=>true
 | _=>false
noncomputable def plD:D->Bool
 | .scr _=>false
 | .exc _=>false
 | .dic _ _=>false
 | _=>true
noncomputable def smD:D->Bool
 | .int w=>decide (w.natAbs<2^200)
 | d=>plD d
noncomputable def plB:D->Bool
 | .tup ds=>ds.all smD
 | d=>plD d
noncomputable def plL:D->Bool
 | .lst ds=>ds.all plB&&decide (ds.length<=20)
 | d=>plD d
noncomputable def inD(n:Int):D->Bool
 | .int x=>decide (0<=x)&&decide (x<n)
 | _=>false
noncomputable def zAr:D->Bool
 | .int w=>w==1 || w == -1
 | _=>false
noncomputable def zAi(n:Int):D->Bool
 | .tup [x,y,w]=>inD n x&&(inD n y&&zAr w)
 | _=>false
noncomputable def isRd:D->D->D->D->Bool
 | .int n,h,l,.lst ds=>inD n h&&(inD n l&&ds.all (zAi n))
 | _,_,_,_=>false
theorem qcD{d:D}(h:smD d=true):plD d=true:=by cases d <;> first|rfl|cases h
theorem q4B{d:D}(h:plD d=true):qp [d]=↥(.bl (wD d)):=by
 cases d <;> first|rfl|cases h
theorem qgR(w:Int):oIn false (.int w) (.tup [.int 1,.int (-1)])=↥(.bl (w==1 || w == -1)):=by
 have e:=q8R w [1,-1];have h:(XR (.int w)&&([1,-1].map D.int).all XR)=true:=rfl;show (if (XR (.int w)&&([1,-1].map D.int).all XR)=true then some (R.sh (D.bl (Hk.inD (.int w) ([1,-1].map D.int))))else none)=_;rw[vH h,e]
 congr 3
 by_cases a:w=1 <;> by_cases b:w=-1 <;> simp[a,b]
theorem qgQ{d:D}(h:plD d=true):q34 [d]=↥(.bl (zAr d)):=by
 unfold q34 q5R;have e:=q4B h;cases d with
 | int w=>simp_arith[e,wD,qgR,zAr]
 | _=>first|(simp_arith[e,wD,zAr];done)|cases h
theorem q3n{n:Int}{d:D}(h:plD d=true):qN [.int n,d]=↥(.bl (inD n d)):=by
 unfold qN q3R;have e:=q4B h;cases d with
 | int x=>
  simp_arith[e,wD,inD,ge_iff_le]
 | _=>first|(simp_arith[e,wD,inD];done)|cases h
theorem qih{n:Int}{d:D}(h:plB d=true):q0o [.int n,d]=↥(.bl (zAi n d)):=by
 unfold q0o q2c
 match d,h with
 | .non,_=>rfl
 | .bl _,_=>rfl
 | .int _,_=>rfl
 | .str _,_=>rfl
 | .lst _,_=>rfl
 | .tup [],_=>rfl
 | .tup [_],_=>rfl
 | .tup [_,_],_=>rfl
 | .tup (a::b::c::e::r),_=>
  have hn:(((a::b::c::e::r).length:Int)==3)=false:=by
   simp only[zL,beq_eq_false_iff_ne,ne_eq];omega
  simp only[zL]at hn;simp_arith[hn];rfl
 | .tup [a,b,c],h=>
  have h':smD a=true/\smD b=true/\smD c=true:=by simpa [plB]using h
  have e1:=q3n (n:=n) (qcD h'.1);have e2:=q3n (n:=n) (qcD h'.2.1);have e3:=qgQ (qcD h'.2.2);have e4:(((0+1+1+1:Nat):Int)==3)=true:=rfl;simp_arith[e1,e2,e3];simp_arith[e4,e1,e2,e3];show _=some (O.sh (D.bl (inD n a&&(inD n b&&zAr c))));cases inD n a <;> cases inD n b <;> simp_arith[q02]
theorem qdf(n h l b:D)(hn:plD n=true)(hh:plD h=true)(hl:plD l=true)(hb:plL b=true):q27 [n,h,l,b]=↥(.bl (isRd n h l b)):=by
 unfold q27 q4W;have e1:=q4B hn;cases n with
 | int n=>
  have e2:=q3n (n:=n) hh;have e3:=q3n (n:=n) hl;have no:∀{b:D},(inD n h=false\/inD n l=false)->isRd (.int n) h l b=false:=by
   intro b z;cases b with
   | lst ds=>
    show (inD n h&&(inD n l&&ds.all (zAi n)))=false;rcases z with z|z <;> rw[z]
    ·rfl
    ·cases inD n h <;> rfl
   | _=>rfl
  cases z1:inD n h with
  | false=>simp_arith[e1,wD,e2,z1,no (.inl z1)]
  | true=>
   cases z2:inD n l with
   | false=>simp_arith[e1,wD,e2,e3,z1,z2,no (.inr z2)]
   | true=>
    cases b with
    | lst ds=>
     have hb':ds.all plB=true/\ds.length<=20:=by simpa [plL]using hb
     have hll:ds.length<=1000000:=∅
     have cm:Yu (gN 0) Yc q4o ds [none,↥(.int n)]=some (ds.map λd=>D.bl (zAi n d)):=by
      refine q3t (λd=>D.bl (zAi n d)) ds λd hd=>?_;have:=qih (n:=n) (yo.mp hb'.1 d hd);unfold q4o;simp_arith[this]
     simp_arith[e1,wD,e2,e3,z1,z2,Y5 hll,inW,XC,cm,X1,q5V];show _=some (O.sh (D.bl (inD n h&&(inD n l&&ds.all (zAi n)))));rw[z1,z2];rfl
    | _=>first|(simp_arith[e1,wD,e2,e3,z1,z2,isRd];done)|cases hb
 | _=>first|(simp_arith[e1,wD,isRd];done)|cases hn
theorem qcG{n h l:Int}{bs:List (Int×Int×Int)}(hn:n<=10^39)(hh:0<=h/\h<n)(hl:0<=l/\l<n)(hb:bs.length<=20)(hbs:∀b∈bs,(0<=b.1/\b.1<n)/\(0<=b.2.1/\b.2.1<n)/\(b.2.2=1\/b.2.2=-1)):
  q0v [.int n,.int h,.int l,.lst (bs.map tri)]=some (.sh .non):=by
 have smD':∀{x:Int},x.natAbs<=10^39->smD (.int x)=true:=λ{x} hx=>by
  show decide (x.natAbs<2^200)=true;exact vW (wF hx (by decide))
 have pb:(bs.map tri).all plB=true:=by
  rw[wd];refine yo.mpr λb hb=>?_;obtain⟨a1,a2,a3⟩:=hbs b hb;show (smD (.int b.1)&&(smD (.int b.2.1)&&(smD (.int b.2.2)&&true)))=true;rw[smD' ∅,smD' ∅,smD' ∅];rfl
 have pL:plL (.lst (bs.map tri))=true:=by
  show ((bs.map tri).all plB&&decide ((bs.map tri).length<=20))=true;rw[pb,zA];simp;omega
 have e:=qdf (.int n) (.int h) (.int l) (.lst (bs.map tri)) rfl rfl rfl pL;have ok:isRd (.int n) (.int h) (.int l) (.lst (bs.map tri))=true:=by
  show (inD n (.int h)&&(inD n (.int l)&&(bs.map tri).all (zAi n)))=true;have i1:∀{x:Int},0<=x/\x<n->inD n (.int x)=true:=λ{x} hx=>by
   show (decide (0<=x)&&decide (x<n))=true;simp;exact hx
  rw[i1 hh,i1 hl,wd];show bs.all _=true;refine yo.mpr λb hb=>?_;obtain⟨a1,a2,a3⟩:=hbs b hb;show (inD n (.int b.1)&&(inD n (.int b.2.1)&&zAr (.int b.2.2)))=true;rw[i1 a1,i1 a2];show (b.2.2==1 || b.2.2 == -1)=true;rcases a3 with z|z <;> rw[z] <;> rfl
 rw[ok]at e;unfold q0v q2O;simp_arith[e]
noncomputable def two(b:Int×Int×Int):Int×Int:=(b.1,b.2.1)
theorem q9v{bs:List (Int×Int×Int)}(hb:bs.length<=20):qM [.lst (bs.map tri)]=some (.fr ((bs.map two).map YZ)):=by
 unfold qM q1R;have hl:(bs.map tri).length<=1000000:=by rw[zA];omega
 have cm:=qx (i:=0) (f:=q3u) tri (λb=>YZ (two b)) bs (ω:=[none]) (λb _=>rfl);simp_arith[Y5 hl,inW,XC,cm];rw[zc];rfl
noncomputable def rnd(P:List Int):List (Int×Int):=P.zip (P.drop 1++P.take 1)
theorem qhx(ds:List D):cutD ds none (some 1)=ds.take 1:=by
 unfold cutD;have e:HT.sIx ds.length ds.length (some 1)=min 1 ds.length:=HT.q5m ds.length ds.length 1;rw[e,HT.q9a,Nat.sub_zero,ZC,List.take_eq_take_iff];omega
theorem q8t{n h l:Int}{bs:List (Int×Int×Int)}(hn:n<=10^39)(hh:0<=h/\h<n)(hl:0<=l/\l<n)(hb:bs.length<=20)(hbs:∀b∈bs,(0<=b.1/\b.1<n)/\(0<=b.2.1/\b.2.1<n)/\(b.2.2=1\/b.2.2=-1)):
  q09 [.int n,.int h,.int l,.lst (bs.map tri)]=some (.fr ((rnd (YY (plc h l (bs.map two)))).map YZ)):=by
 unfold q09 q3M;have c:=qcG hn hh hl hb hbs;have w:=q9v hb;have s:=q4w (h:=h) (l:=l) (bs:=bs.map two) (by rw[zA];omega);have sl:(YY (plc h l (bs.map two))).length<=1000:=(stp h l (bs:=bs.map two) (by rw[zA];omega)).len;generalize YY (plc h l (bs.map two))=P at s sl;have ad:Yv (.lst (cutD (P.map D.int) (some 1) none)) (.lst (cutD (P.map D.int) none (some 1)))=some (.fr ((P.drop 1++P.take 1).map D.int)):=by
  rw[q9K,qhx,<- ZN,<- YA,zX];exact vH (by rw[zA,zA,yK,zn];omega)
 have hz:Y7 [.lst (P.map D.int),.lst ((P.drop 1++P.take 1).map D.int)]=some (.fr ((rnd P).map YZ)):=by
  show some (R.fr (wA pairD _ _))=_;rw[q4Z];rfl
 simp_arith[c,w,s,qfZ,ad,hz]
noncomputable def goN(n s g x:Int):Bool:=decide ((x-s)%n<(g-s)%n)
theorem q1a{n x s:Int}(hx:0<=x/\x<n)(hs:0<=s/\s<n):(x-s)%n=if s<=x then x-s else x-s+n:=by
 by_cases z:s<=x
 ·rw[vH z];exact wO ∅ ∅
 ·have e:(x-s+n)%n=(x-s)%n:=by simp
  rw[vJ z,<- e];exact wO ∅ ∅
noncomputable def rtR(n:Int)(bs:List (Int×Int×Int))(x:Int):List (Int×Int×Int):=bs.filter λb=>b.2.2==1&&goN n b.1 b.2.1 x
noncomputable def lfR(n:Int)(bs:List (Int×Int×Int))(x:Int):List (Int×Int×Int):=bs.filter λb=>b.2.2 == -1&&goN n b.2.1 b.1 x
theorem q5J{n a b:Int}(hn:0<n):q00 [.int n,.int a,.int b,.int 1]=↥(.int ((b-a)%n)):=by
 unfold q00 q5j;have mu:WA (.int (b-a)) (.int 1)=↥(.int (b-a)):=by rw[q39 (by decide) (by decide),xQ]
 have mo:oMod (.int (b-a)) (.int n)=↥(.int ((b-a)%n)):=q1S hn;simp_arith[mu,mo]
theorem q7h{n s g:Int}(hn:0<n)(p:Int×Int):q08 [.int n,.int s,.int g,YZ p]=↥(.bl (goN n s g p.1)):=by
 unfold q08 q3y;have s1:=q5J (a:=s) (b:=p.1) hn;have s2:=q5J (a:=s) (b:=g) hn;have pd:YZ p=.tup [.int p.1,.int p.2]:=rfl;simp_arith[pd,s1,s2];rfl
noncomputable def YW(n h l:Int)(bs:List (Int×Int×Int))(x:Int):Int:=(if goN n h l x=true then 1 else 0)-((rtR n bs x).length:Int)+((lfR n bs x).length:Int)
theorem qhH{n h l:Int}{bs:List (Int×Int×Int)}(hn:0<n)(hb:bs.length<=20)(p:Int×Int):q0Q [.int n,.int h,.int l,.lst (bs.map tri),YZ p]=↥(.int (YW n h l bs p.1)):=by
 unfold q0Q q3O;have o:=q7h (s:=h) (g:=l) hn p;have kl:(bs.map tri).length<=1000000:=by rw[zA];omega
 have td:∀b:Int×Int×Int,tri b=.tup [.int b.1,.int b.2.1,.int b.2.2]:=λ_=>rfl;have cm1:=q1k (i:=0) (c:=q2W) (f:=q4P) (λb=>b.2.2==1&&goN n b.1 b.2.1 p.1) tri tri bs (ω:=[none,↥(.int n),↥(YZ p)]) (λb _=>⟨by
  have o1:=q7h (s:=b.1) (g:=b.2.1) hn p;unfold q2W;cases q:(b.2.2==1)with
  | true=>simp_arith[td,q,o1]
  | false=>simp_arith[td,q],λ_=>rfl⟩)
 have cm2:=q1k (i:=0) (c:=q32) (f:=q51) (λb=>b.2.2 == -1&&goN n b.2.1 b.1 p.1) tri tri bs (ω:=[none,↥(.int n),↥(YZ p)]) (λb _=>⟨by
  have o1:=q7h (s:=b.2.1) (g:=b.1) hn p;unfold q32;cases q:(b.2.2 == -1)with
  | true=>simp_arith[td,q,o1]
  | false=>simp_arith[td,q],λ_=>rfl⟩)
 unfold YW rtR lfR;generalize goN n h l p.1=go at o ⊢;cases go with
 | true=>simp_arith[o,Y5 kl,inW,XC,cm1,cm2,zA]
 | false=>simp_arith[o,Y5 kl,inW,XC,cm1,cm2,zA]
theorem qdw{n h l c:Int}{bs:List (Int×Int×Int)}(hn0:1<=n)(hn:n<=10^39)(hh:0<=h/\h<n)(hl:0<=l/\l<n)(hb:bs.length<=20)(hbs:∀b∈bs,(0<=b.1/\b.1<n)/\(0<=b.2.1/\b.2.1<n)/\(b.2.2=1\/b.2.2=-1)):
  q0x [.int n,.int h,.int l,.lst (bs.map tri),.int c]=some (.fr ((YY (plc h l (bs.map two))).map λx=>D.int (c+YW n h l bs x))):=by
 unfold q0x q2J;have g:=q8t hn hh hl hb hbs;have sl:(YY (plc h l (bs.map two))).length<=1000:=(stp h l (bs:=bs.map two) (by rw[zA];omega)).len;generalize YY (plc h l (bs.map two))=P at g sl;have kl:((rnd P).map YZ).length<=1000000:=by
  rw[zA];unfold rnd;rw[yT];omega
 have cm:=qx (i:=0) (f:=q2b) YZ (λp=>D.int (c+YW n h l bs p.1)) (rnd P) (ω:=[none,↥(.int c),↥(.int n),↥(.int h),↥(.int l),↥(.lst (bs.map tri))]) (λp _=>by
  have b:=qhH (h:=h) (l:=l) (show 0<n by omega) hb p;unfold q2b;simp_arith[b])
 have zf:(rnd P).map (λp=>D.int (c+YW n h l bs p.1))=P.map λx=>D.int (c+YW n h l bs x):=by
  have:(rnd P).map Prod.fst=P:=by
   unfold rnd;rw[xt];rw[zE,yK,zn];omega
  conv=>rhs;rw[<- this]
  rw[zc];rfl
 simp_arith[g,Y5 kl,inW,XC,cm,zf]
theorem qb0{b:Int×Int×Int}{bs:List (Int×Int×Int)}(h:b∈bs):b.1∈flat (bs.map two)/\b.2.1∈flat (bs.map two):=by
 unfold flat;refine⟨xY.mpr ⟨two b,ze h,?_⟩,xY.mpr ⟨two b,ze h,?_⟩⟩
 ·exact zD
 ·exact zG _ zD
theorem qgN{x:Int}{bs:List (Int×Int×Int)}(h:x∈flat (bs.map two)):∃b∈bs,x=b.1\/x=b.2.1:=by
 unfold flat at h;obtain⟨p,hp,hx⟩:=xY.mp h;obtain⟨b,hb,rfl⟩:=zS.mp hp;rcases zF.mp hx with z|z
 ·exact⟨b,hb,.inl z⟩
 ·exact⟨b,hb,.inr (zM.mp z)⟩
theorem qw{P:List Int}{k:Nat}(h:k<P.length):P.getD k 0=P[k]:=by rw[zq,zC h];rfl
noncomputable def stN(n:Int)(b:Int×Int×Int):Int:=(b.2.1-b.1)*b.2.2%n
theorem q5t{α:Type}{f g:α->Int}:∀(l:List α),(l.map λx=>f x+g x).sum=(l.map f).sum+(l.map g).sum
 | []=>rfl
 | x::l=>by rw[zR,zR,zR,zj,zj,zj,q5t l];omega
noncomputable def glN(n:Int)(g:Int×Int):Int:=if g.1=g.2 then n else (g.2-g.1)%n
theorem qhv{n:Int}(hn:0<n)(p:Int×Int):q0G [.int n,YZ p]=↥(.int (glN n p)):=by
 unfold q0G q2X;have s:=q5J (a:=p.1) (b:=p.2) hn;have pd:YZ p=.tup [.int p.1,.int p.2]:=rfl;unfold glN
 by_cases z:p.1=p.2
 ·have q:(p.1==p.2)=true:=by simpa using z
  simp_arith[pd,q,vH z]
 ·have q:(p.1==p.2)=false:=by simpa using z
  simp_arith[pd,q,vJ z,s]
noncomputable def egN(n:Int)(p:Int×Int):Eg:=(p.1,p.2,glN n p)
theorem qeu{n h l:Int}{bs:List (Int×Int×Int)}(hn0:1<=n)(hn:n<=10^39)(hh:0<=h/\h<n)(hl:0<=l/\l<n)(hb:bs.length<=20)(hbs:∀b∈bs,(0<=b.1/\b.1<n)/\(0<=b.2.1/\b.2.1<n)/\(b.2.2=1\/b.2.2=-1)):
  q0d [.int n,.int h,.int l,.lst (bs.map tri)]=some (.fr (((rnd (YY (plc h l (bs.map two)))).map (egN n)).map egD)):=by
 unfold q0d q2z;have g:=q8t hn hh hl hb hbs;have sl:(YY (plc h l (bs.map two))).length<=1000:=(stp h l (bs:=bs.map two) (by rw[zA];omega)).len;generalize YY (plc h l (bs.map two))=P at g sl;have kl:((rnd P).map YZ).length<=1000000:=by
  rw[zA];unfold rnd;rw[yT];omega
 have cm:=qx (i:=0) (f:=q2f) YZ (λp=>egD (egN n p)) (rnd P) (ω:=[none,↥(.int n)]) (λp _=>by
  have b:=qhv (show 0<n by omega) p;have pd:YZ p=.tup [.int p.1,.int p.2]:=rfl;have ad:Yv (YZ p) (.tup [.int (glN n p)])=↥(egD (egN n p)):=by
   rw[pd];rfl
  unfold q2f;simp_arith[b,ad])
 have mm:(rnd P).map (λp=>egD (egN n p))=((rnd P).map (egN n)).map egD:=by rw[zc];rfl
 simp_arith[g,Y5 kl,inW,XC,cm,mm]
noncomputable def lkT(es:List Eg)(ls:List Int):List (Int×Int):=((es.zip ls).filter λq=>q.2 != 0).map λq=>Yr q.1
noncomputable def zpD(q:Eg×Int):D:=.tup [egD q.1,.int q.2]
theorem q61:∀(es:List Eg)(ls:List Int),Xs (es.map egD) (ls.map D.int)=(es.zip ls).map zpD
 | [],_=>rfl
 | _::_,[]=>rfl
 | e::es,x::ls=>by
  show D.tup [egD e,.int x]::Xs (es.map egD) (ls.map D.int)=_;rw[q61];rfl
theorem qbE{c:FT}{f:FD}(q:Eg×Int->Bool)(F:Eg×Int->D)(xs:List (Eg×Int)){ω:WSt}(hω:∃a b,ω=[a,b])(h:∀x∈xs,c [↥(egD x.1),↥(.int x.2)]=some (q x)/\(q x=true->f [↥(egD x.1),↥(.int x.2)]=some (F x))):
  Yu (gT 2 (YT (gN 0) (YT (gN 1) Ys))) c f (xs.map zpD) ω=some ((xs.filter q).map F) :=
 q03 (λw=>∃a b,w=[a,b]) q zpD F xs hω λx hx w hw=>by
  obtain⟨a,b,rfl⟩:=hw;exact⟨_,rfl,⟨_,_,rfl⟩,(h x hx).1,(h x hx).2⟩
theorem qcf{h l:Int}{bs:List (Int×Int×Int)}{es:List Eg}{ls:List Int}(hb:bs.length<=20)(le:es.length<64)(ok:Ok (es.map λe=>e.1) (bs.map two++[(h,l)]++lkT es ls))(he:∀e∈es,e.1∈es.map (λe=>e.1)/\e.2.1∈es.map (λe=>e.1)):
  ∃f:Int->Int,Tells (es.map λe=>e.1) (bs.map two++[(h,l)]++lkT es ls) f/\q0n [.int h,.int l,.lst (bs.map tri),.lst (es.map egD),.lst (ls.map D.int)]=some (.fr ((Yk f (YV YM es)).2.map egD)):=by
 obtain⟨f,f1,f2⟩:=q7W ok he le;refine⟨f,f1,?_⟩;unfold q0n q2j;have w:=q9v hb;have zl:(es.zip ls).length<=64:=by rw[yT];omega
 have kz:((es.zip ls).map zpD).length<=1000000:=by rw[zA];omega
 have ke:(es.map egD).length<=1000000:=by rw[zA];omega
 have cm1:=qbE (c:=q1W) (f:=q40) (λq=>q.2 != 0) (λq=>YU (Yr q.1)) (es.zip ls) (ω:=[none,none]) ⟨_,_,rfl⟩ (λq _=>⟨by
  unfold q1W;simp_arith[q02];rfl,λ_=>rfl⟩)
 have cm2:=qx (i:=0) (f:=q1V) egD (λe=>D.int e.1) es (ω:=[none]) (λe _=>by
  unfold q1V;have ed:egD e=.tup [.int e.1,.int e.2.1,.int e.2.2]:=rfl;simp_arith[ed])
 have m1:((es.zip ls).filter λq=>q.2 != 0).map (λq=>YU (Yr q.1))=(lkT es ls).map YU:=by unfold lkT;rw[zc];rfl
 have m2:es.map (λe=>D.int e.1)=(es.map λe=>e.1).map D.int:=by rw[zc];rfl
 have lt:(lkT es ls).length<=64:=by
  unfold lkT;rw[zA];exact yA (yG _ _) zl
 have a1:Yv (.lst ((bs.map two).map YZ)) (.lst [.tup [.int h,.int l]])=some (.fr ((bs.map two++[(h,l)]).map YU)):=by
  have:(bs.map two++[(h,l)]).map YU=(bs.map two).map YZ++[.tup [.int h,.int l]]:=by rw[zX];rfl
  rw[this];exact vH (by rw[zA,zA];show bs.length+1<=_;omega)
 have a2:Yv (.lst ((bs.map two++[(h,l)]).map YU)) (.lst ((lkT es ls).map YU))=some (.fr ((bs.map two++[(h,l)]++lkT es ls).map YU)):=by
  rw[zX (l₂:=lkT es ls)];exact vH (by rw[zA,zA,zE,zA];show bs.length+1+_<=_;omega)
 have zz:=q61 es ls;simp_arith[zz,Y5 kz,Y5 ke,inW,XC,cm1,cm2,m1,m2,w,a1,a2,f2]
noncomputable def ewN(es:List Eg)(ls:List Int)(F:List Eg):Int:=((es.zip ls).map λq=>YM q.1*Yn q.2).sum+2*(F.map YM).sum
theorem qcs{h l:Int}{bs:List (Int×Int×Int)}{es:List Eg}{ls:List Int}(hb:bs.length<=20)(le:es.length<64)(hls:∀x∈ls,-1000<=x/\x<=1000)(ok:Ok (es.map λe=>e.1) (bs.map two++[(h,l)]++lkT es ls))(he:∀e∈es,e.1∈es.map (λe=>e.1)/\e.2.1∈es.map (λe=>e.1)):
  ∃f:Int->Int,Tells (es.map λe=>e.1) (bs.map two++[(h,l)]++lkT es ls) f/\qC [.int h,.int l,.lst (bs.map tri),.lst (es.map egD),.lst (ls.map D.int)]=↥(.int (ewN es ls (Yk f (YV YM es)).2)):=by
 obtain⟨f,f1,f2⟩:=qcf hb le ok he;refine⟨f,f1,?_⟩;unfold qC q1F;have zl:(es.zip ls).length<=64:=by rw[yT];omega
 have kz:((es.zip ls).map zpD).length<=1000000:=by rw[zA];omega
 have kl:=(qY f (YV YM es)).length_le;rw[q3r]at kl;generalize (Yk f (YV YM es)).2=F at f2 kl;have kF:(F.map egD).length<=1000000:=by rw[zA];omega
 have cm1:=qbE (c:=Yc) (f:=q1q) (λ_=>true) (λq=>D.int (YM q.1*Yn q.2)) (es.zip ls) (ω:=[none,none]) ⟨_,_,rfl⟩ (λq hq=>⟨rfl,λ_=>by
  have c:=q1K q.1;have bq:=hls _ (xw hq).2;have mu:WA (.int (YM q.1)) (.int (Yn q.2))=↥(.int (YM q.1*Yn q.2)):=q39 (by unfold Yn;split <;> omega) (by unfold Yn;split <;> omega);have ab:bAbs [.int q.2]=↥(.int (Yn q.2)):=rfl;unfold q1q;simp_arith[c,ab,mu]⟩)
 rw[yR.mpr (λ_ _=>rfl)]at cm1;have cm2:=qx (i:=0) (f:=q1x) egD (λe=>D.int (YM e)) F (ω:=[none]) (λe _=>by
  have c:=q1K e;unfold q1x;simp_arith[c])
 have s1:=q6n (λq:Eg×Int=>YM q.1*Yn q.2) (es.zip ls);have s2:=q6n YM F;have zz:=q61 es ls;have m2:∀x:Int,WA (.int 2) (.int x)=↥(.int (2*x)):=λx=>q9q (by decide) (by decide);simp_arith[zz,Y5 kz,Y5 kF,inW,XC,cm1,cm2,s1,s2,f2,m2];rfl
noncomputable def nxN(N k:Nat):Nat:=if k+1<N then k+1 else 0
noncomputable def egs(n:Int)(P:List Int):List Eg:=(rnd P).map (egN n)
theorem qgW(P:List Int):(rnd P).length=P.length:=by
 unfold rnd;rw[yT,zE,yK,zn];omega
theorem qht{P:List Int}{k:Nat}(hk:k<P.length):(rnd P)[k]?=some (P.getD k 0,P.getD (nxN P.length k) 0):=by
 have:(P.drop 1++P.take 1)[k]?=some (P.getD (nxN P.length k) 0):=by
  unfold nxN
  by_cases z:k+1<P.length
  ·rw[vH z,zb (by rw[yK];omega),yp,Nat.add_comm 1 k,zC z,qw z]
  ·rw[vJ z,zW (by rw[yK];omega),yK,show k-(P.length-1)=0 by omega,yq,vH (by decide),zC (∅:0<P.length),qw (∅:0<P.length)]
 unfold rnd;rw[yc];exact⟨by rw[zC hk,qw hk],this⟩
theorem q8F(P:List Int):rnd P=(yI P.length).map λk=>(P.getD k 0,P.getD (nxN P.length k) 0):=by
 apply yv;intro k
 by_cases z:k<P.length
 ·rw[qht z,zY,yz z];rfl
 ·rw[zu (by rw[qgW];omega),zu (by rw[zA,yH];omega)]
theorem q0K(n:Int)(P:List Int):(egs n P).map (λe=>e.1)=P:=by
 unfold egs;rw[zc];show (rnd P).map Prod.fst=P;unfold rnd;rw[xt];rw[zE,yK,zn];omega
theorem q6A{n:Int}{P:List Int}:∀e∈egs n P,e.1∈P/\e.2.1∈P:=λe he=>by
 unfold egs at he;rw[q8F,zc]at he;obtain⟨k,hk,rfl⟩:=zS.mp he;have hk':=yM.mp hk;have hx:nxN P.length k<P.length:=by unfold nxN;split <;> omega
 show P.getD k 0∈P/\P.getD (nxN P.length k) 0∈P;rw[qw hk',qw hx];exact⟨zZ _,zZ _⟩
theorem q6S{n h l x:Int}{bs:List (Int×Int×Int)}(hb:bs.length<=20):-21<=YW n h l bs x/\YW n h l bs x<=21:=by
 have a:(rtR n bs x).length<=bs.length:=yG _ _;have b:(lfR n bs x).length<=bs.length:=yG _ _;unfold YW
 split <;> omega
theorem qjc{n a b w:Int}(hn:0<n)(hw:w=1\/w=-1):q00 [.int n,.int a,.int b,.int w]=↥(.int ((b-a)*w%n)):=by
 unfold q00 q5j;have mu:WA (.int (b-a)) (.int w)=↥(.int ((b-a)*w)):=q39 ∅ ∅;have mo:oMod (.int ((b-a)*w)) (.int n)=↥(.int ((b-a)*w%n)):=q1S hn;simp_arith[mu,mo]
theorem qgD{n:Int}(hn:0<n){bs:List (Int×Int×Int)}(hbs:∀b∈bs,b.2.2=1\/b.2.2=-1):
  Yu (gT 3 (YT (gN 0) (YT (gN 1) (YT (gN 2) Ys)))) Yc q3f (bs.map tri) [none,none,none,↥(.int n)]=some (bs.map λb=>D.int (stN n b)):=by
 have:=q03 (g:=gT 3 (YT (gN 0) (YT (gN 1) (YT (gN 2) Ys)))) (c:=Yc) (f:=q3f) (λw=>∃a b c,w=[a,b,c,↥(.int n)]) (λ_=>true) tri (λb=>D.int (stN n b)) bs (ω:=[none,none,none,↥(.int n)]) ⟨_,_,_,rfl⟩ λb hb w hw=>by
  obtain⟨x,y,z,rfl⟩:=hw;refine⟨_,rfl,⟨_,_,_,rfl⟩,rfl,λ_=>?_⟩;have s:=qjc (a:=b.1) (b:=b.2.1) hn (hbs b hb);show q3f [↥(.int b.1),↥(.int b.2.1),↥(.int b.2.2),↥(.int n)]=_;unfold q3f stN;simp_arith[s]
 rw[this,yR.mpr (λ_ _=>rfl)]
noncomputable def Wb(S:Int)(w:Int->Int)(c:Int):D:=.tup [.int c,.int (S+w c)]
noncomputable def loT(B:List Int):Int:=-1-WY B
noncomputable def nT(B:List Int):Nat:=(2-Xl B-loT B).toNat
theorem rngT{B:List Int}(h0:B≠[])(hB:∀b∈B,-21<=b/\b<=21):(-22<=loT B/\loT B<=20)/\(-19<=2-Xl B/\2-Xl B<=23)/\nT B<=100/\0<nT B:=by
 have a:=hB _ (q2v h0).1;have b:=hB _ (q2y h0).1;have c:=(q2v h0).2 _ (q2y h0).1;unfold nT loT;omega
theorem qeS{n h l:Int}{bs:List (Int×Int×Int)}(hn0:1<=n)(hn:n<=10^39)(hh:0<=h/\h<n)(hl:0<=l/\l<n)(hb:bs.length<=20)(hbs:∀b∈bs,(0<=b.1/\b.1<n)/\(0<=b.2.1/\b.2.1<n)/\(b.2.2=1\/b.2.2=-1)){P:List Int}(eP:YY (plc h l (bs.map two))=P){w:Int->Int}(hw:∀c:Int,-200<=c->c<=200->qC [.int h,.int l,.lst (bs.map tri),.lst ((egs n P).map egD),.lst (P.map λx=>D.int (YW n h l bs x+c))]=↥(.int (w c))):
  q2x [.int n,.int h,.int l,.lst (bs.map tri)]=some (.fr ((yI (nT (P.map (YW n h l bs)))).map λk:Nat=>Wb (bs.map (stN n)).sum w (loT (P.map (YW n h l bs))+(k:Int)))):=by
 have re:=qeu hn0 hn hh hl hb hbs;have rl:=qdw (c:=0) hn0 hn hh hl hb hbs;have S:=stp h l (bs:=bs.map two) (by rw[zA];omega);rw[eP]at re rl S;have re':q0d [.int n,.int h,.int l,.lst (bs.map tri)]=some (.fr ((egs n P).map egD)):=re;have z0:(P.map λx=>D.int (0+YW n h l bs x))=(P.map (YW n h l bs)).map D.int:=by
  rw[zc];exact yE λx _=>by rw[xn];rfl
 rw[z0]at rl;generalize hB:P.map (YW n h l bs)=B at rl;have B0:B≠[]:=λe=>by rw[e]at hB;exact S.ne (xf.mp hB)
 have Bb:∀b∈B,-21<=b/\b<=21:=λb hb'=>by
  rw[<- hB]at hb';obtain⟨x,_,rfl⟩:=zS.mp hb';exact q6S hb
 obtain⟨r1,r2,r3,_⟩:=rngT B0 Bb;have mx:=qdE B0;have mn:=qdu B0;have lo:=qgD (n:=n) ∅ (bs:=bs) λb h=>(hbs b h).2.2;have sm:=q6n (stN n) bs;have kl:(bs.map tri).length<=1000000:=by rw[zA];omega
 have kB:(B.map D.int).length<=1000000:=by rw[zA,<- hB,zA];have:=S.len;omega
 generalize (bs.map (stN n)).sum=Z at sm;generalize hE:(egs n P).map egD=E at re' hw;obtain⟨ω',e,x8,x9,rfl⟩:=qQ (g:=gN 8) (b:=q4u) (λk:Nat=>D.int (loT B+(k:Int))) (yI (nT B))
  (λpre ω=>∃x8 x9:Option W,ω=[↥(.int n),↥(.int h),↥(.int l),↥(.lst (bs.map tri)),↥(.lst E),↥(.lst (B.map D.int)),↥(.int Z),some (.ow (pre.map λk:Nat=>Wb Z w (loT B+(k:Int)))),x8,x9])
  (λpre k post ω hd ⟨x8,x9,hω⟩=>by
   subst hω;refine⟨_,rfl,?_⟩;have hk:k<nT B:=yM.mp (by rw[hd];simp);have pl:pre.length<nT B:=by
    have:=vj yr hd;rw[yH,zE,zL]at this;omega
   generalize hc:loT B+(k:Int)=c;have W:=hw c ∅ ∅;have cm:=qx (i:=0) (f:=q62) D.int (λx=>D.int (x+c)) B (ω:=[none,↥(.int c)]) (λx _=>by
    unfold q62;simp_arith[q02])
   have mm:B.map (λx=>D.int (x+c))=P.map λx=>D.int (YW n h l bs x+c):=by rw[<- hB,zc];rfl
   rw[mm]at cm;have as:(pre.map λk:Nat=>Wb Z w (loT B+(k:Int))).length<1000000:=by rw[zA];omega
   show WF (q4u [_,_,_,_,_,_,_,_,↥(.int c),_]) _;unfold q4u;simp_arith[Y5 kB,inW,XC,cm,W,zAG as];exact⟨_,_,by rw[zX,xN,hc];rfl⟩)
  (ω:=[↥(.int n),↥(.int h),↥(.int l),↥(.lst (bs.map tri)),↥(.lst E),↥(.lst (B.map D.int)),↥(.int Z),some (.ow []),none,none]) ⟨none,none,rfl⟩
 have up:upTo (loT B) (nT B)=(yI (nT B)).map λk:Nat=>D.int (loT B+(k:Int)):=rfl;have rg:rg2I (some [.int (-1-WY B),.int (2-Xl B)])=some (upTo (loT B) (nT B)):=qjp ⟨by unfold loT at r1;omega,by unfold loT at r1;omega⟩ ⟨∅,∅⟩;unfold q2x q74;simp_arith[re',rl,Y5 kl,inW,XC,lo,sm,mx,mn,rg,up,e]
theorem qec{n h l:Int}{bs:List (Int×Int×Int)}{ks:List Nat}{f:Nat->Int}{Z:Int}{v:Int->Int}(k0:ks≠[])(kl:ks.length<=1000)(ht:q2x [.int n,.int h,.int l,.lst (bs.map tri)]=some (.fr (ks.map λk=>Wb Z v (f k)))):
  qU [.int n,.int h,.int l,.lst (bs.map tri)]=↥(.int (Xl (ks.map λk=>Z+v (f k)))):=by
 unfold qU q3c;have kk:(ks.map λk=>Wb Z v (f k)).length<=1000000:=by rw[zA];omega
 have cm:=q03 (g:=gT 2 (YT (gN 0) (YT (gN 1) Ys))) (c:=Yc) (f:=q4z) (λw=>∃a b,w=[a,b]) (λ_=>true) (λk=>Wb Z v (f k)) (λk=>D.int (Z+v (f k))) ks (ω:=[none,none]) ⟨_,_,rfl⟩ λk _ w hw=>by
  obtain⟨a,b,rfl⟩:=hw;exact⟨_,rfl,⟨_,_,rfl⟩,rfl,λ_=>rfl⟩
 rw[yR.mpr (λ_ _=>rfl)]at cm;have mm:ks.map (λk=>D.int (Z+v (f k)))=(ks.map λk=>Z+v (f k)).map D.int:=by rw[zc];rfl
 rw[mm]at cm;have mn:=qdu (ns:=ks.map λk=>Z+v (f k)) λe=>k0 (xf.mp e);simp_arith[ht,Y5 kk,inW,XC,cm,mn]
theorem Rch.one{X:List (Int×Int)}{p q x y:Int}(r:Rch (X++[(p,q)]) x y):Rch X x y\/(Rch X x p/\Rch X q y)\/(Rch X x q/\Rch X p y):=by
 induction r with
 | refl=>exact .inl .refl
 | @step b c _ e ih=>
  have e':((b,c)∈X\/(c,b)∈X)\/(b=p/\c=q)\/(b=q/\c=p):=by
   rcases e with e|e
   ·rcases zK.mp e with e|e
    ·exact .inl (.inl e)
    ·have:=zM.mp e;simp only[Prod.mk.injEq]at this;exact .inr (.inl this)
   ·rcases zK.mp e with e|e
    ·exact .inl (.inr e)
    ·have:=zM.mp e;simp only[Prod.mk.injEq]at this;exact .inr (.inr ⟨this.2,this.1⟩)
  rcases e' with e'|⟨rfl,rfl⟩|⟨rfl,rfl⟩
  ·rcases ih with h|⟨h1,h2⟩|⟨h1,h2⟩
   ·exact .inl (h.step e')
   ·exact .inr (.inl ⟨h1,h2.step e'⟩)
   ·exact .inr (.inr ⟨h1,h2.step e'⟩)
  ·rcases ih with h|⟨h1,h2⟩|⟨h1,h2⟩
   ·exact .inr (.inl ⟨h,.refl⟩)
   ·exact .inr (.inl ⟨h1,.refl⟩)
   ·exact .inl h1
  ·rcases ih with h|⟨h1,h2⟩|⟨h1,h2⟩
   ·exact .inr (.inr ⟨h,.refl⟩)
   ·exact .inl h1
   ·exact .inr (.inr ⟨h1,.refl⟩)
theorem Rch.sub{X Y:List (Int×Int)}(h:∀e∈X,Rch Y e.1 e.2){x y:Int}(r:Rch X x y):Rch Y x y:=by
 induction r with
 | refl=>exact .refl
 | step _ e ih=>
  rcases e with e|e
  ·exact ih.trans (h _ e)
  ·exact ih.trans (h _ e).symm
theorem Rch.of{X:List (Int×Int)}{p q:Int}(h:(p,q)∈X):Rch X p q:=Rch.refl.step (.inl h)
theorem qb2{a b:Int}:∀(C:List Eg)(T:List (Int×Int)),¬Rch T a b->Rch (T++C.map Yr) a b->∃C1 c C2,C=C1++c::C2/\¬Rch (T++C1.map Yr) a b/\Rch (T++C1.map Yr++[Yr c]) a b
 | [],T,h,r=>vN ⇑r h
 | c::C,T,h,r=>by
  by_cases z:Rch (T++[Yr c]) a b
  ·exact⟨[],c,C,rfl,by simpa using h,by simpa using z⟩
  ·obtain⟨C1,d,C2,e,h1,h2⟩:=qb2 C (T++[Yr c]) z ⇑r
   exact⟨c::C1,d,C2,by rw[e];rfl,by simpa using h1,by simpa using h2⟩
noncomputable def kru(f:Int->Int):List Eg->Int
 | []=>0
 | e::es=>if f e.1=f e.2.1 then kru f es else YM e+kru (Yq f (f e.1) (f e.2.1)) es
theorem q6X:∀(es:List Eg)(f:Int->Int)(acc:List Eg),((es.foldl Yx (f,acc)).2.map YM).sum=(acc.map YM).sum+kru f es
 | [],f,acc=>by show _=_+(0:Int);rw[wf];rfl
 | e::es,f,acc=>by
  show ((es.foldl Yx (Yx (f,acc) e)).2.map YM).sum=_+(if f e.1=f e.2.1 then kru f es else YM e+kru (Yq f (f e.1) (f e.2.1)) es)
  by_cases z:f e.1=f e.2.1
  ·have a:Yx (f,acc) e=(f,acc):=vH z
   rw[a,vH z,q6X es]
  ·have a:Yx (f,acc) e=(Yq f (f e.1) (f e.2.1),acc++[e]):=vJ z
   rw[a,vJ z,q6X es,zX,xB,xN,wJ,ZP]
theorem q3Y:∀{C:List Eg},(∀c∈C,0<=YM c)->0<=(C.map YM).sum
 | [],_=>z7 _
 | c::C,h0=>by rw[zR,zj];have:=h0 c zD;have:=q3Y λx hx=>h0 x (zG _ hx);omega
theorem kmin{ts:List Int}:∀(es:List Eg),es.Pairwise (λa b=>YM a<=YM b)->∀(f:Int->Int)(T:List (Int×Int))(C:List Eg),Tells ts T f->(∀e∈T,e.1∈ts/\e.2∈ts)->(∀e∈es,e.1∈ts/\e.2.1∈ts)->(∀c∈C,0<=YM c) ->
  (∀c∈C,Rch (T++(es.filter λx=>decide (YM x<=YM c)).map Yr) c.1 c.2.1)->(∀e∈es,Rch (T++C.map Yr) e.1 e.2.1)->kru f es<=(C.map YM).sum
 | [],_,f,T,C,_,_,_,h0,_,_=>by
  show (0:Int)<=_;exact q3Y h0
 | e::es,so,f,T,C,hf,hT,he,h0,hD,hc=>by
  obtain⟨s1,s2⟩:=zV.mp so;have ⟨m1,m2⟩:=he e zD;have he':∀x∈es,x.1∈ts/\x.2.1∈ts:=λx hx=>he x (zG _ hx);show (if f e.1=f e.2.1 then kru f es else YM e+kru (Yq f (f e.1) (f e.2.1)) es)<=_
  by_cases z:f e.1=f e.2.1
  ·rw[vH z]
   refine kmin es s2 f T C hf hT he' h0 (λc hcc=>?_) λx hx=>hc x (zG _ hx);refine(hD c hcc).sub λx hx=>?_;rcases zK.mp hx with m|m
   ·exact .of (zI _ m)
   ·obtain⟨y,hy,rfl⟩:=zS.mp m
    obtain⟨y1,y2⟩:=zp.mp hy;rcases zF.mp y1 with rfl|y1
    ·exact((hf _ m1 _ m2).mp z).mono λw hw=>zI _ hw
    ·exact .of (zJ _ (ze (zp.mpr ⟨y1,y2⟩)))
  ·rw[vJ z]
   have nr:¬Rch T e.1 e.2.1:=λr=>z ((hf _ m1 _ m2).mpr r);obtain⟨C1,c,C2,eC,n1,r1⟩:=qb2 C T nr (hc e zD);have hcC:c∈C:=by rw[eC];simp
   have le:YM e<=YM c:=by
    by_cases q:YM e<=YM c
    ·exact q
    ·exfalso
     have fe:((e::es).filter λx=>decide (YM x<=YM c))=[]:=yi.mpr λx hx=>by
      rcases zF.mp hx with rfl|hx
      ·simpa using q
      ·have:=s1 x hx
       simp only[decide_eq_true_eq];omega
     have:=hD c hcC;rw[fe,yf,zw]at this;refine n1 (r1.sub λx hx=>?_);rcases zK.mp hx with m|m
     ·exact .of m
     ·rw[zM.mp m]
      exact this.mono λw hw=>zI _ hw
   have rc:Rch (T++[(e.1,e.2.1)]++C1.map Yr) c.1 c.2.1:=by
    have up:∀{x y:Int},Rch (T++C1.map Yr) x y->Rch (T++[(e.1,e.2.1)]++C1.map Yr) x y:=λr=>r.mono λw hw=>by
     rcases zK.mp hw with m|m
     ·exact zI _ (zI _ m)
     ·exact zJ _ m
    have ee:Rch (T++[(e.1,e.2.1)]++C1.map Yr) e.1 e.2.1:=.of (by simp);rcases r1.one with h|⟨h1,h2⟩|⟨h1,h2⟩
    ·exact vN h n1
    ·exact((up h1).symm.trans ee).trans (up h2).symm
    ·exact((up h2).trans ee.symm).trans (up h1)
   have ih:=kmin es s2 (Yq f (f e.1) (f e.2.1)) (T++[(e.1,e.2.1)]) (C1++C2) (hf.join hT m1 m2) (λx hx=>by
     rcases zK.mp hx with m|m
     ·exact hT x m
     ·rw[zM.mp m];exact⟨m1,m2⟩) he' (λx hx=>h0 x (by
     rw[eC];rcases zK.mp hx with m|m
     ·exact zI _ m
     ·exact zJ _ (zG _ m))) (λx hx=>by
     have xC:x∈C:=by
      rw[eC];rcases zK.mp hx with m|m
      ·exact zI _ m
      ·exact zJ _ (zG _ m)
     refine(hD x xC).mono λw hw=>?_;rcases zK.mp hw with m|m
     ·exact zI _ (zI _ m)
     ·obtain⟨y,hy,rfl⟩:=zS.mp m
      obtain⟨y1,y2⟩:=zp.mp hy;rcases zF.mp y1 with rfl|y1
      ·exact zI _ (zJ _ (zM.mpr rfl))
      ·exact zJ _ (ze (zp.mpr ⟨y1,y2⟩))) (λx hx=>by
     refine(hc x (zG _ hx)).sub λw hw=>?_;rcases zK.mp hw with m|m
     ·exact .of (zI _ (zI _ m))
     ·obtain⟨y,hy,rfl⟩:=zS.mp m
      rw[eC]at hy;rcases zK.mp hy with k|k
      ·exact .of (zJ _ (ze (zI _ k)))
      ·rcases zF.mp k with rfl|k
       ·refine rc.mono λw hw=>?_
        rcases zK.mp hw with m|m
        ·exact zI _ m
        ·rw[zX];exact zJ _ (zI _ m)
       ·exact .of (zJ _ (ze (zJ _ k))))
   have su:(C.map YM).sum=YM c+((C1++C2).map YM).sum:=by
    rw[eC,zX,xB,zR,zj,zX,xB];omega
   omega
structure Ms (T:List (Int×Int)) (es:List Eg) (m:Int):Prop where
 ex:∃C:List Eg,(∀c∈C,c∈es)/\C.Nodup/\(∀e∈es,Rch (T++C.map Yr) e.1 e.2.1)/\(C.map YM).sum=m
 lo:∀C:List Eg,(∀c∈C,c∈es)->(∀e∈es,Rch (T++C.map Yr) e.1 e.2.1)->m<=(C.map YM).sum
theorem zAj{ts:List Int}:∀(es:List Eg)(f:Int->Int)(T:List (Int×Int))(acc:List Eg),Tells ts (T++acc.map Yr) f->(∀e∈T,e.1∈ts/\e.2∈ts)->(∀e∈acc,e.1∈ts/\e.2.1∈ts)->(∀e∈es,e.1∈ts/\e.2.1∈ts)->∀e∈es,Rch (T++(es.foldl Yx (f,acc)).2.map Yr) e.1 e.2.1
 | [],_,_,_,_,_,_,_=>λe he=>by simp at he
 | e::es,f,T,acc,hf,hT,ha,he=>by
  have ⟨m1,m2⟩:=he e zD;have he':∀x∈es,x.1∈ts/\x.2.1∈ts:=λx hx=>he x (zG _ hx);have inn:∀x∈T++acc.map Yr,x.1∈ts/\x.2∈ts:=λx hx=>by
   rcases zK.mp hx with m|m
   ·exact hT x m
   ·obtain⟨y,hy,rfl⟩:=zS.mp m;exact ha y hy
  have keep:∀(es:List Eg)(g:Int->Int)(acc:List Eg),∀x∈acc,x∈(es.foldl Yx (g,acc)).2:=λes=>by
   induction es with
   | nil=>exact λg acc x hx=>hx
   | cons d es ih=>
    intro g acc x hx;show x∈(es.foldl Yx (Yx (g,acc) d)).2;unfold Yx
    split
    ·exact ih g acc x hx
    ·exact ih _ _ x (zI _ hx)
  intro x hx;show Rch (T++(es.foldl Yx (Yx (f,acc) e)).2.map Yr) x.1 x.2.1
  by_cases z:f e.1=f e.2.1
  ·have a:Yx (f,acc) e=(f,acc):=vH z
   rw[a];rcases zF.mp hx with rfl|hx
   ·refine((hf _ m1 _ m2).mp z).mono λw hw=>?_
    rcases zK.mp hw with m|m
    ·exact zI _ m
    ·obtain⟨y,hy,rfl⟩:=zS.mp m
     exact zJ _ (ze (keep es f acc y hy))
   ·exact zAj es f T acc hf hT ha he' x hx
  ·have a:Yx (f,acc) e=(Yq f (f e.1) (f e.2.1),acc++[e]):=vJ z
   rw[a];rcases zF.mp hx with rfl|hx
   ·exact .of (zJ _ (ze (f:=Yr) (keep es _ _ x (by simp))))
   ·refine zAj es _ T (acc++[e]) ?_ hT (λy hy=>?_) he' x hx
    ·rw[zX,<- yB];exact hf.join inn m1 m2
    ·rcases zK.mp hy with m|m
     ·exact ha y m
     ·rw[zM.mp m];exact⟨m1,m2⟩
theorem qbK{ts:List Int}{T:List (Int×Int)}{f:Int->Int}{es:List Eg}(nd:es.Nodup)(hf:Tells ts T f)(hT:∀e∈T,e.1∈ts/\e.2∈ts)(he:∀e∈es,e.1∈ts/\e.2.1∈ts)(h0:∀e∈es,0<=YM e):Ms T es ((Yk f (YV YM es)).2.map YM).sum:=by
 have pm:=qO (f:=YM) (l:=es);have he':∀e∈YV YM es,e.1∈ts/\e.2.1∈ts:=λe h=>he e (pm.mem_iff.mp h);refine⟨⟨(Yk f (YV YM es)).2,λc hc=>pm.mem_iff.mp ((qY f _).subset hc),(pm.nodup_iff.mpr nd).sublist (qY f _),λe h=>?_,rfl⟩,λC hC hc=>?_⟩
 ·have:=zAj (YV YM es) f T [] (by rw[yf,zw];exact hf) hT (by simp) he' e (pm.mem_iff.mpr h)
  exact this
 ·have:=q6X (YV YM es) f []
  unfold Yk;rw[this,yf,List.sum_nil,xn];refine kmin (ts:=ts) _ q2I f T C hf hT he' (λc h=>h0 c (hC c h)) (λc h=>?_) (λe h=>hc e (pm.mem_iff.mp h));exact .of (zJ _ (ze (f:=Yr) (zp.mpr ⟨pm.mem_iff.mpr (hC c h),by simp⟩)))
theorem dd{n x s:Int}(hx:0<=x/\x<n)(hs:0<=s/\s<n):((x-s)%n=x-s/\s<=x)\/((x-s)%n=x-s+n/\x<s):=by
 rw[q1a hx hs]
 by_cases z:s<=x
 ·rw[vH z];exact .inl ⟨rfl,z⟩
 ·rw[vJ z];exact .inr ⟨rfl,∅⟩
def Sc(n:Int)(P:List Int)(x y:Int):Prop:=x∈P/\y∈P/\∀z∈P,z≠x->y≠x/\(y-x)%n<=(z-x)%n
def InR(n:Int)(P:List Int):Prop:=∀p∈P,0<=p/\p<n
theorem Sc.uniq{n:Int}{P:List Int}(hn:InR n P){x y y':Int}(h:Sc n P x y)(h':Sc n P x y'):y=y':=by
 obtain⟨hx,hy,a⟩:=h;obtain⟨_,hy',b⟩:=h'
 by_cases z:y=x
 ·by_cases z':y'=x
  ·rw[z,z']
  ·exact vN z (a y' hy' z').1
 ·have b':=(b y hy z)
  have a':=(a y' hy' b'.1);have d1:=dd (hn y hy) (hn x hx);have d2:=dd (hn y' hy') (hn x hx);have:=hn x hx;have:=hn y hy;have:=hn y' hy';omega
theorem qcJ{P:List Int}(hP:P.Pairwise (· < ·)){n:Int}(hn:InR n P){k:Nat}(hk:k<P.length):Sc n P (P.getD k 0) (P.getD (nxN P.length k) 0):=by
 have hx:nxN P.length k<P.length:=by unfold nxN;split <;> omega
 rw[qw hk,qw hx];refine⟨zZ _,zZ _,λz hz ne=>?_⟩;obtain⟨j,hj,rfl⟩:=zi.mp hz;have jk:j≠k:=λq=>by subst q;exact ne rfl
 have up:∀{a b:Nat}(ha:a<P.length)(hb:b<P.length),a<b->P[a]<P[b]:=λha hb h=>yF.mp hP _ _ ha hb h;have b1:=hn _ (zZ hk);have b2:=hn _ (zZ hx);have b3:=hn _ (zZ hj);have d1:=dd b2 b1;have d2:=dd b3 b1
 by_cases z:k+1<P.length
 ·have e:nxN P.length k=k+1:=vH z
  have lt:P[k]<P[nxN P.length k]:=up hk hx ∅;rcases Nat.lt_or_gt_of_ne jk with q|q
  ·have:=up hj hk q;omega
  ·rcases zx j (k+1)with r|r
   ·omega
   ·rcases wI r with r|r
    ·have:P[nxN P.length k]=P[j]:=by congr 1;omega
     omega
    ·have:=up hx hj ∅;omega
 ·have e:nxN P.length k=0:=vJ z
  have q:j<k:=∅
  have:=up hj hk q;have lt:P[nxN P.length k]<P[k]:=up hx hk ∅;rcases ZS j with r|r
  ·have:P[nxN P.length k]=P[j]:=by congr 1;omega
   omega
  ·have:=up hx hj ∅;omega
theorem q4U{P:List Int}(hP:P.Pairwise (· < ·)){n:Int}(hn:InR n P){e:Eg}:e∈egs n P↔Sc n P e.1 e.2.1/\e.2.2=glN n (e.1,e.2.1):=by
 unfold egs;rw[q8F,zc,zS]
 constructor
 ·rintro⟨k,hk,rfl⟩
  exact⟨qcJ hP hn (yM.mp hk),rfl⟩
 ·rintro⟨h1,h2⟩
  obtain⟨k,hk,ek⟩:=zi.mp h1.1;have s:=qcJ hP hn hk;rw[qw hk,ek]at s;refine⟨k,yM.mpr hk,?_⟩;have u:=Sc.uniq hn h1 s;show ((P.getD k 0,P.getD (nxN P.length k) 0,glN n (P.getD k 0,P.getD (nxN P.length k) 0)):Eg)=e;rw[qw hk,ek,<- u];obtain⟨a,b,c⟩:=e;show (a,b,glN n (a,b))=(a,b,c);rw[show c=glN n (a,b)from h2]
theorem q6o{P:List Int}(hP:P.Pairwise (· < ·))(n:Int):(egs n P).Nodup:=by
 have h:((egs n P).map λe=>e.1).Nodup:=by rw[q0K];exact hP.imp λq=>∅
 exact(xp.mp h).imp λq r=>q (by rw[r])
theorem q9C{P:List Int}{n:Int}(hn:0<n):∀e∈egs n P,0<=YM e:=λe he=>by
 unfold egs at he;obtain⟨p,_,rfl⟩:=zS.mp he;show 0<=glN n p;unfold glN
 split
 ·omega
 ·exact wx _ ∅
def Wv(Z:Int)(T:List (Int×Int))(E:List Eg)(a:Eg->Int)(w:Int):Prop :=
 ∃m,Ms (T++(E.filter λe=>a e != 0).map Yr) E m/\w=Z+(E.map λe=>YM e*Yn (a e)).sum+2*m
theorem Rch.img{X Y:List (Int×Int)}(ρ:Int->Int)(h:∀t∈X,Rch Y (ρ t.1) (ρ t.2)){x y:Int}(r:Rch X x y):Rch Y (ρ x) (ρ y):=by
 induction r with
 | refl=>exact .refl
 | step _ e ih=>
  rcases e with e|e
  ·exact ih.trans (h _ e)
  ·exact ih.trans (h _ e).symm
theorem q9R{α:Type}{f:α->Int}{l m:List α}(p:l.Perm m):(l.map f).sum=(m.map f).sum:=by
 induction p with
 | nil=>rfl
 | cons x _ ih=>rw[zR,zR,zj,zj,ih]
 | swap x y l=>simp only[zR,zj];omega
 | trans _ _ a b=>exact a.trans b
theorem qii{a b:Int}(h:Yn a=Yn b):(a != 0)=(b != 0):=by
 unfold Yn at h
 by_cases z:a=0 <;> by_cases z':b=0
 ·rw[z,z']
 ·split at h <;> split at h <;> omega
 ·split at h <;> split at h <;> omega
 ·rw[bne_iff_ne.mpr z,bne_iff_ne.mpr z']
theorem qgs{Z w w':Int}{T T':List (Int×Int)}{E E':List Eg}{a a':Eg->Int}(h:Wv Z T E a w)(h':Wv Z T' E' a' w')(φ:Eg->Eg)(ρ:Int->Int)(pm:E'.Perm (E.map φ))(co:∀e∈E,YM (φ e)=YM e)(ab:∀e∈E,Yn (a' (φ e))=Yn (a e))(ti:∀e∈E,Yr (φ e)=(ρ e.1,ρ e.2.1)\/Yr (φ e)=(ρ e.2.1,ρ e.1))(kn:∀t∈T,Rch T' (ρ t.1) (ρ t.2)):w'<=w:=by
 obtain⟨m,⟨⟨C,c1,_,c3,c4⟩,_⟩,rfl⟩:=h;obtain⟨m',⟨_,lo⟩,rfl⟩:=h';have su:(E'.map λe=>YM e*Yn (a' e)).sum=(E.map λe=>YM e*Yn (a e)).sum:=by
  rw[q9R pm,zc]
  congr 1
  exact yE λe he=>by show YM (φ e)*Yn (a' (φ e))=_;rw[co e he,ab e he]
 have mem:∀e∈E,φ e∈E':=λe he=>pm.mem_iff.mpr (ze he);have tr:∀{Y:List (Int×Int)}(e:Eg),e∈E->Yr (φ e)∈Y->Rch Y (ρ e.1) (ρ e.2.1):=λe he hy=>by
  rcases ti e he with q|q
  ·rw[q]at hy;exact .of hy
  ·rw[q]at hy;exact(Rch.of hy).symm
 have key:∀e∈E,Rch (T'++(E'.filter λe=>a' e != 0).map Yr++(C.map φ).map Yr) (ρ e.1) (ρ e.2.1):=λe he=>(c3 e he).img ρ λt ht=>by
  rcases zK.mp ht with ht|ht
  ·rcases zK.mp ht with ht|ht
   ·exact(kn t ht).mono λx hx=>zI _ (zI _ hx)
   ·obtain⟨d,hd,rfl⟩:=zS.mp ht
    obtain⟨d1,d2⟩:=zp.mp hd;refine tr d d1 (zI _ (zJ _ (ze (zp.mpr ⟨mem d d1,?_⟩))));rw[qii (ab d d1)];exact d2
  ·obtain⟨d,hd,rfl⟩:=zS.mp ht
   exact tr d (c1 d hd) (zJ _ (ze (ze hd)))
 have lo':=lo (C.map φ) (λc hc=>by obtain⟨d,hd,rfl⟩:=zS.mp hc;exact mem d (c1 d hd)) λe he=>by
  obtain⟨d,hd,rfl⟩:=zS.mp (pm.mem_iff.mp he);have k:=key d hd;rcases ti d hd with q|q
  ·rw[show (φ d).1=ρ d.1 from vj Prod.fst q,show (φ d).2.1=ρ d.2.1 from vj Prod.snd q];exact k
  ·rw[show (φ d).1=ρ d.2.1 from vj Prod.fst q,show (φ d).2.1=ρ d.1 from vj Prod.snd q];exact k.symm
 have cs:((C.map φ).map YM).sum=(C.map YM).sum:=by
  rw[zc]
  congr 1
  exact yE λc hc=>co c (c1 c hc)
 rw[su];omega
theorem qge{n x y:Int}(h:x≠y):glN n (x,y)=(y-x)%n:=vJ h
theorem qj8{n x:Int}:glN n (x,x)=n:=vH rfl
noncomputable def Y3(N i t:Nat):Nat:=if i+t<N then i+t else i+t-N
noncomputable def Xu(N i k:Nat):Nat:=if i<=k then k-i else k+N-i
theorem qhh{P:List Int}(hP:P.Pairwise (· < ·)){n:Int}(hn:∀p∈P,0<=p/\p<n){i j k:Nat}(hi:i<P.length)(hj:j<P.length)(hk:k<P.length):goN n P[i] P[j] P[k]=decide (Xu P.length i k<Xu P.length i j):=by
 have get:∀{a b:Nat}(ha:a<P.length)(hb:b<P.length),a<b->P[a]<P[b]:=λha hb h=>yF.mp hP _ _ ha hb h;have cmp:∀{a b:Nat}(ha:a<P.length)(hb:b<P.length),(a<=b->P[a]<=P[b])/\(P[a]<=P[b]->a<=b):=λ{a b} ha hb=>by
  rcases wN a b with z|z|z
  ·exact⟨λ_=>xG (get ha hb z),λ_=>yP z⟩
  ·subst z;exact⟨λ_=>z7 _,λ_=>zN _⟩
  ·have:=get hb ha z
   exact⟨λ_=>∅,λ_=>∅⟩
 have mi:=hn _ (zZ hi);have mj:=hn _ (zZ hj);have mk:=hn _ (zZ hk);have c1:=cmp hi hk;have c2:=cmp hi hj;have c3:=cmp hj hk;unfold goN Xu;rw[q1a mk mi,q1a mj mi];refine decide_eq_decide.mpr ?_
 by_cases z1:i<=k
 ·rw[vH z1,vH (c1.1 z1)]
  by_cases z2:i<=j
  ·rw[vH z2,vH (c2.1 z2)]
   constructor
   ·intro h
    have:¬j<=k:=λy=>by have:=c3.1 y;omega
    omega
   ·intro h
    have:¬P[j]<=P[k]:=λy=>by have:=c3.2 y;omega
    omega
  ·rw[vJ z2,vJ λy=>z2 (c2.2 y)]
   exact⟨λ_=>∅,λ_=>∅⟩
 ·rw[vJ z1,vJ λy=>z1 (c1.2 y)]
  by_cases z2:i<=j
  ·rw[vH z2,vH (c2.1 z2)]
   exact⟨λh=>∅,λh=>∅⟩
  ·rw[vJ z2,vJ λy=>z2 (c2.2 y)]
   constructor
   ·intro h
    have:¬j<=k:=λy=>by have:=c3.1 y;omega
    omega
   ·intro h
    have:¬P[j]<=P[k]:=λy=>by have:=c3.2 y;omega
    omega
noncomputable def zAZ(N i d:Nat):List Int:=(yI d).map λt=>((Y3 N i t:Nat):Int)
theorem qgM{N i j k:Nat}(hi:i<N)(hj:j<N)(hk:k<N):(k:Int)∈zAZ N i (Xu N i j)↔Xu N i k<Xu N i j:=by
 unfold zAZ;rw[zS]
 constructor
 ·rintro⟨t,ht,e⟩
  have ht:=yM.mp ht;have e:Y3 N i t=k:=∅
  have:Xu N i k=t:=by
   have hd:Xu N i j<N:=by unfold Xu;split <;> omega
   unfold Y3 at e;unfold Xu
   split at e <;> split <;> omega
  omega
 ·intro h
  refine⟨Xu N i k,yM.mpr h,?_⟩;have:Y3 N i (Xu N i k)=k:=by
   unfold Y3 Xu
   split <;> split <;> omega
  rw[this]
theorem qiR{N i d:Nat}(hi:i<N)(hd:d<N):(zAZ N i d).Nodup:=by
 unfold zAZ;rw[List.nodup_iff_pairwise_ne,xp];refine wS (R:=λa b=>a<b) (λ{a b} ha hb h e=>?_) xj;have ha:=yM.mp ha;have hb:=yM.mp hb;have e:Y3 N i a=Y3 N i b:=∅
 unfold Y3 at e
 split at e <;> split at e <;> omega
theorem qhV{N i d:Nat}(hi:i<N)(hd:d<N):∀k∈zAZ N i d,0<=k/\k<(N:Int):=λk hk=>by
 obtain⟨t,ht,rfl⟩:=zS.mp hk;have ht:=yM.mp ht;have:Y3 N i t<N:=by unfold Y3;split <;> omega
 omega
noncomputable def lgN(n:Int)(P:List Int)(k:Nat):Int:=if k+1<P.length then P.getD (k+1) 0-P.getD k 0 else n-P.getD k 0+P.getD 0 0
theorem qbq{N i t:Nat}(hi:i<N)(ht:t<N):Y3 N i t<N:=by unfold Y3;split <;> omega
theorem qfQ{N i j:Nat}(hi:i<N)(hj:j<N):Y3 N i (Xu N i j)=j:=by unfold Y3 Xu;split <;> split <;> omega
theorem qcI{N i t:Nat}(hi:i<N)(ht:t+1<N):Y3 N i (t+1)=if Y3 N i t+1<N then Y3 N i t+1 else 0:=by
 unfold Y3;split <;> split <;> split <;> omega
theorem qfT{P:List Int}(hP:P.Pairwise (· < ·)){n:Int}(hn:∀p∈P,0<=p/\p<n){i t:Nat}(hi:i<P.length)(ht:t+1<P.length):
  (P.getD (Y3 P.length i (t+1)) 0-P.getD i 0)%n=(P.getD (Y3 P.length i t) 0-P.getD i 0)%n+lgN n P (Y3 P.length i t):=by
 have h1:=qbq (t:=t) hi ∅;have h2:=qbq hi ht;have nx:=qcI hi ht;have up:∀{a b:Nat}(ha:a<P.length)(hb:b<P.length),a<b->P[a]<P[b]:=λha hb h=>yF.mp hP _ _ ha hb h;have b0:=hn _ (zZ (∅:0<P.length));have bi:=hn _ (zZ hi);have b1:=hn _ (zZ h1);have b2:=hn _ (zZ h2);unfold lgN;rw[qw hi,qw h1,qw h2,q1a b2 bi,q1a b1 bi];have ord:∀{a b:Nat}(ha:a<P.length)(hb:b<P.length),P[a]<=P[b]↔a<=b:=λ{a b} ha hb=>by
  rcases wN a b with z|z|z
  ·have:=up ha hb z;exact⟨λ_=>∅,λ_=>∅⟩
  ·subst z;exact⟨λ_=>zN _,λ_=>z7 _⟩
  ·have:=up hb ha z;exact⟨λ_=>∅,λ_=>∅⟩
 have o1:=ord hi h1;have o2:=ord hi h2
 by_cases z:Y3 P.length i t+1<P.length
 ·rw[vH z]at nx
  rw[vH z];have e:P[Y3 P.length i (t+1)]=P.getD (Y3 P.length i t+1) 0:=by rw[qw z];congr 1
  rw[<- e];have ne:¬i=Y3 P.length i t+1:=λq=>by
   have:Y3 P.length i (t+1)=i:=by rw[nx];exact q.symm
   unfold Y3 at this;split at this <;> omega
  have c:i<=Y3 P.length i (t+1)↔i<=Y3 P.length i t:=by rw[nx];omega
  by_cases y:i<=Y3 P.length i t
  ·rw[vH (o2.mpr (c.mpr y)),vH (o1.mpr y)];omega
  ·rw[vJ (λq=>y (c.mp (o2.mp q))),vJ (λq=>y (o1.mp q))];omega
 ·rw[vJ z]at nx
  rw[vJ z];have e:P[Y3 P.length i (t+1)]=P.getD 0 0:=by rw[qw (∅:0<P.length)];congr 1
  have y1:i<=Y3 P.length i t:=∅
  have y2:¬i<=Y3 P.length i (t+1):=λq=>by
   have z0:i=0:=∅
   subst z0;unfold Y3 at nx;split at nx <;> omega
  rw[vJ (λq=>y2 (o2.mp q)),vH (o1.mpr y1),<- e];omega
theorem qaS{P:List Int}(hP:P.Pairwise (· < ·)){n:Int}(hn:∀p∈P,0<=p/\p<n){i:Nat}(hi:i<P.length):∀{d:Nat},d<P.length ->
  (P.getD (Y3 P.length i d) 0-P.getD i 0)%n=((yI d).map λt=>lgN n P (Y3 P.length i t)).sum
 | 0,_=>by
  have:Y3 P.length i 0=i:=by unfold Y3;rw[vH ∅];rfl
  rw[this,wj];simp
 | d+1,hd=>by
  rw[qfT hP hn hi hd,qaS hP hn hi ∅,List.range_succ,zX,xB];simp
theorem qdS{l m:List Int}(p:l.Perm m):l.sum=m.sum:=by
 induction p with
 | nil=>rfl
 | cons x _ ih=>rw[zj,zj,ih]
 | swap x y l=>rw[zj,zj,zj,zj];omega
 | trans _ _ a b=>exact a.trans b
theorem qfN{f:Int->Int}:∀{l:List Int}{m:List Int},l.Nodup->m.Nodup->(∀x∈m,x∈l)->(m.map f).sum=(l.map λx=>if x∈m then f x else 0).sum:=λ{l m} nl nm h=>by
 have p:m.Perm (l.filter λx=>decide (x∈m)):=by
  refine(y9 nm (nl.filter _)).mpr λx=>?_;rw[zp];exact⟨λq=>⟨h x q,by simpa using q⟩,λq=>by simpa using q.2⟩
 have s:∀(l:List Int),((l.filter λx=>decide (x∈m)).map f).sum=(l.map λx=>if x∈m then f x else 0).sum:=λl=>by
  induction l with
  | nil=>rfl
  | cons a l ih=>
   rw[yD,zR,zj,<- ih]
   by_cases z:a∈m
   ·rw[vH ⇑z,vH z,zR,zj]
   ·rw[vJ ⇑z,vJ z,xn]
 rw[<- s l];exact qdS (p.map f)
theorem qbt{P:List Int}(hP:P.Pairwise (· < ·)){n:Int}(hn:∀p∈P,0<=p/\p<n){s g:Int}(hs:s∈P)(hg:g∈P):
  (g-s)%n=((yI P.length).map λk=>if goN n s g (P.getD k 0)=true then lgN n P k else 0).sum:=by
 obtain⟨i,hi,rfl⟩:=zi.mp hs;obtain⟨j,hj,rfl⟩:=zi.mp hg;have hd:Xu P.length i j<P.length:=by unfold Xu;split <;> omega
 have a:=qaS hP hn hi hd;rw[qfQ hi hj,qw hi,qw hj]at a;rw[a];have b:=qfN (f:=λx=>lgN n P x.toNat) (l:=(yI P.length).map λk:Nat=>(k:Int)) (m:=zAZ P.length i (Xu P.length i j)) (xp.mpr (List.nodup_range.imp λh q=>h ∅)) (qiR hi hd) (λx hx=>by
  have:=qhV hi hd x hx;exact zS.mpr ⟨x.toNat,yM.mpr ∅,∅⟩)
 rw[zc]at b;unfold zAZ at b;rw[zc]at b;refine(show _=_ from b).trans ?_
 congr 1
 refine yE λk hk=>?_;have hk':=yM.mp hk;have m:=qgM hi hj hk';unfold zAZ at m;rw[qw hk',qhh hP hn hi hj hk'];show (if (k:Int)∈_ then lgN n P k else 0)=_
 by_cases z:Xu P.length i k<Xu P.length i j
 ·rw[vH (m.mpr z),vH ⇑z]
 ·rw[vJ λq=>z (m.mp q),vJ ⇑z]
theorem qjj{P:List Int}(hP:P.Pairwise (· < ·)){n:Int}(hn:∀p∈P,0<=p/\p<n){k:Nat}(hk:k<P.length):
  glN n (P.getD k 0,P.getD (if k+1<P.length then k+1 else 0) 0)=lgN n P k:=by
 have up:∀{a b:Nat}(ha:a<P.length)(hb:b<P.length),a<b->P[a]<P[b]:=λha hb h=>yF.mp hP _ _ ha hb h;have b0:=hn _ (zZ (∅:0<P.length));have bk:=hn _ (zZ hk);unfold glN lgN
 by_cases z:k+1<P.length
 ·have u:=up hk z ∅
  have b1:=hn _ (zZ z);rw[vH z,vH z,qw hk,qw z,vJ (show ¬P[k]=P[k+1] by omega),q1a b1 bk,vH ∅]
 ·rw[vJ z,vJ z,qw hk,qw (∅:0<P.length)]
  by_cases y:k=0
  ·subst y
   show (if P[0]=P[0]then n else _)=_;rw[vH rfl];omega
  ·have u:=up (∅:0<P.length) hk ∅
   show (if P[k]=P[0]then n else (P[0]-P[k])%n)=_;rw[vJ ∅,q1a b0 bk,vJ ∅];omega
theorem qiC{P:List Int}(hP:P.Pairwise (· < ·)){n:Int}(hn:∀p∈P,0<=p/\p<n):egs n P=(yI P.length).map λk=>(P.getD k 0,P.getD (nxN P.length k) 0,lgN n P k):=by
 unfold egs;rw[q8F,zc];refine yE λk hk=>?_;have:=qjj hP hn (yM.mp hk);show ((P.getD k 0,P.getD (nxN P.length k) 0,glN n (P.getD k 0,P.getD (nxN P.length k) 0)):Eg)=_;unfold nxN;rw[this]
theorem q9I{α β γ:Type}(f:α->β)(g:α->γ):∀l:List α,(l.map f).zip (l.map g)=l.map λa=>(f a,g a)
 | []=>rfl
 | a::l=>by rw[zR,zR,List.zip_cons_cons,q9I f g l];rfl
theorem q9P{α:Type}{f g:α->Int}:∀{l:List α},(∀x∈l,f x<=g x)->(l.map f).sum<=(l.map g).sum
 | [],_=>z7 _
 | x::l,h=>by
  rw[zR,zR,zj,zj];have:=h x zD;have:=q9P (l:=l) λy hy=>h y (zG _ hy);omega
noncomputable def St(h l:Int)(bs:List (Int×Int×Int)):List Int:=YY (plc h l (bs.map two))
def WR(n h l:Int)(bs:List (Int×Int×Int))(c w:Int):Prop:=Wv (bs.map (stN n)).sum (bs.map two++[(h,l)]) (egs n (St h l bs)) (λe=>YW n h l bs e.1+c) w
structure RgO (n h l:Int) (bs:List (Int×Int×Int)):Prop where
 n1:1<=n
 n9:n<=10^39
 hh:0<=h/\h<n
 hl:0<=l/\l<n
 lb:bs.length<=20
 hb:∀b∈bs,(0<=b.1/\b.1<n)/\(0<=b.2.1/\b.2.1<n)/\(b.2.2=1\/b.2.2=-1)
theorem qW{x h l:Int}{bs:List (Int×Int×Int)}:x∈St h l bs↔x=h\/x=l\/∃b∈bs,x=b.1\/x=b.2.1:=by
 unfold St;rw[q0B];unfold plc;rw[zF,zF];refine or_congr_right (or_congr_right ⟨qgN,?_⟩);rintro⟨b,hb,rfl|rfl⟩
 ·exact(qb0 hb).1
 ·exact(qb0 hb).2
section
variable{n h l:Int}{bs:List (Int×Int×Int)}(O:RgO n h l bs)
include O
theorem RgO.up:(St h l bs).Pairwise (· < ·):=q05
theorem RgO.inr:InR n (St h l bs):=λp hp=>by
 rcases qW.mp hp with rfl|rfl|⟨b,hb,rfl|rfl⟩
 ·exact O.hh
 ·exact O.hl
 ·exact(O.hb b hb).1
 ·exact(O.hb b hb).2.1
theorem RgO.len:(St h l bs).length<64:=by
 have a:(YY (plc h l (bs.map two))).length<=(plc h l (bs.map two)).length:=q0C _;have b:(plc h l (bs.map two)).length=2*bs.length+2:=by show (flat (bs.map two)).length+1+1=_;rw[q2Q,zA]
 have:=O.lb;show (YY (plc h l (bs.map two))).length<64;omega
theorem RgO.bin:∀b∈bs,b.1∈St h l bs/\b.2.1∈St h l bs:=λb hb=>⟨qW.mpr (.inr (.inr ⟨b,hb,.inl rfl⟩)),qW.mpr (.inr (.inr ⟨b,hb,.inr rfl⟩))⟩
end
theorem zipE{P:List Int}{n:Int}(F:Int->Int):(egs n P).zip (P.map F)=(egs n P).map λe=>(e,F e.1):=by
 have e:P.map F=(egs n P).map λe=>F e.1:=by
  conv=>lhs;rw[<- q0K n P]
  rw[zc];rfl
 have z:=q9I (λe:Eg=>e) (λe=>F e.1) (egs n P);rw[Zi]at z;rw[e,z]
theorem qj4{P:List Int}{n:Int}(F:Int->Int):lkT (egs n P) (P.map F)=((egs n P).filter λe=>F e.1 != 0).map Yr:=by
 unfold lkT;rw[zipE,yy,zc];rfl
theorem qjb{P:List Int}{n:Int}(F:Int->Int)(K:List Eg):ewN (egs n P) (P.map F) K=((egs n P).map λe=>YM e*Yn (F e.1)).sum+2*(K.map YM).sum:=by
 unfold ewN;rw[zipE,zc];rfl
theorem ok_Q{n h l:Int}{bs:List (Int×Int×Int)}{Q:List Int}(hQ:Q.Pairwise (· < ·))(hl:Q.length<64)(lb:bs.length<=20)(mh:h∈Q)(ml:l∈Q)(mb:∀b∈bs,b.1∈Q/\b.2.1∈Q)(c:Int):Ok Q (bs.map two++[(h,l)]++((egs n Q).filter λe=>YW n h l bs e.1+c != 0).map Yr):=by
 have el:(egs n Q).length=Q.length:=by have:=vj yr (q0K n Q);rwa [zA]at this
 refine⟨hQ.imp λq=>∅,λe m=>?_,hl,?_⟩
 ·rcases zK.mp m with m|m
  ·rcases zK.mp m with m|m
   ·obtain⟨b,hb',rfl⟩:=zS.mp m
    exact mb b hb'
   ·rw[zM.mp m];exact⟨mh,ml⟩
  ·obtain⟨q,hq,rfl⟩:=zS.mp m
   exact q6A q (zp.mp hq).1
 ·have a:=yG (λe:Eg=>YW n h l bs e.1+c != 0) (egs n Q)
  rw[zE,zE,zA,zA];show bs.length+1+_<=1000;omega
section
variable{n h l:Int}{bs:List (Int×Int×Int)}(O:RgO n h l bs)
include O
theorem RgO.ok(c:Int):Ok (St h l bs) (bs.map two++[(h,l)]++((egs n (St h l bs)).filter λe=>YW n h l bs e.1+c != 0).map Yr):=ok_Q O.up O.len O.lb (qW.mpr (.inl rfl)) (qW.mpr (.inr (.inl rfl))) O.bin c
theorem RgO.wv(c:Int){f:Int->Int}(hf:Tells (St h l bs) (bs.map two++[(h,l)]++((egs n (St h l bs)).filter λe=>YW n h l bs e.1+c != 0).map Yr) f):
  WR n h l bs c ((bs.map (stN n)).sum+(((egs n (St h l bs)).map λe=>YM e*Yn (YW n h l bs e.1+c)).sum+2*((Yk f (YV YM (egs n (St h l bs)))).2.map YM).sum)) :=
 ⟨_,qbK (q6o O.up n) hf (O.ok c).inn q6A (q9C (by have:=O.n1;omega)),(ZP _ _ _).symm⟩
theorem RgO.ex(c:Int):∃w,WR n h l bs c w:=by
 obtain⟨_,_,f,_,_,_,_,_,hf⟩:=q9N (O.ok c);exact⟨_,O.wv c hf⟩
theorem RgO.weight(c:Int)(hc:-200<=c/\c<=200):∃w,qC [.int h,.int l,.lst (bs.map tri),.lst ((egs n (St h l bs)).map egD),.lst ((St h l bs).map λx=>D.int (YW n h l bs x+c))]=↥(.int w)/\WR n h l bs c ((bs.map (stN n)).sum+w):=by
 have el:(egs n (St h l bs)).length=(St h l bs).length:=by have:=vj yr (q0K n (St h l bs));rwa [zA]at this
 have k:=O.ok c;have lk:=qj4 (P:=St h l bs) (n:=n) λx=>YW n h l bs x+c;rw[<- lk]at k;rw[<- q0K n (St h l bs)]at k;rw[q0K n (St h l bs)]at k;obtain⟨f,f1,f2⟩:=qcs (es:=egs n (St h l bs)) (ls:=(St h l bs).map λx=>YW n h l bs x+c) O.lb (by rw[el];exact O.len) (λx hx=>by
  obtain⟨y,_,rfl⟩:=zS.mp hx;have:=q6S (n:=n) (h:=h) (l:=l) (x:=y) O.lb;omega) (by rw[q0K];exact k) (λe m=>by rw[q0K];exact q6A e m)
 rw[q0K,lk]at f1;rw[zc,qjb]at f2;exact⟨_,f2,O.wv c f1⟩
end
theorem qdl{Z w w':Int}{T:List (Int×Int)}{E:List Eg}{a a':Eg->Int}(v:Wv Z T E a w)(v':Wv Z T E a' w')(nn:∀e∈E,0<=YM e)(h0:∀e∈E,a e≠0)(hl:∀e∈E,Yn (a e)<=Yn (a' e)):w<=w':=by
 obtain⟨m,⟨_,lo⟩,rfl⟩:=v;obtain⟨m',⟨⟨C,c1,_,_,c4⟩,_⟩,rfl⟩:=v';have ml:=lo [] (by simp) λe he=>.of (zI _ (zJ _ (zS.mpr ⟨e,zp.mpr ⟨he,by simpa using h0 e he⟩,rfl⟩)));rw[yf,List.sum_nil]at ml;have m0:=q3Y λc hc=>nn c (c1 c hc);have su:=q9P (l:=E) (f:=λe=>YM e*Yn (a e)) (g:=λe=>YM e*Yn (a' e)) λe he=>xM (hl e he) (nn e he);omega
theorem qha{Z w w':Int}{T:List (Int×Int)}{E:List Eg}{a:Eg->Int}(v:Wv Z T E a w)(v':Wv Z T E a w'):w<=w':=qgs v' v id id (by rw[Zr]) (λ_ _=>rfl) (λ_ _=>rfl) (λ_ _=>.inl rfl) λt ht=>.of ht
theorem qce{n h l:Int}{bs:List (Int×Int×Int)}(O:RgO n h l bs):∃R,qU [.int n,.int h,.int l,.lst (bs.map tri)]=↥(.int R)/\(∃c,WR n h l bs c R)/\∀c w,WR n h l bs c w->R<=w:=by
 have key:∀c:Int,∃w,-200<=c->c<=200->qC [.int h,.int l,.lst (bs.map tri),.lst ((egs n (St h l bs)).map egD),.lst ((St h l bs).map λx=>D.int (YW n h l bs x+c))]=↥(.int w)/\WR n h l bs c ((bs.map (stN n)).sum+w):=λc=>by
  by_cases hc:-200<=c/\c<=200
  ·obtain⟨w,h1,h2⟩:=O.weight c hc
   exact⟨w,λ_ _=>⟨h1,h2⟩⟩
  ·exact⟨0,λa b=>vN ⟨a,b⟩ hc⟩
 obtain⟨W,hW⟩:∃W:Int->Int,∀c:Int,-200<=c->c<=200->qC [.int h,.int l,.lst (bs.map tri),.lst ((egs n (St h l bs)).map egD),.lst ((St h l bs).map λx=>D.int (YW n h l bs x+c))]=↥(.int (W c))/\WR n h l bs c ((bs.map (stN n)).sum+W c):=⟨λc=>(key c).choose,λc=>(key c).choose_spec⟩;have TU:=qeS O.n1 O.n9 O.hh O.hl O.lb O.hb (P:=St h l bs) rfl (w:=W) λc h1 h2=>(hW c h1 h2).1;have hm:h∈St h l bs:=qW.mpr (.inl rfl);generalize hB:(St h l bs).map (YW n h l bs)=B at TU;have B0:B≠[]:=λe=>by rw[<- hB]at e;rw[xf.mp e]at hm;simp at hm
 have Bb:∀b∈B,-21<=b/\b<=21:=λb hb'=>by
  rw[<- hB]at hb';obtain⟨x,_,rfl⟩:=zS.mp hb';exact q6S O.lb
 obtain⟨r1,r2,r3,r4⟩:=rngT B0 Bb;have k0:yI (nT B)≠[]:=λe=>by have:=vj yr e;rw[yH]at this;exact vN this (by show ¬nT B=0;omega)
 have RL:=qec (f:=λk:Nat=>loT B+(k:Int)) k0 (by rw[yH];omega) TU;obtain⟨q1,q2⟩:=q2y (ns:=(yI (nT B)).map λk:Nat=>(bs.map (stN n)).sum+W (loT B+(k:Int))) λe=>k0 (xf.mp e);refine⟨_,RL,?_,λc w v=>?_⟩
 ·obtain⟨k,hk,e⟩:=zS.mp q1
  have hk:=yM.mp hk;rw[<- e];exact⟨_,(hW _ ∅ ∅).2⟩
 ·have mx:=(q2v B0)
  have mn:=(q2y B0);have ends:loT B+(nT B:Int)=2-Xl B:=by
   have:=mx.2 _ mn.1;unfold nT loT;omega
  have inB:∀e∈egs n (St h l bs),YW n h l bs e.1∈B:=λe he=>by rw[<- hB];exact ze (q6A e he).1
  have nn:=q9C (P:=St h l bs) (n:=n) (by have:=O.n1;omega);have step:∀c0,loT B<=c0->c0<2-Xl B->(bs.map (stN n)).sum+W c0<=w->Xl ((yI (nT B)).map λk:Nat=>(bs.map (stN n)).sum+W (loT B+(k:Int)))<=w:=λc0 a b k=>by
   refine xX (q2 _ (zS.mpr ⟨(c0-loT B).toNat,yM.mpr ∅,rfl⟩)) ?_;rw[show loT B+((c0-loT B).toNat:Int)=c0 by omega];exact k
  by_cases z1:c<loT B
  ·refine step (loT B) (z7 _) ∅ (qdl (hW _ ∅ ∅).2 v nn (λe he=>?_) λe he=>?_)
   ·have:=mx.2 _ (inB e he)
    show YW n h l bs e.1+loT B≠0;unfold loT;omega
   ·have:=mx.2 _ (inB e he)
    show Yn (YW n h l bs e.1+loT B)<=Yn (YW n h l bs e.1+c);unfold loT at z1 ⊢;unfold Yn;rw[vH ∅,vH ∅];omega
  ·by_cases z2:c<2-Xl B
   ·exact step c ∅ z2 (qha (hW _ ∅ ∅).2 v)
   ·refine step (1-Xl B) ∅ ∅ (qdl (hW _ ∅ ∅).2 v nn (λe he=>?_) λe he=>?_)
    ·have:=mn.2 _ (inB e he)
     show YW n h l bs e.1+(1-Xl B)≠0;omega
    ·have:=mn.2 _ (inB e he)
     show Yn (YW n h l bs e.1+(1-Xl B))<=Yn (YW n h l bs e.1+c);unfold Yn;rw[vJ ∅,vJ ∅];omega
theorem qeo{n h l n' h' l' R R':Int}{bs bs':List (Int×Int×Int)}(γ:Int->Int)(ex:∃c,WR n h l bs c R)(lo:∀c w,WR n' h' l' bs' c w->R'<=w)(O':RgO n' h' l' bs')(tr:∀c w w',WR n h l bs c w->WR n' h' l' bs' (γ c) w'->w'<=w):R'<=R:=by
 obtain⟨c,v⟩:=ex;obtain⟨w',v'⟩:=O'.ex (γ c);exact xX (lo _ _ v') (tr c _ _ v v')
noncomputable def bxR(ρ:Int->Int)(σ:Int)(b:Int×Int×Int):Int×Int×Int:=(ρ b.1,ρ b.2.1,σ*b.2.2)
theorem q2w{ρ:Int->Int}{σ h l x:Int}{bs:List (Int×Int×Int)}:x∈St (ρ h) (ρ l) (bs.map (bxR ρ σ))↔∃y∈St h l bs,x=ρ y:=by
 rw[qW]
 constructor
 ·rintro(rfl|rfl|⟨b,hb,q⟩)
  ·exact⟨h,qW.mpr (.inl rfl),rfl⟩
  ·exact⟨l,qW.mpr (.inr (.inl rfl)),rfl⟩
  ·obtain⟨d,hd,rfl⟩:=zS.mp hb
   rcases q with rfl|rfl
   ·exact⟨d.1,qW.mpr (.inr (.inr ⟨d,hd,.inl rfl⟩)),rfl⟩
   ·exact⟨d.2.1,qW.mpr (.inr (.inr ⟨d,hd,.inr rfl⟩)),rfl⟩
 ·rintro⟨y,hy,rfl⟩
  rcases qW.mp hy with rfl|rfl|⟨d,hd,rfl|rfl⟩
  ·exact .inl rfl
  ·exact .inr (.inl rfl)
  ·exact .inr (.inr ⟨_,ze hd,.inl rfl⟩)
  ·exact .inr (.inr ⟨_,ze hd,.inr rfl⟩)
theorem qeY{n a b:Int}(ha:0<=a/\a<n)(hb:0<=b/\b<n)(h:(a-b)%n=0):a=b:=by
 have:=dd ha hb;omega
theorem qck{n a:Int}:(a-a)%n=0:=by rw[wj];exact Int.zero_emod _
section
variable{n h l:Int}{bs:List (Int×Int×Int)}(O:RgO n h l bs){ρ:Int->Int}(ri:∀a,0<=ρ a/\ρ a<n)
include O ri
theorem qgq{σ:Int}(hσ:σ=1\/σ=-1):RgO n (ρ h) (ρ l) (bs.map (bxR ρ σ)):=⟨O.n1,O.n9,ri h,ri l,by rw[zA];exact O.lb,λb hb=>by
 obtain⟨d,hd,rfl⟩:=zS.mp hb;have:=(O.hb d hd).2.2;refine⟨ri _,ri _,?_⟩;show σ*d.2.2=1\/σ*d.2.2=-1;rcases hσ with s|s <;> rcases this with q|q <;> rw[s,q] <;> decide⟩
theorem qe8(dist:∀a b,(ρ a-ρ b)%n=(a-b)%n){c w w':Int}(v:WR n h l bs c w)(v':WR n (ρ h) (ρ l) (bs.map (bxR ρ 1)) c w'):w'<=w:=by
 have O':=qgq O ri (σ:=1) (.inl rfl);have inj:∀{a b},a∈St h l bs->b∈St h l bs->ρ a=ρ b->a=b:=λ{a b} ha hb e=>qeY (O.inr a ha) (O.inr b hb) (by rw[<- dist,e];exact qck);have go:∀s g x,goN n (ρ s) (ρ g) (ρ x)=goN n s g x:=λs g x=>by unfold goN;rw[dist,dist]
 have zz:((bs.map (bxR ρ 1)).map (stN n)).sum=(bs.map (stN n)).sum:=by
  rw[zc]
  congr 1
  refine yE λb hb=>?_;show (ρ b.2.1-ρ b.1)*(1*b.2.2)%n=(b.2.1-b.1)*b.2.2%n;rcases (O.hb b hb).2.2 with q|q
  ·rw[q,yj,xQ,xQ,dist]
  ·rw[q,yj,show (ρ b.2.1-ρ b.1)*-1=ρ b.1-ρ b.2.1 by omega,show (b.2.1-b.1)*-1=b.1-b.2.1 by omega,dist]
 have lk:∀x,YW n (ρ h) (ρ l) (bs.map (bxR ρ 1)) (ρ x)=YW n h l bs x:=λx=>by
  unfold YW rtR lfR;rw[yy,yy,zA,zA,go];have e1:(λb:Int×Int×Int=>b.2.2==1&&goN n b.1 b.2.1 (ρ x)) ∘ bxR ρ 1=λb=>b.2.2==1&&goN n b.1 b.2.1 x:=by
   funext b
   show (1*b.2.2==1&&goN n (ρ b.1) (ρ b.2.1) (ρ x))=_;rw[yj,go]
  have e2:(λb:Int×Int×Int=>b.2.2 == -1&&goN n b.2.1 b.1 (ρ x)) ∘ bxR ρ 1=λb=>b.2.2 == -1&&goN n b.2.1 b.1 x:=by
   funext b
   show (1*b.2.2 == -1&&goN n (ρ b.2.1) (ρ b.1) (ρ x))=_;rw[yj,go]
  rw[e1,e2]
 have sc:∀{x y},x∈St h l bs->y∈St h l bs->(Sc n (St (ρ h) (ρ l) (bs.map (bxR ρ 1))) (ρ x) (ρ y)↔Sc n (St h l bs) x y):=λ{x y} hx hy=>by
  constructor
  ·rintro⟨_,_,k⟩
   refine⟨hx,hy,λz hz ne=>?_⟩;have:=k (ρ z) (q2w.mpr ⟨z,hz,rfl⟩) λe=>ne (inj hz hx e);rw[dist,dist]at this;exact⟨λe=>this.1 (by rw[e]),this.2⟩
  ·rintro⟨_,_,k⟩
   refine⟨q2w.mpr ⟨x,hx,rfl⟩,q2w.mpr ⟨y,hy,rfl⟩,λz hz ne=>?_⟩;obtain⟨u,hu,rfl⟩:=q2w.mp hz;have:=k u hu λe=>ne (by rw[e]);rw[dist,dist];exact⟨λe=>this.1 (inj hy hx e),this.2⟩
 have gl:∀{x y},x∈St h l bs->y∈St h l bs->glN n (ρ x,ρ y)=glN n (x,y):=λ{x y} hx hy=>by
  unfold glN
  by_cases z:x=y
  ·show (if ρ x=ρ y then n else _)=if x=y then n else _
   rw[vH z,vH (by rw[z])]
  ·show (if ρ x=ρ y then n else (ρ y-ρ x)%n)=if x=y then n else (y-x)%n
   rw[vJ z,vJ λe=>z (inj hx hy e),dist]
 have pm:(egs n (St (ρ h) (ρ l) (bs.map (bxR ρ 1)))).Perm ((egs n (St h l bs)).map λe=>((ρ e.1,ρ e.2.1,e.2.2):Eg)):=by
  refine(y9 (q6o O'.up n) ?_).mpr λe=>?_
  ·refine xp.mpr (wS (λ{a b} ha hb ne e=>ne ?_) (q6o O.up n))
   obtain⟨a1,a2⟩:=(q4U O.up O.inr).mp ha;obtain⟨b1,b2⟩:=(q4U O.up O.inr).mp hb;have e1:=inj a1.1 b1.1 (vj (λq:Eg=>q.1) e);have e2:=inj a1.2.1 b1.2.1 (vj (λq:Eg=>q.2.1) e);have e3:=vj (λq:Eg=>q.2.2) e;exact Prod.ext e1 (Prod.ext e2 e3)
  ·rw[zS,q4U O'.up O'.inr]
   constructor
   ·rintro⟨s,k⟩
    obtain⟨x,hx,ex⟩:=q2w.mp s.1;obtain⟨y,hy,ey⟩:=q2w.mp s.2.1;rw[ex,ey]at s k;refine⟨(x,y,glN n (x,y)),(q4U O.up O.inr).mpr ⟨(sc hx hy).mp s,rfl⟩,?_⟩;rw[gl hx hy]at k;exact Prod.ext ex.symm (Prod.ext ey.symm k.symm)
   ·rintro⟨d,hd,rfl⟩
    obtain⟨s,k⟩:=(q4U O.up O.inr).mp hd;refine⟨(sc s.1 s.2.1).mpr s,?_⟩;show d.2.2=glN n (ρ d.1,ρ d.2.1);rw[gl s.1 s.2.1];exact k
 unfold WR at v';rw[zz]at v';refine qgs v v' (λe=>((ρ e.1,ρ e.2.1,e.2.2):Eg)) ρ pm (λ_ _=>rfl) (λe _=>?_) (λ_ _=>.inl rfl) λt ht=>?_
 ·show Yn (YW n (ρ h) (ρ l) (bs.map (bxR ρ 1)) (ρ e.1)+c)=Yn (YW n h l bs e.1+c)
  rw[lk]
 ·rcases zK.mp ht with k|k
  ·obtain⟨b,hb,rfl⟩:=zS.mp k
   exact .of (zI _ (zS.mpr ⟨_,ze hb,rfl⟩))
  ·rw[zM.mp k]
   exact .of (zJ _ (zM.mpr rfl))
end
section
variable{n h l:Int}{bs:List (Int×Int×Int)}(O:RgO n h l bs){ρ:Int->Int}(ri:∀a,0<=ρ a/\ρ a<n)
include O ri
end
noncomputable def RLm(n h l:Int)(bs:List (Int×Int×Int)):Option O:=qU [.int n,.int h,.int l,.lst (bs.map tri)]
theorem q9d{n on:Int}(a b:Int):((1*a+on)%n-(1*b+on)%n)%n=(a-b)%n:=by
 rw[<- Int.sub_emod,yj,yj];congr 1;omega
theorem in_n{n:Int}(n0:0<n)(a:Int):0<=a%n/\a%n<n:=⟨wx _ ∅,Int.emod_lt_of_pos _ n0⟩
theorem qew{n σ σ' on on':Int}{h l:Int}{bs:List (Int×Int×Int)}(O:RgO n h l bs)(s:∀a,0<=a/\a<n->(σ'*((σ*a+on)%n)+on')%n=a)(ss:∀w,w=1\/w=-1->σ'*(σ*w)=w):(bs.map (bxR (λa=>(σ*a+on)%n) σ)).map (bxR (λa=>(σ'*a+on')%n) σ')=bs:=by
 rw[zc];have:∀b∈bs,(bxR (λa=>(σ'*a+on')%n) σ' ∘ bxR (λa=>(σ*a+on)%n) σ) b=b:=λb hb=>by
  obtain⟨k1,k2,k3⟩:=O.hb b hb;exact Prod.ext (s _ k1) (Prod.ext (s _ k2) (ss _ k3))
 rw[yE this,Zi]
theorem qj1{n h l R on:Int}{bs:List (Int×Int×Int)}(O:RgO n h l bs)(e:RLm n h l bs=↥(.int R)):RLm n ((1*h+on)%n) ((1*l+on)%n) (bs.map (bxR (λa=>(1*a+on)%n) 1))=↥(.int R):=by
 have n0:0<n:=by have:=O.n1;omega
 have O':=qgq O (ρ:=λa=>(1*a+on)%n) (λa=>in_n n0 _) (σ:=1) (.inl rfl);obtain⟨R1,a1,a2,a3⟩:=qce O;obtain⟨R2,b1,b2,b3⟩:=qce O';have ee:R1=R:=by have:=a1.symm.trans e;cases this;rfl
 subst ee;have x:=qeo id a2 b3 O' λc w w'=>qe8 O (ρ:=λa=>(1*a+on)%n) (λa=>in_n n0 _) q9d;have s:∀a,0<=a/\a<n->(1*((1*a+on)%n)+-on)%n=a:=λa ha=>by
  rw[yj,Int.emod_add_emod,yj,show a+on+-on=a by omega];exact wO ha.1 ha.2
 have id2:=qew (σ:=1) (σ':=1) (on:=on) (on':=-on) O s (λw _=>∅);have y:=qeo id b2 (n':=n) (h':=(1*((1*h+on)%n)+-on)%n) (l':=(1*((1*l+on)%n)+-on)%n) (bs':=(bs.map (bxR (λa=>(1*a+on)%n) 1)).map (bxR (λa=>(1*a+-on)%n) 1)) (by rw[id2,s h O.hh,s l O.hl];exact a3) (by rw[id2,s h O.hh,s l O.hl];exact O) λc w w'=>qe8 O' (ρ:=λa=>(1*a+-on)%n) (λa=>in_n n0 _) q9d;have:R2=R1:=∅
 subst this;exact b1
theorem q8T{P:List Int}(hP:P.Pairwise (· < ·)){n:Int}(hn:∀p∈P,0<=p/\p<n):∀{bs:List (Int×Int×Int)},(∀e∈bs,e.1∈P/\e.2.1∈P/\(e.2.2=1\/e.2.2=-1)) ->
  (bs.map (stN n)).sum=((yI P.length).map λk=>lgN n P k*(((rtR n bs (P.getD k 0)).length:Int)+((lfR n bs (P.getD k 0)).length:Int))).sum
 | [],_=>by
  have:∀l:List Nat,(l.map λk=>lgN n P k*(((rtR n [] (P.getD k 0)).length:Int)+((lfR n [] (P.getD k 0)).length:Int))).sum=0:=λl=>by
   induction l with
   | nil=>rfl
   | cons a l ih=>
    rw[zR,zj,ih];show lgN n P a*(0+0)+0=0;omega
  rw[this];rfl
 | b::bs,h=>by
  obtain⟨h1,h2,h3⟩:=h b zD;have ih:=q8T hP hn (bs:=bs) λe he=>h e (zG _ he);rw[zR,zj,ih];rcases h3 with w|w
  ·have e:stN n b=(b.2.1-b.1)%n:=by unfold stN;rw[w,xQ]
   rw[e,qbt hP hn h1 h2,<- q5t]
   congr 1
   refine yE λk _=>?_;have l0:lfR n (b::bs) (P.getD k 0)=lfR n bs (P.getD k 0):=by
    unfold lfR;rw[yD,vJ (by rw[w];simp)]
   have r0:rtR n (b::bs) (P.getD k 0)=if goN n b.1 b.2.1 (P.getD k 0)=true then b::rtR n bs (P.getD k 0)else rtR n bs (P.getD k 0):=by
    unfold rtR;rw[yD,w];rfl
   rw[l0,r0]
   by_cases z:goN n b.1 b.2.1 (P.getD k 0)=true
   ·rw[vH z,vH z,zL,Zy,xV,xV,xV]
    have:lgN n P k*((1:Nat):Int)=lgN n P k:=xQ _;rw[this];omega
   ·rw[vJ z,vJ z,xn]
  ·have e:stN n b=(b.1-b.2.1)%n:=by unfold stN;rw[w];congr 1;omega
   rw[e,qbt hP hn h2 h1,<- q5t]
   congr 1
   refine yE λk _=>?_;have r0:rtR n (b::bs) (P.getD k 0)=rtR n bs (P.getD k 0):=by
    unfold rtR;rw[yD,vJ (by rw[w];simp)]
   have l0:lfR n (b::bs) (P.getD k 0)=if goN n b.2.1 b.1 (P.getD k 0)=true then b::lfR n bs (P.getD k 0)else lfR n bs (P.getD k 0):=by
    unfold lfR;rw[yD,w];rfl
   rw[l0,r0]
   by_cases z:goN n b.2.1 b.1 (P.getD k 0)=true
   ·rw[vH z,vH z,zL,Zy,xV,xV,xV]
    have:lgN n P k*((1:Nat):Int)=lgN n P k:=xQ _;rw[this];omega
   ·rw[vJ z,vJ z,xn]
theorem q90(c:Int):∀(r:List Int)(a:Int),(a::r).zip (r++[c])=(a::r).zip r++[((a::r).getLast (by simp),c)]
 | [],a=>rfl
 | b::r,a=>by
  show (a,b)::(b::r).zip (r++[c])=(a,b)::(b::r).zip r++_;rw[q90 c r b];rfl
theorem qeP(k:Int)(r:List Int):rnd (k::r)=YO (k::r)++[((k::r).getLast (by simp),k)]:=by
 show (k::r).zip (r++[k])=_;rw[q90];rfl
theorem q5I:∀(r:List Int)(k:Int),(k::r).Pairwise (· < ·)->∀p∈k::r,k<=p/\p<=(k::r).getLast (by simp)
 | [],k,_,p,hp=>by rw[zM.mp hp];exact⟨z7 _,z7 _⟩
 | b::r,k,h,p,hp=>by
  obtain⟨h1,h2⟩:=zV.mp h;have ih:=q5I r b h2;have lb:=(ih b zD).2;have kb:=h1 b zD;rw[wk];rcases zF.mp hp with rfl|hp
  ·exact⟨z7 _,∅⟩
  ·have:=ih p hp;omega
noncomputable def clE(n k z:Int):Eg:=(z,k,n-(z-k))
theorem qfD{n k:Int}{r:List Int}(hP:(k::r).Pairwise (· < ·))(hn:InR n (k::r)):egs n (k::r)=(YO (k::r)).map egO++[clE n k ((k::r).getLast (by simp))]:=by
 unfold egs;rw[qeP,zX,xN]
 congr 1
 ·refine yE λg hg=>?_
  obtain⟨i,hi,rfl⟩:=q8y hg;have lt:=yF.mp hP i (i+1) ∅ hi ∅;have a:=hn _ (zZ (show i<(k::r).length by omega));have b:=hn _ (zZ hi);show ((_,_,glN n _):Eg)=(_,_,_);rw[qge ∅];have d:=dd b a;have e:((k::r)[i+1]-(k::r)[i])%n=(k::r)[i+1]-(k::r)[i]:=∅
  rw[e]
 ·have zm:(k::r).getLast (by simp)∈k::r:=wX _
  have km:k∈k::r:=zD;have mx:=q5I r k hP _ zm;generalize (k::r).getLast (by simp)=z at zm mx;have a:=hn z zm;have b:=hn k km;show [((z,k,glN n (z,k)):Eg)]=[(z,k,n-(z-k))]
  by_cases q:z=k
  ·subst q;rw[qj8,wj,Zl]
  ·rw[qge q]
   have d:=dd b a;have e:(k-z)%n=n-(z-k):=∅
   rw[e]
theorem q8I:∀(r:List Int)(k:Int),((YO (k::r)).map λq=>q.2-q.1).sum=(k::r).getLast (by simp)-k
 | [],k=>by show (0:Int)=k-k;omega
 | b::r,k=>by
  rw[q7Q,zR,zj,q8I r b,wk];show b-k+_=_;omega
theorem q5l{n s g x y:Int}(hs:0<=s/\s<n)(hg:0<=g/\g<n)(hx:0<=x/\x<n)(xy:x<y)(a:s<=x\/y<=s)(b:g<=x\/y<=g)(le:s<=g):goN n s g x=over s g (x,y)/\over g s (x,y)=false:=by
 have d1:=dd hx hs;have d2:=dd hg hs;unfold goN over
 constructor
 ·rw[ww,z6,decide_eq_true_eq,decide_eq_true_eq,decide_eq_true_eq]
  show _↔s<=x/\y<=g;omega
 ·rw[wz,decide_eq_false_iff_not,decide_eq_false_iff_not]
  show ¬g<=x\/¬y<=s;omega
theorem qjg{n s g x y:Int}(hs:0<=s/\s<n)(hg:0<=g/\g<n)(hx:0<=x/\x<n)(xy:x<y)(a:s<=x\/y<=s)(b:g<=x\/y<=g)(lt:g<s):goN n s g x=!over g s (x,y):=by
 have d1:=dd hx hs;have d2:=dd hg hs;unfold goN over;rw[ww,decide_eq_true_eq,Bool.not_eq_true',wz,decide_eq_false_iff_not,decide_eq_false_iff_not];show _↔¬g<=x\/¬y<=s;omega
noncomputable def csN(h l:Int):Int:=if h<=l then 0 else -1
structure Sd (b:Int×Int×Int):Prop where
 r:b.1<b.2.1->b.2.2=1
 l:b.2.1<b.1->b.2.2=-1
theorem q93{n x y:Int}(hx:0<=x/\x<n)(xy:x<y):∀(bs:List (Int×Int×Int)),(∀b∈bs,Sd b/\((0<=b.1/\b.1<n)/\(0<=b.2.1/\b.2.1<n)/\(b.2.2=1\/b.2.2=-1))/\(b.1<=x\/y<=b.1)/\(b.2.1<=x\/y<=b.2.1)) ->
  ((rtR n bs x).length:Int)=rts (bs.map two) (x,y)/\((lfR n bs x).length:Int)=lfs (bs.map two) (x,y):=λbs h=>by
 unfold rtR lfR rts lfs;rw[yy,yy,zA,zA];have e1:bs.filter (λb=>b.2.2==1&&goN n b.1 b.2.1 x)=bs.filter ((λp:Int×Int=>over p.1 p.2 (x,y)) ∘ two):=xo λb hb=>by
  obtain⟨sd,⟨k1,k2,k3⟩,k4,k5⟩:=h b hb;show _=over b.1 b.2.1 (x,y);rcases k3 with w|w
  ·have le:b.1<=b.2.1:=by
    by_cases q:b.2.1<b.1
    ·have:=sd.l q;omega
    ·omega
   rw[w,(q5l k1 k2 hx xy k4 k5 le).1];rfl
  ·have le:b.2.1<=b.1:=by
    by_cases q:b.1<b.2.1
    ·have:=sd.r q;omega
    ·omega
   rw[w,(q5l k2 k1 hx xy k5 k4 le).2];rfl
 have e2:bs.filter (λb=>b.2.2 == -1&&goN n b.2.1 b.1 x)=bs.filter ((λp:Int×Int=>over p.2 p.1 (x,y)) ∘ two):=xo λb hb=>by
  obtain⟨sd,⟨k1,k2,k3⟩,k4,k5⟩:=h b hb;show _=over b.2.1 b.1 (x,y);rcases k3 with w|w
  ·have le:b.1<=b.2.1:=by
    by_cases q:b.2.1<b.1
    ·have:=sd.l q;omega
    ·omega
   rw[w,(q5l k1 k2 hx xy k4 k5 le).2];rfl
  ·have le:b.2.1<=b.1:=by
    by_cases q:b.1<b.2.1
    ·have:=sd.r q;omega
    ·omega
   rw[w,(q5l k2 k1 hx xy k5 k4 le).1];rfl
 rw[e1,e2];exact⟨rfl,rfl⟩
theorem qdo{n h l x y:Int}{bs:List (Int×Int×Int)}(hh:0<=h/\h<n)(hl:0<=l/\l<n)(hx:0<=x/\x<n)(G:Gap h l (bs.map two) (x,y))(hb:∀b∈bs,Sd b/\((0<=b.1/\b.1<n)/\(0<=b.2.1/\b.2.1<n)/\(b.2.2=1\/b.2.2=-1))):YW n h l bs x+csN h l=Yj h l (bs.map two) (x,y):=by
 obtain⟨c1,c2⟩:=q93 hx G.lt bs λb k=>⟨(hb b k).1,(hb b k).2,(G.b (two b) (ze k)).1,(G.b (two b) (ze k)).2⟩;unfold YW Yj csN;rw[c1,c2];have one:rts [(h,l)] (x,y)=(if over h l (x,y)=true then 1 else 0)/\lfs [(h,l)] (x,y)=(if over l h (x,y)=true then 1 else 0):=by
  unfold rts lfs
  constructor
  ·cases q:over h l (x,y) <;> simp[q]
  ·cases q:over l h (x,y) <;> simp[q]
 rw[one.1,one.2]
 by_cases z:h<=l
 ·obtain⟨g1,g2⟩:=q5l hh hl hx G.lt G.h G.l z
  rw[vH z,g1,g2];simp only[yC,if_false];omega
 ·have g1:=qjg hh hl hx G.lt G.h G.l ∅
  have g2:=(q5l hl hh hx G.lt G.l G.h ∅).2;rw[vJ z,g1,g2];cases over l h (x,y)
  ·simp only[ZE,if_true,yC,if_false];omega
  ·simp only[wQ,if_true,yC,if_false];omega
theorem q7A{n z:Int}(hz:0<=z/\z<n){bs:List (Int×Int×Int)}(hb:∀b∈bs,Sd b/\((0<=b.1/\b.1<n)/\(0<=b.2.1/\b.2.1<n)/\(b.2.2=1\/b.2.2=-1))/\b.1<=z/\b.2.1<=z):rtR n bs z=[]/\lfR n bs z=[]:=by
 have no:∀{s g:Int},0<=s/\s<n->0<=g/\g<n->s<=g->g<=z->goN n s g z=false:=λ{s g} hs hg a b=>by
  have d1:=dd hz hs;have d2:=dd hg hs;exact vT ∅
 unfold rtR lfR
 constructor
 ·refine yi.mpr λb k=>?_
  obtain⟨sd,⟨k1,k2,k3⟩,k4,k5⟩:=hb b k;rcases k3 with w|w
  ·have le:b.1<=b.2.1:=by
    by_cases q:b.2.1<b.1
    ·have:=sd.l q;omega
    ·omega
   rw[no k1 k2 le k5];simp
  ·rw[w];simp
 ·refine yi.mpr λb k=>?_
  obtain⟨sd,⟨k1,k2,k3⟩,k4,k5⟩:=hb b k;rcases k3 with w|w
  ·rw[w];simp
  ·have le:b.2.1<=b.1:=by
    by_cases q:b.1<b.2.1
    ·have:=sd.r q;omega
    ·omega
   rw[no k2 k1 le k4];simp
theorem qcy{n h l z:Int}(hz:0<=z/\z<n)(hh:0<=h/\h<n)(hl:0<=l/\l<n)(zh:h<=z)(zl:l<=z){bs:List (Int×Int×Int)}(hb:∀b∈bs,Sd b/\((0<=b.1/\b.1<n)/\(0<=b.2.1/\b.2.1<n)/\(b.2.2=1\/b.2.2=-1))/\b.1<=z/\b.2.1<=z):YW n h l bs z+csN h l=0:=by
 obtain⟨c1,c2⟩:=q7A hz hb;unfold YW csN;rw[c1,c2];have d1:=dd hz hh;have d2:=dd hl hh
 by_cases q:h<=l
 ·rw[vH q,vJ (by unfold goN;rw[decide_eq_true_eq];omega)];rfl
 ·rw[vJ q,vH (by unfold goN;rw[decide_eq_true_eq];omega)];rfl
theorem q95{α:Type}{f:α->Int}:∀{l:List α},(∀x∈l,0<=f x)->∀x∈l,f x<=(l.map f).sum
 | a::l,h,x,hx=>by
  rw[zR,zj];have h':∀y∈l,0<=f y:=λy hy=>h y (zG _ hy);have a0:=h a zD;rcases zF.mp hx with rfl|hx
  ·have:0<=(l.map f).sum:=by
    clear hx h a0
    induction l with
    | nil=>exact z7 _
    | cons b l ih=>rw[zR,zj];have:=h' b zD;have:=ih λy hy=>h' y (zG _ hy);omega
   omega
  ·have:=q95 h' x hx;omega
theorem q6z{α:Type}{f:α->Int}:∀{l:List α},(∀x∈l,0<=f x)->0<=(l.map f).sum
 | [],_=>z7 _
 | a::l,h=>by
  rw[zR,zj];have:=h a zD;have:=q6z λy hy=>h y (zG _ hy);omega
theorem qiz(a:Int):0<=Yn a:=by unfold Yn;split <;> omega
theorem qeb{n h l due:Int}{bs:List (Int×Int×Int)}(O:RgO n h l bs)(sd:∀b∈bs,Sd b){f:Int->Int}(hf:Tells (Pz h l (bs.map two)) (Kn h l (bs.map two)) f)(ed:due=((YO (Pz h l (bs.map two))).map (gwt h l (bs.map two))).sum+2*((Yk f (YV YM ((YO (Pz h l (bs.map two))).map egO))).2.map YM).sum)(big:∀p∈Pz h l (bs.map two),p+due<n):RLm n h l bs=↥(.int due):=by
 obtain⟨R,R1,⟨c0,v0⟩,lo⟩:=qce O;obtain⟨w1,v1⟩:=O.ex (csN h l);have Rw:=lo _ _ v1;have up:=O.up;have inr:=O.inr;have hm:h∈St h l bs:=qW.mpr (.inl rfl);have lm:l∈St h l bs:=qW.mpr (.inr (.inl rfl));have bin:=O.bin;have gp:∀g∈YO (St h l bs),Gap h l (bs.map two) g:=q8z (by rw[zA];have:=O.lb;omega);have hb2:∀b∈bs,Sd b/\((0<=b.1/\b.1<n)/\(0<=b.2.1/\b.2.1<n)/\(b.2.2=1\/b.2.2=-1)):=λb k=>⟨sd b k,O.hb b k⟩;have kin:∀e∈Kn h l (bs.map two),e.1∈St h l bs/\e.2∈St h l bs:=λe he=>qgp he;have f1:∀g∈YO (St h l bs),YW n h l bs g.1+csN h l=Yj h l (bs.map two) g:=λg hg=>qdo O.hh O.hl (inr _ (q45 hg).1) (gp g hg) hb2;have c1:∀g∈YO (St h l bs),((rtR n bs g.1).length:Int)=rts (bs.map two) g/\((lfR n bs g.1).length:Int)=lfs (bs.map two) g:=λg hg=>q93 (inr _ (q45 hg).1) (gp g hg).lt bs λb k=>⟨(hb2 b k).1,(hb2 b k).2,((gp g hg).b (two b) (ze k)).1,((gp g hg).b (two b) (ze k)).2⟩;have ld:=q8T up inr (bs:=bs) λb k=>⟨(bin b k).1,(bin b k).2,(O.hb b k).2.2⟩;have ee:=qiC up inr;have knE:Kn h l (bs.map two)=bs.map two++[(h,l)]++(YO (St h l bs)).filter λq=>!(Yj h l (bs.map two) q==0):=rfl;unfold WR at v0 v1
 change Tells (St h l bs) _ f at hf
 change due=((YO (St h l bs)).map (gwt h l (bs.map two))).sum+2*((Yk f (YV YM ((YO (St h l bs)).map egO))).2.map YM).sum at ed
 change ∀p∈St h l bs,p+due<n at big
 have Z0:0<=(bs.map (stN n)).sum:=q6z λb _=>wx _ (by have:=O.n1;omega);generalize (bs.map (stN n)).sum=Z at *;generalize St h l bs=P at *;cases P with
 | nil=>simp at hm
 | cons k r=>
  have er:=qfD up inr;have zm:(k::r).getLast (by simp)∈k::r:=wX _;have mx:=q5I r k up;have gt:=q4c r k _ zm;generalize (k::r).getLast (by simp)=z at er zm mx gt;have zr:=inr z zm;have kr:=inr k zD;have hb3:∀b∈bs,Sd b/\((0<=b.1/\b.1<n)/\(0<=b.2.1/\b.2.1<n)/\(b.2.2=1\/b.2.2=-1))/\b.1<=z/\b.2.1<=z:=λb q=>⟨(hb2 b q).1,(hb2 b q).2,(mx _ (bin b q).1).2,(mx _ (bin b q).2).2⟩;have f2:=qcy zr O.hh O.hl (mx _ hm).2 (mx _ lm).2 hb3;obtain⟨c2,c3⟩:=q7A zr hb3;have cc:due<n-(z-k):=by have:=big z zm;omega
  have ldE:Z=((YO (k::r)).map λg=>(g.2-g.1)*(rts (bs.map two) g+lfs (bs.map two) g)).sum:=by
   have e1:((yI (k::r).length).map λi=>lgN n (k::r) i*(((rtR n bs ((k::r).getD i 0)).length:Int)+((lfR n bs ((k::r).getD i 0)).length:Int)))=(egs n (k::r)).map λe=>YM e*(((rtR n bs e.1).length:Int)+((lfR n bs e.1).length:Int)):=by
    rw[ee,zc];rfl
   rw[ld,e1,er,zX,xB,zc];have e2:([clE n k z].map λe=>YM e*(((rtR n bs e.1).length:Int)+((lfR n bs e.1).length:Int))).sum=0:=by
    rw[xN,wJ];show YM (clE n k z)*(((rtR n bs z).length:Int)+((lfR n bs z).length:Int))=0;rw[c2,c3];simp
   rw[e2,wf]
   congr 1
   refine yE λg hg=>?_;show (g.2-g.1)*(((rtR n bs g.1).length:Int)+((lfR n bs g.1).length:Int))=_;rw[(c1 g hg).1,(c1 g hg).2]
  have gw:Z+(((YO (k::r)).map egO).map λe=>YM e*Yn (YW n h l bs e.1+csN h l)).sum=((YO (k::r)).map (gwt h l (bs.map two))).sum:=by
   rw[ldE,zc,<- q5t]
   congr 1
   refine yE λg hg=>?_;show (g.2-g.1)*_+(g.2-g.1)*Yn (YW n h l bs g.1+csN h l)=_;rw[f1 g hg,<- xV];rfl
  have ties:(egs n (k::r)).filter (λe=>YW n h l bs e.1+csN h l != 0)=((YO (k::r)).filter λq=>!(Yj h l (bs.map two) q==0)).map egO:=by
   rw[er,wH,yy];have e1:[clE n k z].filter (λe=>YW n h l bs e.1+csN h l != 0)=[]:=by
    rw[yD,List.filter_nil,vJ];show ¬(YW n h l bs z+csN h l != 0)=true;rw[f2];decide
   rw[e1,zw]
   congr 1
   refine xo λg hg=>?_;show (YW n h l bs g.1+csN h l != 0)=_;rw[f1 g hg];rfl
  have kk:bs.map two++[(h,l)]++((egs n (k::r)).filter λe=>YW n h l bs e.1+csN h l != 0).map Yr=Kn h l (bs.map two):=by rw[ties,qbP,knE]
  have gl:∀g∈YO (k::r),g.1<g.2:=λg hg=>(gp g hg).lt;have ndE:((YO (k::r)).map egO).Nodup:=by
   have:=q6o up n;rw[er]at this;exact(yU.mp this).1
  have inE:∀e∈(YO (k::r)).map egO,e.1∈k::r/\e.2.1∈k::r:=λe he=>by
   obtain⟨g,hg,rfl⟩:=zS.mp he;exact q45 hg
  have nnE:∀e∈(YO (k::r)).map egO,0<=YM e:=λe he=>by
   obtain⟨g,hg,rfl⟩:=zS.mp he;have:=gl g hg;show 0<=g.2-g.1;omega
  have ms:=qbK ndE hf kin inE nnE;generalize ((Yk f (YV YM ((YO (k::r)).map egO))).2.map YM).sum=K at ms ed;have nn:=q9C (P:=k::r) (n:=n) (by have:=O.n1;omega);have subE:∀e∈(YO (k::r)).map egO,e∈egs n (k::r):=λe he=>by rw[er];exact zI _ he
  have clm:clE n k z∈egs n (k::r):=by rw[er];exact zJ _ (zM.mpr rfl)
  have sumE:((egs n (k::r)).map λe=>YM e*Yn (YW n h l bs e.1+csN h l)).sum=(((YO (k::r)).map egO).map λe=>YM e*Yn (YW n h l bs e.1+csN h l)).sum:=by
   rw[er,zX,xB];have e2:([clE n k z].map λe=>YM e*Yn (YW n h l bs e.1+csN h l)).sum=0:=by
    rw[xN,wJ];show YM (clE n k z)*Yn (YW n h l bs z+csN h l)=0;rw[f2,show Yn 0=0 from rfl,Zk]
   rw[e2,wf]
  have upb:R<=due:=by
   obtain⟨m,m1,rfl⟩:=v1;have m1:Ms (bs.map two++[(h,l)]++((egs n (k::r)).filter λe=>YW n h l bs e.1+csN h l != 0).map Yr) (egs n (k::r)) m:=m1;rw[kk]at m1;obtain⟨⟨C,d1,_,d3,d4⟩,_⟩:=ms;have ml:=m1.lo C (λc hc=>subE c (d1 c hc)) λe he=>by
    rw[er]at he;rcases zK.mp he with q|q
    ·exact d3 e q
    ·rw[zM.mp q]
     exact(gt.sub λg hg=>d3 (egO g) (ze hg)).symm
   have e9:((egs n (k::r)).map λe=>YM e*Yn ((λe:Eg=>YW n h l bs e.1+csN h l) e)).sum=_:=sumE;rw[e9]at Rw;omega
  have lob:due<=R:=by
   obtain⟨m,m1,rfl⟩:=v0;obtain⟨⟨C,d1,_,d3,d4⟩,_⟩:=m1;have m0:=q3Y λc hc=>nn c (d1 c hc);have s0:∀e∈egs n (k::r),0<=YM e*Yn (YW n h l bs e.1+c0):=λe he=>Z8 (nn e he) (qiz _);have sn:=q6z s0
   by_cases q:c0=csN h l
   ·subst q
    by_cases y:clE n k z∈C
    ·have:=q95 (λc hc=>nn c (d1 c hc)) _ y
     have:YM (clE n k z)=n-(z-k):=rfl;show due<=Z+((egs n (k::r)).map λe=>YM e*Yn (YW n h l bs e.1+csN h l)).sum+2*m;omega
    ·have d3':∀e∈egs n (k::r),Rch (Kn h l (bs.map two)++C.map Yr) e.1 e.2.1:=λe he=>by rw[<- kk];exact d3 e he
     have:=ms.lo C (λc hc=>by
      have:=d1 c hc;rw[er]at this;rcases zK.mp this with u|u
      ·exact u
      ·rw[zM.mp u]at hc;exact vN hc y) λe he=>d3' e (subE e he)
     show due<=Z+((egs n (k::r)).map λe=>YM e*Yn (YW n h l bs e.1+csN h l)).sum+2*m;rw[sumE];omega
   ·have a1:1<=Yn (YW n h l bs z+c0):=by unfold Yn;split <;> omega
    have cp:0<=n-(z-k):=∅
    have t:=q95 s0 _ clm;have t2:=xM a1 cp;rw[xQ]at t2;have t3:YM (clE n k z)*Yn (YW n h l bs (clE n k z).1+c0)=(n-(z-k))*Yn (YW n h l bs z+c0):=rfl;rw[t3]at t;show due<=Z+((egs n (k::r)).map λe=>YM e*Yn (YW n h l bs e.1+c0)).sum+2*m;omega
  have:R=due:=∅
  subst this;exact R1
theorem qdR{ns:List Int}:∃ps:List Int,q0m [.scr ns]=some (.fr (ps.map D.int))/\ps.length=7/\∀p∈ps,0<=p/\p<1000000000000000000000000000000:=by
 unfold q0m q2l;have rg:rg1I (some [.int 7])=some (upTo 0 7):=rfl;have pw:oPow (.int 10) (.int 30)=↥(.int 1000000000000000000000000000000):=rfl;obtain⟨ω',e,ps,y3,y4,rfl,i1,i2⟩:=qe2 (g:=gN 2) (b:=q1U) 0 7
  (λi ω=>∃(ps:List Int) (y3 y4:Option W),ω=[↥(.scr ns),some (.ow (ps.map D.int)),y3,y4]/\ps.length=i/\∀p∈ps,0<=p/\p<1000000000000000000000000000000)
  (λi ω hi ⟨ps,y3,y4,hω,i1,i2⟩=>by
   subst hω;refine⟨_,rfl,?_⟩;have hc:=q31 (ns:=ns) (k:=2+(0+(i:Int))) ∅;generalize ns.getD (2+(0+(i:Int))).toNat 0=c at hc;have mo:oMod (.int (c/3)) (.int 1000000000000000000000000000000)=↥(.int (c/3%1000000000000000000000000000000)):=q1S (by decide);obtain⟨d,hd,q,rfl,hq⟩:=qdQ (ds:=[.int (0+(i:Int)+c/3%3),.int (c/3%100),.int (c/3%1000000000000000000000000000000)]) (i:=c%3) (λd=>∃q:Int,d=D.int q/\0<=q/\q<1000000000000000000000000000000) ∅ (show c%3<3 by omega) (by
    intro d hd;simp only[zF,zg,or_false]at hd;rcases hd with rfl|rfl|rfl
    ·exact⟨_,rfl,∅,∅⟩
    ·exact⟨_,rfl,∅,∅⟩
    ·exact⟨_,rfl,∅,∅⟩)
   have hll:(ps.map D.int).length<1000000:=by rw[zA];omega
   unfold q1U;simp_arith[hc,pw,mo,hd];rw[zAG hll,q7g];refine⟨ps++[q],_,_,by rw[zX];rfl,by rw[zE,i1];rfl,λp hp=>?_⟩;rcases zK.mp hp with y|y
   ·exact i2 p y
   ·cases zM.mp y
    exact hq)
  (ω:=[↥(.scr ns),some (.ow []),none,none]) ⟨[],none,none,rfl,rfl,by simp⟩
 have hc:=q31 (ns:=ns) (k:=1) (by decide);generalize ns.getD (Zq 1) 0=c at hc
 match ps,i1,i2,e with
 | p0::p1::r,i1,i2,e=>
  by_cases z:c/28%3=1
  ·simp_arith[rg,e,hc,z]
   refine⟨p0::p0::r,?_,i1,λp hp=>?_⟩
   ·rw[qhL (by decide) (by simp;omega)]
    rfl
   ·rcases zF.mp hp with rfl|hp
    ·exact i2 _ zD
    ·rcases zF.mp hp with rfl|hp
     ·exact i2 _ zD
     ·exact i2 p (by simp[hp])
  ·have z':(c/28%3==1)=false:=by simpa using z
   simp_arith[rg,e,hc,z'];exact⟨p0::p1::r,rfl,i1,i2⟩
theorem qgH(s g c:Int):∃w:Int,q0P [.int s,.int g,.int c]=↥(.int w)/\(w=1\/w=-1)/\Sd (s,g,w):=by
 unfold q0P q3U
 by_cases a:s<g
 ·have a':decide (s<g)=true:=vW a
  simp_arith[a'];exact⟨1,rfl,.inl rfl,λ_=>rfl,λq=>by simp only at q;omega⟩
 ·have a':decide (s<g)=false:=vT a
  by_cases b:s=g
  ·have b':(s==g)=true:=by simpa using b
   by_cases d:c/49%2=0
   ·have d':(c/49%2==0)=true:=by simpa using d
    simp_arith[a',b',d'];exact⟨1,rfl,.inl rfl,λ_=>rfl,λq=>by simp only at q;omega⟩
   ·have d':(c/49%2==0)=false:=by simpa using d
    simp_arith[a',b',d'];exact⟨-1,rfl,.inr rfl,λq=>by simp only at q;omega,λ_=>rfl⟩
  ·have b':(s==g)=false:=by simpa using b
   simp_arith[a',b'];exact⟨-1,rfl,.inr rfl,λq=>by simp only at q;omega,λ_=>rfl⟩
theorem qhk{l m:List Eg}(s:l.Sublist m)(h:∀e∈m,0<=YM e):(l.map YM).sum<=(m.map YM).sum:=by
 induction s with
 | slnil=>exact z7 _
 | cons a _ ih=>rw[zR,zj];have:=h a zD;have:=ih λe he=>h e (zG _ he);omega
 | cons_cons a _ ih=>rw[zR,zR,zj,zj];have:=ih λe he=>h e (zG _ he);omega
theorem qiH{h l B:Int}{bs:List (Int×Int)}(hb:bs.length<=30)(hB:∀p∈Pz h l bs,0<=p/\p<B)(f:Int->Int):0<=((YO (Pz h l bs)).map (gwt h l bs)).sum+2*((Yk f (YV YM ((YO (Pz h l bs)).map egO))).2.map YM).sum /\
  ((YO (Pz h l bs)).map (gwt h l bs)).sum+2*((Yk f (YV YM ((YO (Pz h l bs)).map egO))).2.map YM).sum<=162*B:=by
 have gl:∀g∈YO (Pz h l bs),g.1<g.2:=λg hg=>(q8z hb g hg).lt;have wb:∀g∈YO (Pz h l bs),0<=gwt h l bs g/\gwt h l bs g<=(g.2-g.1)*160:=λg hg=>by
  have c:=q3i (bs:=bs) (q:=g);have d:=q6w (h:=h) (l:=l) (q:=g) hb;have lt:=gl g hg;have a:0<=Yn (Yj h l bs g)/\Yn (Yj h l bs g)<=100:=by unfold Yn;split <;> omega
  unfold gwt;exact⟨Z8 ∅ ∅,xM ∅ ∅⟩
 have s1:=q6z λg hg=>(wb g hg).1;have s2:=q9P λg hg=>(wb g hg).2;have sm:∀L:List (Int×Int),(L.map λg=>(g.2-g.1)*160).sum=(L.map λg=>g.2-g.1).sum*160:=λL=>by
  induction L with
  | nil=>rfl
  | cons a L ih=>rw[zR,zR,zj,zj,ih];omega
 have nnE:∀e∈(YO (Pz h l bs)).map egO,0<=YM e:=λe he=>by
  obtain⟨g,hg,rfl⟩:=zS.mp he;have:=gl g hg;show 0<=g.2-g.1;omega
 have pm:=qO (f:=YM) (l:=(YO (Pz h l bs)).map egO);have k1:=qhk (qY f (YV YM ((YO (Pz h l bs)).map egO))) λe he=>nnE e (pm.mem_iff.mp he);have k0:=q3Y (C:=(Yk f (YV YM ((YO (Pz h l bs)).map egO))).2) λe he=>nnE e (pm.mem_iff.mp ((qY f _).subset he));rw[q9R pm,zc]at k1;have k1':_<=((YO (Pz h l bs)).map λg=>g.2-g.1).sum:=k1;have tot:((YO (Pz h l bs)).map λg=>g.2-g.1).sum<=B/\0<=B:=by
  have hm:h∈Pz h l bs:=(q0U h).mpr (.inl rfl);revert hB hm;generalize Pz h l bs=P;intro hB hm;cases P with
  | nil=>simp at hm
  | cons k r=>
   have:=hB k zD;have:=hB _ (wX (l:=k::r) (by simp));rw[q8I];omega
 rw[sm]at s2;omega
theorem qfi(ns:List Int)(hl:ns.length<=63):q5p [.scr ns]=↥(.bl true):=by
 obtain⟨ps,p1,p2,p3⟩:=qdR (ns:=ns);have c1:=q31 (ns:=ns) (k:=1) (by decide);have c16:=q31 (ns:=ns) (k:=16) (by decide);have c17:=q31 (ns:=ns) (k:=17) (by decide);generalize ns.getD (Zq 1) 0=c at c1;generalize ns.getD (Zq 16) 0=q16 at c16;generalize ns.getD (Zq 17) 0=q17 at c17;obtain⟨d,hd,k,rfl,hk⟩:=qdQ (ds:=[.int 5,.int 5,.int (c/4%6),.int (c/4%3)]) (i:=c%4) (λd=>∃k:Nat,d=D.int (k:Int)/\k<=5) ∅ (show c%4<4 by omega) (by
  intro d hd;simp only[zF,zg,or_false]at hd;rcases hd with rfl|rfl|rfl|rfl
  ·exact⟨5,rfl,by decide⟩
  ·exact⟨5,rfl,by decide⟩
  ·exact⟨(c/4%6).toNat,by rw[ZL ∅],∅⟩
  ·exact⟨(c/4%3).toNat,by rw[ZL ∅],∅⟩)
 have hcl:(cutD ns (some 9) (some (9+(k:Int)))).length<=5:=by
  have e1:HT.sIx ns.length 0 (some 9)=min 9 ns.length:=HT.q5m ns.length 0 9;have e2:HT.sIx ns.length ns.length (some (9+(k:Int)))=min (9+k) ns.length:=by
   have:=HT.q5m ns.length ns.length (9+k);rw[show ((9+k:Nat):Int)=9+(k:Int) by omega]at this;exact this
  unfold cutD;rw[e1,e2,zn];omega
 generalize hcells:cutD ns (some 9) (some (9+(k:Int)))=cells at hcl
 match ps,p2 with
 | h::l::r,p2=>
  have i0:atI ((h::l::r).map D.int) 0=some (.int h):=by
   rw[q21 (by decide) (by rw[zA,zL];omega)];rfl
  have i1:atI ((h::l::r).map D.int) 1=some (.int l):=by
   rw[q21 (by decide) (by rw[zA,zL,zL];omega)];rfl
  have pk:=λx=>pick7 p2 x;have hm:h∈h::l::r:=by simp
  have lm:l∈h::l::r:=by simp
  have mx:=qdE (ns:=h::l::r) (by simp);have mxl:=(q2v (ns:=h::l::r) (by simp));generalize h::l::r=ps at *;obtain⟨ω',e,bs,x5,x6,x7,rfl,j1,j2⟩:=qQ (g:=gN 5) (b:=q8L) D.int cells
   (λpre ω=>∃(bs:List (Int×Int×Int)) (x5 x6 x7:Option W),ω=[↥(.scr ns),↥(.lst (ps.map D.int)),↥(.int c),some (.ow ((bs.map two).map YZ)),some (.ow (bs.map tri)),x5,x6,x7,none,none,none,none]/\(∀b∈bs,(b.1∈ps/\b.2.1∈ps/\(b.2.2=1\/b.2.2=-1))/\Sd b)/\bs.length=pre.length)
   (λpre x post ω hd' ⟨bs,x5,x6,x7,hω,j1,j2⟩=>by
    subst hω;refine⟨_,rfl,?_⟩;have hp:pre.length<cells.length:=by rw[hd',zE,zL];omega
    obtain⟨y1,m1,a1⟩:=pk x;obtain⟨y2,m2,a2⟩:=pk (x/7);obtain⟨w,sw,w1,w2⟩:=qgH y1 y2 x;have l1:((bs.map two).map YZ).length<1000000:=by rw[zA,zA];omega
    have l2:(bs.map tri).length<1000000:=by rw[zA];omega
    unfold q8L;simp_arith -implicitDefEqProofs [a1,a2,sw,zAG l1,zAG l2];refine⟨bs++[(y1,y2,w)],_,_,_,by rw[zX,zX,zX];rfl,λb hb=>?_,by rw[zE,zE,j2];rfl⟩;rcases zK.mp hb with y|y
    ·exact j1 b y
    ·cases zM.mp y;exact⟨⟨m1,m2,w1⟩,w2⟩)
   (ω:=[↥(.scr ns),↥(.lst (ps.map D.int)),↥(.int c),some (.ow []),some (.ow []),none,none,none,none,none,none,none]) ⟨[],none,none,none,rfl,by simp,rfl⟩
  have lb:bs.length<=5:=∅
  obtain⟨f,hf,le⟩:=qgS (h:=h) (l:=l) (bs:=bs.map two) (by rw[zA];omega);have inP:∀p∈Pz h l (bs.map two),p∈ps:=λp hp=>by
   rcases qW.mp hp with rfl|rfl|⟨b,hb,rfl|rfl⟩
   ·exact hm
   ·exact lm
   ·exact(j1 b hb).1.1
   ·exact(j1 b hb).1.2.1
  have db:=qiH (h:=h) (l:=l) (B:=1000000000000000000000000000000) (bs:=bs.map two) (by rw[zA];omega) (λp hp=>p3 p (inP p hp)) f;obtain⟨due,ed⟩:∃due,due=((YO (Pz h l (bs.map two))).map (gwt h l (bs.map two))).sum+2*((Yk f (YV YM ((YO (Pz h l (bs.map two))).map egO))).2.map YM).sum:=⟨_,rfl⟩;rw[<- ed]at le db;have m38:0<=q16%100000000000000000000000000000000000000/\q16%100000000000000000000000000000000000000<100000000000000000000000000000000000000:=∅
  have M0:=p3 _ mxl.1;obtain⟨n,en⟩:∃n,n=WY ps+due+1+q16%100000000000000000000000000000000000000:=⟨_,rfl⟩;have rng:∀p∈ps,0<=p/\p<n:=λp hp=>by have:=mxl.2 p hp;have:=p3 p hp;omega
  have O:RgO n h l bs:=⟨∅,by show n<=1000000000000000000000000000000000000000;omega,rng h hm,rng l lm,∅,λb hb=>⟨rng _ (j1 b hb).1.1,rng _ (j1 b hb).1.2.1,(j1 b hb).1.2.2⟩⟩;have RR:=qeb O (λb hb=>(j1 b hb).2) hf ed λp hp=>by have:=mxl.2 p (inP p hp);omega
  have rot:=qj1 O (on:=q17%n) RR;have bx:bs.map (bxR (λa=>(1*a+q17%n)%n) 1)=bs.map λb=>((b.1+q17%n)%n,(b.2.1+q17%n)%n,b.2.2):=yE λb _=>by
   show ((1*b.1+q17%n)%n,(1*b.2.1+q17%n)%n,1*b.2.2)=_;rw[yj,yj,yj]
  rw[bx,yj,yj]at rot;unfold RLm at rot;have n0:0<n:=by have:=O.n1;omega
  have mo:∀x:Int,oMod (.int x) (.int n)=↥(.int (x%n)):=λx=>q1S n0;have mq:oMod (.int q16) (.int 100000000000000000000000000000000000000)=↥(.int (q16%100000000000000000000000000000000000000)):=q1S (by decide);have pw:oPow (.int 10) (.int 38)=↥(.int 100000000000000000000000000000000000000):=rfl;have kl:(bs.map tri).length<=1000000:=by rw[zA];omega
  have cm:Yu (gT 3 (YT (gN 0) (YT (gN 1) (YT (gN 2) Ys)))) Yc q4R (bs.map tri) [none,none,none,↥(.int n),↥(.int (q17%n))]=some ((bs.map λb=>((b.1+q17%n)%n,(b.2.1+q17%n)%n,b.2.2)).map tri):=by
   have:=q03 (g:=gT 3 (YT (gN 0) (YT (gN 1) (YT (gN 2) Ys)))) (c:=Yc) (f:=q4R) (λw=>∃a b c,w=[a,b,c,↥(.int n),↥(.int (q17%n))]) (λ_=>true) tri (λb=>tri ((b.1+q17%n)%n,(b.2.1+q17%n)%n,b.2.2)) bs (ω:=[none,none,none,↥(.int n),↥(.int (q17%n))]) ⟨_,_,_,rfl⟩ λb hb w hw=>by
    obtain⟨x,y,z,rfl⟩:=hw;refine⟨_,rfl,⟨_,_,_,rfl⟩,rfl,λ_=>?_⟩;show q4R [↥(.int b.1),↥(.int b.2.1),↥(.int b.2.2),↥(.int n),↥(.int (q17%n))]=_;unfold q4R;simp_arith -implicitDefEqProofs [mo];rfl
   rw[this,yR.mpr (λ_ _=>rfl),zc];rfl
  have bl:∀ds:List D,W9 [.lst ds]=some (.fr ds):=λ_=>rfl;have eqs:oEq false (.int due) (.int due)=↥(.bl true):=by rw[q8P,beq_self_eq_true]
  unfold q5p qc6;simp_arith -implicitDefEqProofs [p1,c1,hd,qjs,hcells,e,i0,i1,bl,le,mx,c16,pw,mq,<- en,c17,mo,Y5 kl,inW,XC,cm,rot,eqs]
theorem qio{l:wo}{w:vU}{K:zB}{h:vZ}{mg:Str->Option vB}{fa:vC}(X:K.In h)(G:h.Ns vQ mg)(hfa:mg "law" = some (.ref fa)){f0:vC}{f1:vC}{f2:vC}{f3:vC}{f4:vC}{f5:vC}{f6:vC}{f7:vC}{f8:vC}{f9:vC}{f10:vC}{f11:vC}{f12:vC}{f13:vC}{f14:vC}{f15:vC}{f16:vC}{f17:vC}{f18:vC}{f19:vC}{f20:vC}{f21:vC}{f22:vC}{f23:vC}{f24:vC}{f25:vC}{f26:vC}{f27:vC}{f28:vC}{f29:vC}{f30:vC}{f31:vC}{f32:vC}{f33:vC}{f34:vC}{f35:vC}{f36:vC}{f37:vC}{f38:vC}{f39:vC}{f40:vC}{f41:vC}{f42:vC}{f43:vC}{f44:vC}{f45:vC}{f46:vC}{f47:vC}{f48:vC}{f49:vC}{f50:vC}{f51:vC}{f52:vC}{f53:vC}{f54:vC}{f55:vC}{f56:vC}(D0:Fd K "is_whole" q4b f0)(D1:Fd K "is_box" q5Q f1)(D2:Fd K "is_errand" q3E f2)(D3:Fd K "check_errand" q1B f3)(D4:Fd K "stops" q78 f4)(D5:Fd K "gaps" q8Z f5)(D6:Fd K "gap_edges" q3F f6)(D7:Fd K "leads_over" q2K f7)(D8:Fd K "crossed" q4O f8)(D9:Fd K "lack" q9k f9)(D10:Fd K "lacks" q7f f10)(D11:Fd K "neighbours" q2A f11)(D12:Fd K "group_of" q4q f12)(D13:Fd K "groups" q67 f13)(D14:Fd K "knots" q7m f14)(D15:Fd K "cost" q8X f15)(D16:Fd K "group_numbers" q1l f16)(D17:Fd K "with_two_joined" q0N f17)(D18:Fd K "forest" q5E f18)(D19:Fd K "groups_below" q1O f19)(D20:Fd K "levels" q5Z f20)(D21:Fd K "weighed" q5a f21)(D22:Fd K "is_way" q6a f22)(D23:Fd K "has_place" q3K f23)(D24:Fd K "is_ring_box" q2g f24)(D25:Fd K "is_ring" q4F f25)(D26:Fd K "check_ring" q3d f26)(D27:Fd K "without_ways" q1J f27)(D28:Fd K "steps" q6W f28)(D29:Fd K "ring_gaps" q3L f29)(D30:Fd K "gap_length" q2Z f30)(D31:Fd K "ring_edges" q2S f31)(D32:Fd K "goes_over" q3T f32)(D33:Fd K "bare_lack" q3W f33)(D34:Fd K "ring_lacks" q37 f34)(D35:Fd K "ring_forest" q2o f35)(D36:Fd K "empty_weight" q1I f36)(D37:Fd K "turns" q79 f37)(D38:Fd K "ring_least" q2M f38)(D39:Fd K "all_whole" q3z f39)(D40:Fd K "counts_of" q3G f40)(D41:Fd K "are_counts" q3g f41)(D42:Fd K "is_group" q4i f42)(D43:Fd K "are_groups" q36 f43)(D44:Fd K "holds_together" q18 f44)(D45:Fd K "is_level" q4k f45)(D46:Fd K "rise_from_one" q1u f46)(D47:Fd K "are_levels" q2T f47)(D48:Fd K "is_reason" q3B f48)(D49:Fd K "gap_weight" q33 f49)(D50:Fd K "weight" q66 f50)(D51:Fd K "reason" q65 f51)(D52:Fd K "least" q72 f52)(D53:Fd K "_law_cell" q3C f53)(D54:Fd K "_law_places" q2e f54)(D55:Fd K "_law_side" q3A f55)(D56:Fd K "law" q5g f56)(z_isinstance:yO K vQ "isinstance" = some none)(z_bool:yO K vQ "bool" = some none)(z_int:yO K vQ "int" = some none)(z_len:yO K vQ "len" = some none)(z_tuple:yO K vQ "tuple" = some none)(z_list:yO K vQ "list" = some none)(z_all:yO K vQ "all" = some none)(z_sorted:yO K vQ "sorted" = some none)(z_set:yO K vQ "set" = some none)(z_zip:yO K vQ "zip" = some none)(z_enumerate:yO K vQ "enumerate" = some none)(z_abs:yO K vQ "abs" = some none)(z_sum:yO K vQ "sum" = some none)(z_min:yO K vQ "min" = some none)(z_max:yO K vQ "max" = some none)(z_range:yO K vQ "range" = some none)(i_int:IsT K .int)(i_bool:IsT K .bl)(i_tuple:IsT K .tup)(i_list:IsT K .lst): ∃fd:vK,(∀(s:vF)(v:vB),tf s fd ⟨[v],[]⟩ [("script", v)])/\∀base:vZ,K.In base->base.Ns vQ mg->FnOk l.prog w K mg base CX0 13 fa fd ["script"] (spD K 1 q5p):=by
 have e:=hfa.symm.trans (ZM X G D56.1);cases e;obtain⟨d0,F0⟩:=D0.2;obtain⟨d1,F1⟩:=D1.2;obtain⟨d2,F2⟩:=D2.2;obtain⟨d3,F3⟩:=D3.2;obtain⟨d4,F4⟩:=D4.2;obtain⟨d5,F5⟩:=D5.2;obtain⟨d6,F6⟩:=D6.2;obtain⟨d7,F7⟩:=D7.2;obtain⟨d8,F8⟩:=D8.2;obtain⟨d9,F9⟩:=D9.2;obtain⟨d10,F10⟩:=D10.2;obtain⟨d11,F11⟩:=D11.2;obtain⟨d12,F12⟩:=D12.2;obtain⟨d13,F13⟩:=D13.2;obtain⟨d14,F14⟩:=D14.2;obtain⟨d15,F15⟩:=D15.2;obtain⟨d16,F16⟩:=D16.2;obtain⟨d17,F17⟩:=D17.2;obtain⟨d18,F18⟩:=D18.2;obtain⟨d19,F19⟩:=D19.2;obtain⟨d20,F20⟩:=D20.2;obtain⟨d21,F21⟩:=D21.2;obtain⟨d22,F22⟩:=D22.2;obtain⟨d23,F23⟩:=D23.2;obtain⟨d24,F24⟩:=D24.2;obtain⟨d25,F25⟩:=D25.2;obtain⟨d26,F26⟩:=D26.2;obtain⟨d27,F27⟩:=D27.2;obtain⟨d28,F28⟩:=D28.2;obtain⟨d29,F29⟩:=D29.2;obtain⟨d30,F30⟩:=D30.2;obtain⟨d31,F31⟩:=D31.2;obtain⟨d32,F32⟩:=D32.2;obtain⟨d33,F33⟩:=D33.2;obtain⟨d34,F34⟩:=D34.2;obtain⟨d35,F35⟩:=D35.2;obtain⟨d36,F36⟩:=D36.2;obtain⟨d37,F37⟩:=D37.2;obtain⟨d38,F38⟩:=D38.2;obtain⟨d39,F39⟩:=D39.2;obtain⟨d40,F40⟩:=D40.2;obtain⟨d41,F41⟩:=D41.2;obtain⟨d42,F42⟩:=D42.2;obtain⟨d43,F43⟩:=D43.2;obtain⟨d44,F44⟩:=D44.2;obtain⟨d45,F45⟩:=D45.2;obtain⟨d46,F46⟩:=D46.2;obtain⟨d47,F47⟩:=D47.2;obtain⟨d48,F48⟩:=D48.2;obtain⟨d49,F49⟩:=D49.2;obtain⟨d50,F50⟩:=D50.2;obtain⟨d51,F51⟩:=D51.2;obtain⟨d52,F52⟩:=D52.2;obtain⟨d53,F53⟩:=D53.2;obtain⟨d54,F54⟩:=D54.2;obtain⟨d55,F55⟩:=D55.2;obtain⟨_,F56⟩:=D56.2;obtain⟨_,_,kV,dc,pm,an,cd,ct,_,rfl,_,_⟩:=F56.ex;have y_isinstance:=z8 X G z_isinstance;have y_bool:=z8 X G z_bool;have y_int:=z8 X G z_int;have y_len:=z8 X G z_len;have y_tuple:=z8 X G z_tuple;have y_list:=z8 X G z_list;have y_all:=z8 X G z_all;have y_sorted:=z8 X G z_sorted;have y_set:=z8 X G z_set;have y_zip:=z8 X G z_zip;have y_enumerate:=z8 X G z_enumerate;have y_abs:=z8 X G z_abs;have y_sum:=z8 X G z_sum;have y_min:=z8 X G z_min;have y_max:=z8 X G z_max;have y_range:=z8 X G z_range;refine⟨xE "law" "law" (XH q5g) (Y0 q5g) (YL q5g) .none kV dc pm an cd ct,λs v=>.of_eq rfl,λbase _ _=>?_⟩;have C0:=qh l.prog w base X G D0 F0 (qas F0 y_isinstance y_bool y_int i_int i_bool) λ_ _ _ _ _ _ us hl=>match us,hl with|[_],_=>rfl
 have C1:=qh l.prog w base X G D1 F1 (qdG F1 C0 y_len y_isinstance y_tuple i_tuple) λ_ _ _ _ _ _ us hl=>match us,hl with|[_],_=>rfl
 have C2:=qh l.prog w base X G D2 F2 (q94 F2 C0 C1 y_isinstance y_list y_all i_list) λ_ _ _ _ _ _ us hl=>match us,hl with|[_,_,_],_=>rfl
 have C3:=qh l.prog w base X G D3 F3 (q6p F3 C2) λ_ _ _ _ _ _ us hl=>match us,hl with|[_,_,_],_=>rfl
 have C4:=qh l.prog w base X G D4 F4 (qf6 F4 C3 y_sorted y_set) λ_ _ _ _ _ _ us hl=>match us,hl with|[_,_,_],_=>rfl
 have C5:=qh l.prog w base X G D5 F5 (qh2 F5 C4 y_list y_zip) λ_ _ _ _ _ _ us hl=>match us,hl with|[_,_,_],_=>rfl
 have C6:=qh l.prog w base X G D6 F6 (q9o F6 C5) λ_ _ _ _ _ _ us hl=>match us,hl with|[_,_,_],_=>rfl
 have C7:=qh l.prog w base X G D7 F7 (q82 F7) λ_ _ _ _ _ _ us hl=>match us,hl with|[_,_,_],_=>rfl
 have C8:=qh l.prog w base X G D8 F8 (qcB F8 C7 y_len) λ_ _ _ _ _ _ us hl=>match us,hl with|[_,_],_=>rfl
 have C9:=qh l.prog w base X G D9 F9 (qhI F9 C8) λ_ _ _ _ _ _ us hl=>match us,hl with|[_,_,_,_],_=>rfl
 have C10:=qh l.prog w base X G D10 F10 (qfp F10 C5 C9) λ_ _ _ _ _ _ us hl=>match us,hl with|[_,_,_],_=>rfl
 have C11:=qh l.prog w base X G D11 F11 (q8f F11) λ_ _ _ _ _ _ us hl=>match us,hl with|[_,_],_=>rfl
 have C12:=qh l.prog w base X G D12 F12 (qa3 F12 y_sorted) λ_ _ _ _ _ _ us hl=>match us,hl with|[_,_],_=>rfl
 have C13:=qh l.prog w base X G D13 F13 (qcS F13 C11 C12 y_sorted) λ_ _ _ _ _ _ us hl=>match us,hl with|[_,_],_=>rfl
 have C14:=qh l.prog w base X G D14 F14 (qf5 F14 C10 C5 y_zip y_list) λ_ _ _ _ _ _ us hl=>match us,hl with|[_,_,_],_=>rfl
 have C15:=qh l.prog w base X G D15 F15 (qhG F15) λ_ _ _ _ _ _ us hl=>match us,hl with|[_],_=>rfl
 have C16:=qh l.prog w base X G D16 F16 (q5G F16 y_enumerate) λ_ _ _ _ _ _ us hl=>match us,hl with|[_],_=>rfl
 have C17:=qh l.prog w base X G D17 F17 (q4J F17) λ_ _ _ _ _ _ us hl=>match us,hl with|[_,_,_],_=>rfl
 have C18:=qh l.prog w base X G D18 F18 (qeL F18 C16 C13 C15 C17 y_sorted) λ_ _ _ _ _ _ us hl=>match us,hl with|[_,_,_],_=>rfl
 have C19:=qh l.prog w base X G D19 F19 (q6y F19 C15 C13) λ_ _ _ _ _ _ us hl=>match us,hl with|[_,_,_,_],_=>rfl
 have C20:=qh l.prog w base X G D20 F20 (qeE F20 C18 C15 C19 y_sorted y_set) λ_ _ _ _ _ _ us hl=>match us,hl with|[_,_,_],_=>rfl
 have C21:=qh l.prog w base X G D21 F21 (qcm F21 y_len) λ_ _ _ _ _ _ us hl=>match us,hl with|[_,_],_=>rfl
 have C22:=qh l.prog w base X G D22 F22 (qdi F22 C0) λ_ _ _ _ _ _ us hl=>match us,hl with|[_],_=>rfl
 have C23:=qh l.prog w base X G D23 F23 (q9h F23 C0) λ_ _ _ _ _ _ us hl=>match us,hl with|[_,_],_=>rfl
 have C24:=qh l.prog w base X G D24 F24 (q7i F24 C22 C23 y_len y_isinstance y_tuple i_tuple) λ_ _ _ _ _ _ us hl=>match us,hl with|[_,_],_=>rfl
 have C25:=qh l.prog w base X G D25 F25 (qcx F25 C23 C0 C24 y_all y_isinstance y_list i_list) λ_ _ _ _ _ _ us hl=>match us,hl with|[_,_,_,_],_=>rfl
 have C26:=qh l.prog w base X G D26 F26 (q81 F26 C25) λ_ _ _ _ _ _ us hl=>match us,hl with|[_,_,_,_],_=>rfl
 have C27:=qh l.prog w base X G D27 F27 (q6F F27) λ_ _ _ _ _ _ us hl=>match us,hl with|[_],_=>rfl
 have C28:=qh l.prog w base X G D28 F28 (qf7 F28) λ_ _ _ _ _ _ us hl=>match us,hl with|[_,_,_,_],_=>rfl
 have C29:=qh l.prog w base X G D29 F29 (q9x F29 C26 C4 C27 y_list y_zip) λ_ _ _ _ _ _ us hl=>match us,hl with|[_,_,_,_],_=>rfl
 have C30:=qh l.prog w base X G D30 F30 (q8a F30 C28) λ_ _ _ _ _ _ us hl=>match us,hl with|[_,_],_=>rfl
 have C31:=qh l.prog w base X G D31 F31 (q8c F31 C29 C30) λ_ _ _ _ _ _ us hl=>match us,hl with|[_,_,_,_],_=>rfl
 have C32:=qh l.prog w base X G D32 F32 (q8H F32 C28) λ_ _ _ _ _ _ us hl=>match us,hl with|[_,_,_,_],_=>rfl
 have C33:=qh l.prog w base X G D33 F33 (q9H F33 C32 y_len) λ_ _ _ _ _ _ us hl=>match us,hl with|[_,_,_,_,_],_=>rfl
 have C34:=qh l.prog w base X G D34 F34 (q87 F34 C29 C33) λ_ _ _ _ _ _ us hl=>match us,hl with|[_,_,_,_,_],_=>rfl
 have C35:=qh l.prog w base X G D35 F35 (q7c F35 C18 C27 y_zip) λ_ _ _ _ _ _ us hl=>match us,hl with|[_,_,_,_,_],_=>rfl
 have C36:=qh l.prog w base X G D36 F36 (q6J F36 C15 C35 y_zip y_abs y_sum) λ_ _ _ _ _ _ us hl=>match us,hl with|[_,_,_,_,_],_=>rfl
 have C37:=qh l.prog w base X G D37 F37 (qf1 F37 C31 C34 C28 C36 y_sum y_min y_max y_range) λ_ _ _ _ _ _ us hl=>match us,hl with|[_,_,_,_],_=>rfl
 have C38:=qh l.prog w base X G D38 F38 (q85 F38 C37 y_min) λ_ _ _ _ _ _ us hl=>match us,hl with|[_,_,_,_],_=>rfl
 have C39:=qh l.prog w base X G D39 F39 (q9z F39 C0 y_all) λ_ _ _ _ _ _ us hl=>match us,hl with|[_],_=>rfl
 have C40:=qh l.prog w base X G D40 F40 (q8Y F40 C5 C8) λ_ _ _ _ _ _ us hl=>match us,hl with|[_,_,_],_=>rfl
 have C41:=qh l.prog w base X G D41 F41 (q8b F41 C39 y_all) λ_ _ _ _ _ _ us hl=>match us,hl with|[_,_],_=>rfl
 have C42:=qh l.prog w base X G D42 F42 (qaz F42 C39 y_len y_isinstance y_list i_list) λ_ _ _ _ _ _ us hl=>match us,hl with|[_],_=>rfl
 have C43:=qh l.prog w base X G D43 F43 (q8i F43 C42 y_all y_isinstance y_list y_sorted i_list) λ_ _ _ _ _ _ us hl=>match us,hl with|[_,_],_=>rfl
 have C44:=qh l.prog w base X G D44 F44 (q5v F44 C16 y_all) λ_ _ _ _ _ _ us hl=>match us,hl with|[_,_],_=>rfl
 have C45:=qh l.prog w base X G D45 F45 (qaj F45 C0 C43 C15 C44 y_len y_isinstance y_tuple i_tuple) λ_ _ _ _ _ _ us hl=>match us,hl with|[_,_,_,_],_=>rfl
 have C46:=qh l.prog w base X G D46 F46 (q5M F46 y_zip y_all) λ_ _ _ _ _ _ us hl=>match us,hl with|[_],_=>rfl
 have C47:=qh l.prog w base X G D47 F47 (q89 F47 C4 C14 C6 C45 C46 y_isinstance y_list y_all i_list) λ_ _ _ _ _ _ us hl=>match us,hl with|[_,_,_,_],_=>rfl
 have C48:=qh l.prog w base X G D48 F48 (q9s F48 C3 C47 C41 C40 y_len y_isinstance y_tuple i_tuple) λ_ _ _ _ _ _ us hl=>match us,hl with|[_,_,_,_],_=>rfl
 have C49:=qh l.prog w base X G D49 F49 (q84 F49 y_abs) λ_ _ _ _ _ _ us hl=>match us,hl with|[_,_],_=>rfl
 have C50:=qh l.prog w base X G D50 F50 (qdt F50 C48 C10 C49 C21 y_zip y_sum) λ_ _ _ _ _ _ us hl=>match us,hl with|[_,_,_,_],_=>rfl
 have C51:=qh l.prog w base X G D51 F51 (qdA F51 C20 C6 C14 C4 C40) λ_ _ _ _ _ _ us hl=>match us,hl with|[_,_,_],_=>rfl
 have C52:=qh l.prog w base X G D52 F52 (qf4 F52 C50 C51) λ_ _ _ _ _ _ us hl=>match us,hl with|[_,_,_],_=>rfl
 have C53:=qh l.prog w base X G D53 F53 (q8u F53 y_len) λ_ _ _ _ _ _ us hl=>match us,hl with|[_,_],_=>rfl
 have C54:=qh l.prog w base X G D54 F54 (q6V F54 C53 y_range) λ_ _ _ _ _ _ us hl=>match us,hl with|[_],_=>rfl
 have C55:=qh l.prog w base X G D55 F55 (q8S F55) λ_ _ _ _ _ _ us hl=>match us,hl with|[_,_,_],_=>rfl
 exact qiI F56 C54 C53 C55 C52 C38 y_list y_max
theorem walk{l:wo}{q:vO}{loose:List Str}{XP:(Str->Option vB)->vZ->Prop}{YP:vU->vZ->Prop}{d:DefRec}{K:Params->zB}(hn:l.most=some 63)(hdf:d.params.defaults=[])(hY:∀(w:vU)(h:vZ),YP w h->(K w.params).In h)(F:∀(w:vU)(mg:Str->Option vB)(fa:vC)(h:vZ),(K w.params).In h->h.Ns vQ mg->mg d.name=some (.ref fa) ->
   ∃fd:vK,(∀(s:vF)(u:vB),tf s fd ⟨[u],[]⟩ [("script", u)])/\∀base:vZ,(K w.params).In base->base.Ns vQ mg->FnOk l.prog w (K w.params) mg base CX0 13 fa fd ["script"] (spD (K w.params) 1 q5p)) :
  Z9 q loose XP YP l.row.toRowW d [] (λf vs=>PySem.call f vs) :=
 L2.qbL (n:=63) (k:=13) (x := "script") (CX:=λ_=>CX0) (sp:=λw=>spD (K w.params) 1 q5p) hn (by decide) hdf ⟨rfl,by decide,by decide⟩ hY F
  (λ_ H a ns hl _ hS=>⟨H,[.scr ns],.sh (.bl true),qfi ns hl,rfl,Yd.refl _,⟨.ref a,[],rfl,⟨a,rfl,hS⟩,rfl⟩,λ_ _ _ _ y=>y⟩) λ_ _ _ _ _ z=>z
end Kx
namespace PySem.W.Fast
def tw2201509516307757332:=0
def tw15691246286031888422:=0
def tw11331730087847260504:=0
def tw13230214993039516166:=0
def tw12699073186394311197:=0
def tw11153500359692740639:=0
def tw5338204474831010823:=0
def tw4629547310665110477:=0
def tw18091655912065562715:=0
def tw6515800829648567206:=0
def tw17662433727349475423:=0
def tw3245667508504041925:=0
def tw8492370127142090161:=0
def tw6918857321102054892:=0
def tw11066269332098622415:=0
def tw7162276465018032951:=0
def tw2279517031476648653:=0
def tw8902556226325620573:=0
def tw4240955075393160216:=0
def tw17548161709535547290:=0
def tw9045189864854747604:=0
def tw10283311426080408291:=0
def tw7731924542928321697:=0
def tw5006508837311042414:=0
def tw12807814191285593503:=0
def tw3549283796595013226:=0
def tw14533204492637781110:=0
def tw11235467138634928357:=0
def tw7016148898403786857:=0
def tw12731954708211877299:=0
def tw7173829651286220431:=0
def tw17762718265664217524:=0
def tw12466669356570539081:=0
def tw6897780276203670139:=0
def tw17693766579011432582:=0
def tw15057845677325306371:=0
def tw7553526359859793633:=0
def tw1748350145913867195:=0
def tw13146980550995874120:=0
def tw8456193263770718524:=0
def tw2554458989545131879:=0
def tw10330944357091177549:=0
def tw9341278925153735359:=0
def tw11147600926244822601:=0
def tw2530449175781858164:=0
def tw17965341111020855293:=0
def tw1108595135856388730:=0
def tw3473494322781169593:=0
def tw14790670742636209804:=0
def tw13480078477286747766:=0
def tw1585774443378817434:=0
def tw8272876477692878047:=0
def tw2357779976503483461:=0
def tw13575215391797821369:=0
def tw6872279195521433016:=0
def tw1878550370203267732:=0
def tw4056332752573113305:=0
def tw18301895445420014588:=0
def tw3173776978709130068:=0
def tw11562628704486207813:=0
def tw6169520713296301404:=0
def tw8436588374487642357:=0
def tw10831089261551020380:=0
def tw7969814511018694106:=0
def tw1569259267852979588:=0
def tw12302236151025498868:=0
def tw9518728959962628660:=0
def tw8822395976141053578:=0
def tw13792795930688306807:=0
def tw6237852037213511978:=0
def tw7498479810419739893:=0
def tw10460577582209516735:=0
def tw6417322949918248740:=0
def tw14694444204342665898:=0
def tw10504131129072689483:=0
def tw9043699680139330086:=0
def tw18235209393733371906:=0
def tw429552662784706146:=0
def tw7344451724550651414:=0
def tw3438838498557210689:=0
def tw8448930274725332784:=0
def tw7967994687310098245:=0
def tw17797720795794551821:=0
def tw15317048071028156082:=0
def tw5788246316204303453:=0
def tw6514333460174027145:=0
def tw9823343269898769099:=0
def tw17827038670970128124:=0
def tw2417579849176519455:=0
def tw3296857703008251483:=0
def tw6729383346797940250:=0
def tw11511745605813599684:=0
def tw3888389920992063336:=0
def tw9555796351599655121:=0
def tw14209752427949449125:=0
def tw3594569824453724150:=0
def tw11221244293955212894:=0
def tw12972036074231300439:=0
def tw1790479374020351928:=0
def tw5904180148627428051:=0
def tw191725111485591618:=0
def tw12239771878569262620:=0
def tw11662775021653091517:=0
def tw10822080496162050353:=0
def tw2007263283454000001:=0
def tw5272913800134415209:=0
def tw4264226586997105796:=0
def tw17262034223418103801:=0
def tw7560473935246908450:=0
def tw17710821735011908343:=0
def tw11685477489725965468:=0
def tw4087917460972445705:=0
def tw319239159038187345:=0
def tw9560730985258740682:=0
def tw13319869386133952436:=0
def tw3747988105530589359:=0
def tw9413017079415118818:=0
def tw14374386596330767985:=0
def tw9852591020417057923:=0
def tw15161907114000531741:=0
def tw5506455870501771529:=0
def tw17463323009775817803:=0
def tw4721193373991395957:=0
def tw17155871857969346125:=0
def tw18209732486029974170:=0
def tw8672815621810893871:=0
def tw8553290000478880295:=0
def tw17523810198964490015:=0
def tw15023018220243906244:=0
def tw15647188101773662150:=0
def tw10734068274901222924:=0
def tw6690137317450419748:=0
def tw1634890955853824603:=0
def tw10590424677626125694:=0
def tw4438804935488350702:=0
def tw7478030142469109814:=0
def tw16859587009158022465:=0
def tw12621995383299156963:=0
def tw6519651499606005464:=0
def tw6380412745698350496:=0
def tw10342756201668868529:=0
def tw4386136886960789391:=0
def tw4039147428246120499:=0
def tw11128114139650595532:=0
def tw6927075716472021757:=0
def tw1591226703518904628:=0
def tw4656229093405942650:=0
def tw1760116041590479893:=0
def tw6269435049703307150:=0
def tw1306591382792266975:=0
def tw18250011668931692772:=0
def tw11176166977968893371:=0
def tw17726194911782205933:=0
def tw1249471483914652169:=0
def tw6672856358703805422:=0
def tw6607097387618250387:=0
def tw18021943885813722299:=0
def tw8508267872909654658:=0
def tw6125797788245752364:=0
def tw17655170856641313642:=0
def tw4861693428499541129:=0
def tw7650216551817333016:=0
def tw5905873327572035314:=0
def tw13201164496294140293:=0
def tw11016453647158764226:=0
def tw5883631142578635930:=0
def tw1191290743728481481:=0
def tw9899100281158223803:=0
def tw10305220009361062228:=0
def tw17021566209887515551:=0
def tw15346512134101571647:=0
def tw4859236778307382624:=0
def tw13153532997376846496:=0
def tw2399282008339191987:=0
def tw5339343776678275586:=0
def tw16588767428250336396:=0
def tw381689865582434330:=0
def tw12083048315929294170:=0
def tw9073202478474481180:=0
def tw24947990131220654:=0
def tw6125984696707081849:=0
def tw7218595082893906735:=0
def tw13763410298632302818:=0
def tw1401078645489034444:=0
def tw6534864748176899991:=0
def tw11310067333512259744:=0
def tw8354116847840644548:=0
def tw16436922642607948963:=0
def tw12070335026184279403:=0
def tw16033376275337303593:=0
def tw3733761604773535165:=0
def tw3093239507333705690:=0
def tw11811487878222257370:=0
def tw16451767298732948525:=0
def tw6280959635326669865:=0
def tw10187537658518627561:=0
def tw15224213866482844933:=0
def tw17029863195300899136:=0
def tw15099991266903734773:=0
def tw6958776932129023316:=0
def tw14573245443721647221:=0
def tw550654383565908700:=0
def tw12295831794639103028:=0
def tw1244182763068123465:=0
def tw7298483506427717529:=0
def tw17745936486279416529:=0
def tw14776351895796088004:=0
def tw12603225110022214474:=0
def tw11228794851248001684:=0
def tw16009935085574035989:=0
def tw10112205969654059205:=0
def tw6522987174914942231:=0
def tw17941944002091502026:=0
def tw12378630509890534169:=0
def tw3246084225324059658:=0
def tw15708610994981830538:=0
def tw2262755636183088083:=0
def tw8602873537577992221:=0
def tw11246110291710915485:=0
def tw1033359947428406254:=0
def tw16498353072918952736:=0
def tw16323755532298145861:=0
def tw2186886632453802607:=0
def tw14957023369242044174:=0
def tw5675443460780116630:=0
def tw4508134065265662157:=0
def tw15787611960421567542:=0
def tw2788148888807033877:=0
def tw2235104575256213986:=0
def tw2693701212431470496:=0
def tw10644256898022373695:=0
def tw16505973469301913608:=0
def tw12664635946333046367:=0
def tw5073607932723147945:=0
def tw12267718318034762240:=0
def tw7111680025759518113:=0
def tw421472382670971903:=0
def tw12682252823454781300:=0
def tw7250060885511841941:=0
def tw17073272337375722129:=0
def tw18233079575167182609:=0
def tw5155245740340685147:=0
def tw13340460782500805785:=0
def tw1067665282807727194:=0
def tw8591399447222244306:=0
def tw8117850185505327417:=0
def tw9089393661595434326:=0
def tw16700158214610187059:=0
def tw16561735339750921543:=0
def tw12685353937085955605:=0
def tw12674566398512454527:=0
def tw16731541849471378182:=0
def tw13637126106283134486:=0
def tw674931898039110326:=0
def tw10496442351192853152:=0
def tw96393986023550028:=0
def tw9142070434540600514:=0
def tw10340554126380848916:=0
def tw6026805844431517781:=0
def tw17818162285874525357:=0
def tw3436754316400390422:=0
def tw17987774865668828652:=0
def tw16789879576068454430:=0
def tw8391637026314998755:=0
def tw18270406074224338935:=0
def tw8973804398065048492:=0
def tw9030549551734254066:=0
def tw16687661040191664405:=0
def tw1531302245509518395:=0
def tw13558595398547632815:=0
def tw12196986772773070023:=0
def tw6443520589886188289:=0
def tw8563657604808786048:=0
def tw11102859060304393055:=0
def tw3573701356410916732:=0
def tw2830177517320596448:=0
def tw7282882650883738725:=0
def tw14945196922527548417:=0
def tw643388569534757378:=0
def tw12565925986430789819:=0
def tw11655146333297476656:=0
def tw5501384487132531193:=0
def tw12773760790079568756:=0
def tw3093979323564059288:=0
def tw2167547942375693001:=0
def tw11391117110393783898:=0
def tw6651564368440317104:=0
def tw1248923912585701348:=0
def tw5973065989979082457:=0
def tw12702090073779512434:=0
def tw11037601661356015526:=0
def tw15149060734640509446:=0
def tw13052998209064807194:=0
def tw8488082441902910834:=0
def tw5654645124483066268:=0
def tw4638382992936025733:=0
def tw2702072662706196820:=0
def tw3855711201978555692:=0
def tw12608937016092196400:=0
def tw16463362880547708821:=0
def tw6202933531946975614:=0
def tw17042652346341634974:=0
def tw12861981550803887844:=0
def tw15371555550298160776:=0
def tw4218951188092677740:=0
def tw4397119873348486530:=0
def tw11021599472801917521:=0
def tw12563320966716907305:=0
def tw14119530109693873998:=0
def tw1638663663535208806:=0
def tw11204536894586306123:=0
def tw14329373725901025513:=0
def tw9131698598669929253:=0
def tw14351642152192010047:=0
def tw14832130508045769420:=0
def tw5183208110424356491:=0
def tw3959997869979465108:=0
def tw2033229389068471732:=0
def tw15682185889845789461:=0
def tw8996184277458203024:=0
def tw10205838265679283017:=0
def tw11216619284087701754:=0
def tw5073920850145656111:=0
def tw17043877482047659546:=0
def tw508047748531248566:=0
def tw12517785236264725220:=0
def tw3324383849677711168:=0
def tw5516337283890849339:=0
def tw9101164164573024157:=0
def tw4328055688662205071:=0
def tw11491402803627807338:=0
def tw5490882561166176439:=0
def tw17704712360194732384:=0
def tw16345656966180277571:=0
def tw3068491440075553916:=0
def tw2236107256722853461:=0
def tw4925582660380818740:=0
def tw9761375979244042742:=0
def tw5592477352630927907:=0
def tw18428606655567412306:=0
def tw11451511004674056359:=0
def tw18202811468476632864:=0
def tw13136736972642946108:=0
def tw4864514634952367380:=0
def tw16417028371034208896:=0
def tw6767856592676641952:=0
def tw5342013360473952319:=0
def tw4829266418362317578:=0
def tw1230301511943343070:=0
def tw5572523356368165866:=0
def tw6822345001604255904:=0
def tw6138997082624178557:=0
def tw7305669949418209028:=0
def tw779222217738451252:=0
def tw17077085467994091117:=0
def tw3978940855429608029:=0
def tw87392327389848259:=0
def tw11738511742024970891:=0
def tw14207977559058118487:=0
def tw1638491472389580972:=0
def tw14210040736315443006:=0
def tw4917922279731160378:=0
def tw6134641077792180730:=0
def tw11474851209530832973:=0
def tw7940420270094459560:=0
def tw9584725072053497671:=0
def tw6774350220510541914:=0
def tw9428068040780557367:=0
def tw6957672747393532397:=0
def tw11475604368703777979:=0
def tw17432830602782568013:=0
def tw16299347559653770028:=0
def tw3180037164656146091:=0
def tw13318827937740473259:=0
def tw5869090152707722375:=0
def tw15977880781446017856:=0
end PySem.W.Fast
open PySem PySem.W PyProof.Rows
set_option maxRecDepth 100000 in
set_option maxHeartbeats 0 in
theorem PySem.Challenge.cw_hookrail_k69_a_long_ring_is_a_rail_holds : PySem.Challenge.rw_hookrail_k69_a_long_ring_is_a_rail.Holds := by
 w_on;o_law;k_head;(case hw=>w_witness2)
 k_fill
 refine Kx.walk (l:=PySem.Challenge.rw_hookrail_k69_a_long_ring_is_a_rail) rfl rfl (λw h Y=>Z1 Y) ?F
 case F =>
  intro w mg fa h KX G hmg;refine' Kx.qio KX G hmg ?D0 ?D1 ?D2 ?D3 ?D4 ?D5 ?D6 ?D7 ?D8 ?D9 ?D10 ?D11 ?D12 ?D13 ?D14 ?D15 ?D16 ?D17 ?D18 ?D19 ?D20 ?D21 ?D22 ?D23 ?D24 ?D25 ?D26 ?D27 ?D28 ?D29 ?D30 ?D31 ?D32 ?D33 ?D34 ?D35 ?D36 ?D37 ?D38 ?D39 ?D40 ?D41 ?D42 ?D43 ?D44 ?D45 ?D46 ?D47 ?D48 ?D49 ?D50 ?D51 ?D52 ?D53 ?D54 ?D55 ?D56 ?z_isinstance ?z_bool ?z_int ?z_len ?z_tuple ?z_list ?z_all ?z_sorted ?z_set ?z_zip ?z_enumerate ?z_abs ?z_sum ?z_min ?z_max ?z_range ?i_int ?i_bool ?i_tuple ?i_list
  (case D0|D1|D2|D3|D4|D5|D6|D7|D8|D9|D10|D11|D12|D13|D14|D15|D16|D17|D18|D19|D20|D21|D22|D23|D24|D25|D26|D27|D28|D29|D30|D31|D32|D33|D34|D35|D36|D37|D38|D39|D40|D41|D42|D43|D44|D45|D46|D47|D48|D49|D50|D51|D52|D53|D54|D55|D56=>(refine' Hk.qj9 ?a ?l ?c ?k;(case a=>k_is);(case l=>k_is);(case c=>k_is);(case k=>k_is)))
  (case z_isinstance|z_bool|z_int|z_len|z_tuple|z_list|z_all|z_sorted|z_set|z_zip|z_enumerate|z_abs|z_sum|z_min|z_max|z_range=>k_is)
  (case i_int=>intro t ht;cases t <;> first|(exact absurd rfl ht)|rfl|k_is)
  (case i_bool=>intro t ht;cases t <;> first|(exact absurd rfl ht)|rfl|k_is)
  (case i_tuple=>intro t ht;cases t <;> first|(exact absurd rfl ht)|rfl|k_is)
  (case i_list=>intro t ht;cases t <;> first|(exact absurd rfl ht)|rfl|k_is)
#print axioms PySem.Challenge.cw_hookrail_k69_a_long_ring_is_a_rail_holds
