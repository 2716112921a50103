import PyProof.Rows.All
import Wide.All
import OpenK.AllK
import Wide.FinOn
import Lean
import PyProof.EqAt
import PyProof.EqKinds
import PyProof.TupleCall
import PySem.SetOps
import KE.KDictSum
import KE.KDictList
import PyProof.ZipIter
import KE.KFind
import PyProof.MaxThree
import PyProof.Rows.IntMath
import PyProof.EnumMake
import PyProof.Rows.EnumRows
import KE.KDictLaws
import PyProof.DictWalks
import PyProof.Rows.SortRuns
import KE.KSortKey
import PyProof.Rows.SortRuns
import PyProof.Rows.SortShell
import PySem.Challenge.RW_hookrail_k54_whole_no_yard_tour_is_short
open Array renaming length_toList→zO,getElem?_toList→zn,toList_append→z9,getElem?_eq_getElem→yC,getElem?_eq_none→yo,toList_extract→xR,toList_reverse→xl,perm_iff_toList_perm→xm,toList_eraseIdxIfInBounds→wH,toArray_toList→wP,getElem?_eq_some_iff→wY,toList_setIfInBounds→wZ,toList_push→wf,getElem?_push→ZV,forIn_toList→Zo,toList→Yc
open Array.Perm renaming refl→YO
open Bool renaming and_eq_true→zS,false_ne_true→yF,false_eq_true→yc,and_eq_true_iff→yy,and_false→xi,or_false→wM,false_and→wU,false_or→wk,and_true→wo,true_or→ZC,or_true→ZD,not_false→ZR,not_true→Zj,true_and→Zk,not_eq_true'→Z5,or_eq_true→YJ
open Int renaming le_refl→yB,toNat_natCast→yE,le_trans→yT,le_of_lt→yx,toNat_of_nonneg→xr,natCast_add→xx,reducePow→wO,reduceToNat→ZJ,reduceSub→Zc,reduceAdd→Zd,reduceMul→Ze,reduceMod→Zf,reduceDiv→Zg,reduceNeg→Zh,reduceBEq→Zi,lt_trans→Z2,reduceLT→Z7,reduceLE→Z8,le_antisymm→YL,emod_nonneg→YQ,not_lt→YU
open List renaming length_map→zB,length_append→zC,length_cons→zD,getElem?_eq_getElem→zE,mem_cons→zG,mem_cons_of_mem→zH,mem_cons_self→zI,getElem?_set_ne→zJ,size_toArray→zN,append_assoc→zP,mem_append→zT,getD_eq_getElem?_getD→zU,getElem?_map→zV,pairwise_append→zW,map_cons→zX,map_append→zY,pairwise_cons→zZ,mem_singleton→za,replicate→zb,mem_append_right→zd,getElem?_eq_none→ze,getElem?_eq_some_iff→zf,getElem?_append_right→zh,countP_cons→zi,not_mem_nil→zj,length_singleton→zk,getElem?_append_left→zo,mem_append_left→zu,length_take→zv,range→zw,length_range→zx,mem_iff_getElem→zy,length_set→yA,length_replicate→yD,replicate_succ→yG,append_nil→yJ,getElem?_set_self→yL,flatten_cons→yO,sum_cons→yQ,length_nil→yR,mem_of_getElem?→yS,take_append_drop→yU,length_drop→yV,mem_reverse→yY,mem_map→ya,getElem?_replicate→yb,all_eq_true→yf,eq_nil_of_length_eq_zero→yg,map_map→yk,take_of_length_le→yn,perm_append_comm→yr,getElem_mem→yu,lookup_cons→yv,map_nil→yw,mem_of_mem_drop→yz,getElem_take→xA,ext_getElem?→xB,nodup_cons→xC,nil_append→xD,getElem?_range→xE,countP_eq_zero→xF,all_cons→xH,countP_le_length→xL,pairwise_iff_getElem→xM,drop_eq_getElem_cons→xN,getElem_drop→xS,mem_of_mem_take→xT,filterMap_cons→xU,reverse_append→xV,mem_range→xW,getElem?_cons_zero→xX,getElem_map→xY,zip_cons_cons→xZ,mem_filter→xa,find?_cons→xb,countP_replicate→xg,length→xh,reverse_reverse→xk,getElem?_eq_none_iff→xn,getLast?_eq_none_iff→xo,extract_eq_take_drop→xp,replicate_zero→xq,getElem?_take_of_lt→xt,any_cons→xu,forIn_cons→xw,set_cons_succ→wA,set_cons_zero→wB,getElem?_cons_succ→wC,all_map→wF,getElem_inj→wJ,take_length→wK,cons_append→wL,countP_eq_length_filter→wQ,dropLast_concat_getLast→wR,length_eraseIdx_of_lt→wW,forIn_nil→wX,getElem?_take_eq_none→wb,take_sublist→we,nodup_append→wg,flatMap_cons→wj,take_append_getElem→wm,eq_of_mem_replicate→wp,drop_length→wt,filter_cons_of_pos→wu,filter_cons_of_neg→wv,zipIdx_cons→ww,length_eq_zero_iff→wx,filter_cons→wz,foldl→w9,pairwise_lt_range→ZA,range_succ_eq_map→ZB,drop_of_length_le→ZE,flatMap_singleton→ZF,of_mem_zip→ZH,countP_nil→ZK,countP_map→ZL,dropLast_eq_take→ZM,nodup_nil→ZP,take_take→ZQ,mem_of_getLast?→ZS,filter_eq_self→ZU,length_pos_iff→ZW,countP_pos_iff→ZX,flatMap_append→ZY,map_drop→ZZ,mem_filterMap→Zl,filterMap_map→Zm,countP_append→Zp,map_replicate→Zq,any_eq_false→Zr,reverse_cons→Zu,drop_sublist→Zw,take_add_one→Zz,set_set→Z1,foldl_append→Z4,countP_congr→Z9,filter_congr→YA,perm_middle→YD,map_reverse→YE,mem_flatMap→YF,any_eq_true→YG,nodup_range→YH,foldl_cons→YI,sum_append→YK,zipIdx_nil→YM,drop_drop→YV,drop_take→YW,take_left→YX,drop_zero→YY,count→YZ,map_take→Yb,map→Ye
open List.Pairwise renaming nil→y0,sublist→wI
open List.Perm renaming append_left→yI,append_right→yp,trans→yq,refl→xJ
open Nat renaming le_refl→zK,ne_of_lt→zg,lt_of_lt_of_le→zr,lt_or_ge→zz,zero_le→yH,le_trans→yK,lt_succ_of_lt→yP,lt_succ_self→yW,le_of_lt→yZ,zero_add→yj,lt_irrefl→xG,add_sub_cancel→xK,not_lt_zero→xO,le_succ→xj,ne_of_gt→wD,le_succ_of_le→wG,add_assoc→wN,add_one_ne_zero→wS,zero_ne_add_one→wT,add_sub_cancel_left→wq,reduceEqDiff→wy,reduceSub→Za,reduceAdd→Zb,lt_of_le_of_lt→Zn,add_comm→Zv,lt_trans→Zx,sub_self→Z0,reduceLT→Z6,min_eq_left→YN
open Option renaming bind_some→yN,isSome_iff_exists→yh,map_some→yi,bind_eq_some_iff→ym,map_eq_some_iff→wE,isSome_map→Z3,getD_none→YC,map→YT,none→Yd
open Option.some renaming inj→zc
open PySem.Heap renaming get?_push_of_some→zF,lt_size→zM,get?_push_size→zQ,size_push→yX,get?_update_other→ye,SameBut→xP,get?_update_self→xf,get?_some_iff→xz
open PySem.Heap.IsSliceOf renaming new→Yf
open PySem.Heap.SameBut renaming update→ZT,refl→Zy
open PySem.W renaming Frag→zA,mg_none_of→zt,nsIn→yM,kia_one→yd,keepIn→xI,fnOf→xQ,mg_of→xv,codeIn→wV,methodObj→wd,cellsFrom_some→w8,instObj→ZG,OpenLaw→ZI,lookIn→ZN,kitOne→ZO,kitx_list→Zs,kitx_dict→Zt,plainGet→YB,findIn→YR,kIn_of→YS,WalkO→Ya
open PyProof.Rows renaming wpS_bind→vM,wpS_pure→vO,arrOf→vT,Keyed→vU,pendingOf→va,SortSt→vm,wpS_forRange→vo,oneType'→v7,wpS_mono→uD,IntsAre→uG,failedOf→uR,seqObj→uW,wpS_modify→ur,AllBare→tF,wpS_get→tH,wpS_lift→tP,subscriptTail_builtinR→tT,envOfC→tV,args_list_sort→tX,subscriptTail→tu,args_tuple_getitem→sD,plain_sorted→sH,entry_sorted→sI,args_sorted1→sJ,kind_sorted→sP,minRun'→sW
open PySem renaming wpAny_bind→vA,Value→vB,Shared→vG,wpAny_pure→vH,Addr→vJ,starEach→vK,wpAny→vN,FuncData→vP,Program→vS,Expr→vX,mainGlobals→vY,World→vZ,Around→vb,wpAny_ite_split→vc,wpAny_call_entry→ve,bootBuiltins→vf,wpAny_setField_rec→vg,wpAny_holding→vh,wpAny_newObj_type→vi,Heap→vn,sizeLine_eq→vp,wpAny_mono→vq,wpAny_field→vt,Stmt→vx,wpAny_setState_of→vy,swapsWith→vz,backTo→v3,foldedSetIterable→v4,behindInMarks→v5,wpAny_seqItems→v6,rawInt→v8,wpAny_nextOf_list_item→v9,builtinLookup_eq_fast→uA,wpAny_rule→uB,wpAny_isInstance→uC,compareOp→uE,wpAny_truthy_bool→uF,pyNext→uH,attributeBase→uI,wpAny_attempt→uJ,sysModules→uK,assignEach→uM,IsPair→uN,wpAny_passesOwn→uO,Keyword→uP,binaryOp→uQ,wpAny_Call_Name_kw→uS,NameKind→uT,codeAny_builtin→uU,typeLookup_type→uV,wpAny_nextOf_list_end→uX,keywordEach→uY,isSubtype_stop→uZ,intItems→ua,scanBound→ub,cLine→uc,plainId_quiet→ud,tupleKind_room_in1→ue,sliceBounds→uf,wpAny_pyIter_list→ug,codeAny→uh,codeAny_mono→ui,wpAny_typeOf→uj,isSubtype_type→uk,Scope→um,pickOrder→uo,wpAny_updateSeq_pair→ut,wpAny_execs_nil→uu,letOwnedTupleGo→uv,wpAny_specialOf→uw,wpAny_updateSeq→ux,intKind→uy,getItem→uz,setNext→u5,backToKw→u6,call_meets→u7,wpAny_fieldsOf→u8,firstArgMember→u9,wpAny_newTuple→tD,ZipApart→tE,wpAny_pyIter_slot→tG,wpAny_newList→tI,wpAny_comprehension_free→tJ,wpAny_onRaise→tK,tupleKind→tL,PassesOwn→tM,wpAny_askSetting→tN,numAt→tO,IsPart→tQ,typeLookup→tS,wpAny_isTrue_Compare1→tU,codeAny_extend_loopS→tW,wpAny_letGo→tY,intItems_at→tZ,callerA→tf,valueAt→tj,wpAny_standAt→tm,swapsWithSole→tq,swappedStores→tt,pyIter→t7,wpAny_pyIter_tuple→t9,Result→sC,BindsTo→sF,slotArgs→sG,call_meetsIn→sK,Paired→sL,CmpOp→sM,seqIndex_of→sN,wpAny_of_eq→sO,loadIfAlive→sQ,atKey→sS,hashInt→sT,setItem→sU,standAt→sV,GenState→sZ,isTrue→sf,argsOk→si,raiseNew→sm,numAt_eq→sn
noncomputable def vC:=@if_pos
noncomputable def vF:=@if_neg
noncomputable def vL:=@absurd
noncomputable def vQ:=@decide_eq_true
noncomputable def vW:=@decide_eq_false
noncomputable def uL:=@congrArg
local macro_rules|`(∅)=>`(by omega)
local macro_rules|`(⋯)=>`(by decide +kernel)
local macro_rules|`(↥$x)=>`(some (.sh $x))
local macro_rules|`(⇑$x)=>`(by simpa using $x)
local macro_rules|`(tactic|omega)=>`(tactic|lia)
set_option Elab.async false
set_option linter.all false
set_option maxRecDepth 100000
namespace L2
open PySem PySem.Spec PyProof.Rows
noncomputable abbrev Key:=Sum Int Str
noncomputable def zA1:Key->vB->Bool
 | .inl k,v=>Value.isInt k v
 | .inr x,v=>Value.isStrOf x v
noncomputable def keyH(w:vZ):Key->Int
 | .inl k=>sT k
 | .inr x=>hashStr w x
theorem qD:∀{k:Key}{v:vB},zA1 k v=true->(∃i t,k=Sum.inl i/\v=Value.int i t)\/(∃x t,k=Sum.inr x/\v=Value.str x t)
 | .inl i,v,h=>by
  obtain⟨t,e⟩:=Value.isInt_shape (k:=i) (v:=v) h;exact .inl ⟨i,t,rfl,e⟩
 | .inr x,v,h=>by
  obtain⟨t,e⟩:=Value.isStrOf_shape (x:=x) (v:=v) h;exact .inr ⟨x,t,rfl,e⟩
theorem qbO(i:Int)(t:Tok):zA1 (.inl i) (.int i t)=true:=by simp[zA1,Value.isInt]
theorem qc8(x:Str)(t:Tok):zA1 (.inr x) (.str x t)=true:=by simp[zA1,Value.isStrOf]
theorem qgf(a b:Int):decide ((Sum.inl a:Key)=Sum.inl b)=(a==b):=by
 by_cases e:a=b
 ·subst e;simp
 ·have h:¬(Sum.inl a:Key)=Sum.inl b:=λq=>e (Sum.inl.inj q)
  rw[vW h];exact(beq_eq_false_iff_ne.mpr e).symm
theorem qgL(a b:Str):decide ((Sum.inr a:Key)=Sum.inr b)=decide (a=b):=by
 by_cases e:a=b
 ·subst e;simp
 ·have h:¬(Sum.inr a:Key)=Sum.inr b:=λq=>e (Sum.inr.inj q)
  rw[vW h,vW e]
theorem qgp(a:Int)(b:Str):decide ((Sum.inl a:Key)=Sum.inr b)=false:=vW (λq=>nomatch q)
theorem qgI(a:Str)(b:Int):decide ((Sum.inr a:Key)=Sum.inl b)=false:=vW (λq=>nomatch q)
noncomputable def Yx(prog:vS)(w:vZ):PySem.KeyKind prog w Key where
 is:=zA1
 hash:=keyH w
 inj:=λv a b ha hb=>by
  rcases qD ha with⟨i,t,rfl,rfl⟩|⟨x,t,rfl,rfl⟩
  ·rcases qD hb with⟨j,u,rfl,e⟩|⟨y,u,rfl,e⟩
   ·injection e with e1 _;rw[e1]
   ·exact nomatch e
  ·rcases qD hb with⟨j,u,rfl,e⟩|⟨y,u,rfl,e⟩
   ·exact nomatch e
   ·injection e with e1 _;rw[e1]
 byValue:=λk v h=>by
  rcases qD h with⟨i,t,rfl,rfl⟩|⟨x,t,rfl,rfl⟩ <;> rfl
 pyHash:=λhv h=>by
  rcases qD hv with⟨i,t,rfl,rfl⟩|⟨x,t,rfl,rfl⟩
  ·exact wpAny_pyHash_int h
  ·exact wpAny_pyHash_str h
 eqBool:=λhu hv h=>by
  rcases qD hu with⟨i,t,rfl,rfl⟩|⟨x,t,rfl,rfl⟩
  ·rcases qD hv with⟨j,u,rfl,rfl⟩|⟨y,u,rfl,rfl⟩
   ·rw[qgf]at h;exact wpAny_eqBool_int h
   ·rw[qgp]at h;exact SeqAt.EqAt.int_str i t y u _ _ _ _ h
  ·rcases qD hv with⟨j,u,rfl,rfl⟩|⟨y,u,rfl,rfl⟩
   ·rw[qgI]at h;exact SeqAt.EqAt.str_int x t j u _ _ _ _ h
   ·rw[qgL]at h;exact wpAny_eqBool_str h
 «strs»:=λk x t v h=>by
  rcases qD h with⟨i,u,rfl,e⟩|⟨y,u,rfl,e⟩
  ·exact nomatch e
  ·injection e with e1 _
   subst e1;cases v <;> rfl
theorem q99(prog:vS)(w:vZ)(i:Int)(t:Tok):(Yx prog w).is (.inl i) (.int i t)=true:=qbO i t
theorem q9j(prog:vS)(w:vZ)(x:Str)(t:Tok):(Yx prog w).is (.inr x) (.str x t)=true:=qc8 x t
inductive V where
 | non|bl (b:Bool)|int (i:Int)|str (x:Str)|byt (b:Array UInt8)|flt (b:UInt64)|ref (a:vJ)|ty (n:String)
 deriving DecidableEq
def RelV:V->vB->Prop
 | .non,u=>u=Value.none
 | .bl b,u=>u=Value.bool b
 | .int i,u=>∃t,u=Value.int i t
 | .str x,u=>∃t,u=Value.str x t
 | .byt b,u=>∃t,u=Value.bytes b t
 | .flt b,u=>∃t,u=Value.float b t
 | .ref a,u=>u=Value.ref a
 | .ty n,u=>u=Value.type n
abbrev Y2:List V->List vB->Prop:=sL RelV
theorem Y2.length{xs:List V}{us:List vB}(r:Y2 xs us):xs.length=us.length:=Paired.length r
theorem Y2.get:∀{xs:List V}{us:List vB}{i:Nat}{x:V},Y2 xs us->xs[i]?=some x->∃u,us[i]?=some u/\RelV x u
 | _,_,_,_,.nil,e=>by simp at e
 | _,_,0,_,.cons r _,e=>by simp at e;subst e;exact⟨_,rfl,r⟩
 | _,_,i+1,x,.cons _ t,e=>by
  obtain⟨u,h1,h2⟩:=Y2.get (i:=i) (x:=x) t ⇑e;exact⟨u,by simpa using h1,h2⟩
theorem Y2.set{x:V}{u:vB}(r:RelV x u):∀{xs:List V}{us:List vB}(i:Nat),Y2 xs us->Y2 (xs.set i x) (us.set i u)
 | _,_,_,.nil=>.nil
 | _,_,0,.cons _ t=>.cons r t
 | _,_,i+1,.cons q t=>.cons q (Y2.set r i t)
theorem Y2.append:∀{xs ys:List V}{us ws:List vB},Y2 xs us->Y2 ys ws->Y2 (xs++ys) (us++ws)
 | _,_,_,_,.nil,s=>s
 | _,_,_,_,.cons r t,s=>.cons r (Y2.append t s)
theorem Y2.take:∀{xs:List V}{us:List vB}(n:Nat),Y2 xs us->Y2 (xs.take n) (us.take n)
 | _,_,0,_=>.nil
 | _,_,_+1,.nil=>.nil
 | _,_,n+1,.cons r t=>.cons r (Y2.take n t)
theorem Y2.drop:∀{xs:List V}{us:List vB}(n:Nat),Y2 xs us->Y2 (xs.drop n) (us.drop n)
 | _,_,0,r=>r
 | _,_,_+1,.nil=>.nil
 | _,_,n+1,.cons _ t=>Y2.drop n t
def zA4:Option V->Option vB->Prop
 | some v,some u=>RelV v u
 | none,none=>True
 | _,_=>False
def KV{κ:Type}:List (κ×V)->List (κ×vB)->Prop:=sL λ(p:κ×V) (q:κ×vB)=>p.1=q.1/\RelV p.2 q.2
noncomputable def kV:Key->V
 | .inl i=>.int i
 | .inr x=>.str x
inductive HO where
 
 | lst (xs:List V)
 
 | tup (xs:List V)
 
 | dK (kvs:List (Key×V))|dT (kvs:List (List Key×V))
 
 | set (S:Int->Bool) (n:Nat)
 
 | ins (C dx:vJ) (fs:List (Str×V))
 
 | own (x:vJ)
 
 | xd (fs:List (Str×V))
 
 | met (f x:vJ)
 
 | rng (lo hi:Int)
 
 | frz (o:Obj) (u:HO)
 
 | tbl (ps:Array vB)
 
 | ext (φ:vn->Prop)
noncomputable abbrev Hp:=vJ->Option HO
noncomputable def upd(H:Hp)(a:vJ)(o:HO):Hp:=λb=>if b=a then some o else H b
theorem qe{H:Hp}{a:vJ}{o:HO}:upd H a o a=some o:=by unfold upd;rw[vC rfl]
theorem qd{H:Hp}{a b:vJ}{o:HO}(h:b≠a):upd H a o b=H b:=by unfold upd;rw[vF h]
theorem qgP{H:Hp}{a b:vJ}{o u:HO}(h:H a=some o)(h':H b=some u)(d:o≠u):a≠b:=by
 intro e;subst e;rw[h]at h';exact d (zc h')
theorem q0B{H:Hp}{a b:vJ}{o:HO}(h:H a=some o)(h':H b=none):a≠b:=by
 intro e;subst e;rw[h]at h';cases h'
section
variable(P:vS)(w:vZ)
def Y6(H:Hp)(h:vn)(a:vJ):HO->Prop
 | .lst xs=>xs.length<=sizeLine/\∃(its:List vB) (n:Nat),Y2 xs its/\h.get? a=some { cls:=.type "list", data:=.seq its.toArray n }
 | .tup xs=>xs.length<=sizeLine/\∃its:List vB,Y2 xs its/\IsTup h a its.toArray
 | .dK kvs=>kvs.length<=sizeLine/\(a==uK)=false/\∃vs,KV kvs vs/\h.DictOf (Yx P w) a vs
 | .dT kvs=>kvs.length<=sizeLine/\(a==uK)=false/\∃xs:List (List Key×vJ×vB),
   sL (λ(p:List Key×V) (q:List Key×vJ×vB)=>p.1=q.1/\H q.2.1=some (.tup (p.1.map kV))/\RelV p.2 q.2.2) kvs xs /\
   ∃o es ep,h.get? a=some o/\o.ExactDict/\o.data=.dict es ep/\es.toList=xs.map (entryOfKey (tL (Yx P w)))/\(xs.map (·.1)).Nodup
 | .set S n=>h.SetOf (uy P w) a S n
 | .ins C dx fs=>H dx=some (.own a)/\fs.length<=1000/\dx≠a/\h.get? a=some (ZG C dx) /\
   ∃mA,h.Ns1 dx mA/\(∀f,zA4 (fs.lookup f) (mA f))/\PySem.Within mA (fs.map (·.1))
 | .own _=>∃o,h.get? a=some o
 | .xd fs=>∃mA,h.Ns1 a mA/\∀f,zA4 (fs.lookup f) (mA f)
 | .rng lo hi=>∃t u v,h.get? a=some { cls:=.type "range", data:=.fields #[.int lo t,.int hi u,.int 1 v] }
 | .frz o u=>h.get? a=some o/\Y6 H h a u
 | .tbl ps=>h.get? a=some { cls:=.none,data:=.fields ps }
 | .met f x=>h.get? a=some (wd (.ref f) (.ref x))
 | .ext φ=>φ h/\(∃o,h.get? a=some o)/\∀h1 h2:vn,φ h1->(∀o,h1.get? a=some o->h2.get? a=some o)->φ h2
def HOk(H:Hp)(h:vn):Prop:=∀a o,H a=some o->Y6 P w H h a o
end
section
variable{P:vS}{w:vZ}{H H':Hp}{h h':vn}{a:vJ}{o:HO}
theorem Y6.lt(x:Y6 P w H h a o):a<h.objs.size:=by
 cases o with
 | lst xs=>obtain⟨_,_,_,_,e⟩:=x;exact zM e
 | tup xs=>obtain⟨_,_,_,p⟩:=x;exact p.lt
 | dK kvs=>obtain⟨_,_,_,_,o,_,_,e,_⟩:=x;exact zM e
 | dT kvs=>obtain⟨_,_,_,_,o,_,_,e,_⟩:=x;exact zM e
 | set S n=>obtain⟨o,_,_,_,e,_⟩:=x;exact zM e
 | ins C dx fs=>obtain⟨_,_,_,e,_⟩:=x;exact zM e
 | own y=>obtain⟨_,e⟩:=x;exact zM e
 | xd fs=>obtain⟨_,⟨_,_,_,e,_⟩,_⟩:=x;exact zM e
 | rng lo hi=>obtain⟨_,_,_,e⟩:=x;exact zM e
 | frz ob u=>obtain⟨e,_⟩:=x;exact zM e
 | tbl ps=>exact zM (show h.get? a=some _ from x)
 | met f y=>exact zM (show h.get? a=some _ from x)
 | ext φ=>obtain⟨_,⟨_,e⟩,_⟩:=x;exact zM e
theorem Paired.mapP{α β:Type}{F G:α->β->Prop}:∀{l₁:List α}{l₂:List β},sL F l₁ l₂->(∀a b,F a b->G a b)->sL G l₁ l₂
 | _,_,.nil,_=>.nil
 | _,_,.cons r t,f=>.cons (f _ _ r) (Paired.mapP t f)
theorem Y6.stay(x:Y6 P w H h a o)(k:∀b u,(b=a\/H b=some (.own a))->h.get? b=some u->h'.get? b=some u)(ho:∀b,H b=some (.own a)->H' b=some (.own a))(ht:∀b xs,H b=some (.tup xs)->H' b=some (.tup xs)):Y6 P w H' h' a o:=by
 induction o with
 | lst xs=>obtain⟨z,its,n,r,e⟩:=x;exact⟨z,its,n,r,k _ _ (.inl rfl) e⟩
 | tup xs=>obtain⟨z,its,r,ob,e,c⟩:=x;exact⟨z,its,r,ob,k _ _ (.inl rfl) e,c⟩
 | dK kvs=>obtain⟨z,y,vs,r,ob,es,ep,e,c⟩:=x;exact⟨z,y,vs,r,ob,es,ep,k _ _ (.inl rfl) e,c⟩
 | dT kvs=>
  obtain⟨z,y,xs,r,ob,es,ep,e,c⟩:=x;exact⟨z,y,xs,Paired.mapP r λp q z=>⟨z.1,ht _ _ z.2.1,z.2.2⟩,ob,es,ep,k _ _ (.inl rfl) e,c⟩
 | set S n=>obtain⟨ob,es,ep,t,e,c⟩:=x;exact⟨ob,es,ep,t,k _ _ (.inl rfl) e,c⟩
 | ins C dx fs=>
  obtain⟨d,z,ne,e,mA,⟨od,es,ep,e2,c⟩,r⟩:=x;exact⟨ho _ d,z,ne,k _ _ (.inl rfl) e,mA,⟨od,es,ep,k _ _ (.inr d) e2,c⟩,r⟩
 | own y=>obtain⟨ob,e⟩:=x;exact⟨ob,k _ _ (.inl rfl) e⟩
 | xd fs=>obtain⟨mA,⟨od,es,ep,e,c⟩,r⟩:=x;exact⟨mA,⟨od,es,ep,k _ _ (.inl rfl) e,c⟩,r⟩
 | rng lo hi=>obtain⟨t,u,v,e⟩:=x;exact⟨t,u,v,k _ _ (.inl rfl) e⟩
 | frz ob u ih=>obtain⟨e,q⟩:=x;exact⟨k _ _ (.inl rfl) e,ih q⟩
 | tbl ps=>
  have e:h.get? a=some { cls:=.none,data:=.fields ps }:=x;show h'.get? a=some { cls:=.none,data:=.fields ps };exact k a _ (.inl rfl) e
 | met f y=>
  have e:h.get? a=some (wd (.ref f) (.ref y)):=x;show h'.get? a=some (wd (.ref f) (.ref y));exact k a _ (.inl rfl) e
 | ext φ=>obtain⟨p,⟨o,e⟩,st⟩:=x;exact⟨st _ _ p λo q=>k _ _ (.inl rfl) q,⟨o,k _ _ (.inl rfl) e⟩,st⟩
theorem HOk.lt(x:HOk P w H h)(e:H a=some o):a<h.objs.size:=(x a o e).lt
theorem HOk.fresh(x:HOk P w H h)(e:h.objs.size<=a):H a=none:=by
 cases q:H a with
 | none=>rfl
 | some u=>exact vL (zr (x.lt q) e) (xG _)
theorem HOk.kept(x:HOk P w H h)(k:∀b u,h.get? b=some u->h'.get? b=some u):HOk P w H h':=λa o e=>
 (x a o e).stay (λb u _ q=>k b u q) (λ_ q=>q) λ_ _ q=>q
theorem HOk.laid(x:HOk P w H h)(k:∀b u,h.get? b=some u->h'.get? b=some u)(hp:h.objs.size<=a)(new:Y6 P w (upd H a o) h' a o):HOk P w (upd H a o) h':=λb u e=>by
 have hn:=x.fresh hp
 by_cases hb:b=a
 ·subst hb;rw[qe]at e;cases e;exact new
 ·rw[qd hb]at e
  exact(x b u e).stay (λc v _ q=>k c v q) (λc q=>by rw[qd (q0B q hn)];exact q) λc xs q=>by rw[qd (q0B q hn)];exact q
end
def Rd(H:Hp)(a:vJ)(u:HO):Prop:=H a=some u\/∃o,H a=some (.frz o u)
theorem Rd.ok{P:vS}{w:vZ}{H:Hp}{h:vn}{a:vJ}{u:HO}(r:Rd H a u)(x:HOk P w H h):Y6 P w H h a u:=by
 rcases r with r|⟨o,r⟩
 ·exact x a u r
 ·obtain⟨_,q⟩:=x a _ r
  exact q
def Mut:Option HO->Prop
 | some (.lst _)=>True
 | some (.dK _)=>True
 | some (.dT _)=>True
 | some (.set _ _)=>True
 | some (.ins _ _ _)=>True
 | some (.ext _)=>True
 | _=>False
section
variable{P:vS}{w:vZ}{H:Hp}{h h':vn}{x e:vJ}{o':HO}
theorem HOk.write(ok:HOk P w H h)(mu:Mut (H x))(he:e=x\/H e=some (.own x))(k:∀b u,b≠e->h.get? b=some u->h'.get? b=some u)(heo:∃u,h'.get? e=some u)(new:Y6 P w (upd H x o') h' x o'):HOk P w (upd H x o') h':=λb u q=>by
 have nown:∀c y,H c=some (.own y)->c≠x:=λc y r z=>by subst z;rw[r]at mu;exact mu
 have ntup:∀c xs,H c=some (.tup xs)->c≠x:=λc xs r z=>by subst z;rw[r]at mu;exact mu
 by_cases hb:b=x
 ·subst hb;rw[qe]at q;cases q;exact new
 ·rw[qd hb]at q
  by_cases hbe:b=e
  ·have q':H b=some (.own x):=by
    rcases he with z|z
    ·exact vL (hbe.trans z) hb
    ·rw[hbe];exact z
   rw[q]at q';cases q';obtain⟨v,hv⟩:=heo;exact⟨v,by rw[hbe];exact hv⟩
  ·refine(ok b u q).stay (λc v hc r=>k c v ?_ r) (λc r=>by rw[qd (nown c b r)];exact r) λc xs r=>by rw[qd (ntup c xs r)];exact r
   rcases hc with rfl|hc
   ·exact hbe
   ·rintro rfl
    rcases he with z|z
    ·exact nown c b hc z
    ·rw[hc]at z;cases z;exact hb rfl
end
structure Un (fs ex:List vJ) (H H':Hp) (h h':vn):Prop where
 keep:∀b o,h.get? b=some o->H b=none->b∉fs->b∉ex->h'.get? b=some o
 slot:∀b o,h.get? b=some o->H b=none->b∈fs->b∉ex->∃sl,h'.get? b=some { o with slots:=sl }
 free:∀b o,h.get? b=some o->H b=none->b∉ex->H' b=none
 there:∀b o,h.get? b=some o->b∉ex->∃o',h'.get? b=some o'
 tups:∀b xs,H b=some (.tup xs)->H' b=some (.tup xs)
 frzs:∀b o u,H b=some (.frz o u)->H' b=some (.frz o u)
 tbls:∀b ps,H b=some (.tbl ps)->∃more,H' b=some (.tbl (ps++more))
section
variable{fs fs' ex ex':List vJ}{H H1 H2:Hp}{h h1 h2 h':vn}{a x e:vJ}{o:HO}
theorem Un.any(u:Un fs ex H H1 h h1){b:vJ}{ob:Obj}(q:h.get? b=some ob)(n:H b=none)(hx:b∉ex):∃sl,h1.get? b=some { ob with slots:=sl }:=by
 by_cases hb:b∈fs
 ·exact u.slot b ob q n hb hx
 ·exact⟨ob.slots,u.keep b ob q n hb hx⟩
theorem Un.kept(k:∀b u,h.get? b=some u->h'.get? b=some u):Un fs ex H H h h' :=
 ⟨λb ob q _ _ _=>k b ob q,λb ob q _ _ _=>⟨ob.slots,k b ob q⟩,λ_ _ _ n _=>n,λb ob q _=>⟨ob,k b ob q⟩,λ_ _ q=>q,λ_ _ _ q=>q,λ_ ps q=>⟨#[],by rw[q];simp⟩⟩
theorem Un.refl:Un fs ex H H h h:=Un.kept λ_ _ q=>q
theorem Un.laid(k:∀b u,h.get? b=some u->h'.get? b=some u)(hp:h.objs.size<=a)(hn:H a=none):Un fs ex H (upd H a o) h h' where
 keep:=λb u q _ _ _=>k b u q
 slot:=λb u q _ _ _=>⟨u.slots,k b u q⟩
 free:=λb u q n _=>by rw[qd (zg (zr (zM q) hp))];exact n
 there:=λb u q _=>⟨u,k b u q⟩
 tups:=λb xs q=>by rw[qd (q0B q hn)];exact q
 frzs:=λb u xs q=>by rw[qd (q0B q hn)];exact q
 tbls:=λb ps q=>⟨#[],by rw[qd (q0B q hn),q];simp⟩
theorem Un.write(mu:Mut (H x))(he:e=x\/H e=some (.own x))(k:∀b u,b≠e->h.get? b=some u->h'.get? b=some u)(heo:∃u,h'.get? e=some u):Un fs ex H (upd H x o) h h':=by
 have hx:∀b,H b=none->b≠x:=λb n z=>by subst z;rw[n]at mu;exact mu
 have hb:∀b,H b=none->b≠e:=λb n z=>by
  subst z;rcases he with r|r
  ·exact hx b n r
  ·rw[n]at r;cases r
 have hm:∀b u,H b=some u->¬Mut (some u)->b≠x:=λb u q nm z=>by subst z;rw[q]at mu;exact nm mu
 refine⟨λb u q n _ _=>k b u (hb b n) q,λb u q n _ _=>⟨u.slots,k b u (hb b n) q⟩,λb u q n _=>by rw[qd (hx b n)];exact n,λb u q _=>?_,
  λb xs q=>by rw[qd (hm b _ q λz=>z)];exact q,λb u xs q=>by rw[qd (hm b _ q λz=>z)];exact q,λb ps q=>⟨#[],by rw[qd (hm b _ q λz=>z),q];simp⟩⟩
 by_cases hbe:b=e
 ·subst hbe;exact heo
 ·exact⟨u,k b u hbe q⟩
end
noncomputable def trk(h:vn)(H:Hp):List vJ:=(zw h.objs.size).filter λa=>(H a).isSome
noncomputable def zBm(h:vn)(H:Hp):vn:=PySem.W.hideAll h (trk h H)
theorem qcx(h:vn)(H:Hp):(zBm h H).objs.size=h.objs.size:=PySem.W.hideAll_size _ _
theorem qdC{h:vn}{H:Hp}{b:vJ}{o:Obj}(e:h.get? b=some o)(n:H b=none):(zBm h H).get? b=some o :=
 PySem.W.hideAll_get _ e λhm=>by
  have q:(H b).isSome=true:=(xa.mp hm).2;rw[n]at q;simp at q
theorem qf0{h:vn}{H:Hp}{b:vJ}{o:Obj}(e:(zBm h H).get? b=some o):h.get? b=some o/\H b=none:=by
 have e':h.get? b=some o:=PySem.W.of_hideAll (trk h H) e;refine⟨e',?_⟩;cases q:H b with
 | none=>rfl
 | some x=>
  have hm:b∈trk h H:=xa.mpr ⟨xW.mpr (zM e'),by simp[q]⟩;have z:(zBm h H).get? b=none:=PySem.W.hideAll_none (trk h H) hm;rw[z]at e;cases e
noncomputable def zCd(g h:vn)(L:vJ):List (vJ×Obj):=(zw h.objs.size).filterMap λa=>if a=L\/(g.get? a).isSome=true then none else (h.get? a).map λo=>(a,o)
noncomputable def rest(g h:vn)(L d:vJ):List (vJ×Obj):=(zCd g h L).filter λp=>decide (p.1≠d)
structure Mod (K:zA) (mg:Str->Option vB) (base:vn):Prop where
 kin:K.In base
 glob:base.Ns vY mg
 blt:∃mb,base.Ns builtinsNs mb/\∀x:Str,x ≠ "__name__" -> mb x=vf x
 nolimit:base.NoLimit
structure Cx where
 prog:vS
 w:vZ
 K:zA
 mg:Str->Option vB
 base:vn
 A:vb
 N:List Str
 s₀:vG
 H₀:Hp
 env:Env
 outer:List Env
 stack:List Env
 ex:List vJ
 fn:Str->Bool
 calm:Bool
 pn:List (vJ×Obj)
 xe:vB->vG->Prop
noncomputable def frs(l:List Env):List vJ:=l.filterMap (·.frame)
noncomputable abbrev Cx.fs(X:Cx):List vJ:=frs X.outer
def Vis(sc:um)(x:Str):Prop:=sc.names.lookup x=some .local\/sc.names.lookup x=some .cell\/sc.names.lookup x=some .free
def Loc(sc:um)(x:Str):Prop:=sc.names.lookup x=some .local\/sc.names.lookup x=some .cell
def Look(env:Env)(h:vn)(m:Str->Option vB)(x:Str)(u:vB):Prop :=
 (env.kindOf x=some .local/\m x=some u)\/((env.kindOf x=some .cell\/env.kindOf x=some .free)/\∃c,env.cells.lookup x=some c/\h.IsCell c (some u))
structure Cx.Ok (X:Cx):Prop where
 mod:Mod X.K X.mg X.base
 kind:X.env.scope.kind=.function
 glob:X.env.globals=vY
 blt:X.env.builtins=builtinsNs
 above:X.s₀.heap.objs.size<=X.env.locals
 inj:∀x y c,X.env.cells.lookup x=some c->X.env.cells.lookup y=some c->x=y
 has:∀x,(X.env.kindOf x=some .cell\/X.env.kindOf x=some .free)->∃c,X.env.cells.lookup x=some c
 cab:∀x c,X.fn x=true->X.env.cells.lookup x=some c->X.s₀.heap.objs.size<=c
 hd:X.calm=true->X.A.handled=none
 frames:X.A.frames=some X.stack
 stk:X.stack=X.outer\/(X.stack=X.env::X.outer/\X.env.frame=some X.env.locals)
 exf:∀b∈X.ex,b≠X.env.locals/\∀x c,X.env.cells.lookup x=some c->c≠b
 bs:∀b o,X.base.get? b=some o->X.s₀.heap.get? b=some o/\X.H₀ b=none
 bsz:X.base.objs.size<=X.s₀.heap.objs.size
 noex:∀b o,X.base.get? b=some o->b∉X.ex
 exfs:∀b∈X.ex,b∉X.fs
 funs:X.s₀.heap.FunFrames X.base X.outer
 frf:∀b∈X.fs,X.H₀ b=none
structure Inv (X:Cx) (pins:List (vJ×Obj)) (σ:List (Option V)) (H:Hp) (s:vG):Prop where
 ok:X.Ok
 os:s.os=X.s₀.os
 bare:tF s.gens
 base:Un X.fs X.ex X.H₀ H X.s₀.heap s.heap
 loc:∃m,s.heap.Ns X.env.locals m/\∀(i:Nat)(x:Str)(v:V),X.N[i]?=some x->σ[i]?=some (some v)->Vis X.env.scope x->∃u,RelV v u/\Look X.env s.heap m x u
 cell:∀x c,X.env.cells.lookup x=some c->∃v,s.heap.IsCell c v
 free:H X.env.locals=none
 freeC:∀x c,X.env.cells.lookup x=some c->H c=none
 pin:∀p∈X.pn++pins,s.heap.get? p.1=some p.2/\H p.1=none/\p.1≠X.env.locals/\p.1∉X.fs/\∀v,p.2.data≠.cell v
 hok:HOk X.prog X.w H s.heap
 len:σ.length=X.N.length
section
variable{X:Cx}{pins:List (vJ×Obj)}{σ:List (Option V)}{H H':Hp}{s:vG}{h':vn}
theorem Cx.Ok.nofr(ok:X.Ok){b:vJ}{o:Obj}(e:X.base.get? b=some o):b∉X.fs:=λhb=>by
 have:=(ok.funs.mem hb).1;rw[e]at this;cases this
theorem Inv.bs(I:Inv X pins σ H s):∀b o,X.base.get? b=some o->s.heap.get? b=some o/\H b=none:=λb o e=>
 ⟨I.base.keep b o (I.ok.bs b o e).1 (I.ok.bs b o e).2 (I.ok.nofr e) (I.ok.noex b o e),I.base.free b o (I.ok.bs b o e).1 (I.ok.bs b o e).2 (I.ok.noex b o e)⟩
theorem Inv.bk(I:Inv X pins σ H s):∀b o,X.base.get? b=some o->s.heap.get? b=some o:=λb o e=>(I.bs b o e).1
theorem Inv.mod(I:Inv X pins σ H s):Mod X.K X.mg X.base:=I.ok.mod
theorem Inv.kIn(I:Inv X pins σ H s):X.K.In s.heap:=I.ok.mod.kin.keeps I.bk
theorem Inv.lt(I:Inv X pins σ H s):X.env.locals<s.heap.objs.size:=let ⟨_,hn,_⟩:=I.loc;hn.lt
theorem Inv.sz(I:Inv X pins σ H s):X.s₀.heap.objs.size<=s.heap.objs.size:=yK I.ok.above (yZ I.lt)
theorem Inv.nofs(I:Inv X pins σ H s){a:vJ}(h:s.heap.objs.size<=a):a∉X.fs:=λhb=>by
 obtain⟨_,o,ho,_⟩:=I.ok.funs.mem hb;exact vL (zr (zM ho) (yK I.sz h)) (xG _)
theorem Inv.cne(I:Inv X pins σ H s):∀x c,X.env.cells.lookup x=some c->c≠X.env.locals:=λx c e z=>by
 obtain⟨v,o,ho,hd⟩:=I.cell x c e;obtain⟨m,⟨o',es,ep,ho',hd',_⟩,_⟩:=I.loc;rw[z,ho']at ho;cases ho;rw[hd']at hd;cases hd
theorem Inv.funs(I:Inv X pins σ H s):s.heap.FunFrames X.base X.outer:=by
 have all:∀(l:List Env),(∀b∈frs l,b∈X.fs)->X.s₀.heap.FunFrames X.base l->s.heap.FunFrames X.base l:=by
  intro l
  induction l with
  | nil=>intro _ _;trivial
  | cons env r ih=>
   intro hs hl;obtain⟨hk,⟨L,o,hf,hn,ho,hd⟩,hr⟩:=hl;have hL:L∈X.fs:=hs L (by unfold frs;rw[xU,hf];exact zI);obtain⟨sl,e⟩:=I.base.slot L o ho (I.ok.frf L hL) hL λz=>I.ok.exfs L z hL;exact⟨hk,⟨L,_,hf,hn,e,hd⟩,ih (λb hb=>hs b (by unfold frs;rw[xU,hf];exact zH _ hb)) hr⟩
 exact all X.outer (λ_ hb=>hb) I.ok.funs
theorem Inv.stack(I:Inv X pins σ H s):s.heap.FunFrames X.base X.stack:=by
 rcases I.ok.stk with e|⟨e,hf⟩
 ·rw[e];exact I.funs
 ·rw[e]
  obtain⟨m,hn,_⟩:=I.loc;refine .cons (by rw[I.ok.kind];decide) hf hn ?_ I.funs;exact Heap.get?_none_of_le (yK I.ok.bsz I.ok.above)
theorem Inv.stkSub(I:Inv X pins σ H s):∀b∈frs X.stack,b∈X.env.locals::X.fs:=λb hb=>by
 rcases I.ok.stk with e|⟨e,hf⟩
 ·rw[e]at hb;exact zH _ hb
 ·rw[e]at hb
  unfold frs at hb;rw[xU,hf]at hb;exact hb
theorem Inv.stkFree(I:Inv X pins σ H s):∀b∈frs X.stack,H b=none:=λb hb=>by
 rcases zG.mp (I.stkSub b hb)with e|hb
 ·rw[e];exact I.free
 ·obtain⟨_,o,ho,_⟩:=I.ok.funs.mem hb
  exact I.base.free b o ho (I.ok.frf b hb) λz=>I.ok.exfs b z hb
theorem Inv.step{g':Array sZ}{t':Nat}{d':Drawn}{ch:List vJ}(I:Inv X pins σ H s)(hch:∀b∈ch,(b∈X.ex\/X.s₀.heap.objs.size<=b)/\b≠X.env.locals/\(∀x c,X.env.cells.lookup x=some c->c≠b)/\∀p∈X.pn++pins,p.1≠b)(keep:∀b o,b≠X.env.locals->b∉X.fs->b∉ch->s.heap.get? b=some o->H b=none->h'.get? b=some o)(slot:∀b o,b≠X.env.locals->b∈X.fs->b∉ch->s.heap.get? b=some o->H b=none->∃sl,h'.get? b=some { o with slots:=sl })(free:∀b o,b∉ch->s.heap.get? b=some o->H b=none->H' b=none)(there:∀b o,b∉ch->s.heap.get? b=some o->∃o',h'.get? b=some o')(tups:∀b xs,H b=some (.tup xs)->H' b=some (.tup xs))(frzs:∀b o u,H b=some (.frz o u)->H' b=some (.frz o u))(tbls:∀b ps,H b=some (.tbl ps)->∃more,H' b=some (.tbl (ps++more)))(ns:∀m,s.heap.Ns X.env.locals m->h'.Ns X.env.locals m)(hok:HOk X.prog X.w H' h')(hg:tF g'):
  Inv X pins σ H' { s with heap:=h',gens:=g',drawn:=d',toks:=t' }:=by
 have neL:∀b o,X.s₀.heap.get? b=some o->b≠X.env.locals:=λb o e=>zg (zr (zM e) I.ok.above);have neC:∀b o,X.s₀.heap.get? b=some o->b∉X.ex->b∉ch:=λb o e hx hb=>by
  rcases (hch b hb).1 with z|z
  ·exact hx z
  ·exact vL (zr (zM e) z) (xG _)
 have cellK:∀x c,X.env.cells.lookup x=some c->∀v,s.heap.IsCell c v->h'.IsCell c v:=λx c e v ⟨o,ho,hd⟩=>by
  have nch:c∉ch:=λz=>(hch c z).2.2.1 x c e rfl
  by_cases hc:c∈X.fs
  ·obtain⟨sl,q⟩:=slot c o (I.cne x c e) hc nch ho (I.freeC x c e)
   exact⟨_,q,hd⟩
  ·exact⟨o,keep c o (I.cne x c e) hc nch ho (I.freeC x c e),hd⟩
 refine⟨I.ok,I.os,hg,⟨λb o e n hb hx=>?_,λb o e n hb hx=>?_,λb o e n hx=>?_,λb o e hx=>?_,λb xs e=>tups b xs (I.base.tups b xs e),λb o xs e=>frzs b o xs (I.base.frzs b o xs e),λb ps e=>?_⟩,?_,λx c e=>?_,?_,λx c e=>?_,λp hp=>?_,hok,I.len⟩
 ·exact keep b o (neL b o e) hb (neC b o e hx) (I.base.keep b o e n hb hx) (I.base.free b o e n hx)
 ·obtain⟨sl,e1⟩:=I.base.slot b o e n hb hx
  obtain⟨sl',e2⟩:=slot b _ (neL b o e) hb (neC b o e hx) e1 (I.base.free b o e n hx);exact⟨sl',e2⟩
 ·obtain⟨o',e1⟩:=I.base.there b o e hx
  exact free b o' (neC b o e hx) e1 (I.base.free b o e n hx)
 ·obtain⟨o',e1⟩:=I.base.there b o e hx
  exact there b o' (neC b o e hx) e1
 ·obtain⟨m1,e1⟩:=I.base.tbls b ps e
  obtain⟨m2,e2⟩:=tbls b _ e1;exact⟨m1++m2,by rw[e2,Array.append_assoc]⟩
 ·obtain⟨m,hn,hl⟩:=I.loc
  refine⟨m,ns m hn,λi x v e1 e2 e3=>?_⟩;obtain⟨u,r,l⟩:=hl i x v e1 e2 e3;refine⟨u,r,?_⟩;rcases l with l|⟨k,c,e,z⟩
  ·exact .inl l
  ·exact .inr ⟨k,c,e,cellK x c e _ z⟩
 ·obtain⟨v,z⟩:=I.cell x c e
  exact⟨v,cellK x c e v z⟩
 ·obtain⟨m,⟨o,_,_,ho,_⟩,_⟩:=I.loc
  exact free _ o (λz=>(hch _ z).2.1 rfl) ho I.free
 ·obtain⟨v,o,ho,hd⟩:=I.cell x c e
  exact free c o (λz=>(hch c z).2.2.1 x c e rfl) ho (I.freeC x c e)
 ·obtain⟨e,n,ne,nf,d⟩:=I.pin p hp
  have nch:p.1∉ch:=λz=>(hch p.1 z).2.2.2 p hp rfl;exact⟨keep p.1 p.2 ne nf nch e n,free p.1 p.2 nch e n,ne,nf,d⟩
theorem Inv.un{t':Nat}(I:Inv X pins σ H s)(u:Un X.fs [] H H' s.heap h')(hok:HOk X.prog X.w H' h'):Inv X pins σ H' { s with heap:=h',toks:=t' }:=by
 obtain⟨m,⟨o,es,ep,ho,r⟩,_⟩:=id I.loc;obtain⟨sl,hL⟩:=u.any ho I.free (by simp);exact I.step (g':=s.gens) (d':=s.drawn) (ch:=[]) (λ_ z=>nomatch z) (λb o _ hb _ e n=>u.keep b o e n hb (by simp)) (λb o _ hb _ e n=>u.slot b o e n hb (by simp)) (λb o _ e n=>u.free b o e n (by simp)) (λb o _ e=>u.there b o e (by simp)) u.tups u.frzs u.tbls (λm' hm=>by
  obtain⟨o',es',ep',ho',r'⟩:=hm;rw[ho]at ho';cases ho';exact⟨_,es',ep',hL,r'⟩) hok I.bare
theorem Inv.call{g':Array sZ}{t':Nat}{d':Drawn}{ch:List vJ}(I:Inv X pins σ H s)(u:Un (frs X.stack) ch H H' s.heap h')(hok:HOk X.prog X.w H' h')(hg:tF g')(hch:∀b∈ch,(b∈X.ex\/X.s₀.heap.objs.size<=b)/\b≠X.env.locals/\(∀x c,X.env.cells.lookup x=some c->c≠b)/\∀p∈X.pn++pins,p.1≠b):
  Inv X pins σ H' { s with heap:=h',gens:=g',drawn:=d',toks:=t' }:=by
 obtain⟨m,⟨o,es,ep,ho,r⟩,_⟩:=id I.loc;obtain⟨sl,hL⟩:=u.any ho I.free λz=>(hch _ z).2.1 rfl;exact I.step (ch:=ch) hch (λb o hL hb hc e n=>u.keep b o e n (λz=>(zG.mp (I.stkSub b z)).elim hL hb) hc) (λb o _ _ hc e n=>u.any e n hc) (λb o hc e n=>u.free b o e n hc) (λb o hc e=>u.there b o e hc) u.tups u.frzs u.tbls (λm' hm=>by
  obtain⟨o',es',ep',ho',r'⟩:=hm;rw[ho]at ho';cases ho';exact⟨_,es',ep',hL,r'⟩) hok hg
theorem Inv.turned{t':Nat}{it:vJ}(I:Inv X pins σ H s)(k:∀b o,b≠it->s.heap.get? b=some o->h'.get? b=some o)(hn:H it=none)(hL:it≠X.env.locals)(h1:it∈X.ex\/X.s₀.heap.objs.size<=it)(h2:∀x c,X.env.cells.lookup x=some c->c≠it)(h3:∀p∈X.pn++pins,p.1≠it):Inv X pins σ H { s with heap:=h',toks:=t' }:=by
 have nit:∀b u,H b=some u->b≠it:=λb u e z=>by rw[z,hn]at e;cases e
 refine I.step (g':=s.gens) (d':=s.drawn) (ch:=[it]) (λb hb=>?_) (λb o _ _ hc e _=>k b o (λz=>hc (by simp[z])) e) (λb o _ _ hc e _=>⟨o.slots,k b o (λz=>hc (by simp[z])) e⟩) (λ_ _ _ _ n=>n)
  (λb o hc e=>⟨o,k b o (λz=>hc (by simp[z])) e⟩) (λ_ _ e=>e) (λ_ _ _ e=>e) (λb ps e=>⟨#[],by rw[e];simp⟩) (λm hm=>?_) (λb u e=>?_) I.bare
 ·have e:b=it:=by simpa using hb
  subst e;exact⟨h1,hL,h2,h3⟩
 ·obtain⟨o,es,ep,ho,r⟩:=hm
  exact⟨o,es,ep,k _ o (Ne.symm hL) ho,r⟩
 ·refine(I.hok b u e).stay (λc v hc q=>k c v ?_ q) (λ_ q=>q) λ_ _ q=>q
  rcases hc with z|z
  ·rw[z];exact nit b u e
  ·exact nit c _ z
theorem Inv.tok(I:Inv X pins σ H s)(t:Nat):Inv X pins σ H { s with toks:=t }:=I.un (h':=s.heap) (t':=t) Un.refl I.hok
theorem Inv.kept{t':Nat}(I:Inv X pins σ H s)(k:∀b u,s.heap.get? b=some u->h'.get? b=some u):Inv X pins σ H { s with heap:=h',toks:=t' }:=I.un (Un.kept k) (I.hok.kept k)
theorem Inv.laid{a:vJ}{o:HO}{t':Nat}(I:Inv X pins σ H s)(k:∀b u,s.heap.get? b=some u->h'.get? b=some u)(hp:s.heap.objs.size<=a)(new:Y6 X.prog X.w (upd H a o) h' a o):
  Inv X pins σ (upd H a o) { s with heap:=h',toks:=t' }:=I.un (Un.laid k hp (I.hok.fresh hp)) (I.hok.laid k hp new)
theorem Inv.write{x e:vJ}{o:HO}{t':Nat}(I:Inv X pins σ H s)(mu:Mut (H x))(he:e=x\/H e=some (.own x))(k:∀b u,b≠e->s.heap.get? b=some u->h'.get? b=some u)(heo:∃u,h'.get? e=some u)(new:Y6 X.prog X.w (upd H x o) h' x o):Inv X pins σ (upd H x o) { s with heap:=h',toks:=t' }:=I.un (Un.write mu he k heo) (I.hok.write mu he k heo new)
theorem Inv.pins_of{pins':List (vJ×Obj)}(I:Inv X pins σ H s)(h:∀p∈pins',s.heap.get? p.1=some p.2/\H p.1=none/\p.1≠X.env.locals/\p.1∉X.fs/\∀v,p.2.data≠.cell v):Inv X pins' σ H s :=
 ⟨I.ok,I.os,I.bare,I.base,I.loc,I.cell,I.free,I.freeC,λp hp=>(zT.mp hp).elim (λz=>I.pin p (zu _ z)) (h p),I.hok,I.len⟩
theorem q7Q{N:List Str}(hN:N.Nodup){i j:Nat}{x:Str}(a:N[i]?=some x)(b:N[j]?=some x):i=j:=by
 obtain⟨h1,e1⟩:=zf.mp a;obtain⟨h2,e2⟩:=zf.mp b;exact(wJ hN).mp (e1.trans e2.symm)
theorem q7c{M:Model}{A:vb}{E:vB->vG->Prop}{i:Nat}{x:Str}{v:V}{u:vB}{Q:Unit->vG->Prop}(I:Inv X pins σ H s)(hN:X.N.Nodup)(hi:X.N[i]?=some x)(hx:Loc X.env.scope x)(r:RelV v u)(h:∀s',Inv X pins (σ.set i (some v)) H s'->(∃a,xP a s.heap s'.heap/\(a=X.env.locals\/X.env.cells.lookup x=some a))->Q () s')(hf:X.fn x=true\/X.env.scope.names.lookup x=some .local:=by first|exact .inl rfl|exact .inr rfl|assumption):vN M A (storeName X.env x u) Q E s:=by
 obtain⟨m,hn,hl⟩:=id I.loc;have hcls:(X.env.scope.kind == .class || (X.env.scope.kind == .module&&X.env.locals != X.env.globals))=false:=by rw[I.ok.kind];rfl
 have hiσ:i<σ.length:=by rw[I.len];exact(zf.mp hi).1
 have cne:=I.cne;have tracked:∀{a:vJ}{h':vn},(∃o,s.heap.get? a=some o/\H a=none)->xP a s.heap h'->HOk X.prog X.w H h':=λ{a h'} ha hs b ob e=>by
  obtain⟨_,_,hfree⟩:=ha;refine(I.hok b ob e).stay (λc w' hc q=>(hs.2 c ?_).trans q) (λ_ q=>q) λ_ _ q=>q;rintro rfl;rcases hc with rfl|hc
  ·rw[hfree]at e;cases e
  ·rw[hfree]at hc;cases hc
 rcases hx with hk|hk
 ·refine wpAny_storeName_local hk hn (λh' hn' hs=>?_) hcls
  obtain⟨oL,_,_,hoL,_⟩:=id hn;refine h _ ⟨I.ok,I.os,I.bare,⟨λb o e n hb hx=>?_,λb o e n hb hx=>?_,I.base.free,λb o e hx=>?_,I.base.tups,I.base.frzs,I.base.tbls⟩,⟨_,hn',λj y v' e1 e2 e3=>?_⟩,λy c e=>?_,I.free,I.freeC,λp hp=>?_,tracked ⟨oL,hoL,I.free⟩ hs,by simpa using I.len⟩ ⟨_,hs,.inl rfl⟩
  ·exact(hs.2 b (zg (zr (zM e) I.ok.above))).trans (I.base.keep b o e n hb hx)
  ·obtain⟨sl,e1⟩:=I.base.slot b o e n hb hx
   exact⟨sl,(hs.2 b (zg (zr (zM e) I.ok.above))).trans e1⟩
  ·obtain⟨o',e1⟩:=I.base.there b o e hx
   exact⟨o',(hs.2 b (zg (zr (zM e) I.ok.above))).trans e1⟩
  ·by_cases hj:j=i
   ·subst hj
    rw[hi]at e1;cases e1;rw[yL hiσ]at e2;cases e2;exact⟨u,r,.inl ⟨hk,by simp⟩⟩
   ·rw[zJ (Ne.symm hj)]at e2
    obtain⟨u',r',q⟩:=hl j y v' e1 e2 e3;refine⟨u',r',?_⟩;rcases q with⟨k,e⟩|⟨k,c,e,z⟩
    ·refine .inl ⟨k,?_⟩
     have:y≠x:=λe=>hj (q7Q hN e1 (e▸hi));simp[this,e]
    ·exact .inr ⟨k,c,e,z.sameBut hs (cne y c e)⟩
  ·obtain⟨w',z⟩:=I.cell y c e
   exact⟨w',z.sameBut hs (cne y c e)⟩
  ·obtain⟨e,n,ne,nf,d⟩:=I.pin p hp
   exact⟨(hs.2 p.1 ne).trans e,n,ne,nf,d⟩
 ·have hfn:X.fn x=true:=by
   rcases hf with z|z
   ·exact z
   ·rw[z]at hk;cases hk
  obtain⟨c,hc⟩:=I.ok.has x (.inl hk);obtain⟨w',z⟩:=I.cell x c hc;refine wpAny_storeName_cell I.ok.kind hk hc z (λh' hc' hs=>?_);obtain⟨oc,hoc,hocd⟩:=id z;refine h { s with heap:=h' } ⟨I.ok,I.os,I.bare,⟨λb o e n hb hx=>?_,λb o e n hb hx=>?_,I.base.free,λb o e hx=>?_,I.base.tups,I.base.frzs,I.base.tbls⟩,⟨m,hn.sameBut hs (Ne.symm (cne x c hc)),λj y v' e1 e2 e3=>?_⟩,λy c' e=>?_,I.free,I.freeC,λp hp=>?_,tracked ⟨oc,hoc,I.freeC x c hc⟩ hs,by simpa using I.len⟩ ⟨c,hs,.inr hc⟩
  ·exact(hs.2 b (zg (zr (zM e) (I.ok.cab x c hfn hc)))).trans (I.base.keep b o e n hb hx)
  ·obtain⟨sl,e1⟩:=I.base.slot b o e n hb hx
   exact⟨sl,(hs.2 b (zg (zr (zM e) (I.ok.cab x c hfn hc)))).trans e1⟩
  ·obtain⟨o',e1⟩:=I.base.there b o e hx
   exact⟨o',(hs.2 b (zg (zr (zM e) (I.ok.cab x c hfn hc)))).trans e1⟩
  ·by_cases hj:j=i
   ·subst hj
    rw[hi]at e1;cases e1;rw[yL hiσ]at e2;cases e2;exact⟨u,r,.inr ⟨.inl hk,c,hc,hc'⟩⟩
   ·rw[zJ (Ne.symm hj)]at e2
    obtain⟨u',r',q⟩:=hl j y v' e1 e2 e3;refine⟨u',r',?_⟩;rcases q with q|⟨k,c',e,z'⟩
    ·exact .inl q
    ·refine .inr ⟨k,c',e,z'.sameBut hs ?_⟩
     rintro rfl;exact hj (q7Q hN e1 (I.ok.inj _ _ _ e hc▸hi))
  ·by_cases hcc:c'=c
   ·subst hcc;exact⟨_,hc'⟩
   ·obtain⟨w2,z2⟩:=I.cell y c' e
    exact⟨w2,z2.sameBut hs hcc⟩
  ·obtain⟨e,n,ne,nf,d⟩:=I.pin p hp
   refine⟨(hs.2 p.1 ?_).trans e,n,ne,nf,d⟩;intro q;rw[q,hoc]at e;have q':oc=p.2:=zc e;exact d w' (by rw[<- q'];exact hocd)
theorem q8Q{M:Model}{A:vb}{E:vB->vG->Prop}{i:Nat}{x:Str}{v:V}{u:vB}{Q:Unit->vG->Prop}(I:Inv X pins σ H s)(hN:X.N.Nodup)(hi:X.N[i]?=some x)(hx:Loc X.env.scope x)(r:RelV v u)(h:∀s',Inv X pins (σ.set i (some v)) H s'->Q () s')(hf:X.fn x=true\/X.env.scope.names.lookup x=some .local:=by first|exact .inl rfl|exact .inr rfl|assumption):vN M A (storeName X.env x u) Q E s :=
 q7c I hN hi hx r (λs' I' _=>h s' I') hf
theorem Inv.call'{s':vG}{ch:List vJ}(I:Inv X pins σ H s)(ho:s'.os=s.os)(u:Un (frs X.stack) ch H H' s.heap s'.heap)(hok:HOk X.prog X.w H' s'.heap)(hg:tF s'.gens)(hch:∀b∈ch,(b∈X.ex\/X.s₀.heap.objs.size<=b)/\b≠X.env.locals/\(∀x c,X.env.cells.lookup x=some c->c≠b)/\∀p∈X.pn++pins,p.1≠b):Inv X pins σ H' s':=by
 obtain⟨h',g',d',t',o'⟩:=s';have e:o'=s.os:=ho;subst e;exact I.call (g':=g') (t':=t') (d':=d') u hok hg hch
end
abbrev XK:=vB->Option vJ->Hp->Prop
noncomputable abbrev St:=List (Option V)
abbrev VK:=V->Hp->Prop
abbrev TE:=St->Hp->VK->Prop
abbrev TT:=St->Hp->(Bool->Hp->Prop)->Prop
abbrev TA:=St->Hp->(List V->Hp->Prop)->Prop
structure Ends where
 nx:St->Hp->Prop
 rt:VK
 bk:St->Hp->Prop:=λ_ _=>False
 ct:St->Hp->Prop:=λ_ _=>False
abbrev TS:=Ends->St->Hp->Prop
def EP(X:Cx)(pins:List (vJ×Obj))(σ:St)(Q:VK)(u:vB)(s':vG):Prop:=∃v H',Inv X pins σ H' s'/\RelV v u/\Q v H'
def TP(X:Cx)(pins:List (vJ×Obj))(σ:St)(Q:Bool->Hp->Prop)(b:Bool)(s':vG):Prop:=∃H',Inv X pins σ H' s'/\Q b H'
def AP(X:Cx)(pins:List (vJ×Obj))(σ:St)(Q:List V->Hp->Prop)(us:List vB)(s':vG):Prop:=∃vs H',Inv X pins σ H' s'/\Y2 vs us/\Q vs H'
def SP(X:Cx)(pins:List (vJ×Obj))(D:Ends)(f:Flow)(s':vG):Prop :=
 match f with
 | .next=>∃σ' H',Inv X pins σ' H' s'/\D.nx σ' H'
 | .brk=>∃σ' H',Inv X pins σ' H' s'/\D.bk σ' H'
 | .cont=>∃σ' H',Inv X pins σ' H' s'/\D.ct σ' H'
 | .ret u=>∃v σ' H',Inv X pins σ' H' s'/\RelV v u/\D.rt v H'
def PE(X:Cx)(e:vX)(t:TE):Prop :=
 ∀(pins:List (vJ×Obj))(s:vG)(σ:St)(H:Hp)(Q:VK),Inv X pins σ H s->t σ H Q->vN (model X.prog X.w) X.A (eval e X.env) (EP X pins σ Q) X.xe s
def PT(X:Cx)(e:vX)(t:TT):Prop :=
 ∀(pins:List (vJ×Obj))(s:vG)(σ:St)(H:Hp)(Q:Bool->Hp->Prop),Inv X pins σ H s->t σ H Q->vN (model X.prog X.w) X.A (sf e X.env (eval e X.env)) (TP X pins σ Q) X.xe s
def PW(X:Cx)(e:vX)(t:TT):Prop :=
 ∀(whole:Sem vB)(pins:List (vJ×Obj))(s:vG)(σ:St)(H:Hp)(Q:Bool->Hp->Prop),Inv X pins σ H s->t σ H Q->vN (model X.prog X.w) X.A (sf e X.env whole) (TP X pins σ Q) X.xe s
theorem PW.pt{X:Cx}{e:vX}{t:TT}(h:PW X e t):PT X e t:=h _
def PA(X:Cx)(es:List vX)(t:TA):Prop :=
 ∀(pos:Pos)(pins:List (vJ×Obj))(s:vG)(σ:St)(H:Hp)(Q:List V->Hp->Prop),Inv X pins σ H s->t σ H Q->vN (model X.prog X.w) X.A (spliced (v3 pos (vK es X.env))) (AP X pins σ Q) X.xe s
def PS(X:Cx)(st:vx)(t:TS):Prop :=
 ∀(pins:List (vJ×Obj))(s:vG)(σ:St)(H:Hp)(D:Ends),Inv X pins σ H s->t D σ H->vN (model X.prog X.w) X.A (exec st X.env) (SP X pins D) X.xe s
def PSs(X:Cx)(st:List vx)(t:TS):Prop :=
 ∀(pins:List (vJ×Obj))(s:vG)(σ:St)(H:Hp)(D:Ends),Inv X pins σ H s->t D σ H->vN (model X.prog X.w) X.A (execs st X.env) (SP X pins D) X.xe s
theorem thn{α:Type}{t:Sem α}{Q Q':α->vG->Prop}{M:Model}{A:vb}{E:vB->vG->Prop}{s:vG}(h:vN M A t Q E s)(hQ:∀a s,Q a s->Q' a s):vN M A t Q' E s:=vq h hQ λ_ _ x=>x
section
variable{X:Cx}
noncomputable def XL(i:Nat):TE:=λσ H Q=>∃v,σ[i]?=some (some v)/\Q v H
noncomputable def tC(v:V):TE:=λ_ H Q=>Q v H
theorem qfS{i:Nat}{x:Str}{pos:Pos}(hN:X.N[i]?=some x)(hv:Vis X.env.scope x)(hd:(x==("__debug__" : Str))=false:=by decide)(hcd:(x==("__classdict__" : Str))=false:=by decide):PE X (.Name x pos) (XL i):=by
 intro pins s σ H Q I h;obtain⟨v,e,h⟩:=h;obtain⟨m,hn,hl⟩:=I.loc;obtain⟨u,r,l⟩:=hl i x v hN e hv;have fin:EP X pins σ Q u s:=⟨v,H,I,r,h⟩;rcases l with⟨hk,hm⟩|⟨hk,c,hc,hcell⟩
 ·exact wpAny_Name (wpAny_loadName_local I.ok.kind hk hn hm fin) hd
 ·rcases hk with hk|hk
  ·exact wpAny_Name (wpAny_loadName_cell I.ok.kind hk hc hcell fin) hd
  ·exact wpAny_Name (wpAny_loadName_free I.ok.kind hk hc hcell fin hcd) hd
theorem qgq{i j pos}:PE X (.Constant (.int i) j pos) (tC (.int i)):=λ_ _ _ H _ I h=>wpAny_Constant_int ⟨.int i,H,I.tok _,⟨_,rfl⟩,h⟩
theorem qgR{b j pos}:PE X (.Constant (.bool b) j pos) (tC (.bl b)):=λ_ _ _ H _ I h=>Constant_bool ⟨.bl b,H,I,rfl,h⟩
theorem qg0{x j pos}:PE X (.Constant (.str x) j pos) (tC (.str x)):=λ_ _ _ H _ I h=>Calls.Constant_str ⟨.str x,H,I.tok _,⟨_,rfl⟩,h⟩
def Gl(X:Cx)(x:Str):Prop:=X.env.kindOf x=some .globalImplicit
theorem qfl{E:vB->vG->Prop}{pins:List (vJ×Obj)}{s:vG}{σ:St}{H:Hp}{x:Str}{u:vB}{pos:Pos}{Q:vB->vG->Prop}(I:Inv X pins σ H s)(hg:Gl X x)(hm:X.mg x=some u)(h:Q u s)(hd:(x==("__debug__" : Str))=false:=by decide):vN (model X.prog X.w) X.A (eval (.Name x pos) X.env) Q E s :=
 Calls.Name_function_global I.ok.kind hg (Calls.loadGlobal_global (by rw[I.ok.glob];exact I.mod.glob.keeps I.bk) hm h) hd
theorem q23{E:vB->vG->Prop}{pins:List (vJ×Obj)}{s:vG}{σ:St}{H:Hp}{x:Str}{u:vB}{pos:Pos}{Q:vB->vG->Prop}(I:Inv X pins σ H s)(hg:Gl X x)(hm:X.mg x=none)(hv:vf x=some u)(h:Q u s)(hn:x ≠ "__name__" := by decide)(hd:(x==("__debug__" : Str))=false:=by decide):vN (model X.prog X.w) X.A (eval (.Name x pos) X.env) Q E s:=by
 obtain⟨mb,h1,h2⟩:=I.mod.blt;exact Calls.Name_function_global I.ok.kind hg (Calls.loadGlobal_builtin (by rw[I.ok.glob];exact I.mod.glob.keeps I.bk) hm (by rw[I.ok.blt];exact h1.keeps I.bk) ((h2 x hn).trans hv) h) hd
theorem qf8{x:Str}{v:V}{u:vB}{pos:Pos}(hg:Gl X x)(hm:X.mg x=none)(hv:vf x=some u)(r:RelV v u)(hn:x ≠ "__name__" := by decide)(hd:(x==("__debug__" : Str))=false:=by decide):PE X (.Name x pos) (tC v) :=
 λ_ _ _ H _ I h=>q23 I hg hm hv ⟨v,H,I,r,h⟩ hn hd
variable{a b:vX}{ta tb:TE}{pos:Pos}
def PC(X:Cx)(op:sM)(a b:vX)(t:TE):Prop :=
 ∀(pins:List (vJ×Obj))(s:vG)(σ:St)(H:Hp)(Q:VK),Inv X pins σ H s->t σ H Q ->
  vN (model X.prog X.w) X.A (eval a X.env) (λv s₁=>vN (model X.prog X.w) X.A (eval b X.env) (λu s₂=>vN (model X.prog X.w) X.A (uE op v u) (EP X pins σ Q) X.xe s₂) X.xe s₁) X.xe s
theorem zBy(b:vX){op:sM}(h:op≠.In)(h2:op≠.NotIn):v5 op b=false:=by
 have e1:(op==CmpOp.In)=false:=by cases op <;> first|rfl|exact vL rfl h
 have e2:(op==CmpOp.NotIn)=false:=by cases op <;> first|rfl|exact vL rfl h2
 cases b <;> simp[v5,e1,e2]
noncomputable def tB(t:TE):TT:=λσ H Q=>t σ H λx H1=>∃c,x=.bl c/\Q c H1
theorem qgH{op:sM}{t:TE}(h:PC X op a b t)(h1:v5 op b=false:=by first|exact zBy _ (by decide) (by decide)|rfl):PT X (.Compare a [op] [b] pos) (tB t):=by
 intro pins s σ H Q I hw;refine tU (thn (h pins s σ H _ I hw) λv s1 h1=>thn h1 λu s2 h2=>thn h2 λc s3 ⟨x,H1,I1,r1,q1⟩=>?_) h1;obtain⟨d,rfl,q⟩:=q1;cases r1;exact uF ⟨H1,I1,q⟩
variable{tA tB':TT}{rest:List vX}
noncomputable def tOr(t u:TT):TT:=λσ H Q=>t σ H λc H1=>if c=true then Q true H1 else u σ H1 Q
noncomputable def tNot(t:TT):TT:=λσ H Q=>t σ H λc H1=>Q (!c) H1
theorem qcU(ha:PT X a tA):PW X (.BoolOp .Or [a] pos) tA:=by
 intro wh pins s σ H Q I h;refine isTrue_or (thn (ha pins s σ H Q I h) λc s1 e=>?_);cases c with
 | false=>exact isTrue_or_nil e
 | true=>exact e
theorem qe7(ha:PT X a tA)(hb:PW X (.BoolOp .Or (b::rest) pos) tB'):PW X (.BoolOp .Or (a::b::rest) pos) (tOr tA tB'):=by
 intro wh pins s σ H Q I h;refine isTrue_or (thn (ha pins s σ H _ I h) λc s1 ⟨H1,I1,q1⟩=>?_);cases c with
 | true=>exact⟨H1,I1,q1⟩
 | false=>exact hb wh pins s1 σ H1 Q I1 q1
theorem qg3(ha:PT X a tA):PT X (.UnaryOp .Not a pos) (tNot tA):=by
 intro pins s σ H Q I h;exact isTrue_not (ha pins s σ H (λc H1=>Q (!c) H1) I h)
noncomputable def tAndV(ta tb:TE):TE:=λσ H Q=>ta σ H λx H1=>∃c,x=.bl c/\if c=true then tb σ H1 Q else Q (.bl false) H1
noncomputable def tOrV(ta tb:TE):TE:=λσ H Q=>ta σ H λx H1=>∃c,x=.bl c/\if c=true then Q (.bl true) H1 else tb σ H1 Q
noncomputable def tNotV(ta:TE):TE:=λσ H Q=>ta σ H λx H1=>∃c,x=.bl c/\Q (.bl (!c)) H1
theorem qgj{op}{t:TE}(h:PE X a t):PE X (.BoolOp op [a] pos) t:=λpins s σ H Q I hw=>BoolOp_one (h pins s σ H Q I hw)
theorem qgs(ha:PE X a ta)(hb:PE X (.BoolOp .And (b::rest) pos) tb):PE X (.BoolOp .And (a::b::rest) pos) (tAndV ta tb):=by
 intro pins s σ H Q I h;refine BoolOp_and (thn (ha pins s σ H _ I h) λv s1 ⟨x,H1,I1,r1,q1⟩=>?_);obtain⟨c,rfl,q1⟩:=q1;cases r1;refine uF ?_;cases c with
 | true=>exact hb pins s1 σ H1 Q I1 q1
 | false=>exact⟨.bl false,H1,I1,rfl,q1⟩
theorem qgX(ha:PE X a ta)(hb:PE X (.BoolOp .Or (b::rest) pos) tb):PE X (.BoolOp .Or (a::b::rest) pos) (tOrV ta tb):=by
 intro pins s σ H Q I h;refine BoolOp_or (thn (ha pins s σ H _ I h) λv s1 ⟨x,H1,I1,r1,q1⟩=>?_);obtain⟨c,rfl,q1⟩:=q1;cases r1;refine uF ?_;cases c with
 | false=>exact hb pins s1 σ H1 Q I1 q1
 | true=>exact⟨.bl true,H1,I1,rfl,q1⟩
theorem qgd(ha:PE X a ta):PE X (.UnaryOp .Not a pos) (tNotV ta):=by
 intro pins s σ H Q I h;refine UnaryOp_ (thn (ha pins s σ H _ I h) λv s1 ⟨x,H1,I1,r1,q1⟩=>?_);obtain⟨c,rfl,q1⟩:=q1;cases r1;exact not_of (uF ⟨.bl (!c),H1,I1,rfl,q1⟩)
end
def SqL(K:zA)(H:Hp)(a:vJ)(xs:List V):Prop :=
 Rd H a (.lst xs) \/
  ∃(o:Obj) (its:Array vB) (n:Nat),K.lookup a=some o/\o.cls=.type "list" /\ o.dict=none/\o.data=.seq its n/\its.size<=sizeLine/\Y2 xs its.toList
def SqT(K:zA)(H:Hp)(a:vJ)(xs:List V):Prop :=
 Rd H a (.tup xs) \/
  ∃(o:Obj) (its:Array vB) (n:Nat),K.lookup a=some o/\o.cls=.type "tuple" /\ o.data=.seq its n/\its.size<=sizeLine/\Y2 xs its.toList
noncomputable def absV:vB->Option V
 | .none=>some .non
 | .bool b=>some (.bl b)
 | .int i _=>some (.int i)
 | .str x _=>some (.str x)
 | .bytes b _=>some (.byt b)
 | .float b _=>some (.flt b)
 | .ref a=>some (.ref a)
 | .type n=>some (.ty n)
 | _=>none
theorem RelV.abs{x:V}{u:vB}(r:RelV x u):absV u=some x:=by
 cases x with
 | non=>cases r;rfl
 | bl _=>cases r;rfl
 | int _=>obtain⟨t,rfl⟩:=r;rfl
 | str _=>obtain⟨t,rfl⟩:=r;rfl
 | byt _=>obtain⟨t,rfl⟩:=r;rfl
 | flt _=>obtain⟨t,rfl⟩:=r;rfl
 | ref _=>cases r;rfl
 | ty _=>cases r;rfl
theorem RelV.inj{x y:V}{u:vB}(r:RelV x u)(q:RelV y u):x=y:=zc (r.abs.symm.trans q.abs)
theorem Y2.inj:∀{xs ys:List V}{us:List vB},Y2 xs us->Y2 ys us->xs=ys
 | _,_,_,.nil,.nil=>rfl
 | _,_,_,.cons r t,.cons r' t'=>by rw[r.inj r',Y2.inj t t']
section
variable{X:Cx}{pins:List (vJ×Obj)}{σ:St}{H:Hp}{s:vG}{a:vJ}{xs ys:List V}
theorem SqL.of{K:zA}(h:H a=some (.lst xs)):SqL K H a xs:=.inl (.inl h)
theorem SqT.of{K:zA}(h:H a=some (.tup xs)):SqT K H a xs:=.inl (.inl h)
theorem Inv.list(I:Inv X pins σ H s)(h:SqL X.K H a xs):∃its:List vB,Y2 xs its/\PlainL s.heap a its.toArray/\xs.length<=sizeLine:=by
 rcases h with h|⟨o,its,n,hk,hc,hd,hs,hz,r⟩
 ·obtain⟨z,its,n,r,e⟩:=h.ok I.hok
  exact⟨its,r,⟨_,n,e,rfl,rfl,rfl⟩,z⟩
 ·refine⟨its.toList,r,⟨o,n,I.kIn a o hk,hc,hd,by simpa using hs⟩,?_⟩
  have e:=r.length;simp only[zO]at e;omega
theorem Inv.tuple(I:Inv X pins σ H s)(h:SqT X.K H a xs):∃its:List vB,Y2 xs its/\IsTup s.heap a its.toArray/\xs.length<=sizeLine:=by
 rcases h with h|⟨o,its,n,hk,hc,hs,hz,r⟩
 ·obtain⟨z,its,r,p⟩:=h.ok I.hok
  exact⟨its,r,p,z⟩
 ·refine⟨its.toList,r,⟨o,I.kIn a o hk,hc,n,by simpa using hs⟩,?_⟩
  have e:=r.length;simp only[zO]at e;omega
theorem Inv.list_inj(I:Inv X pins σ H s)(h:SqL X.K H a xs)(h':SqL X.K H a ys):xs=ys:=by
 obtain⟨its,r,⟨o,n,e,_,_,d⟩,_⟩:=I.list h;obtain⟨its',r',⟨o',n',e',_,_,d'⟩,_⟩:=I.list h';rw[e]at e';cases e';rw[d]at d';injection d' with d1 _;have:its=its':=by simpa using uL Yc d1
 subst this;exact r.inj r'
theorem Inv.tuple_inj(I:Inv X pins σ H s)(h:SqT X.K H a xs)(h':SqT X.K H a ys):xs=ys:=by
 obtain⟨its,r,⟨o,e,_,n,d⟩,_⟩:=I.tuple h;obtain⟨its',r',⟨o',e',_,n',d'⟩,_⟩:=I.tuple h';rw[e]at e';cases e';rw[d]at d';injection d' with d1 _;have:its=its':=by simpa using uL Yc d1
 subst this;exact r.inj r'
end
noncomputable abbrev Cx.wish(X:Cx)(E:vB->vG->Prop):Cx:={ X with xe:=E }
noncomputable abbrev Cx.nox(X:Cx):Cx:=X.wish λ_ _=>False
theorem Cx.Ok.wish{X:Cx}(ok:X.Ok)(E:vB->vG->Prop):(X.wish E).Ok :=
 ⟨ok.mod,ok.kind,ok.glob,ok.blt,ok.above,ok.inj,ok.has,ok.cab,ok.hd,ok.frames,ok.stk,ok.exf,ok.bs,ok.bsz,ok.noex,ok.exfs,ok.funs,ok.frf⟩
theorem Cx.Ok.unwish{X:Cx}{E:vB->vG->Prop}(ok:(X.wish E).Ok):X.Ok :=
 ⟨ok.mod,ok.kind,ok.glob,ok.blt,ok.above,ok.inj,ok.has,ok.cab,ok.hd,ok.frames,ok.stk,ok.exf,ok.bs,ok.bsz,ok.noex,ok.exfs,ok.funs,ok.frf⟩
section
variable{X:Cx}{pins:List (vJ×Obj)}{σ:St}{H:Hp}{s:vG}{E:vB->vG->Prop}
theorem Inv.wish(I:Inv X pins σ H s)(E:vB->vG->Prop):Inv (X.wish E) pins σ H s:=⟨I.ok.wish E,I.os,I.bare,I.base,I.loc,I.cell,I.free,I.freeC,I.pin,I.hok,I.len⟩
theorem Inv.unwish(I:Inv (X.wish E) pins σ H s):Inv X pins σ H s:=⟨I.ok.unwish,I.os,I.bare,I.base,I.loc,I.cell,I.free,I.freeC,I.pin,I.hok,I.len⟩
theorem SP.unwish{D:Ends}{f:Flow}{s':vG}(h:SP (X.wish E) pins D f s'):SP X pins D f s':=by
 cases f with
 | next=>obtain⟨σ',H',I,q⟩:=h;exact⟨σ',H',I.unwish,q⟩
 | brk=>obtain⟨σ',H',I,q⟩:=h;exact⟨σ',H',I.unwish,q⟩
 | cont=>obtain⟨σ',H',I,q⟩:=h;exact⟨σ',H',I.unwish,q⟩
 | ret u=>obtain⟨v,σ',H',I,r,q⟩:=h;exact⟨v,σ',H',I.unwish,r,q⟩
theorem PSs.nox{st:List vx}{t:TS}(h:PSs X.nox st t):PSs X st t:=λpins s σ H D I hw=>
 vq (h pins s σ H D (I.wish _) hw) (λ_ _ q=>q.unwish) λ_ _ z=>False.elim z
end
section
variable{X:Cx}{st:vx}{rest:List vx}{t u:TS}{e:vX}{te:TE}{pos:Pos}
noncomputable def tNext:TS:=λD σ H=>D.nx σ H
noncomputable def zA9(t u:TS):TS:=λD σ H=>t { D with nx:=u D } σ H
theorem qf3:PSs X [] tNext:=λ_ _ σ H _ I h=>uu ⟨σ,H,I,h⟩
theorem qy(h1:PS X st t)(h2:PSs X rest u):PSs X (st::rest) (zA9 t u):=by
 intro pins s σ H D I h;refine wpAny_execs_cons (thn (h1 pins s σ H { D with nx:=u D } I h) λf s1 q=>?_);cases f with
 | next=>
  obtain⟨σ',H',I',q⟩:=q;exact h2 pins s1 σ' H' D I' q
 | ret v=>exact q
 | brk=>exact q
 | cont=>exact q
theorem q0F(h1:PS X st t):PSs X [st] t:=by
 intro pins s σ H D I h;refine wpAny_execs_cons (thn (h1 pins s σ H D I h) λf s1 q=>?_);cases f with
 | next=>exact uu q
 | ret v=>exact q
 | brk=>exact q
 | cont=>exact q
theorem Inv.quiet{pins:List (vJ×Obj)}{σ:St}{H:Hp}{s:vG}(I:Inv X pins σ H s):interactive X.env=false:=by simp[interactive,I.ok.kind]
noncomputable def zBJ(te:TE):TS:=λD σ H=>te σ H λ_ H1=>D.nx σ H1
theorem q0E(he:PE X e te)(hs:vz e none pos.line X.env=pure false:=by rfl):PS X (.Expr e pos) (zBJ te):=by
 intro pins s σ H D I h;exact wpAny_Expr_any (thn (he pins s σ H _ I h) λv s1 ⟨x,H1,I1,r1,q1⟩=>⟨σ,H1,I1,q1⟩) I.quiet hs
noncomputable def tRet(te:TE):TS:=λD σ H=>te σ H D.rt
theorem q4l(he:PE X e te):PS X (.Return (some e) pos) (tRet te):=by
 intro pins s σ H D I h;exact wpAny_Return_some (thn (he pins s σ H _ I h) λv s1 ⟨x,H1,I1,r1,q1⟩=>⟨x,σ,H1,I1,r1,q1⟩)
noncomputable def tIfS(c:TT)(t u:TS):TS:=λD σ H=>c σ H λb H1=>if b=true then t D σ H1 else u D σ H1
theorem qec{c:vX}{a b:List vx}{tc:TT}(hc:PT X c tc)(ha:PSs X a t)(hb:PSs X b u):PS X (.If c a b pos) (tIfS tc t u):=by
 intro pins s σ H D I h;refine wpAny_If (thn (hc pins s σ H _ I h) λd s1 ⟨H1,I1,q1⟩=>?_);cases d with
 | true=>exact ha pins s1 σ H1 D I1 q1
 | false=>exact hb pins s1 σ H1 D I1 q1
noncomputable def tNever:TS:=λ_ _ _=>False
theorem qdH:PS X st tNever:=λ_ _ _ _ _ _ h=>h.elim
end
abbrev TG:=V->St->Hp->(St->Hp->Prop)->Prop
abbrev TGs:=List V->St->Hp->(St->Hp->Prop)->Prop
def PG(X:Cx)(target:vX)(t:TG):Prop :=
 ∀(pins:List (vJ×Obj))(s:vG)(σ:St)(H:Hp)(v:V)(u:vB)(Q:St->Hp->Prop),Inv X pins σ H s->RelV v u->t v σ H Q ->
  vN (model X.prog X.w) X.A (assign target X.env u) (λ_ s'=>∃σ' H',Inv X pins σ' H' s'/\Q σ' H') X.xe s
def PGs(X:Cx)(ts:List vX)(t:TGs):Prop :=
 ∀(pins:List (vJ×Obj))(s:vG)(σ:St)(H:Hp)(vs:List V)(us:List vB)(Q:St->Hp->Prop),Inv X pins σ H s->Y2 vs us->t vs σ H Q ->
  vN (model X.prog X.w) X.A (assignInOrder ((uM ts X.env).map (·.2)) us) (λ_ s'=>∃σ' H',Inv X pins σ' H' s'/\Q σ' H') X.xe s
abbrev TSet:=V->V->V->Hp->(Hp->Prop)->Prop
def PSet(X:Cx)(t:TSet):Prop :=
 ∀(pins:List (vJ×Obj))(s:vG)(σ:St)(H:Hp)(o i v:V)(ov iv u:vB)(Q:Hp->Prop),Inv X pins σ H s->RelV o ov->RelV i iv->RelV v u->t o i v H Q ->
  vN (model X.prog X.w) X.A (sU ov iv u) (λ_ s'=>∃H',Inv X pins σ H' s'/\Q H') X.xe s
section
variable{X:Cx}{pos:Pos}
noncomputable def X2(i:Nat):TG:=λv σ H Q=>Q (σ.set i (some v)) H
theorem q3d{i:Nat}{x:Str}(hN:X.N.Nodup)(hi:X.N[i]?=some x)(hx:Loc X.env.scope x)(hf:X.fn x=true\/X.env.scope.names.lookup x=some .local:=by first|exact .inl rfl|exact .inr rfl|assumption):PG X (.Name x pos) (X2 i):=by
 intro pins s σ H v u Q I r h;exact wpAny_assign_Name (q8Q I hN hi hx r (λs' I'=>⟨_,H,I',h⟩) hf)
noncomputable def gNil:TGs:=λvs σ H Q=>vs=[]/\Q σ H
noncomputable def gCons(t:TG)(u:TGs):TGs:=λvs σ H Q=>∃v r,vs=v::r/\t v σ H λσ' H'=>u r σ' H' Q
theorem q9C:PGs X [] gNil:=by
 intro pins s σ H vs us Q I r h;obtain⟨e,h⟩:=h;subst e;cases r;exact assignInOrder_nil ⟨σ,H,I,h⟩
theorem q53{e:vX}{es:List vX}{t:TG}{u:TGs}(h1:PG X e t)(h2:PGs X es u)(hs:(uM (e::es) X.env).map (·.2)=assign e X.env::(uM es X.env).map (·.2):=by rfl):PGs X (e::es) (gCons t u):=by
 intro pins s σ H vs us Q I r h;obtain⟨v,vr,e1,h⟩:=h;subst e1;cases r with
 | cons r rr=>
  rw[hs];refine assignInOrder_cons (thn (h1 pins s σ H _ _ _ I r h) λ_ s1 ⟨σ1,H1,I1,q1⟩=>?_);exact h2 pins s1 σ1 H1 _ _ Q I1 rr q1
noncomputable def gTup(K:zA)(n:Nat)(t:TGs):TG:=λv σ H Q=>∃a xs,v=.ref a/\SqT K H a xs/\xs.length=n/\t xs σ H Q
theorem qcF{es:List vX}{k:Nat}{t:TGs}{n:Nat}(hc:X.calm=true)(h:PGs X es t)(hn:(uM es X.env).length=n:=by rfl)(hst:(uM es X.env).findIdx? (·.1)=none:=by rfl):PG X (.Tuple es k pos) (gTup X.K n t):=by
 intro pins s σ H v u Q I r hw;obtain⟨a,xs,e1,hq,hl,hw⟩:=hw;subst e1;cases r;obtain⟨its,rv,ht,hz⟩:=I.tuple hq;refine assign_Tuple_tuple (I.ok.hd hc) ht (by simp[hn,<- hl,rv.length]) hst λh' hx=>?_;have I1:Inv X pins σ H { s with heap:=h' }:=I.kept (t':=s.toks) λb o e=>hx b o (zg (zM e)) e;exact h pins _ σ H xs _ Q I1 ⇑rv hw
noncomputable def gSub(to ti:TE)(t:TSet):TG:=λv σ H Q=>to σ H λo H1=>ti σ H1 λi H2=>t o i v H2 λH3=>Q σ H3
theorem qcW{o i:vX}{to ti:TE}{t:TSet}(ho:PE X o to)(hi:PE X i ti)(hs:PSet X t)(ha:∀v,assign (.Subscript o i pos) X.env v=(do
   let ov <- holding [v] (eval o X.env)
   let iv <- holding [v,ov] (eval i X.env)
   sV pos
   holding [v,ov,iv] (sU ov iv v)
   release [v,ov,iv] []):=by intro _;rfl):PG X (.Subscript o i pos) (gSub to ti t):=by
 intro pins s σ H v u Q I r h;rw[ha];refine vA (vh (thn (ho pins s σ H _ I h) λov s1 ⟨x,H1,I1,r1,q1⟩=>?_));refine vA (vh (thn (hi pins s1 σ H1 _ I1 q1) λiv s2 ⟨y,H2,I2,r2,q2⟩=>?_));refine vA (tm (vA (vh (thn (hs pins s2 σ H2 x y v ov iv u _ I2 r1 r2 r q2) λ_ s3 ⟨H3,I3,q3⟩=>?_))));exact wpAny_release ⟨σ,H3,I3,q3⟩
noncomputable def zAj(te:TE)(g:TG):TS:=λD σ H=>te σ H λx H1=>g x σ H1 D.nx
theorem qcu{tg e:vX}{te:TE}{g:TG}(he:PE X e te)(hg:PG X tg g)(hs:tq [tg] e pos.line X.env=pure false:=by rfl)(hw:tt [tg] e X.env=pure none:=by rfl)(h1:(uM [tg] X.env).map (·.2)=[assign tg X.env]:=by rfl):PS X (.Assign [tg] e pos) (zAj te g):=by
 intro pins s σ H D I h;refine wpAny_Assign_stores (thn (he pins s σ H _ I h) λv s1 ⟨x,H1,I1,r1,q1⟩=>?_) hs hw;rw[h1];exact thn (hg pins s1 σ H1 x v _ I1 r1 q1) λ_ s2 q=>q
theorem q05{i:Nat}{x:Str}{e:vX}{te:TE}{pos':Pos}(hN:X.N.Nodup)(hi:X.N[i]?=some x)(hx:Loc X.env.scope x)(he:PE X e te)(hs:vz e (some (.Name x pos')) pos.line X.env=pure false:=by rfl)(hf:X.fn x=true\/X.env.scope.names.lookup x=some .local:=by first|exact .inl rfl|exact .inr rfl|assumption):
  PS X (.Assign [.Name x pos'] e pos) (zAj te (X2 i)):=by
 intro pins s σ H D I h;refine wpAny_Assign_Name (thn (he pins s σ H _ I h) λv s1 ⟨y,H1,I1,r1,q1⟩=>?_) hs;exact q8Q I1 hN hi hx r1 (λs2 I2=>⟨_,H1,I2,q1⟩) hf
end
section
variable{X:Cx}{pos:Pos}
noncomputable def zBO(c:TT)(tb:TS):TS:=λD σ H=>∃W:Nat->St->Hp->Prop,(∃m,W m σ H)/\∀m σ H,W m σ H ->
 c σ H λb H1=>if b=true then ∃N:St->Hp->Prop,(∀σ' H',N σ' H'->∃m',m'<m/\W m' σ' H')/\tb { D with nx:=N,ct:=N,bk:=D.nx } σ H1 else D.nx σ H1
theorem q8X{c:vX}{body:List vx}{tc:TT}{tb:TS}(hp:tM (model X.prog X.w) X.A X.env X.xe)(hc:PT X c tc)(hb:PSs X body tb):PS X (.While c body [] pos) (zBO tc tb):=by
 intro pins s σ H D I h;obtain⟨W,⟨m0,w0⟩,turn⟩:=h;refine wpAny_While (codeAny_whileLoop (λn s'=>∃σ' H',Inv X pins σ' H' s'/\W n σ' H') ?_ m0 ⟨σ,H,I,w0⟩);rintro n s1 ⟨σ1,H1,I1,w1⟩;refine uO hp (thn (hc pins s1 σ1 H1 _ I1 (turn n σ1 H1 w1)) λb s2 ⟨H2,I2,q2⟩=>?_);cases b with
 | true=>
  obtain⟨N,hN,q2⟩:=q2;rw[vC rfl];refine uO hp (thn (hb pins s2 σ1 H2 _ I2 q2) λf s3 q3=>?_);cases f with
  | next=>
   obtain⟨σ3,H3,I3,n3⟩:=q3;obtain⟨m',hm,w3⟩:=hN σ3 H3 n3;exact⟨m',hm,σ3,H3,I3,w3⟩
  | cont=>
   obtain⟨σ3,H3,I3,n3⟩:=q3;obtain⟨m',hm,w3⟩:=hN σ3 H3 n3;exact⟨m',hm,σ3,H3,I3,w3⟩
  | brk=>exact q3
  | ret v=>exact q3
 | false=>
  rw[vF yF];exact uu ⟨σ1,H2,I2,q2⟩
end
structure It where
 go:Nat->Hp->Prop
 yld:Nat->Hp->V->Hp->Prop
 stop:Nat->Hp->Prop
def zBX(X:Cx)(pins:List (vJ×Obj))(H:Hp)(b:vJ):Prop :=
 H b=none/\b≠X.env.locals/\b∉X.fs/\(b∈X.ex\/X.s₀.heap.objs.size<=b)/\(∀x c,X.env.cells.lookup x=some c->c≠b)/\∀p∈X.pn++pins,p.1≠b
theorem Inv.fpOk{X:Cx}{pins:List (vJ×Obj)}{σ:St}{H H':Hp}{s:vG}{b:vJ}(I:Inv X pins σ H s)(hb:s.heap.objs.size<=b)(hn:H' b=none):zBX X pins H' b:=by
 refine⟨hn,wD (zr I.lt hb),I.nofs hb,.inr (yK I.sz hb),λx c e z=>?_,λp hp z=>?_⟩
 ·obtain⟨v,q⟩:=I.cell x c e
  exact vL (zr q.lt (by rw[z];exact hb)) (xG _)
 ·exact vL (zr (zM (I.pin p hp).1) (by rw[z];exact hb)) (xG _)
structure Turn (P:vS) (w:vZ) (K:zA) (tg:vX) (J:It) (fp:List vJ) (it:vJ) (tn:Nat->vn->Prop):Prop where
 mem:it∈fp
 obj:∀i h,tn i h->∀b∈fp,∃o,h.get? b=some o/\∀v,o.data≠.cell v
 keep:∀i h h',tn i h->(∀b∈fp,∀o,h.get? b=some o->h'.get? b=some o)->tn i h'
 item:∀(X:Cx),X.prog=P->X.w=w->X.K=K->X.calm=true->∀(i:Nat)(pins:List (vJ×Obj))(s:vG)(σ:St)(H:Hp)(E:vB->vG->Prop),Inv X pins σ H s->(∀b∈fp,zBX X pins H b)->tn i s.heap->J.go i H ->
  vN (model P w) X.A (uH (.ref it)) (λr s1=>∃u,r=some u /\
   vN (model P w) X.A (uv tg (.ref it) u) (λ_ s2=>∃x H',Inv X pins σ H' s2/\RelV x u/\J.yld i H x H'/\tn (i+1) s2.heap/\∀b∈fp,H' b=none) E s1) E s
 done:∀(X:Cx),X.prog=P->X.w=w->X.K=K->X.calm=true->∀(i:Nat)(pins:List (vJ×Obj))(s:vG)(σ:St)(H:Hp)(E:vB->vG->Prop),Inv X pins σ H s->(∀b∈fp,zBX X pins H b)->tn i s.heap->J.stop i H ->
  vN (model P w) X.A (uH (.ref it)) (λr s1=>r=none/\Inv X pins σ H s1) E s
 self:∀(A:vb)(i:Nat)(s:vG)(Q:vB->vG->Prop)(E:vB->vG->Prop),tn i s.heap->Q (.ref it) s->vN (model P w) A (t7 (.ref it)) Q E s
abbrev TI:=St->Hp->(It->Hp->Prop)->Prop
def PIE(X:Cx)(pins:List (vJ×Obj))(σ:St)(tg:vX)(R:It->Hp->Prop)(itv:vB)(s2:vG):Prop :=
 ∃(it:vJ) (fp:List vJ) (tn:Nat->vn->Prop) (J:It) (H':Hp),itv=.ref it/\Inv X pins σ H' s2/\Turn X.prog X.w X.K tg J fp it tn/\tn 0 s2.heap/\(∀b∈fp,zBX X pins H' b)/\R J H'
def PI(X:Cx)(tg iter:vX)(wi:TI):Prop :=
 ∀(pins:List (vJ×Obj))(s:vG)(σ:St)(H:Hp)(R:It->Hp->Prop),Inv X pins σ H s->wi σ H R ->
  vN (model X.prog X.w) X.A (eval iter X.env) (λv s1=>vN (model X.prog X.w) X.A (t7 v) (PIE X pins σ tg R) X.xe s1) X.xe s
theorem qbC{M:Model}{A:vb}{E:vB->vG->Prop}{s:vG}{tg:vX}{it:vJ}{u:vB}{o:Obj}{n:String}{vs:Array vB}{Q:Unit->vG->Prop}(ho:s.heap.get? it=some o)(hc:o.cls=.type n)(hd:o.data=.fields vs)(hn:["enumerate", "zip", "dict_itemiterator", "dict_reverseitemiterator", "odict_iterator", "itertools.zip_longest", "itertools.pairwise"].contains n=false)(hQ:Q () s):vN M A (uv tg (.ref it) u) Q E s:=by
 unfold uv;cases tg <;> first
  | exact vH hQ
  | (cases u <;> first
    | exact vH hQ
    | (refine vA (wpAny_load ho ?_)
       rw[hc,hd];show vN M A (if (["enumerate", "zip", "dict_itemiterator", "dict_reverseitemiterator", "odict_iterator", "itertools.zip_longest", "itertools.pairwise"].contains n&&vs[0]?==some (v8 _))=true then _ else _) Q E s;rw[vF (by intro h;rw[hn,wU]at h;cases h)];exact vH hQ))
noncomputable def Itl(K:zA)(a:vJ):It :=
 ⟨λi H=>∃xs x,SqL K H a xs/\xs[i]?=some x,λi H x H'=>H'=H/\∀xs,SqL K H a xs->xs[i]?=some x,λi H=>∃xs,SqL K H a xs/\xs.length<=i⟩
noncomputable def Itt(K:zA)(a:vJ):It :=
 ⟨λi H=>∃xs x,SqT K H a xs/\xs[i]?=some x,λi H x H'=>H'=H/\∀xs,SqT K H a xs->xs[i]?=some x,λi H=>∃xs,SqT K H a xs/\xs.length<=i⟩
noncomputable def Itr(lo:Int)(n:Nat):It:=⟨λi _=>i<n,λi H x H'=>H'=H/\x=.int (lo+i),λi _=>n<=i⟩
theorem qbH{P:vS}{w:vZ}{K:zA}{tg:vX}(a it:vJ):Turn P w K tg (Itl K a) [it] it (λi h=>h.IsListIter it a i) where
 mem:=by simp
 obj:=λi h st b hb=>by
  have e:b=it:=by simpa using hb
  subst e;obtain⟨o,e,c,d⟩:=st;exact⟨o,e,λv z=>by rw[d]at z;cases z⟩
 keep:=λi h h' st k=>st.at λo e=>k it (by simp) o e
 item:=by
  intro X hP hw hK hc i pins s σ H E I hf st hg;subst hP hw hK;obtain⟨xs,x,hq,hx⟩:=hg;obtain⟨its,rv,p,hz⟩:=I.list hq;obtain⟨u,hu,ru⟩:=rv.get hx;obtain⟨f0,f1,f2,f3,f4,f5⟩:=hf it (by simp);refine wpAny_pyNext_list_item st p.isList (x:=u) ⇑hu λh' st' sb=>?_;have I1:Inv X pins σ H { s with heap:=h' }:=I.turned (t':=s.toks) (λb o hb e=>(sb.2 b hb).trans e) f0 f1 f3 f4 f5;obtain⟨o,e,c,d⟩:=id st';exact⟨u,rfl,qbC (s:={ s with heap:=h' }) e c d (by decide) ⟨x,H,I1,ru,⟨rfl,λys hy=>by rw[I.list_inj hy hq];exact hx⟩,st',λb hb=>(hf b hb).1⟩⟩
 done:=by
  intro X hP hw hK hc i pins s σ H E I hf st hg;subst hP hw hK;obtain⟨xs,hq,hx⟩:=hg;obtain⟨its,rv,p,hz⟩:=I.list hq;obtain⟨f0,f1,f2,f3,f4,f5⟩:=hf it (by simp);have hl:=rv.length;exact wpAny_pyNext_list_end (I.ok.hd hc) st p.isList (by simp;omega) λh' eb=>⟨rfl,I.turned (t':=s.toks) (λb o hb e=>eb b o hb e) f0 f1 f3 f4 f5⟩
 self:=λ_ _ _ _ _ st h=>wpAny_pyIter_listiter st h
theorem qaT{P:vS}{w:vZ}{K:zA}{tg:vX}(a it:vJ):Turn P w K tg (Itt K a) [it] it (λi h=>h.IsTupleIter it a i) where
 mem:=by simp
 obj:=λi h st b hb=>by
  have e:b=it:=by simpa using hb
  subst e;obtain⟨o,e,c,d⟩:=st;exact⟨o,e,λv z=>by rw[d]at z;cases z⟩
 keep:=λi h h' st k=>st.at λo e=>k it (by simp) o e
 item:=by
  intro X hP hw hK hc i pins s σ H E I hf st hg;subst hP hw hK;obtain⟨xs,x,hq,hx⟩:=hg;obtain⟨its,rv,p,hz⟩:=I.tuple hq;obtain⟨u,hu,ru⟩:=rv.get hx;obtain⟨f0,f1,f2,f3,f4,f5⟩:=hf it (by simp);refine wpAny_pyNext_tuple_item st (show s.heap.IsTuple a its.toArray from p) (x:=u) ⇑hu λh' st' sb=>?_;have I1:Inv X pins σ H { s with heap:=h' }:=I.turned (t':=s.toks) (λb o hb e=>(sb.2 b hb).trans e) f0 f1 f3 f4 f5;obtain⟨o,e,c,d⟩:=id st';exact⟨u,rfl,qbC (s:={ s with heap:=h' }) e c d (by decide) ⟨x,H,I1,ru,⟨rfl,λys hy=>by rw[I.tuple_inj hy hq];exact hx⟩,st',λb hb=>(hf b hb).1⟩⟩
 done:=by
  intro X hP hw hK hc i pins s σ H E I hf st hg;subst hP hw hK;obtain⟨xs,hq,hx⟩:=hg;obtain⟨its,rv,p,hz⟩:=I.tuple hq;obtain⟨f0,f1,f2,f3,f4,f5⟩:=hf it (by simp);have hl:=rv.length;exact wpAny_pyNext_tuple_end (I.ok.hd hc) st (show s.heap.IsTuple a its.toArray from p) (by simp;omega) λh' eb=>⟨rfl,I.turned (t':=s.toks) (λb o hb e=>eb b o hb e) f0 f1 f3 f4 f5⟩
 self:=λ_ _ _ _ _ st h=>wpAny_pyIter_tupleiter st h
theorem qbe{P:vS}{w:vZ}{K:zA}{tg:vX}(it:vJ)(lo:Int)(n:Nat):Turn P w K tg (Itr lo n) [it] it (λi h=>IsRangeIter h it (lo+(i:Nat)*1) ((n:Int)-(i:Nat)) 1) where
 mem:=by simp
 obj:=λi h st b hb=>by
  have e:b=it:=by simpa using hb
  subst e;exact⟨_,st,λv z=>by
   have z':Data.fields _=Data.cell v:=z;cases z'⟩
 keep:=λi h h' st k=>k it (by simp) _ st
 item:=by
  intro X hP hw hK hc i pins s σ H E I hf st hg;subst hP hw hK;obtain⟨f0,f1,f2,f3,f4,f5⟩:=hf it (by simp);have W:=Walks.range (prog:=X.prog) (w:=X.w) (I.ok.hd hc) it lo 1 n;refine W.item i s _ _ hg st λv h' tk hv st' kk=>?_;obtain⟨t,rfl⟩:=hv;have I1:Inv X pins σ H { s with heap:=h',toks:=tk }:=I.turned (λb o hb e=>kk b o (by simpa using hb) e) f0 f1 f3 f4 f5;refine⟨_,rfl,qbC (s:={ s with heap:=h',toks:=tk }) (n := "range_iterator") st' rfl rfl (by decide) ⟨.int (lo+i),H,I1,⟨t,?_⟩,⟨rfl,rfl⟩,st',λb hb=>(hf b hb).1⟩⟩;rw[Int.mul_one]
 done:=by
  intro X hP hw hK hc i pins s σ H E I hf st hg;subst hP hw hK;obtain⟨f0,f1,f2,f3,f4,f5⟩:=hf it (by simp);exact wpAny_pyNext_range_end (I.ok.hd hc) st (by have:n<=i:=hg;omega) λh' eb=>⟨rfl,I.turned (t':=s.toks) (λb o hb e=>eb b o hb e) f0 f1 f3 f4 f5⟩
 self:=λ_ _ _ _ _ st h=>wpAny_pyIter_rangeiter st h
section
variable{X:Cx}{tg:vX}
noncomputable def iList(K:zA)(tl:TE):TI:=λσ H R=>tl σ H λx H1=>∃a,x=.ref a/\(∃xs,SqL K H1 a xs)/\R (Itl K a) H1
noncomputable def iTup(K:zA)(tl:TE):TI:=λσ H R=>tl σ H λx H1=>∃a,x=.ref a/\(∃xs,SqT K H1 a xs)/\R (Itt K a) H1
theorem q60{l:vX}{tl:TE}(hl:PE X l tl):PI X tg l (iList X.K tl):=by
 intro pins s σ H R I h;refine thn (hl pins s σ H _ I h) λv s1 ⟨x,H1,I1,r1,q1⟩=>?_;obtain⟨a,e,⟨xs,hq⟩,q⟩:=q1;subst e;cases r1;obtain⟨its,rv,p,hz⟩:=I1.list hq;refine ug p.isList ?_;refine⟨s1.heap.objs.size,[s1.heap.objs.size],_,_,H1,rfl,I1.kept (t':=s1.toks) λb o e=>zF _ e,qbH a _,⟨_,zQ _ rfl,rfl,rfl⟩,λb hb=>?_,q⟩;have e:b=s1.heap.objs.size:=by simpa using hb
 subst e;exact I1.fpOk (zK _) (I1.hok.fresh (zK _))
theorem qgb{l:vX}{tl:TE}(hl:PE X l tl):PI X tg l (iTup X.K tl):=by
 intro pins s σ H R I h;refine thn (hl pins s σ H _ I h) λv s1 ⟨x,H1,I1,r1,q1⟩=>?_;obtain⟨a,e,⟨xs,hq⟩,q⟩:=q1;subst e;cases r1;obtain⟨its,rv,p,hz⟩:=I1.tuple hq;refine t9 (show s1.heap.IsTuple a its.toArray from p) ?_;refine⟨s1.heap.objs.size,[s1.heap.objs.size],_,_,H1,rfl,I1.kept (t':=s1.toks) λb o e=>zF _ e,qaT a _,⟨_,zQ _ rfl,rfl,rfl⟩,λb hb=>?_,q⟩;have e:b=s1.heap.objs.size:=by simpa using hb
 subst e;exact I1.fpOk (zK _) (I1.hok.fresh (zK _))
theorem qdA{pins:List (vJ×Obj)}{σ:St}{H:Hp}{s:vG}{R:It->Hp->Prop}{E:vB->vG->Prop}{lo hi:Int}{t u v:Tok}{tk:Nat}(I:Inv X pins σ H s)(h1:-(2^62)<=lo)(h2:lo<2^62)(h3:-(2^62)<=hi)(h4:hi<2^62)(q:R (Itr lo (hi-lo).toNat) H):vN (model X.prog X.w) X.A (t7 (.ref s.heap.objs.size)) (PIE X pins σ tg R) E { s with heap:=s.heap.push { cls:=.type "range", data:=.fields #[.int lo t,.int hi u,.int 1 v] },toks:=tk }:=by
 refine wpAny_pyIter_range (IsRange.new ..) (small_one h1 h2 h3 h4) ?_;have I1:Inv X pins σ H { s with heap:=s.heap.push { cls:=.type "range", data:=.fields #[.int lo t,.int hi u,.int 1 v] },toks:=tk }:=I.kept λb o e=>zF _ e;refine⟨(s.heap.push { cls:=.type "range", data:=.fields #[.int lo t,.int hi u,.int 1 v] }).objs.size,[(s.heap.push { cls:=.type "range", data:=.fields #[.int lo t,.int hi u,.int 1 v] }).objs.size],_,_,H,rfl,
  I1.kept (t':=tk) λb o e=>zF _ e,qbe _ lo (hi-lo).toNat,?_,λb hb=>?_,q⟩
 ·have e1:lo+((0:Nat):Int)*1=lo:=by simp
  have e2:(((hi-lo).toNat:Nat):Int)-((0:Nat):Int)=Builtin.Range.rangeSize lo hi 1:=by rw[rangeSize_one];split <;> omega
  show IsRangeIter _ _ (lo+((0:Nat):Int)*1) ((((hi-lo).toNat:Nat):Int)-((0:Nat):Int)) 1;rw[e1,e2];exact zQ _ rfl
 ·have e:b=(s.heap.push { cls:=.type "range", data:=.fields #[.int lo t,.int hi u,.int 1 v] }).objs.size:=by simpa using hb
  subst e;exact I1.fpOk (zK _) (I1.hok.fresh (zK _))
noncomputable def iRng1(ta:TA):TI:=λσ H R=>ta σ H λvs H1=>∃j:Int,vs=[.int j]/\-(2^62)<=j/\j<2^62/\R (Itr 0 j.toNat) H1
theorem qch{a:vX}{ta:TA}{p pos:Pos}(hg:Gl X "range")(hm:X.mg "range" = none)(ha:PA X [a] ta)(hs:vK [a] X.env=[(false,eval a X.env)]:=by rfl):PI X tg (.Call (.Name "range" p) [a] [] pos) (iRng1 ta):=by
 intro pins s σ H R I h;refine Call_ (q23 I hg hm boot_range (PyProof.Rows.callWith_type1 (thn (ha pos pins s σ H _ I h) λus s1 ⟨vs,H1,I1,r1,q1⟩=>?_) hs rfl));obtain⟨j,e,q1,q2,q⟩:=q1;subst e;cases r1 with
 | cons r rr=>
  cases rr;obtain⟨t,rfl⟩:=r;exact call_range_1 (qdA I1 ∅ ∅ q1 q2 ⇑q)
noncomputable def tFor(wi:TI)(g:TG)(tb:TS):TS:=λD σ H=>wi σ H λJ H1=>∃W:Nat->Nat->St->Hp->Prop,(∃m,W 0 m σ H1)/\∀i m σ H,W i m σ H ->
 (J.stop i H/\D.nx σ H)\/(J.go i H/\∃N:St->Hp->Prop,(∀σ' H',N σ' H'->∃m',m'<m/\W (i+1) m' σ' H')/\∀x H',J.yld i H x H'->g x σ H' λσ2 H2=>tb { D with nx:=N,ct:=N,bk:=D.nx } σ2 H2)
noncomputable def zAF(fp:List vJ)(h:vn):List (vJ×Obj):=fp.filterMap λb=>(h.get? b).map λo=>(b,o)
theorem q2h{fp:List vJ}{h:vn}{b:vJ}{o:Obj}(hb:b∈fp)(e:h.get? b=some o):(b,o)∈zAF fp h:=Zl.mpr ⟨b,hb,by rw[e];rfl⟩
theorem qcO{fp:List vJ}{h:vn}{p:vJ×Obj}(hp:p∈zAF fp h):p.1∈fp/\h.get? p.1=some p.2:=by
 obtain⟨b,hb,e⟩:=Zl.mp hp;cases q:h.get? b with
 | none=>rw[q]at e;cases e
 | some o=>
  rw[q]at e;have e':(b,o)=p:=zc e;subst e';exact⟨hb,q⟩
theorem Inv.pinned{pins:List (vJ×Obj)}{σ:St}{H:Hp}{s:vG}{fp:List vJ}(I:Inv X pins σ H s)(hf:∀b∈fp,zBX X pins H b)(ho:∀b∈fp,∃o,s.heap.get? b=some o/\∀v,o.data≠.cell v):Inv X (pins++zAF fp s.heap) σ H s :=
 I.pins_of λp hp=>(zT.mp hp).elim (λz=>I.pin p (zd _ z)) λz=>by
  obtain⟨hb,e⟩:=qcO z;obtain⟨f0,f1,f2,_⟩:=hf p.1 hb;obtain⟨o,e',d⟩:=ho p.1 hb;rw[e]at e';cases e';exact⟨e,f0,f1,f2,d⟩
theorem Inv.unpinned{pins pl:List (vJ×Obj)}{σ:St}{H:Hp}{s:vG}(I:Inv X (pins++pl) σ H s):Inv X pins σ H s:=I.pins_of λp hp=>I.pin p (zd _ (zu _ hp))
theorem q5D{iter:vX}{body:List vx}{wi:TI}{g:TG}{tb:TS}{pos:Pos}(hp:tM (model X.prog X.w) X.A X.env X.xe)(hc:X.calm=true)(hi:PI X tg iter wi)(hg:PG X tg g)(hb:PSs X body tb)(hs:∀x,v4 iter X.env x=pure x:=by intro _;rfl):PS X (.For tg iter body [] pos) (tFor wi g tb):=by
 intro pins s σ H D I h;refine wpAny_For (thn (hi pins s σ H _ I h) λv s1 h1=>thn h1 λitv s2 h2=>?_) hs;obtain⟨it,fp,tn,J,H2,e,I2,T,st2,f2,W,⟨m0,w0⟩,turn⟩:=h2;subst e;have stat:∀{H':Hp},(∀b∈fp,H' b=none)->∀b∈fp,zBX X pins H' b:=λhn b hb=>⟨hn b hb,(f2 b hb).2⟩;refine codeAny_forLoop_any (λn s'=>∃i σ' H',Inv X pins σ' H' s'/\tn i s'.heap/\(∀b∈fp,H' b=none)/\W i n σ' H') ?_ m0 ⟨0,σ,H2,I2,st2,λb hb=>(f2 b hb).1,w0⟩;rintro n s3 ⟨i,σ3,H3,I3,st3,fr3,w3⟩;rcases turn i n σ3 H3 w3 with⟨stop,qn⟩|⟨go,N,hN,step⟩
 ·refine uO hp (thn (T.done X rfl rfl rfl hc i pins s3 σ3 H3 X.xe I3 (stat fr3) st3 stop) λr s4 ⟨hr,I4⟩=>?_)
  subst hr;exact uu ⟨σ3,H3,I4,qn⟩
 ·refine uO hp (thn (T.item X rfl rfl rfl hc i pins s3 σ3 H3 X.xe I3 (stat fr3) st3 go) λr s4 ⟨u,hr,h4⟩=>?_)
  subst hr;refine uO hp (thn h4 λ_ s5 ⟨x,H5,I5,r5,y5,st5,fr5⟩=>?_);have I5':=I5.pinned (stat fr5) (T.obj _ _ st5);refine uO hp (thn (hg _ s5 σ3 H5 x u _ I5' r5 (step x H5 y5)) λ_ s6 ⟨σ6,H6,I6,q6⟩=>?_);refine uO hp (thn (hb _ s6 σ6 H6 _ I6 q6) λf s7 q7=>?_);have again:∀{σ7:St}{H7:Hp},Inv X (pins++zAF fp s5.heap) σ7 H7 s7->N σ7 H7->∃m,m<n/\∃i σ' H',Inv X pins σ' H' s7/\tn i s7.heap/\(∀b∈fp,H' b=none)/\W i m σ' H':=λ{σ7 H7} I7 n7=>by
   obtain⟨m',hm,w7⟩:=hN σ7 H7 n7;refine⟨m',hm,i+1,σ7,H7,I7.unpinned,T.keep _ _ _ st5 λb hb o e=>(I7.pin (b,o) (zd _ (zd _ (q2h hb e)))).1,λb hb=>?_,w7⟩;obtain⟨o,e,d⟩:=T.obj _ _ st5 b hb;exact(I7.pin (b,o) (zd _ (zd _ (q2h hb e)))).2.1
  cases f with
  | next=>obtain⟨σ7,H7,I7,n7⟩:=q7;exact again I7 n7
  | cont=>obtain⟨σ7,H7,I7,n7⟩:=q7;exact again I7 n7
  | brk=>obtain⟨σ7,H7,I7,q7⟩:=q7;exact⟨σ7,H7,I7.unpinned,q7⟩
  | ret v=>obtain⟨x7,σ7,H7,I7,r7,q7⟩:=q7;exact⟨x7,σ7,H7,I7.unpinned,r7,q7⟩
end
abbrev R2:=V->V->Hp->VK->Prop
def OpR(X:Cx)(f:vB->vB->Sem vB)(r:R2):Prop :=
 ∀(pins:List (vJ×Obj))(s:vG)(σ:St)(H:Hp)(x y:V)(v u:vB)(Q:VK),Inv X pins σ H s->RelV x v->RelV y u->r x y H Q ->
  vN (model X.prog X.w) X.A (f v u) (EP X pins σ Q) X.xe s
def UnR(X:Cx)(f:vB->Sem vB)(r:V->Hp->VK->Prop):Prop :=
 ∀(pins:List (vJ×Obj))(s:vG)(σ:St)(H:Hp)(x:V)(v:vB)(Q:VK),Inv X pins σ H s->RelV x v->r x H Q ->
  vN (model X.prog X.w) X.A (f v) (EP X pins σ Q) X.xe s
def Xu(X:Cx)(f:vB)(r:List V->Hp->VK->Prop):Prop :=
 ∀(pins:List (vJ×Obj))(s:vG)(σ:St)(H:Hp)(xs:List V)(us:List vB)(Q:VK),Inv X pins σ H s->Y2 xs us->r xs H Q ->
  vN (model X.prog X.w) X.A (call f us) (EP X pins σ Q) X.xe s
def TruR(X:Cx)(r:V->Hp->(Bool->Hp->Prop)->Prop):Prop :=
 ∀(pins:List (vJ×Obj))(s:vG)(σ:St)(H:Hp)(x:V)(v:vB)(Q:Bool->Hp->Prop),Inv X pins σ H s->RelV x v->r x H Q ->
  vN (model X.prog X.w) X.A (truthy v) (TP X pins σ Q) X.xe s
noncomputable def tOp(r:R2)(ta tb:TE):TE:=λσ H Q=>ta σ H λx H1=>tb σ H1 λy H2=>r x y H2 Q
noncomputable def tUn(r:V->Hp->VK->Prop)(ta:TE):TE:=λσ H Q=>ta σ H λx H1=>r x H1 Q
noncomputable def rI(C:Int->Int->Prop)(g:Int->Int->V):R2:=λx y H Q=>∃i j,x=.int i/\y=.int j/\C i j/\Q (g i j) H
noncomputable def rI0(g:Int->Int->V):R2:=λx y H Q=>∃i j,x=.int i/\y=.int j/\Q (g i j) H
def rU(g:Int->V):V->Hp->VK->Prop:=λx H Q=>∃i,x=.int i/\Q (g i) H
section
variable{X:Cx}{a b c:vX}{ta tb tc:TE}{pos:Pos}
theorem binT(ha:PE X a ta)(hb:PE X b tb){pins:List (vJ×Obj)}{s:vG}{σ:St}{H:Hp}{R:V->V->Hp->Prop}(I:Inv X pins σ H s)(h:ta σ H λx H1=>tb σ H1 λy H2=>R x y H2){Q:vB->vG->Prop}{f:vB->vB->Sem vB}(hf:∀v u s2 x y H2,Inv X pins σ H2 s2->RelV x v->RelV y u->R x y H2->vN (model X.prog X.w) X.A (f v u) Q X.xe s2):
  vN (model X.prog X.w) X.A (eval a X.env) (λv s₁=>vN (model X.prog X.w) X.A (eval b X.env) (λu s₂=>vN (model X.prog X.w) X.A (f v u) Q X.xe s₂) X.xe s₁) X.xe s:=by
 refine thn (ha pins s σ H _ I h) λv s1 ⟨x,H1,I1,r1,q1⟩=>?_;refine thn (hb pins s1 σ H1 _ I1 q1) λu s2 ⟨y,H2,I2,r2,q2⟩=>?_;exact hf v u s2 x y H2 I2 r1 r2 q2
theorem qh3{op:Operator}{r:R2}(ho:OpR X (uQ op) r)(ha:PE X a ta)(hb:PE X b tb):PE X (.BinOp a op b pos) (tOp r ta tb):=by
 intro pins s σ H Q I h;exact wpAny_BinOp (binT ha hb I h λv u s2 x y H2 I2 rx ry q=>ho pins s2 σ H2 x y v u Q I2 rx ry q)
theorem qh0{op:UnaryOp}{r:V->Hp->VK->Prop}(ho:UnR X (unaryOp op) r)(ha:PE X a ta):PE X (.UnaryOp op a pos) (tUn r ta):=by
 intro pins s σ H Q I h;exact UnaryOp_ (thn (ha pins s σ H _ I h) λv s1 ⟨x,H1,I1,r1,q1⟩=>ho pins s1 σ H1 x v Q I1 r1 q1)
theorem opI{f:vB->vB->Sem vB}{C:Int->Int->Prop}{g:Int->Int->Int}(rule:∀(i j:Int)(t u:Tok)(s:vG)(Q:vB->vG->Prop)(E:vB->vG->Prop),C i j->Q (.int (g i j) s.toks) { s with toks:=s.toks+1 }->vN (model X.prog X.w) X.A (f (.int i t) (.int j u)) Q E s):
  OpR X f (rI C λi j=>.int (g i j)):=by
 intro pins s σ H x y v u Q I rx ry h;obtain⟨i,j,rfl,rfl,hc,q⟩:=h;obtain⟨t,rfl⟩:=rx;obtain⟨t',rfl⟩:=ry;exact rule i j t t' s _ _ hc ⟨.int (g i j),H,I.tok _,⟨_,rfl⟩,q⟩
theorem opI0{f:vB->vB->Sem vB}{g:Int->Int->Int}(rule:∀(i j:Int)(t u:Tok)(s:vG)(Q:vB->vG->Prop)(E:vB->vG->Prop),Q (.int (g i j) s.toks) { s with toks:=s.toks+1 }->vN (model X.prog X.w) X.A (f (.int i t) (.int j u)) Q E s):
  OpR X f (rI0 λi j=>.int (g i j)):=by
 intro pins s σ H x y v u Q I rx ry h;obtain⟨i,j,rfl,rfl,q⟩:=h;obtain⟨t,rfl⟩:=rx;obtain⟨t',rfl⟩:=ry;exact rule i j t t' s _ _ ⟨.int (g i j),H,I.tok _,⟨_,rfl⟩,q⟩
theorem opB0{f:vB->vB->Sem vB}{g:Int->Int->Bool}(rule:∀(i j:Int)(t u:Tok)(s:vG)(Q:vB->vG->Prop)(E:vB->vG->Prop),Q (.bool (g i j)) s->vN (model X.prog X.w) X.A (f (.int i t) (.int j u)) Q E s):
  OpR X f (rI0 λi j=>.bl (g i j)):=by
 intro pins s σ H x y v u Q I rx ry h;obtain⟨i,j,rfl,rfl,q⟩:=h;obtain⟨t,rfl⟩:=rx;obtain⟨t',rfl⟩:=ry;exact rule i j t t' s _ _ ⟨.bl (g i j),H,I,rfl,q⟩
def CDiv(i j:Int):Prop:=0<j/\j<1073741824
def CPow(i j:Int):Prop:=0<=j/\j<=1000000/\i.natAbs<2^64
def CMul(i j:Int):Prop:=(-(2^64)<i/\i<2^64)\/(-(2^64)<j/\j<2^64)
theorem CMul.ok{i j:Int}(h:CMul i j):IntMulOk i j:=by
 rcases h with⟨h1,h2⟩|⟨h1,h2⟩
 ·exact .of_left (intBits_le_64 h1 h2)
 ·exact .of_right (intBits_le_64 h1 h2)
theorem qgN:OpR X (uQ .Add) (rI0 λi j=>.int (i+j)):=opI0 λ_ _ _ _ _ _ _ q=>add_int q
theorem qgl:OpR X (uQ .Sub) (rI0 λi j=>.int (i-j)):=opI0 λ_ _ _ _ _ _ _ q=>sub_int q
theorem qgJ:OpR X (uQ .Mult) (rI CMul λi j=>.int (i*j)):=opI λ_ _ _ _ _ _ _ hc q=>mul_int q hc.ok
theorem qfh:OpR X (uQ .FloorDiv) (rI CDiv λi j=>.int (i/j)):=opI λi j _ _ _ _ _ hc q=>by
 have h1:(0:Int)<j:=hc.1;have h2:j<1073741824:=hc.2;exact floordiv_int ∅ (by rw[Int.fdiv_eq_ediv_of_nonneg i ∅];exact q) (.inl (PyProof.noPylong_small ∅))
theorem qgm:OpR X (uQ .Mod) (rI (λ_ j=>0<j) λi j=>.int (i%j)):=opI λi j _ _ _ _ _ hc q=>by
 have h1:(0:Int)<j:=hc;exact mod_int' ∅ (by rw[Int.fmod_eq_emod_of_nonneg i ∅];exact q)
theorem qgK:OpR X (uQ .Pow) (rI CPow λi j=>.int (i^j.toNat)):=opI λ_ _ _ _ _ _ _ hc q=>pow_int_small hc.1 hc.2.1 hc.2.2 q
theorem unI{f:vB->Sem vB}{g:Int->Int}(rule:∀(i:Int)(t:Tok)(s:vG)(Q:vB->vG->Prop)(E:vB->vG->Prop),Q (.int (g i) s.toks) { s with toks:=s.toks+1 }->vN (model X.prog X.w) X.A (f (.int i t)) Q E s):
  UnR X f (rU λi=>.int (g i)):=by
 intro pins s σ H x v Q I rx h;obtain⟨i,rfl,q⟩:=h;obtain⟨t,rfl⟩:=rx;exact rule i t s _ _ ⟨.int (g i),H,I.tok _,⟨_,rfl⟩,q⟩
theorem qg4:UnR X (unaryOp .USub) (rU λi=>.int (-i)):=unI λ_ _ _ _ _ q=>neg_int q
end
section
variable{X:Cx}{a b c:vX}{ta tb tc:TE}{pos:Pos}
theorem qgE{pins:List (vJ×Obj)}{σ:St}{H:Hp}{s:vG}{Q:VK}{k k':Bool}(I:Inv X pins σ H s)(q:Q (.bl k) H)(e:k=k'):EP X pins σ Q (.bool k') s:=by
 subst e;exact⟨.bl k,H,I,rfl,q⟩
theorem qek:OpR X (uE .Lt) (rI0 λi j=>.bl (decide (i<j))):=opB0 λ_ _ _ _ _ _ _ q=>lt_int q
theorem qgU:OpR X (uE .LtE) (rI0 λi j=>.bl (decide (i<=j))):=opB0 λ_ _ _ _ _ _ _ q=>le_int q
theorem qgT:OpR X (uE .GtE) (rI0 λi j=>.bl (decide (j<=i))):=opB0 λ_ _ _ _ _ _ _ q=>ge_int q
theorem qf7:OpR X (uE .IsNot) (λx y H Q=>y=.non/\Q (.bl (!decide (x=.non))) H):=by
 intro pins s σ H x y v u Q I rx ry h;obtain⟨rfl,q⟩:=h;cases ry;refine isnot_none_gen (qgE I q ?_);cases x <;> first
  | (cases rx;rfl)
  | (obtain⟨t,rfl⟩:=rx;rfl)
theorem OpR.or{f:vB->vB->Sem vB}{r r':R2}(h:OpR X f r)(h':OpR X f r'):OpR X f (λx y H Q=>r x y H Q\/r' x y H Q):=by
 intro pins s σ H x y v u Q I rx ry q;rcases q with q|q
 ·exact h pins s σ H x y v u Q I rx ry q
 ·exact h' pins s σ H x y v u Q I rx ry q
theorem X9(b:vX){op:sM}(h:op≠.In:=by decide)(h2:op≠.NotIn:=by decide):v5 op b=false:=by
 have e1:(op==CmpOp.In)=false:=by cases op <;> first|rfl|exact vL rfl h
 have e2:(op==CmpOp.NotIn)=false:=by cases op <;> first|rfl|exact vL rfl h2
 cases b <;> simp[v5,e1,e2]
theorem qfe{op:sM}{r:R2}(ho:OpR X (uE op) r)(ha:PE X a ta)(hb:PE X b tb)(hm:v5 op b=false):PE X (.Compare a [op] [b] pos) (tOp r ta tb):=by
 intro pins s σ H Q I h;exact wpAny_Compare1 (binT ha hb I h λv u s2 x y H2 I2 rx ry q=>ho pins s2 σ H2 x y v u Q I2 rx ry q) hm
noncomputable def tTest(t:TE):TT:=λσ H Q=>t σ H λx H'=>∃k,x=.bl k/\Q k H'
theorem qeB{op:sM}{r:R2}(ho:OpR X (uE op) r)(ha:PE X a ta)(hb:PE X b tb)(hm:v5 op b=false):PT X (.Compare a [op] [b] pos) (tTest (tOp r ta tb)):=by
 intro pins s σ H Q I h;refine tU (thn (ha pins s σ H _ I h) λv s1 ⟨x,H1,I1,r1,q1⟩=>thn (hb pins s1 σ H1 _ I1 q1) λu s2 ⟨y,H2,I2,r2,q2⟩=>
  thn (ho pins s2 σ H2 x y v u _ I2 r1 r2 q2) λc s3 ⟨z,H3,I3,r3,k,e,q3⟩=>?_) hm
 subst e;cases r3;exact uF ⟨H3,I3,q3⟩
def TruV(K:zA)(x:V)(H:Hp)(k:Bool):Prop :=
 match x with
 | .non=>k=false
 | .bl b=>k=b
 | .int i=>k=(i != 0)
 | .str y=>y.length<=sizeLine/\k=((y.length:Int) != 0)
 | .byt y=>y.size<=sizeLine/\k=((y.size:Int) != 0)
 | .ref p=>(∃xs,SqL K H p xs/\k=!xs.isEmpty)\/(∃xs,SqT K H p xs/\k=!xs.isEmpty)\/∃kvs,H p=some (.dK kvs)/\k=!kvs.isEmpty
 | _=>False
theorem qbb{κ:Type}{kvs:List (κ×V)}{vs:List (κ×vB)}(r:KV kvs vs):(!vs.isEmpty)=!kvs.isEmpty:=by
 cases r <;> rfl
theorem q5o{xs:List V}{its:List vB}(r:Y2 xs its):(!its.toArray.isEmpty)=!xs.isEmpty:=by
 cases r <;> simp
theorem Wu:(sizeLine:Nat)<2^63:=by rw[vp];decide
theorem qg8:TruR X (λx H Q=>∃k,TruV X.K x H k/\Q k H):=by
 intro pins s σ H x v Q I rx h;obtain⟨k,e,q⟩:=h;have hl:=Wu;have hs:sizeLine=16777216:=vp;cases x with
 | non=>
  cases rx;have e':k=false:=e;subst e';exact truthy_none ⟨H,I,q⟩
 | bl b=>
  cases rx;have e':k=b:=e;subst e';exact uF ⟨H,I,q⟩
 | int i=>
  obtain⟨t,rfl⟩:=rx;have e':k=(i != 0):=e;subst e';exact PySem.P.truthy_int ⟨H,I,q⟩
 | str y=>
  obtain⟨t,rfl⟩:=rx;obtain⟨hy,e'⟩:y.length<=sizeLine/\k=((y.length:Int) != 0):=e;subst e';exact PySem.P.truthy_str ∅ ⟨H,I.tok _,q⟩
 | byt y=>
  obtain⟨t,rfl⟩:=rx;obtain⟨hy,e'⟩:y.size<=sizeLine/\k=((y.size:Int) != 0):=e;subst e';exact PySem.W.truthy_bytes ∅ ⟨H,I.tok _,q⟩
 | ref p=>
  cases rx;have e':(∃xs,SqL X.K H p xs/\k=!xs.isEmpty)\/(∃xs,SqT X.K H p xs/\k=!xs.isEmpty)\/∃kvs,H p=some (.dK kvs)/\k=!kvs.isEmpty:=e;rcases e' with⟨xs,hx,e'⟩|⟨xs,hx,e'⟩|⟨kvs,hx,e'⟩
  ·subst e'
   obtain⟨its,r,pl,hz⟩:=I.list hx;have hlen:=r.length;exact wpAny_truthy_list pl.isList (by simp only[zN];omega) ⟨H,I.tok _,by rw[q5o r];exact q⟩
  ·subst e'
   obtain⟨its,r,pl,hz⟩:=I.tuple hx;have hlen:=r.length;exact truthy_tuple pl (by simp only[zN];omega) ⟨H,I.tok _,by rw[q5o r];exact q⟩
  ·subst e'
   obtain⟨hz,hS,vs,r,m⟩:kvs.length<=sizeLine/\(p==uK)=false/\∃vs,KV kvs vs/\s.heap.DictOf (Yx X.prog X.w) p vs:=I.hok p _ hx;have hlen:kvs.length=vs.length:=Paired.length r;exact wpAny_truthy_dict hS m ∅ ⟨H,I.tok _,by rw[qbb r];exact q⟩
 | _=>exact(show False from e).elim
theorem q3y(ha:PE X a ta)(he:∀whole,sf a X.env whole=(do let v <- whole;sV a.pos;holding [v] (truthy v))):
  PT X a (λσ H Q=>ta σ H λx H'=>∃k,TruV X.K x H' k/\Q k H'):=by
 intro pins s σ H Q I h;exact isTrue_plain (thn (ha pins s σ H _ I h) λv s1 ⟨x,H1,I1,r1,q1⟩=>qg8 pins s1 σ H1 x v Q I1 r1 q1) (he _)
theorem vals1{x:V}{us:List vB}(r:Y2 [x] us):∃u,us=[u]/\RelV x u:=by
 cases r with
 | cons r1 r2=>cases r2;exact⟨_,rfl,r1⟩
theorem vals2{x y:V}{us:List vB}(r:Y2 [x,y] us):∃u w',us=[u,w']/\RelV x u/\RelV y w':=by
 cases r with
 | cons r1 r2=>
  cases r2 with
  | cons r3 r4=>cases r4;exact⟨_,_,rfl,r1,r3⟩
theorem qdP:Xu X (.builtin "abs") (λxs H Q=>∃i,xs=[.int i]/\Q (.int (if i<0 then -i else i)) H):=by
 intro pins s σ H xs us Q I r h;obtain⟨i,rfl,q⟩:=h;obtain⟨u,rfl,t,rfl⟩:=vals1 r;exact call_abs_int λu tk=>⟨.int (if i<0 then -i else i),H,I.tok _,⟨_,rfl⟩,q⟩
end
structure ObjM (h:vn) (x dx C:vJ) (mA:Str->Option vB):Prop where
 obj:h.get? x=some (ZG C dx)
 ns:h.Ns1 dx mA
 ne:dx≠x
theorem qcA{h:vn}{dx:vJ}{mA:Str->Option vB}(n:h.Ns1 dx mA):∃od,h.get? dx=some od/\∀name,ZN name od=some (mA name):=by
 obtain⟨o,es,ep,ho,hd,hk,_,hm⟩:=n;refine⟨o,ho,λname=>?_⟩;have e:=hm name;unfold nsFind findBy at e;rw[<- Array.find?_toList]at e;unfold ZN;rw[hd]
 dsimp only
 split
 ·rename_i y q
  rw[q]at e;exact uL some e
 ·rename_i q
  rw[q]at e;have a:es.toList.any (·.refKey)=false:=by
   rw[Zr];intro y hy;obtain⟨z,t,hkey⟩:=hk y (Array.mem_toList_iff.mp hy);simp[DictEntry.refKey,hkey]
  have a':¬es.toList.any (·.refKey)=true:=by rw[a];exact yF
  rw[vF a'];exact uL some e
theorem ObjM.look{h:vn}{x dx C:vJ}{mA:Str->Option vB}(I:ObjM h x dx C mA):∃od,PySem.W.InstAt h x (ZG C dx) C (some od)/\∀name,ZN name od=some (mA name) :=
 let ⟨od,ho,hl⟩:=qcA I.ns
 ⟨od,⟨I.obj,rfl,rfl,ho⟩,hl⟩
section
variable{prog:vS}{w:vZ}{A:vb}{E:vB->vG->Prop}{s:vG}{K:zA}{x dx C f:vJ}{mA:Str->Option vB}{name:Str}{v:vB}
end
theorem zA4.some_of{v:V}{o:Option vB}(r:zA4 (some v) o):∃u,o=some u/\RelV v u:=by
 cases o with
 | none=>exact(show False from r).elim
 | some u=>exact⟨u,rfl,r⟩
section
variable{P:vS}{w:vZ}{H H':Hp}{h h':vn}{a C dx:vJ}{fs fs':List (Str×V)}
theorem qer(hok:HOk P w H h)(e:H a=some (.ins C dx fs)):∃mA,ObjM h a dx C mA/\(∀f,zA4 (fs.lookup f) (mA f))/\PySem.Within mA (fs.map (·.1))/\fs.length<=1000/\H dx=some (.own a):=by
 obtain⟨d,z,ne,ob,mA,n,r,q⟩:=(show Y6 P w H h a (.ins C dx fs)from hok a _ e);exact⟨mA,⟨ob,n,ne⟩,r,q,z,d⟩
end
structure Cls (K:zA) (C:vJ):Prop where
 pg:YB K C Str.empty=true
 hd:PySem.W.hasDictIn K C=true
 po:PySem.W.plainOver K C=true
 sa:YR K (.ref C) "__setattr__" = some (some (.builtin "object.__setattr__"))
theorem Cls.get{K:zA}{C:vJ}(c:Cls K C)(f:Str):YB K C f=true:=c.pg
section
variable{X:Cx}{pins:List (vJ×Obj)}{σ:St}{H:Hp}{s:vG}{a C dx:vJ}{fs:List (Str×V)}{f:Str}{v:V}{A:vb}{E:vB->vG->Prop}
end
section
variable{X:Cx}{o e value:vX}{f:Str}{pos pos' tpos:Pos}{ta tv:TE}
end
section
variable{X:Cx}{pins:List (vJ×Obj)}{σ:St}{H:Hp}{s:vG}{A:vb}{E:vB->vG->Prop}{Q:vB->vG->Prop}{c:vB}{b:Bool}
inductive TyOf (K:zA) (H:Hp):V->vB->Prop where
 | non:TyOf K H .non (.type "NoneType")
 | bl (x:Bool):TyOf K H (.bl x) (.type "bool")
 | int (i:Int):TyOf K H (.int i) (.type "int")
 | str (x:Str):TyOf K H (.str x) (.type "str")
 | flt (x:UInt64):TyOf K H (.flt x) (.type "float")
 | lst {a:vJ} {xs:List V} (e:H a=some (.lst xs)):TyOf K H (.ref a) (.type "list")
 | frz {a:vJ} {o:Obj} {xs:List V} (e:H a=some (.frz o (.lst xs))):TyOf K H (.ref a) (.type "list")
 | tup {a:vJ} {xs:List V} (e:H a=some (.tup xs)):TyOf K H (.ref a) (.type "tuple")
 | dK {a:vJ} {kvs:List (Key×V)} (e:H a=some (.dK kvs)):TyOf K H (.ref a) (.type "dict")
 | dT {a:vJ} {kvs:List (List Key×V)} (e:H a=some (.dT kvs)):TyOf K H (.ref a) (.type "dict")
 | ins {a C dx:vJ} {fs:List (Str×V)} (e:H a=some (.ins C dx fs)) (cl:Cls K C) (ha:YR K (.ref C) "__class__" = some (some (.builtin "object.__class__")))
   (hn:PySem.W.specialIn K (.builtin "object.__class__") "__get__" = some (some (.builtin "getset_descriptor.__get__"))) (htk:PySem.W.takesIn K (.builtin "object.__class__")=some true)
   (hm:PySem.W.mroIn K C (.type "object")=some true):TyOf K H (.ref a) (.ref C)
theorem qc2{x:V}{u t:vB}(I:Inv X pins σ H s)(rx:RelV x u)(ty:TyOf X.K H x t)(e:ZO X.K t c=some b)(h:∀tk,Q (.bool b) { s with toks:=tk }):
  vN (model X.prog X.w) A (call (.builtin "isinstance") [u,c]) Q E s:=by
 cases ty with
 | non=>cases (show u=Value.none from rx);exact yd PySem.W.kitx_none I.kIn True.intro e (λz=>nomatch z) h
 | bl y=>cases (show u=Value.bool y from rx);exact yd PySem.W.kitx_bool I.kIn True.intro e (λz=>nomatch z) h
 | int i=>obtain⟨t,q⟩:=(show ∃t,u=Value.int i t from rx);cases q;exact yd PySem.W.kitx_int I.kIn True.intro e (λz=>nomatch z) h
 | str y=>obtain⟨t,q⟩:=(show ∃t,u=Value.str y t from rx);cases q;exact yd PySem.W.kitx_str I.kIn True.intro e (λz=>nomatch z) h
 | flt y=>obtain⟨t,q⟩:=(show ∃t,u=Value.float y t from rx);cases q;exact yd PySem.W.kitx_float I.kIn True.intro e (λz=>nomatch z) h
 | @lst a xs ea=>
  cases (show u=Value.ref a from rx);obtain⟨_,_,n,_,h1⟩:=(show Y6 X.prog X.w H s.heap a (.lst xs)from I.hok a _ ea);exact yd Zs I.kIn ⟨_,h1,rfl⟩ e (λz=>nomatch z) h
 | @frz a ob xs ea=>
  cases (show u=Value.ref a from rx);obtain⟨_,_,_,n,_,h1⟩:=(show Y6 X.prog X.w H s.heap a (.frz ob (.lst xs))from I.hok a _ ea);exact yd Zs I.kIn ⟨_,h1,rfl⟩ e (λz=>nomatch z) h
 | @tup a xs ea=>
  cases (show u=Value.ref a from rx);obtain⟨_,_,_,p⟩:=(show Y6 X.prog X.w H s.heap a (.tup xs)from I.hok a _ ea);obtain⟨o,h1,h2,_⟩:=p;exact yd PySem.W.kitx_tuple I.kIn ⟨o,h1,h2⟩ e (λz=>nomatch z) h
 | @dK a kvs ea=>
  cases (show u=Value.ref a from rx);obtain⟨_,_,vs,_,p⟩:=(show Y6 X.prog X.w H s.heap a (.dK kvs)from I.hok a _ ea);obtain⟨o,es,ep,h1,h2,_⟩:=p;exact yd Zt I.kIn ⟨o,h1,h2.1⟩ e (λz=>nomatch z) h
 | @dT a kvs ea=>
  cases (show u=Value.ref a from rx);obtain⟨_,_,xs,_,o,es,ep,h1,h2,_⟩:=(show Y6 X.prog X.w H s.heap a (.dT kvs)from I.hok a _ ea);exact yd Zt I.kIn ⟨o,h1,h2.1⟩ e (λz=>nomatch z) h
 | @ins a C dx fs ea cl ha hn htk hm=>
  cases (show u=Value.ref a from rx);obtain⟨mA,O,_⟩:=qer I.hok ea;obtain⟨od,J,_⟩:=O.look;exact yd (PySem.W.kitx_own (cl.get _) cl.hd ha hn htk hm) I.kIn J e (λz=>nomatch z) h
end
structure Room (k:Nat) (A:vb):Prop where
 hd:A.handled=none
 dp:A.depth+3*k+5<recursionLimit
 un:A.units+16*k+200<uc
theorem Room.mono{j k:Nat}{A:vb}(r:Room k A)(h:j<=k):Room j A:=⟨r.hd,by have:=r.dp;omega,by have:=r.un;omega⟩
theorem Room.deeper{k:Nat}{A:vb}(r:Room (k+1) A)(env:Env):Room k (A.deeper env) :=
 ⟨r.hd,by have:=r.dp;show A.depth+1+3*k+5<_;omega,by have:=r.un;show A.units+3+16*k+200<_;omega⟩
theorem Room.depth{k:Nat}{A:vb}(r:Room k A):A.depth<recursionLimit:=by have:=r.dp;omega
theorem Room.units{k:Nat}{A:vb}(r:Room k A):A.units+64<uc:=by have:=r.un;omega
noncomputable def zAr:TA:=λ_ H Q=>Q [] H
noncomputable def Ww(ta:TE)(tr:TA):TA:=λσ H Q=>ta σ H λx H1=>tr σ H1 λxs H2=>Q (x::xs) H2
section
variable{X:Cx}{e:vX}{es:List vX}{te:TE}{t:TA}{pos:Pos}
theorem qt:PA X [] zAr:=λ_ _ _ _ H Q I h=>Calls.spliced_nil ⟨[],H,I,.nil,h⟩
theorem qv(ha:PE X e te)(hr:PA X es t)(hs:vK (e::es) X.env=(false,eval e X.env)::vK es X.env:=by rfl):PA X (e::es) (Ww te t):=by
 intro pos pins s σ H Q I h;rw[hs];show vN _ _ (spliced ((false,eval e X.env)::v3 pos (vK es X.env))) _ _ s;refine Calls.spliced_cons (thn (ha pins s σ H _ I h) λu s1 ⟨x,H1,I1,r1,q1⟩=>?_);exact thn (hr pos pins s1 σ H1 _ I1 q1) λus s2 ⟨xs,H2,I2,r2,q2⟩=>⟨x::xs,H2,I2,.cons r1 r2,q2⟩
noncomputable def tTup(t:TA):TE:=λσ H Q=>t σ H λxs H1=>xs.length<=sizeLine/\∀p,H1 p=none->Q (.ref p) (upd H1 p (.tup xs))
noncomputable def zCv(t:TA):TE:=λσ H Q=>t σ H λxs H1=>xs.length<=sizeLine/\∀p,H1 p=none->Q (.ref p) (upd H1 p (.lst xs))
theorem qfT{x1}(h:PA X es t):PE X (.Tuple es x1 pos) (tTup t):=by
 intro pins s σ H Q I hq;refine wpAny_Tuple_spliced (thn (h pos pins s σ H _ I hq) λus s1 ⟨xs,H1,I1,r,z,q⟩=>⟨by rw[<- r.length];exact z,?_⟩);have hf:H1 s1.heap.objs.size=none:=I1.hok.fresh (zK _);refine⟨.ref s1.heap.objs.size,upd H1 s1.heap.objs.size (.tup xs),I1.laid (t':=s1.toks) (λb u e=>zF _ e) (zK _) ?_,rfl,q _ hf⟩;exact⟨z,us,r,⟨_,zQ _ rfl,rfl,_,rfl⟩⟩
theorem q2l(h:PA X es t):PE X (.List es pos) (zCv t):=by
 intro pins s σ H Q I hq;refine wpAny_List_spliced (thn (h pos pins s σ H _ I hq) λus s1 ⟨xs,H1,I1,r,z,q⟩=>⟨by rw[<- r.length];exact z,?_⟩);have hf:H1 s1.heap.objs.size=none:=I1.hok.fresh (zK _);refine⟨.ref s1.heap.objs.size,upd H1 s1.heap.objs.size (.lst xs),I1.laid (t':=s1.toks) (λb u e=>zF _ e) (zK _) ?_,rfl,q _ hf⟩;exact⟨z,us,0,r,zQ _ rfl⟩
end
abbrev Sp:=List V->Hp->VK->XK->Prop
abbrev CXT:=List Env->Hp->vG->XK->vB->vG->Prop
structure Env0 (P:vS) (w:vZ) (K:zA) (mg:Str->Option vB) (base:vn) (A:vb) (outer:List Env) (s:vG) (H:Hp):Prop where
 frames:A.frames=some outer
 mod:Mod K mg base
 bs:∀b o,base.get? b=some o->s.heap.get? b=some o/\H b=none
 bsz:base.objs.size<=s.heap.objs.size
 funs:s.heap.FunFrames base outer
 frf:∀b∈frs outer,H b=none
 hok:HOk P w H s.heap
 bare:tF s.gens
def CE(outer:List Env)(P:vS)(w:vZ)(H:Hp)(s:vG)(Q:VK)(u:vB)(s':vG):Prop :=
 ∃v H',s'.os=s.os/\tF s'.gens/\Un (frs outer) [] H H' s.heap s'.heap/\HOk P w H' s'.heap/\RelV v u/\Q v H'
def CR(CX:CXT)(outer:List Env)(P:vS)(w:vZ)(H:Hp)(s:vG)(Q:VK)(E:XK)(r:sC)(s':vG):Prop :=
 match r with
 | .ok (.ret u)=>CE outer P w H s Q u s'
 | .ok _=>False
 | .error e=>CX outer H s E e s'
structure FnOk (P:vS) (w:vZ) (K:zA) (mg:Str->Option vB) (base:vn) (CX:CXT) (k:Nat) (f:vJ) (fd:vP) (ps:List Str) (sp:Sp):Prop where
 len:∀vs H Q E,sp vs H Q E->vs.length=ps.length
 run:∀(A:vb)(outer:List Env)(s:vG)(H:Hp)(args:Args)(us:List vB)(vs:List V)(Q:VK)(E:XK),Room k A->Env0 P w K mg base A outer s H->sF s fd args (ps.zip us)->Y2 vs us->sp vs H Q E ->
  uh (model P w) A (.call (.ref f) args) (CR CX outer P w H s Q E) s
section
variable{X:Cx}{pins:List (vJ×Obj)}{σ:St}{H:Hp}{s s':vG}
theorem Inv.env0(I:Inv X pins σ H s):Env0 X.prog X.w X.K X.mg X.base X.A X.stack s H :=
 ⟨I.ok.frames,I.ok.mod,I.bs,yK I.ok.bsz I.sz,I.stack,I.stkFree,I.hok,I.bare⟩
theorem Inv.after{Q:VK}{u:vB}(I:Inv X pins σ H s)(h:CE X.stack X.prog X.w H s Q u s'):EP X pins σ Q u s':=by
 obtain⟨v,H',os,bare,un,hok,r,q⟩:=h;obtain⟨hh,g,d,t,os'⟩:=s';obtain rfl:os'=s.os:=os;exact⟨v,H',I.call (h':=hh) (g':=g) (d':=d) (t':=t) (ch:=[]) un hok bare (λb z=>vL z (by simp)),r,q⟩
end
noncomputable def zCU(sp:Sp)(dvs:List V)(E:XK)(t:TA):TE:=λσ H Q=>t σ H λvs H1=>sp (vs++dvs) H1 Q E
def Binds(K:zA)(fd:vP)(ps:List Str)(ds:List vB):Prop :=
 ∀(s:vG)(us:List vB),K.In s.heap->(us++ds).length=ps.length->sF s fd ⟨us,[]⟩ (ps.zip (us++ds))
theorem Binds.all{K:zA}{fd:vP}{ps:List Str}(h:∀us:List vB,us.length=ps.length->bindArgs fd ⟨us,[]⟩=pure (ps.zip us)):Binds K fd ps []:=λs us _ hl=>by
 rw[yJ]at hl ⊢;exact .of_eq (h us hl)
def zAw(CX:CXT)(X:Cx)(E:XK):Prop:=∀(pins:List (vJ×Obj))(σ:St)(H:Hp)(s:vG)(e:vB)(s':vG),Inv X pins σ H s->CX X.stack H s E e s'->X.xe e s'
section
variable{X:Cx}{CX:CXT}{k:Nat}{f C:vJ}{fd:vP}{ps:List Str}{sp:Sp}{dvs:List V}{ds:List vB}{E:XK}{x m:Str}{p pos apos:Pos}{e o:vX}{es:List vX}{ta:TE}{t:TA}
theorem qgk{pins:List (vJ×Obj)}{σ:St}{H:Hp}{s:vG}{Q:VK}{us:List vB}{vs:List V}(F:FnOk X.prog X.w X.K X.mg X.base CX k f fd ps sp)(hr:Room k X.A)(hb:Binds X.K fd ps ds)(hd:Y2 dvs ds)(hx:zAw CX X E)(I:Inv X pins σ H s)(r:Y2 vs us)(h:sp (vs++dvs) H Q E):vN (model X.prog X.w) X.A (call (.ref f) us) (EP X pins σ Q) X.xe s:=by
 have r2:Y2 (vs++dvs) (us++ds):=r.append hd;have hl:(us++ds).length=ps.length:=by rw[<- r2.length];exact F.len _ _ _ _ h
 refine wpAny_call (ui (F.run X.A X.stack s H ⟨us,[]⟩ (us++ds) (vs++dvs) Q E hr I.env0 (hb s us I.kIn hl) r2 h) λr s' hq=>?_);cases r with
 | error e=>exact hx pins σ H s e s' I hq
 | ok fl=>
  cases fl with
  | ret u=>exact I.after hq
  | next=>exact False.elim hq
  | brk=>exact False.elim hq
  | cont=>exact False.elim hq
theorem q4u(F:FnOk X.prog X.w X.K X.mg X.base CX k f fd ps sp)(hr:Room k X.A)(hg:Gl X x)(hm:X.mg x=some (.ref f))(hk:xI X.K (.ref f)=true)(hb:Binds X.K fd ps ds)(hd:Y2 dvs ds)(hx:zAw CX X E)(ha:PA X (e::es) t)(hdb:(x==("__debug__" : Str))=false:=by decide)(he:vK (e::es) X.env=(false,eval e X.env)::vK es X.env:=by rfl)(hpl:(v3 pos (vK es X.env)).any (·.1)=false:=by rfl):
  PE X (.Call (.Name x p) (e::es) [] pos) (zCU sp dvs E t):=by
 intro pins s σ H Q I h;refine uS (qfl I hg hm ?_ hdb);refine PySem.W.callWith_K (h₀:=X.base) I.ok.mod.kin hk (thn (ha pos pins s σ H _ I h) λus s1 ⟨vs,H1,I1,r,q⟩=>⟨I1.kIn,?_⟩) he hpl;exact qgk F hr hb hd hx I1 r q
end
section
variable{X:Cx}{CX:CXT}{k:Nat}{f C:vJ}{fd:vP}{ps ks:List Str}{sp:Sp}{E:XK}{x m:Str}{p pos apos kpos:Pos}{e o:vX}{es:List vX}{kws:List uP}{te ta:TE}{t tk:TA}{nm:Option Str}
variable{g:List vB->List vB->List vB}{gV:List V->List V->List V}
end
structure FnScope (N P:List Str) (sc:um):Prop where
 kind:sc.kind=.function
 co:sc.isCoroutine=false
 gen:sc.isGenerator=false
 nd:N.Nodup
 pre:N.take P.length=P
 par:∀x∈P,sc.names.lookup x=some .local\/sc.names.lookup x=some .cell
 nofree:∀y∈sc.names,y.2≠.free
theorem q6Y{kindOf:Str->Option uT}{x:Str}:∀{binds:List (Str×vB)}{m:Str->Option vB},(∀v,(x,v)∉binds)->bindL kindOf binds m x=m x
 | [],_,_=>rfl
 | (n,v)::r,m,h=>by
  unfold bindL;rw[q6Y λw hw=>h w (zH _ hw)]
  split
  ·have:x≠n:=by rintro rfl;exact h v zI
   simp[this]
  ·rfl
theorem q6W{kindOf:Str->Option uT}{x:Str}:∀{binds:List (Str×vB)}{m:Str->Option vB},(∀v,(x,v)∉binds)->bindC kindOf binds m x=m x
 | [],_,_=>rfl
 | (n,v)::r,m,h=>by
  unfold bindC;rw[q6W λw hw=>h w (zH _ hw)]
  split
  ·rfl
  ·have:x≠n:=by rintro rfl;exact h v zI
   simp[this]
theorem q72{kindOf:Str->Option uT}{x:Str}{v:vB}:∀{P:List Str}{vs:List vB}{i:Nat}{m:Str->Option vB},P.Nodup->P[i]?=some x->vs[i]?=some v->kindOf x=some .local ->
  bindL kindOf (P.zip vs) m x=some v
 | [],_,_,_,_,h,_,_=>by simp at h
 | _::_,[],_,_,_,_,h,_=>by simp at h
 | p::P,w::vs,0,m,nd,h1,h2,hk=>by
  simp at h1 h2;subst h1;subst h2;show bindL kindOf ((p,w)::P.zip vs) m p=_;unfold bindL;rw[q6Y λv hv=>(xC.mp nd).1 (ZH hv).1,vC hk];simp
 | p::P,w::vs,i+1,m,nd,h1,h2,hk=>by
  show bindL kindOf ((p,w)::P.zip vs) m x=_;unfold bindL;exact q72 (i:=i) (xC.mp nd).2 ⇑h1 ⇑h2 hk
theorem q6R{kindOf:Str->Option uT}{x:Str}{v:vB}:∀{P:List Str}{vs:List vB}{i:Nat}{m:Str->Option vB},P.Nodup->P[i]?=some x->vs[i]?=some v->kindOf x≠some .local ->
  bindC kindOf (P.zip vs) m x=some v
 | [],_,_,_,_,h,_,_=>by simp at h
 | _::_,[],_,_,_,_,h,_=>by simp at h
 | p::P,w::vs,0,m,nd,h1,h2,hk=>by
  simp at h1 h2;subst h1;subst h2;show bindC kindOf ((p,w)::P.zip vs) m p=_;unfold bindC;rw[q6W λv hv=>(xC.mp nd).1 (ZH hv).1,vF hk];simp
 | p::P,w::vs,i+1,m,nd,h1,h2,hk=>by
  show bindC kindOf ((p,w)::P.zip vs) m x=_;unfold bindC;exact q6R (i:=i) (xC.mp nd).2 ⇑h1 ⇑h2 hk
noncomputable def start(N:List Str)(vs:List V):St:=vs.map some++zb (N.length-vs.length) none
noncomputable def zBA(CX:CXT)(P:vS)(w:vZ)(K:zA)(mg:Str->Option vB)(base:vn)(N:List Str)(qual:Str)(scope:um)(f:vJ)(cd:vB)(A:vb)(outer:List Env)(s:vG)(H:Hp)(E:XK):Cx where
 prog:=P
 w:=w
 K:=K
 mg:=mg
 base:=base
 A:=A.deeper (tV qual scope s.heap.objs.size f cd)
 N:=N
 s₀:=s
 H₀:=H
 env:=tV qual scope s.heap.objs.size f cd
 outer:=outer
 stack:=tV qual scope s.heap.objs.size f cd::outer
 ex:=[]
 calm:=true
 fn:=λ_=>true
 pn:=[]
 xe:=λe s'=>vN (model P w) (A.deeper (tV qual scope s.heap.objs.size f cd)) (leaving (tV qual scope s.heap.objs.size f cd) e) (λ_ s''=>CX outer H s E e s'') (λe' s''=>CX outer H s E e' s'') s'
theorem q8M{sc:um}{n:Nat}{x:Str}(h:sc.names.lookup x=some .cell):∃c,(cellsFrom n sc.names []).lookup x=some c:=by
 have q:=w8 sc.names n [] (.inl h);exact yh.mp q
theorem qbN{CX:CXT}{P:vS}{w:vZ}{K:zA}{mg:Str->Option vB}{base:vn}{N ps:List Str}{qual:Str}{scope:um}{f:vJ}{cd:vB}{A:vb}{outer:List Env}{s s1:vG}{H:Hp}{E:XK}{us:List vB}{vs:List V}(S:FnScope N ps scope)(hd:A.handled=none)(e0:Env0 P w K mg base A outer s H)(hl:vs.length=ps.length)(r:Y2 vs us)(x:InCallC s s.heap.objs.size (bindL (tV qual scope s.heap.objs.size f cd).kindOf (ps.zip us) λ_=>none) (cellsFrom (s.heap.objs.size+1) scope.names []) (bindC (tV qual scope s.heap.objs.size f cd).kindOf (ps.zip us) λ_=>none) s1):
  Inv (zBA CX P w K mg base N qual scope f cd A outer s H E) [] (start N vs) H s1:=by
 have hpl:ps.length<=N.length:=by have:=uL xh S.pre;rw[zv]at this;omega
 obtain⟨h1,tk,rfl,hk⟩:=x.done;have noA:∀b:vJ,b∉(zBA CX P w K mg base N qual scope f cd A outer s H E).ex:=λb z=>vL (show b∈([]:List vJ)from z) (by simp);refine⟨⟨e0.mod,S.kind,rfl,rfl,zK _,λy z c h1 h2=>?_,λy hy=>?_,λy c _ h=>?_,λ_=>hd,Around.frames_deeper e0.frames,.inr ⟨rfl,rfl⟩,λb z=>vL z (noA b),e0.bs,e0.bsz,λb _ _=>noA b,λb z=>vL z (noA b),e0.funs,e0.frf⟩,
  rfl,e0.bare,Un.kept hk,⟨_,x.toInCall.ns,λi y v h1 h2 h3=>?_⟩,λy c h=>⟨_,x.cell y c h⟩,e0.hok.fresh (zK _),λy c h=>?_,λp hp=>vL (show p∈([]:List (vJ×Obj))from hp) (by simp),e0.hok.kept hk,?_⟩
 ·exact name_of_addr x.apart (PySem.mem_of_lookup h1) (PySem.mem_of_lookup h2)
 ·have hy:scope.names.lookup y=some .cell\/scope.names.lookup y=some .free:=hy
  rcases hy with hy|hy
  ·exact q8M hy
  ·exact vL rfl (S.nofree _ (PySem.mem_of_lookup hy))
 ·exact yZ (x.above y c (PySem.mem_of_lookup h))
 ·have hi:i<vs.length:=by
   unfold start at h2
   by_cases hi:i<vs.length
   ·exact hi
   ·rw[zh ⇑hi]at h2
    rw[yb]at h2
    split at h2 <;> cases h2
  have ha:vs[i]?=some v:=by
   unfold start at h2;rw[zo ⇑hi,zV]at h2;cases e:vs[i]? with
   | none=>rw[e]at h2;cases h2
   | some a=>rw[e]at h2;cases h2;rfl
  obtain⟨u,hu,rv⟩:=r.get ha;have hp:ps[i]?=some y:=by
   rw[<- S.pre,xt ∅];exact h1
  have ndP:ps.Nodup:=by rw[<- S.pre];exact S.nd.sublist (we _ _)
  refine⟨u,rv,?_⟩;rcases S.par y (yS hp)with k|k
  ·exact .inl ⟨k,q72 ndP hp hu k⟩
  ·obtain⟨c,e⟩:=q8M (n:=s.heap.objs.size+1) k
   refine .inr ⟨.inl k,c,e,?_⟩;have q:=x.cell y c e;rw[q6R ndP hp hu (by show scope.names.lookup y≠_;rw[k];decide)]at q;exact q
 ·exact e0.hok.fresh (yZ (x.above y c (PySem.mem_of_lookup h)))
 ·unfold start
  show _=N.length;rw[zC,zB,yD];omega
theorem qh5{CX:CXT}{P:vS}{w:vZ}{K:zA}{mg:Str->Option vB}{base:vn}{k:Nat}{f:vJ}{name qual:Str}{params:Arguments}{body:List vx}{scope:um}{dV kV doc pm cdv ct oc:vB}{an od:Option vJ}{osl:Array (Option vB)}{N ps:List Str}{sp:Sp}(lk:K.lookup f=some ⟨oc,od,.func (xQ name qual params body scope dV kV doc pm an cdv ct),osl⟩)(hcd:wV K cdv qual=true)(S:FnScope N ps scope)(len:∀vs H Q E,sp vs H Q E->vs.length=ps.length)(hbody:∀(A:vb)(outer:List Env)(s:vG)(H:Hp)(vs:List V)(Q:VK)(E:XK),Room k (A.deeper (tV qual scope s.heap.objs.size f cdv))->sp vs H Q E ->
   ∃t,PSs (zBA CX P w K mg base N qual scope f cdv A outer s H E) body t/\t { nx:=λ_ H'=>Q .non H',rt:=Q } (start N vs) H) :
  FnOk P w K mg base CX (k+1) f (xQ name qual params body scope dV kV doc pm an cdv ct) ps sp:=by
 refine⟨len,λA outer s H args us vs Q E hr e0 hb r hsp=>?_⟩;have hl:=len _ _ _ _ hsp;have KX:K.In s.heap:=e0.mod.kin.keeps λb o e=>(e0.bs b o e).1;have lim:s.heap.NoLimit:=e0.mod.nolimit.keeps λb o e=>(e0.bs b o e).1;have hkind:∀y∈ps.zip us,scope.names.lookup y.1=some .local\/(scope.names.lookup y.1=some .cell/\((cellsFrom (s.heap.objs.size+1) scope.names []).lookup y.1).isSome=true):=λ⟨n,v⟩ hy=>by
  rcases S.par n (ZH hy).1 with q|q
  ·exact .inl q
  ·exact .inr ⟨q,w8 _ _ _ (.inl q)⟩
 refine codeAny_call_function hr.depth (KX _ _ lk) rfl S.co S.gen rfl (PySem.W.codeRec_of KX hcd) (hb _ _ _ _ ?_);refine wpAny_newFunctionEnv_cells S.kind hkind λenv he s1 x=>?_;subst he;refine⟨lim.keeps x.toInCall.keep,codeAny_func ?_⟩;obtain⟨t,ht,hq⟩:=hbody A outer s H vs Q E (hr.deeper _) hsp;have I:Inv (zBA CX P w K mg base N qual scope f cdv A outer s H E) [] (start N vs) H s1:=qbN S hr.hd e0 hl r x;refine vq (ht [] s1 (start N vs) H _ I hq) (λfl s' hs=>?_) λe s' hs=>hs;have fin:∀{σ':St}{H':Hp}{v:V}{u:vB},Inv (zBA CX P w K mg base N qual scope f cdv A outer s H E) [] σ' H' s'->RelV v u->Q v H'->CE outer P w H s Q u s' :=
  λ{σ' H' v u} J rv q=>⟨v,H',J.os,J.bare,J.base,J.hok,rv,q⟩
 cases fl with
 | ret u=>
  obtain⟨v,σ',H',J,rv,q⟩:=hs;exact fin J rv q
 | next=>
  obtain⟨σ',H',J,q⟩:=hs;exact fin (v:=V.non) (u:=Value.none) J rfl q
 | brk=>
  obtain⟨_,_,_,q⟩:=hs;exact False.elim q
 | cont=>
  obtain⟨_,_,_,q⟩:=hs;exact False.elim q
section
variable{X:Cx}{x:Str}{p pos:Pos}{e:vX}{es:List vX}{t:TA}{id T:String}{r:List V->Hp->VK->Prop}
noncomputable def tCB(r:List V->Hp->VK->Prop)(t:TA):TE:=λσ H Q=>t σ H λvs H1=>r vs H1 Q
theorem q2r(hc:Xu X (.builtin id) r)(hg:Gl X x)(hm:X.mg x=none)(hv:vf x=some (.builtin id))(ha:PA X (e::es) t)(hn:x ≠ "__name__" := by decide)(hdb:(x==("__debug__" : Str))=false:=by decide)(he:vK (e::es) X.env=(false,eval e X.env)::vK es X.env:=by rfl)(hpl:(v3 pos (vK es X.env)).any (·.1)=false:=by rfl):PE X (.Call (.Name x p) (e::es) [] pos) (tCB r t):=by
 intro pins s σ H Q I h;refine uS (q23 I hg hm hv ?_ hn hdb);exact PyProof.Rows.callWith_builtin1 (thn (ha pos pins s σ H _ I h) λus s1 ⟨vs,H1,I1,r1,q1⟩=>hc pins s1 σ H1 vs us Q I1 r1 q1) he hpl
theorem q75(hc:Xu X (.type T) r)(hg:Gl X x)(hm:X.mg x=none)(hv:vf x=some (.type T))(ha:PA X (e::es) t)(hn:x ≠ "__name__" := by decide)(hdb:(x==("__debug__" : Str))=false:=by decide)(he:vK (e::es) X.env=(false,eval e X.env)::vK es X.env:=by rfl)(hpl:(v3 pos (vK es X.env)).any (·.1)=false:=by rfl):PE X (.Call (.Name x p) (e::es) [] pos) (tCB r t):=by
 intro pins s σ H Q I h;refine uS (q23 I hg hm hv ?_ hn hdb);exact PyProof.Rows.callWith_type1 (thn (ha pos pins s σ H _ I h) λus s1 ⟨vs,H1,I1,r1,q1⟩=>hc pins s1 σ H1 vs us Q I1 r1 q1) he hpl
end
end L2
namespace HT
open PySem PyProof.Rows
section
open PySem.SeqAt
open PySem.AutoSeq1 (wpAny_loadPart')
open PySem.MeetsSeq PySem.MeetsSeq2 PySem.MeetsSeq3
end
section
variable{prog:vS}{w:vZ}{A:vb}{E:vB->vG->Prop}{s:vG}
theorem qeA{t b:vJ}{vs ws:List vB}{Q:vB->vG->Prop}(ht:IsTup s.heap t vs.toArray)(hb:IsTup s.heap b ws.toArray)(hv:vs≠[])(h1:ws=[]->Q (.ref t) s)(h2:ws≠[]->Q (.ref s.heap.objs.size) { s with heap:=s.heap.push { cls:=.type "tuple", data:=.seq (vs++ws).toArray } })(hsz:vs.length+ws.length<=sizeLine):vN (model prog w) A (uQ .Add (.ref t) (.ref b)) Q E s:=by
 obtain⟨⟨cls,dd,data,sl⟩,ho,hc,n,hd⟩:=id ht;obtain⟨⟨cls2,dd2,data2,sl2⟩,ho2,hc2,n2,hd2⟩:=id hb;simp only at hc hd hc2 hd2;subst hc hd hc2 hd2;have e:vs.toArray++ws.toArray=(vs++ws).toArray:=by simp
 by_cases hw:ws=[]
 ·exact concat_meets ⟨_,ho,rfl⟩ ⟨_,ho2,rfl⟩ noFill_tuple_add seq_tuple_add PySem.F.slot_tuple_add PySem.F.entry_tuple_add (PySem.F.args_tuple_add_2 _ _)
   (tuple_addW1 t b vs.toArray ws.toArray n n2 dd dd2 sl sl2 ⇑hv (by simp[hw])) ⟨ho,ho2,h1 hw⟩
 ·refine concat_meets ⟨_,ho,rfl⟩ ⟨_,ho2,rfl⟩ noFill_tuple_add seq_tuple_add PySem.F.slot_tuple_add PySem.F.entry_tuple_add (PySem.F.args_tuple_add_2 _ _)
   (tuple_addW2 t b vs.toArray ws.toArray n n2 dd dd2 sl sl2 ⇑hv ⇑hw (by rw[zN,zN];exact hsz)) ⟨ho,ho2,?_⟩
  rw[e];exact h2 hw
noncomputable def sIx(n d:Nat):Option Int->Nat
 | none=>d
 | some v=>if v<0 then (v+(n:Int)).toNat else min v.toNat n
theorem q54(n d:Nat):sIx n d none=d:=rfl
theorem q1H(n d k:Nat):sIx n d (some (k:Int))=min k n:=by
 show (if (k:Int)<0 then ((k:Int)+(n:Int)).toNat else min (k:Int).toNat n)=min k n;rw[vF ∅,yE]
theorem qgw(n d:Nat)(hd:d<=n)(o:Option Int):sIx n d o<=n:=by
 cases o with
 | none=>exact hd
 | some v=>
  show (if v<0 then (v+(n:Int)).toNat else min v.toNat n)<=n
  by_cases hv:v<0
  ·rw[vC hv];omega
  ·rw[vF hv];exact Nat.min_le_right _ _
theorem q9F(v:Int)(n d:Nat):(if v<0 then max (v+(n:Int)) 0 else min v (n:Int))=((sIx n d (some v):Nat):Int):=by
 show (if v<0 then max (v+(n:Int)) 0 else min v (n:Int))=(((if v<0 then (v+(n:Int)).toNat else min v.toNat n):Nat):Int)
 by_cases hv:v<0
 ·simp only[vC hv];omega
 ·simp only[vF hv];omega
theorem qbx(lo hi:Option Int)(n:Nat):Builtin.Slice.sliceAdjust lo hi 1 (n:Int)=(((sIx n 0 lo:Nat):Int),((sIx n n hi:Nat):Int)):=by
 have h1:¬((1:Int)<0):=∅
 unfold Builtin.Slice.sliceAdjust;simp only[h1,if_false];refine Prod.ext ?_ ?_
 ·cases lo with
  | none=>rfl
  | some v=>exact q9F v n 0
 ·cases hi with
  | none=>rfl
  | some v=>exact q9F v n n
theorem qaf(i j:Nat):Builtin.Slice.slicePlaces (i:Int) (j:Int) 1=j-i:=by
 unfold Builtin.Slice.slicePlaces;have h1:(1:Int)>0:=∅
 simp only[h1,if_true,Int.ediv_one]
 split <;> omega
theorem q5C{v:vB}{o:Option Int}{Q:Option Int->vG->Prop}(p:tQ v o)(h:Q o s):vN (model prog w) A (Builtin.Slice.slicePartIndex v) Q E s:=by
 cases p with
 | none=>exact slicePart_none h
 | int i t=>exact slicePart_int h
theorem q2M{sl:vJ}{vl vu:vB}{lo hi:Option Int}{n:Nat}{Q:Int×Int×Nat->vG->Prop}(hs:s.heap.IsSliceOf sl vl vu .none)(pl:tQ vl lo)(pu:tQ vu hi)(h:Q (((sIx n 0 lo:Nat):Int),1,sIx n n hi-sIx n 0 lo) s):vN (model prog w) A (Builtin.Slice.sliceApplied (.ref sl) (pure (n:Int))) Q E s:=by
 obtain⟨os,hos,hcs,hds⟩:=id hs;unfold Builtin.Slice.sliceApplied Builtin.Slice.sliceFields;refine vA (vA (vt hos hds (x:=vl) rfl (vA (vt hos hds (x:=vu) rfl (vA (vt hos hds (x:=.none) rfl (vH ?_)))))));refine vA (slicePart_none ?_);show vN _ _ (if ((1:Int)==0)=true then _ else _) _ _ s;rw[vF (by decide)];refine vA (q5C pl (vA (q5C pu (vA (vH ?_)))));show vN _ _ (match Builtin.Slice.sliceAdjust lo hi 1 (n:Int)with|(lo,hi)=>pure (lo,(1:Int),Builtin.Slice.slicePlaces lo hi 1)) _ _ s;rw[qbx lo hi n];show vN _ _ (pure (((sIx n 0 lo:Nat):Int),(1:Int),Builtin.Slice.slicePlaces ((sIx n 0 lo:Nat):Int) ((sIx n n hi:Nat):Int) 1)) _ _ s;rw[qaf];exact vH h
theorem qdM(xs:Array vB)(i k:Nat):((zw k).filterMap λ(m:Nat)=>xs[((i:Int)+(m:Int)*1).toNat]?).toArray=((xs.toList.drop i).take k).toArray:=by
 have e:(λ(m:Nat)=>xs[((i:Int)+(m:Int)*1).toNat]?)=λm=>xs[i+m]?:=by
  funext m
  have:((i:Int)+(m:Int)*1).toNat=i+m:=∅
  rw[this]
 rw[e];have:=pick_run xs i k;rw[Zm]at this;have e2:((λx=>xs[x]?) ∘ λx=>i+x)=λm=>xs[i+m]?:=rfl;rw[e2]at this;rw[this]
theorem q4M{t sl:vJ}{items:Array vB}{vl vu:vB}{lo hi:Option Int}{Q:vB->vG->Prop}(ht:IsTup s.heap t items)(hs:s.heap.IsSliceOf sl vl vu .none)(pl:tQ vl lo)(pu:tQ vu hi)(hw:¬(sIx items.size 0 lo=0/\sIx items.size items.size hi=items.size))(h:Q (.ref s.heap.objs.size) { s with heap:=s.heap.push { cls:=.type "tuple", data:=.seq ((items.toList.drop (sIx items.size 0 lo)).take (sIx items.size items.size hi-sIx items.size 0 lo)).toArray } })(hsz:items.size<=sizeLine):vN (model prog w) A (uz (.ref t) (.ref sl)) Q E s:=by
 have htake:sizeOk (.seq ((items.toList.drop (sIx items.size 0 lo)).take (sIx items.size items.size hi-sIx items.size 0 lo)).toArray):=by
  show ((items.toList.drop (sIx items.size 0 lo)).take (sIx items.size items.size hi-sIx items.size 0 lo)).toArray.size<=sizeLine;rw[zN,zv,yV,zO];omega
 have hj:sIx items.size items.size hi<=items.size:=qgw _ _ (zK _) hi;obtain⟨os,hos,hcs,hds⟩:=id hs;have hTs:s.TypeIs (.ref sl) "slice" := ⟨os,hos,hcs⟩;unfold uz
 try with_reducible refine vh ?_
 first|refine vA (vH ?_)|skip
 refine vA (wpAny_sequenceKey ht.typeIs (by decide) ?_);refine vA (wpAny_callSpecial?_slot (name:=Str.ofString "__getitem__") ht.typeIs PyProof.Rows.slot_tuple_getitem
  (ve PyProof.Rows.slot_tuple_getitem ht.typeIs entry_tuple_getitem ?_ (sD _ _)))
 show vN _ _ (Builtin.Tuple.tupleItemsOf (.ref t) >>= _) _ _ s;refine vA (tupleItemsOf_ ht ?_);refine vA (uj hTs ?_);rw[vC (by decide)];refine vA (q2M hs pl pu ?_);have hno:¬((((sIx items.size 0 lo:Nat):Int)==0&&(1:Int)==1&&(sIx items.size items.size hi-sIx items.size 0 lo)==items.size)=true):=by
  intro q;rw[zS,zS]at q;have q1:((sIx items.size 0 lo:Nat):Int)=0:=eq_of_beq q.1.1;have q2:sIx items.size items.size hi-sIx items.size 0 lo=items.size:=eq_of_beq q.2;exact hw ⟨∅,∅⟩
 show vN _ _ (if (((sIx items.size 0 lo:Nat):Int)==0&&(1:Int)==1&&(sIx items.size items.size hi-sIx items.size 0 lo)==items.size)=true then _ else _) _ _ s;rw[vF hno,qdM]
 first
  | exact vA (m:=Builtin.Tuple.tupleExact _) (vi (vH ⟨_,rfl,vH h⟩) htake)
  | exact vA (m:=Builtin.Tuple.tupleExact _) (vi (vA (vH (vH ⟨_,rfl,vH h⟩))) htake)
  | exact vA (vA (m:=Builtin.Tuple.tupleExact _) (vi (vH (vH ⟨_,rfl,vH h⟩)) htake))
  | exact vA (vA (m:=Builtin.Tuple.tupleExact _) (vi (vH ⟨_,rfl,vH h⟩) htake))
end
end HT
namespace L2
open PySem PySem.Spec PyProof.Rows
abbrev TO:=St->Hp->(Option Int->Hp->Prop)->Prop
def PO(X:Cx)(e:Option vX)(t:TO):Prop :=
 ∀(pins:List (vJ×Obj))(s:vG)(σ:St)(H:Hp)(Q:Option Int->Hp->Prop),Inv X pins σ H s->t σ H Q ->
  vN (model X.prog X.w) X.A (evalPart e X.env) (λu s'=>∃o H',Inv X pins σ H' s'/\tQ u o/\Q o H') X.xe s
noncomputable def zCp:TO:=λ_ H Q=>Q none H
noncomputable def tPart(t:TE):TO:=λσ H Q=>t σ H λx H1=>∃i,x=.int i/\Q (some i) H1
theorem q1k{ns:List Int}:∀{us:List vB},Y2 (ns.map V.int) us->uG us ns:=by
 induction ns with
 | nil=>intro us r;rw[yw]at r;cases r;exact .nil
 | cons n ns ih=>
  intro us r;rw[zX]at r;cases r with
  | cons r1 r2=>
   obtain⟨t,e⟩:=r1;subst e;exact .cons n t (ih r2)
section
variable{X:Cx}{e:vX}{te:TE}{lo hi:Option vX}{tl th:TO}{pos p2:Pos}
theorem qft:PO X none zCp:=by
 intro pins s σ H Q I h;rw[evalPart_none];exact vH ⟨none,H,I,.none,h⟩
theorem qeo(h:PE X e te):PO X (some e) (tPart te):=by
 intro pins s σ H Q I hw;rw[evalPart_some];refine thn (h pins s σ H _ I hw) λu s1 ⟨x,H1,I1,r1,q1⟩=>?_;obtain⟨i,rfl,q⟩:=q1;obtain⟨t,rfl⟩:=r1;exact⟨some i,H1,I1,.int i t,q⟩
def SlR(X:Cx)(r:V->Option Int->Option Int->Hp->VK->Prop):Prop :=
 ∀(pins:List (vJ×Obj))(s:vG)(σ:St)(H:Hp)(x:V)(v vl vu:vB)(lo hi:Option Int)(sl:vJ)(Q:VK),Inv X pins σ H s->RelV x v->s.heap.IsSliceOf sl vl vu .none->tQ vl lo->tQ vu hi->r x lo hi H Q ->
  ∃T id,tS (.type T) "__getitem__" = pure (some (.builtin id))/\s.TypeIs v T/\vN (model X.prog X.w) X.A (uz v (.ref sl)) (EP X pins σ Q) X.xe s
theorem SlR.or{r r':V->Option Int->Option Int->Hp->VK->Prop}(h:SlR X r)(h':SlR X r'):SlR X (λx lo hi H Q=>r x lo hi H Q\/r' x lo hi H Q):=by
 intro pins s σ H x v vl vu lo hi sl Q I rx hs pl pu q;rcases q with q|q
 ·exact h pins s σ H x v vl vu lo hi sl Q I rx hs pl pu q
 ·exact h' pins s σ H x v vl vu lo hi sl Q I rx hs pl pu q
noncomputable def tSl(r:V->Option Int->Option Int->Hp->VK->Prop)(te:TE)(tl th:TO):TE:=λσ H Q=>te σ H λx H1=>tl σ H1 λl H2=>th σ H2 λu H3=>r x l u H3 Q
theorem qdW{r:V->Option Int->Option Int->Hp->VK->Prop}(hr:SlR X r)(he:PE X e te)(hl:PO X lo tl)(hu:PO X hi th):PE X (.Subscript e (.Slice lo hi none p2) pos) (tSl r te tl th):=by
 intro pins s σ H Q I h;refine Subscript_ (thn (he pins s σ H _ I h) λv s1 ⟨x,H1,I1,r1,q1⟩=>?_);refine wpAny_Slice (thn (hl pins s1 σ H1 _ I1 q1) λvl s2 ⟨l,H2,I2,pl,q2⟩=>thn (hu pins s2 σ H2 _ I2 q2) λvu s3 ⟨u,H3,I3,pu,q3⟩=>?_);rw[evalPart_none];refine vH ?_;have I4:Inv X pins σ H3 { s3 with heap:=s3.heap.push { cls:=.type "slice", data:=.fields #[vl,vu,.none] } }:=I3.kept (t':=s3.toks) λb ob q=>zF _ q;obtain⟨T,id,hT,ht,hg⟩:=hr pins { s3 with heap:=s3.heap.push { cls:=.type "slice", data:=.fields #[vl,vu,.none] } } σ H3 x v vl vu l u s3.heap.objs.size Q I4 r1 (Yf ..) pl pu q3;show vN (model X.prog X.w) X.A (tu e (.Slice lo hi none p2) v (.ref s3.heap.objs.size)) (EP X pins σ Q) X.xe { s3 with heap:=s3.heap.push { cls:=.type "slice", data:=.fields #[vl,vu,.none] } };exact tail_any (ops:=[.ref s3.heap.objs.size,v]) ht hT hg (by with_unfolding_all rfl)
noncomputable def zBa(xs:List V)(lo hi:Option Int):List V:=(xs.drop (HT.sIx xs.length 0 lo)).take (HT.sIx xs.length xs.length hi-HT.sIx xs.length 0 lo)
theorem q4O(xs:List V)(lo hi:Option Int):(zBa xs lo hi).length<=xs.length:=by
 unfold zBa;rw[zv,yV];omega
def rSlT(K:zA):V->Option Int->Option Int->Hp->VK->Prop:=λx lo hi H Q=>∃a xs,x=.ref a/\SqT K H a xs /\
 ¬(HT.sIx xs.length 0 lo=0/\HT.sIx xs.length xs.length hi=xs.length)/\∀p,H p=none->Q (.ref p) (upd H p (.tup (zBa xs lo hi)))
theorem qgA:SlR X (rSlT X.K):=by
 intro pins s σ H x v vl vu lo hi sl Q I rx hs pl pu h;obtain⟨a,xs,rfl,hx,hw,q⟩:=h;cases rx;obtain⟨its,r,ht,hz⟩:=I.tuple hx;have hlen:its.toArray.size=xs.length:=by rw[zN];exact r.length.symm
 refine⟨"tuple", _,PyProof.Rows.slot_tuple_getitem.lookup,ht.typeIs,?_⟩;refine HT.q4M ht hs pl pu (by rw[hlen];exact hw) ?_ (by rw[hlen];exact hz);rw[hlen];refine⟨.ref s.heap.objs.size,_,I.laid (t':=s.toks) (o:=.tup (zBa xs lo hi)) (λb ob q=>zF _ q) (zK _) ?_,rfl,q _ (I.hok.fresh (zK _))⟩;exact⟨yK (q4O xs lo hi) hz,_,(r.drop (HT.sIx xs.length 0 lo)).take (HT.sIx xs.length xs.length hi-HT.sIx xs.length 0 lo),IsTup.new _ _⟩
noncomputable def rCatT(K:zA):R2:=λx y H Q=>∃a b xs ys,x=.ref a/\y=.ref b/\SqT K H a xs/\SqT K H b ys/\xs≠[]/\xs.length+ys.length<=sizeLine /\
 (ys=[]->Q (.ref a) H)/\(ys≠[]->∀p,H p=none->Q (.ref p) (upd H p (.tup (xs++ys))))
theorem Y2.nil_iff{xs:List V}{us:List vB}(r:Y2 xs us):us=[]↔xs=[]:=by
 cases r with
 | nil=>simp
 | cons _ _=>simp
theorem qeG:OpR X (uQ .Add) (rCatT X.K):=by
 intro pins s σ H x y v u Q I rx ry h;obtain⟨a,b,xs,ys,rfl,rfl,ha,hb,hx,hz,q1,q2⟩:=h;cases rx;cases ry;obtain⟨its,r1,p1,_⟩:=I.tuple ha;obtain⟨its2,r2,p2,_⟩:=I.tuple hb;refine HT.qeA p1 p2 (λz=>hx (r1.nil_iff.mp z)) (λz=>⟨.ref a,H,I,rfl,q1 (r2.nil_iff.mp z)⟩) (λz=>?_) (by rw[<- r1.length,<- r2.length];exact hz);refine⟨.ref s.heap.objs.size,_,I.laid (t':=s.toks) (o:=.tup (xs++ys)) (λb ob q=>zF _ q) (zK _) ?_,rfl,q2 (λw=>z (r2.nil_iff.mpr w)) _ (I.hok.fresh (zK _))⟩;exact⟨by rw[zC];exact hz,_,r1.append r2,IsTup.new _ _⟩
end
noncomputable def ixN(n:Nat)(i:Int):Option Nat:=if 0<=i then (if i<n then some i.toNat else none)else if -(n:Int)<=i then some (i+n).toNat else none
noncomputable def atI{α:Type}(xs:List α)(i:Int):Option α:=(ixN xs.length i).bind λj=>xs[j]?
theorem qa1{n:Nat}{i:Int}{j:Nat}(h:ixN n i=some j):seqIndex? i n=some j/\j<n/\-(n:Int)<=i/\i<n:=by
 unfold ixN at h
 by_cases h0:0<=i
 ·rw[vC h0]at h
  by_cases h1:i<n
  ·rw[vC h1]at h
   have e:i.toNat=j:=zc h;exact⟨by rw[sN h0 h1,e],∅,∅,h1⟩
  ·rw[vF h1]at h;cases h
 ·rw[vF h0]at h
  by_cases h1:-(n:Int)<=i
  ·rw[vC h1]at h
   have e:(i+n).toNat=j:=zc h;exact⟨by rw[seqIndex_neg ∅ h1,e],∅,h1,∅⟩
  ·rw[vF h1]at h;cases h
theorem q6J{α:Type}{xs:List α}{i:Int}{v:α}(h:atI xs i=some v):∃j,seqIndex? i xs.length=some j/\xs[j]?=some v/\j<xs.length/\-(xs.length:Int)<=i/\i<xs.length:=by
 unfold atI at h;cases e:ixN xs.length i with
 | none=>rw[e]at h;cases h
 | some j=>
  rw[e]at h;obtain⟨h1,h2,h3,h4⟩:=qa1 e;exact⟨j,h1,h,h2,h3,h4⟩
def zAT(b:vX):Prop:=∀o i,subscripted b false o i=operate [o,i] (uz o i)
def IxR(X:Cx)(r:R2):Prop :=
 ∀(value slice:vX)(pins:List (vJ×Obj))(s:vG)(σ:St)(H:Hp)(x y:V)(v u:vB)(Q:VK),Inv X pins σ H s->RelV x v->RelV y u->r x y H Q ->
  subscripted slice false v u=operate [v,u] (uz v u)->vN (model X.prog X.w) X.A (tu value slice v u) (EP X pins σ Q) X.xe s
def MtR(X:Cx)(id:String)(r:V->List V->Hp->VK->Prop):Prop :=
 ∀(pins:List (vJ×Obj))(s:vG)(σ:St)(H:Hp)(x:V)(xs:List V)(v:vB)(us:List vB)(Q:VK),Inv X pins σ H s->RelV x v->Y2 xs us->r x xs H Q ->
  vN (model X.prog X.w) X.A (call (.builtin id) (v::us)) (EP X pins σ Q) X.xe s
section
variable{X:Cx}{a b:vX}{ta tb:TE}{pos:Pos}
theorem IxR.or{r r':R2}(h:IxR X r)(h':IxR X r'):IxR X (λx y H Q=>r x y H Q\/r' x y H Q):=by
 intro value slice pins s σ H x y v u Q I rx ry q hs;rcases q with q|q
 ·exact h value slice pins s σ H x y v u Q I rx ry q hs
 ·exact h' value slice pins s σ H x y v u Q I rx ry q hs
theorem qh7{r:R2}(hr:IxR X r)(ha:PE X a ta)(hb:PE X b tb)(hs:zAT b):PE X (.Subscript a b pos) (tOp r ta tb):=by
 intro pins s σ H Q I h;exact Subscript_ (binT ha hb I h λv u s2 x y H2 I2 rx ry q=>hr a b pins s2 σ H2 x y v u Q I2 rx ry q (hs _ _))
noncomputable def rIxL(K:zA):R2:=λx y H Q=>∃p xs i v,x=.ref p/\y=.int i/\SqL K H p xs/\atI xs i=some v/\Q v H
noncomputable def rIxT(K:zA):R2:=λx y H Q=>∃p xs i v,x=.ref p/\y=.int i/\SqT K H p xs/\atI xs i=some v/\Q v H
noncomputable def rIxS:R2:=λx y H Q=>∃z i c,x=.str z/\y=.int i/\z.length<=sizeLine/\atI z.cps.toList i=some c/\Q (.str ⟨#[c]⟩) H
theorem qeP:IxR X (rIxL X.K):=by
 intro value slice pins s σ H x y v u Q I rx ry h hs;obtain⟨p,xs,i,z,rfl,rfl,hq,he,q⟩:=h;cases rx;obtain⟨t,rfl⟩:=ry;obtain⟨its,r,pl,hz⟩:=I.list hq;obtain⟨j,h1,h2,h3,h4,h5⟩:=q6J he;obtain⟨w,ew,rw'⟩:=r.get h2;have hl:=r.length;have hn:=Wu;have fin:EP X pins σ Q w s:=⟨z,H,I,rw',q⟩
 by_cases h0:0<=i
 ·have hj:i.toNat=j:=by
   rw[sN h0 h5]at h1;exact zc h1
  exact item_listR pl.isList h0 ∅ (by rw[hj];simpa using ew) fin hs
 ·have hj:(i+(its.toArray.size:Int)).toNat=j:=by
   rw[seqIndex_neg ∅ h4]at h1;rw[zN,<- hl];exact zc h1
  exact tT (x:=w) pl.isList.typeIs slot_list_getitem.lookup
   (wpAny_getItem_list_neg (Q:=λr s'=>r=w/\EP X pins σ Q r s') pl.isList ∅ (by rw[zN] <;> omega) ∅ (by rw[hj];simpa using ew) ⟨rfl,fin⟩) hs
theorem qg5:IxR X (rIxT X.K):=by
 intro value slice pins s σ H x y v u Q I rx ry h hs;obtain⟨p,xs,i,z,rfl,rfl,hq,he,q⟩:=h;cases rx;obtain⟨t,rfl⟩:=ry;obtain⟨its,r,pl,hz⟩:=I.tuple hq;obtain⟨j,h1,h2,h3,h4,h5⟩:=q6J he;obtain⟨w,ew,rw'⟩:=r.get h2;have hl:=r.length;have hn:=Wu;have fin:EP X pins σ Q w s:=⟨z,H,I,rw',q⟩;exact tT (x:=w) pl.typeIs slot_tuple_getitem.lookup
  (getItem_tuple (j:=j) (Q:=λr s'=>r=w/\EP X pins σ Q r s') pl ∅ ∅ (by rw[zN,<- hl];exact h1) ⇑ew ⟨rfl,fin⟩) hs
theorem qfW:IxR X rIxS:=by
 intro value slice pins s σ H x y v u Q I rx ry h hs;obtain⟨z,i,c,rfl,rfl,hz,he,q⟩:=h;obtain⟨t,rfl⟩:=rx;obtain⟨t',rfl⟩:=ry;obtain⟨j,h1,h2,h3,h4,h5⟩:=q6J he;have hl:z.cps.toList.length=z.length:=by simp[Str.length]
 rw[hl]at h1 h4 h5;have hn:=Wu;exact tail_any (typeIs_str s z t) slot_str_getitem.lookup (getItem_str (c:=c) (by
  have e1:decide (i < -(2^63:Int))=false:=vW ∅;have e2:decide (i>=2^63)=false:=vW ∅;rw[e1,e2,wM]) (by rw[h1];simpa using h2) ⟨.str ⟨#[c]⟩,H,I.tok _,⟨_,rfl⟩,q⟩) hs
noncomputable def rIx(K:zA):R2:=λx y H Q=>rIxL K x y H Q\/rIxT K x y H Q\/rIxS x y H Q
theorem qgc:IxR X (rIx X.K):=qeP.or (qg5.or qfW)
theorem qbE(its:List vB)(n j:Nat)(u:vB):Obj.mapSeq (·.setIfInBounds j u) { cls:=.type "list", data:=.seq its.toArray n }={ cls:=.type "list", data:=.seq (its.set j u).toArray n }:=by
 simp[Obj.mapSeq]
theorem Inv.lst{pins:List (vJ×Obj)}{σ:St}{H:Hp}{s:vG}{p:vJ}{xs:List V}(I:Inv X pins σ H s)(h:H p=some (.lst xs)):
  ∃(its:List vB) (n:Nat),Y2 xs its/\s.heap.get? p=some { cls:=.type "list", data:=.seq its.toArray n }/\xs.length<=sizeLine:=by
 obtain⟨z,its,n,r,e⟩:=I.hok p _ h;exact⟨its,n,r,e,z⟩
theorem Inv.lstUpd{pins:List (vJ×Obj)}{σ:St}{H:Hp}{s:vG}{p:vJ}{xs ys:List V}{its its':List vB}{n n':Nat}{f:Obj->Obj}(I:Inv X pins σ H s)(h:H p=some (.lst xs))(ho:s.heap.get? p=some { cls:=.type "list", data:=.seq its.toArray n })(hf:f { cls:=.type "list", data:=.seq its.toArray n }={ cls:=.type "list", data:=.seq its'.toArray n' })(r:Y2 ys its')(hz:ys.length<=sizeLine)(t:Nat):
  Inv X pins σ (upd H p (.lst ys)) { s with heap:=s.heap.update p f,toks:=t }:=by
 have e:(s.heap.update p f).get? p=some { cls:=.type "list", data:=.seq its'.toArray n' }:=by
  rw[xf f ho (by rw[hf] <;> rfl),hf]
 refine I.write (x:=p) (e:=p) (by rw[h];trivial) (.inl rfl) (λb u hb q=>(ye _ _ (Ne.symm hb)).trans q) ⟨_,e⟩ ?_;exact⟨hz,its',n',r,e⟩
def rSetL:V->V->V->Hp->(Hp->Prop)->Prop:=λo i v H Q=>∃p xs k j,o=.ref p/\i=.int k/\H p=some (.lst xs)/\ixN xs.length k=some j/\Q (upd H p (.lst (xs.set j v)))
theorem q8Z:PSet X rSetL:=by
 intro pins s σ H o i v ov iv u Q I ro ri rv h;obtain⟨p,xs,k,j,rfl,rfl,hp,hj,q⟩:=h;cases ro;obtain⟨t,rfl⟩:=ri;obtain⟨its,n,r,ho,hz⟩:=I.lst hp;obtain⟨h1,h2,h3,h4⟩:=qa1 hj;have hl:=r.length;have hn:=Wu;have I':Inv X pins σ (upd H p (.lst (xs.set j v))) { s with heap:=s.heap.update p (Obj.mapSeq (·.setIfInBounds j u)) } :=
  I.lstUpd hp ho (qbE its n j u) (r.set rv j) (by rw[yA];exact hz) s.toks
 by_cases h0:0<=k
 ·have hk:k.toNat=j:=by
   rw[sN h0 h4]at h1;exact zc h1
  exact PySem.W.ki_setAt ho h0 ∅ (by rw[zN,<- hl];exact h4) (by rw[hk];exact⟨_,I',q⟩)
 ·have hk:(k+(its.toArray.size:Int)).toNat=j:=by
   rw[seqIndex_neg ∅ h3]at h1;rw[zN,<- hl];exact zc h1
  exact PySem.W.ki_setBack ho ∅ (by rw[zN,<- hl];exact h3) ∅ (by rw[hk];exact⟨_,I',q⟩)
theorem q8F(lo hi:Option Int)(n:Nat):(uf lo hi none n).1=((HT.sIx n 0 lo:Nat):Int)/\(uf lo hi none n).2.1=((HT.sIx n n hi:Nat):Int)/\(uf lo hi none n).2.2=1:=by
 refine⟨?_,?_,rfl⟩
 ·cases lo with
  | none=>simp[uf,HT.sIx]
  | some i=>
   simp only[uf,HT.sIx,YC,show (1:Int)>0 by decide,if_true]
   by_cases h:i<0
   ·simp only[h,if_true] <;> omega
   ·simp only[h,if_false] <;> omega
 ·cases hi with
  | none=>simp[uf,HT.sIx]
  | some i=>
   simp only[uf,HT.sIx,YC,show (1:Int)>0 by decide,if_true]
   by_cases h:i<0
   ·simp only[h,if_true] <;> omega
   ·simp only[h,if_false] <;> omega
theorem q7s(its:List vB)(lo hi:Option Int):slicePick its.toArray lo hi none=((its.drop (HT.sIx its.length 0 lo)).take (HT.sIx its.length its.length hi-HT.sIx its.length 0 lo)).toArray:=by
 obtain⟨h1,h2,h3⟩:=q8F lo hi its.toArray.size;unfold slicePick;rw[h1,h2,h3];simp only[sliceRange_one,pick_run,zN] <;> rfl
def rSlL(K:zA):V->Option Int->Option Int->Hp->VK->Prop:=λx lo hi H Q=>∃a xs,x=.ref a/\SqL K H a xs/\∀p,H p=none->Q (.ref p) (upd H p (.lst (zBa xs lo hi)))
theorem qeO:SlR X (rSlL X.K):=by
 intro pins s σ H x v vl vu lo hi sl Q I rx hs pl pu h;obtain⟨a,xs,rfl,hx,q⟩:=h;cases rx;obtain⟨its,r,ht,hz⟩:=I.list hx;have hlen:=r.length;refine⟨"list", _,slot_list_getitem.lookup,ht.isList.typeIs,?_⟩;refine wpAny_getItem_list_slice ht.isList hs pl pu .none (by simp) ?_ (by rw[zN] <;> omega);rw[q7s,<- hlen];refine⟨.ref s.heap.objs.size,_,I.laid (t':=s.toks) (o:=.lst (zBa xs lo hi)) (λb ob q=>zF _ q) (zK _) ?_,rfl,q _ (I.hok.fresh (zK _))⟩;exact⟨yK (q4O xs lo hi) hz,_,0,(r.drop (HT.sIx xs.length 0 lo)).take (HT.sIx xs.length xs.length hi-HT.sIx xs.length 0 lo),zQ _ rfl⟩
noncomputable def Wk:V->Bool
 | .non=>true
 | .bl _=>true
 | .int _=>true
 | .str _=>true
 | _=>false
noncomputable def eqV:V->V->Bool
 | .non,.non=>true
 | .bl a,.bl b=>a==b
 | .bl a,.int b=>(if a then 1 else 0)==b
 | .int a,.bl b=>a==(if b then 1 else 0)
 | .int a,.int b=>a==b
 | .str a,.str b=>a==b
 | _,_=>false
theorem qgF{A:vb}{s:vG}{y x:V}{u v:vB}(ry:RelV y u)(rx:RelV x v)(fy:Wk y=true)(fx:Wk x=true):SeqAt.EqAt A s u v (eqV y x):=by
 cases y with
 | non=>
  cases ry;cases x with
  | non=>cases rx;exact SeqAt.EqAt.same _
  | bl b=>cases rx;exact SeqAt.EqAt.none_bool b
  | int b=>obtain⟨t,rfl⟩:=rx;exact SeqAt.EqAt.none_int b t
  | str b=>obtain⟨t,rfl⟩:=rx;exact SeqAt.EqAt.none_str b t
  | _=>exact vL (show false=true from fx) yF
 | bl a=>
  cases ry;cases x with
  | non=>cases rx;exact SeqAt.EqAt.bool_none a
  | bl b=>cases rx;exact SeqAt.EqAt.bool_bool a b
  | int b=>obtain⟨t,rfl⟩:=rx;exact SeqAt.EqAt.bool_int a b t
  | str b=>obtain⟨t,rfl⟩:=rx;exact SeqAt.EqAt.bool_str a b t
  | _=>exact vL (show false=true from fx) yF
 | int a=>
  obtain⟨t',rfl⟩:=ry;cases x with
  | non=>cases rx;exact SeqAt.EqAt.int_none a t'
  | bl b=>cases rx;exact SeqAt.EqAt.int_bool a t' b
  | int b=>obtain⟨t,rfl⟩:=rx;exact SeqAt.EqAt.int_int a t' b t
  | str b=>obtain⟨t,rfl⟩:=rx;exact SeqAt.EqAt.int_str a t' b t
  | _=>exact vL (show false=true from fx) yF
 | str a=>
  obtain⟨t',rfl⟩:=ry;cases x with
  | non=>cases rx;exact SeqAt.EqAt.str_none a t'
  | bl b=>cases rx;exact SeqAt.EqAt.str_bool a t' b
  | int b=>obtain⟨t,rfl⟩:=rx;exact SeqAt.EqAt.str_int a t' b t
  | str b=>obtain⟨t,rfl⟩:=rx;exact SeqAt.EqAt.str_str a t' b t
  | _=>exact vL (show false=true from fx) yF
 | _=>exact vL (show false=true from fy) yF
noncomputable def eqU(x:V)(u:vB):Bool:=match u with
 | .none=>eqV .non x
 | .bool b=>eqV (.bl b) x
 | .int i _=>eqV (.int i) x
 | .str z _=>eqV (.str z) x
 | _=>false
theorem qcy{x y:V}{u:vB}(r:RelV y u)(f:Wk y=true):eqU x u=eqV y x:=by
 cases y with
 | non=>cases r;rfl
 | bl b=>cases r;rfl
 | int i=>obtain⟨t,rfl⟩:=r;rfl
 | str z=>obtain⟨t,rfl⟩:=r;rfl
 | _=>exact vL (show false=true from f) yF
theorem q3j{x:V}:∀{xs:List V}{us:List vB},Y2 xs us->xs.all Wk=true->us.any (eqU x)=xs.any λy=>eqV y x
 | _,_,.nil,_=>rfl
 | y::xs,u::us,.cons r t,f=>by
  rw[xH,zS]at f;rw[xu,xu,qcy r f.1,q3j t f.2]
theorem q2v{A:vb}{s:vG}{x:V}{v:vB}(rx:RelV x v)(fx:Wk x=true):∀{xs:List V}{us:List vB},Y2 xs us->xs.all Wk=true->∀u∈us,SeqAt.EqAt A s u v (eqU x u)
 | _,_,.nil,_=>λu hu=>by cases hu
 | y::xs,u::us,.cons r t,f=>λu' hu=>by
  rw[xH,zS]at f;rcases zG.mp hu with rfl|hu
  ·rw[qcy r f.1];exact qgF r rx f.1 fx
  ·exact q2v rx fx t f.2 u' hu
noncomputable def inV(x:V)(xs:List V):Bool:=xs.any λy=>eqV y x
noncomputable def rIn(K:zA)(neg:Bool):R2:=λx y H Q=>∃p xs,y=.ref p/\(SqL K H p xs\/SqT K H p xs)/\Wk x=true/\xs.all Wk=true/\Q (.bl (if neg then !inV x xs else inV x xs)) H
theorem qcn:OpR X (uE .In) (rIn X.K false):=by
 intro pins s σ H x y v u Q I rx ry h;obtain⟨p,xs,rfl,hq,fx,fs,q⟩:=h;cases ry;rcases hq with hq|hq
 ·obtain⟨its,r,pl,hz⟩:=I.list hq
  refine SeqAt.in_listAt (eqU x) pl.isList (λw hw=>q2v rx fx r fs w ⇑hw) ⟨.bl _,H,I,rfl,?_⟩;rw[show its.toArray.any (eqU x)=its.any (eqU x) by simp,q3j r fs];exact q
 ·obtain⟨its,r,pl,hz⟩:=I.tuple hq
  refine SeqAt.in_tupleAt (eqU x) pl (λw hw=>q2v rx fx r fs w ⇑hw) ⟨.bl _,H,I,rfl,?_⟩;rw[show its.toArray.any (eqU x)=its.any (eqU x) by simp,q3j r fs];exact q
theorem q8V:OpR X (uE .NotIn) (rIn X.K true):=by
 intro pins s σ H x y v u Q I rx ry h;obtain⟨p,xs,rfl,hq,fx,fs,q⟩:=h;cases ry;rcases hq with hq|hq
 ·obtain⟨its,r,pl,hz⟩:=I.list hq
  refine SeqAt.notIn_listAt (eqU x) pl.isList (λw hw=>q2v rx fx r fs w ⇑hw) ⟨.bl _,H,I,rfl,?_⟩;rw[show its.toArray.any (eqU x)=its.any (eqU x) by simp,q3j r fs];exact q
 ·obtain⟨its,r,pl,hz⟩:=I.tuple hq
  refine SeqAt.notIn_tupleAt (eqU x) pl (λw hw=>q2v rx fx r fs w ⇑hw) ⟨.bl _,H,I,rfl,?_⟩;rw[show its.toArray.any (eqU x)=its.any (eqU x) by simp,q3j r fs];exact q
theorem qk:Xu X (.builtin "len") (λxs H Q=>∃p ys,xs=[.ref p]/\(SqL X.K H p ys\/SqT X.K H p ys)/\Q (.int ys.length) H):=by
 intro pins s σ H xs us Q I r h;obtain⟨p,ys,rfl,hq,q⟩:=h;obtain⟨u,rfl,rx⟩:=vals1 r;cases rx;have hn:=Wu;rcases hq with hq|hq
 ·obtain⟨its,r',pl,hz⟩:=I.list hq
  have hlen:=r'.length;exact Calls.call_len_list pl.isList (by simp only[zN] <;> omega) ⟨.int ys.length,H,I.tok _,⟨s.toks+1,by rw[zN,hlen]⟩,q⟩
 ·obtain⟨its,r',pl,hz⟩:=I.tuple hq
  have hlen:=r'.length;exact len_tuple pl (by simp only[zN] <;> omega) ⟨.int ys.length,H,I.tok _,⟨s.toks+1,by rw[zN,hlen]⟩,q⟩
theorem q1v:Xu X (.type "list") (λxs H Q=>∃p ys,xs=[.ref p]/\(SqL X.K H p ys\/SqT X.K H p ys)/\∀l,H l=none->Q (.ref l) (upd H l (.lst ys))):=by
 intro pins s σ H xs us Q I r h;obtain⟨p,ys,rfl,hq,q⟩:=h;obtain⟨u,rfl,rx⟩:=vals1 r;cases rx;have fin:∀(its:List vB),Y2 ys its->ys.length<=sizeLine->∀(h':vn)(c':Nat),(∀b o',s.heap.get? b=some o'->h'.get? b=some o') ->
   h'.get? s.heap.objs.size=some { cls:=.type "list", dict:=none,data:=.seq its.toArray c',slots:=#[] }->EP X pins σ Q (.ref s.heap.objs.size) { s with heap:=h' }:=λits r' hz h' c' kp e=>
  ⟨.ref s.heap.objs.size,_,I.laid (t':=s.toks) kp (zK _) (show Y6 X.prog X.w _ h' _ (.lst ys)from ⟨hz,its,c',r',e⟩),rfl,q _ (I.hok.fresh (zK _))⟩
 rcases hq with hq|hq
 ·obtain⟨its,r',pl,hz⟩:=I.list hq
  have hlen:=r'.length;obtain⟨o,ho,hc,n,hd⟩:=pl.isList;exact call_list_seq p (.inl rfl) ho hc hd (λh' c' kp e=>fin its r' hz h' c' kp e) (by simp only[zN] <;> omega)
 ·obtain⟨its,r',pl,hz⟩:=I.tuple hq
  have hlen:=r'.length;obtain⟨o,ho,hc,n,hd⟩:=pl;exact call_list_seq p (.inr rfl) ho hc hd (λh' c' kp e=>fin its r' hz h' c' kp e) (by simp only[zN] <;> omega)
def tyV(K:zA)(T:String)(x:V)(H:Hp):Prop:=match x with
 | .str _=>T = "str"
 | .int _=>T = "int"
 | .ref p=>(T = "list" /\ ∃xs,SqL K H p xs)\/(T = "tuple" /\ ∃o,K.lookup p=some o/\o.cls=.type "tuple" /\ o.dict=none) \/
   (T = "dict" /\ ((∃kvs,H p=some (.dK kvs))\/∃kvs,H p=some (.dT kvs)))\/(T = "set" /\ ∃S n,H p=some (.set S n))
 | _=>False
theorem qc0{pins:List (vJ×Obj)}{σ:St}{H:Hp}{s:vG}{T:String}{x:V}{v:vB}(I:Inv X pins σ H s)(r:RelV x v)(ty:tyV X.K T x H):
  s.TypeIs v T/\∀a,v=.ref a->∃ob,s.heap.get? a=some ob/\ob.dict=none:=by
 cases x with
 | str z=>
  obtain⟨t,rfl⟩:=r;cases (show T = "str" from ty);exact⟨typeIs_str s z t,λ_ e=>nomatch e⟩
 | int i=>
  obtain⟨t,rfl⟩:=r;cases (show T = "int" from ty);exact⟨typeIs_int s i t,λ_ e=>nomatch e⟩
 | ref p=>
  cases r;rcases ty with⟨rfl,xs,hq⟩|⟨rfl,o,hk,hc,hd⟩|⟨rfl,hk⟩|⟨rfl,S,n,hk⟩
  ·obtain⟨its,_,pl,_⟩:=I.list hq
   refine⟨pl.isList.typeIs,λa e=>?_⟩;cases e;obtain⟨o,n,e,c,hd,_⟩:=pl;exact⟨o,e,hd⟩
  ·refine⟨⟨o,I.kIn p o hk,hc⟩,λa e=>?_⟩
   cases e;exact⟨o,I.kIn _ o hk,hd⟩
  ·have z:∃o,s.heap.get? p=some o/\o.ExactDict:=by
    rcases hk with⟨kvs,hk⟩|⟨kvs,hk⟩
    ·obtain⟨_,_,_,_,o,_,_,e,ex,_⟩:=I.hok p _ hk
     exact⟨o,e,ex⟩
    ·obtain⟨_,_,_,_,o,_,_,e,ex,_⟩:=I.hok p _ hk
     exact⟨o,e,ex⟩
   obtain⟨o,e,ex⟩:=z;refine⟨⟨o,e,ex.1⟩,λa e2=>?_⟩;cases e2;exact⟨o,e,ex.2.1⟩
  ·obtain⟨o,_,_,_,e,ex,_⟩:=I.hok p _ hk
   refine⟨⟨o,e,ex.1⟩,λa e2=>?_⟩;cases e2;exact⟨o,e,ex.2.1⟩
 | _=>exact False.elim ty
noncomputable def tBM0(K:zA)(T:String)(r:V->List V->Hp->VK->Prop)(to:TE):TE:=λσ H Q=>to σ H λx H1=>tyV K T x H1/\r x [] H1 Q
noncomputable def tBM(K:zA)(T:String)(r:V->List V->Hp->VK->Prop)(to:TE)(t:TA):TE:=λσ H Q=>to σ H λx H1=>tyV K T x H1/\t σ H1 λxs H2=>r x xs H2 Q
variable{o e:vX}{es:List vX}{to:TE}{t:TA}{name:Str}{apos cpos:Pos}{T id:String}{r:V->List V->Hp->VK->Prop}
theorem q7H(pa:PlainAttrs T)(slot:Slot T name id)(hty:typeOf (.builtin id)=pure (.type "method_descriptor"))(hm:MtR X id r)(ho:PE X o to)(hbase:uI o name X.env (eval o X.env)=eval o X.env:=by rfl)(hline:(apos.endLine==cpos.line)=true:=by rfl):PE X (.Call (.Attribute o name apos) [] [] cpos) (tBM0 X.K T r to):=by
 intro pins s σ H Q I h;refine wpAny_Call_method0_late hbase hline (thn (ho pins s σ H _ I h) λv s1 ⟨x,H1,I1,r1,ty,q1⟩=>?_);obtain⟨h1,h2⟩:=qc0 I1 r1 ty;exact⟨T,id,pa,slot,hty,h1,h2,Calls.callWith_builtin rfl (PySem.evalArgs_none (hm pins s1 σ H1 x [] v [] Q I1 r1 .nil q1))⟩
theorem q2P(pa:PlainAttrs T)(slot:Slot T name id)(hty:typeOf (.builtin id)=pure (.type "method_descriptor"))(hm:MtR X id r)(ho:PE X o to)(ha:PA X (e::es) t)(hbase:uI o name X.env (eval o X.env)=eval o X.env:=by rfl)(hfew:((v3 cpos (vK (e::es) X.env)).all (λx=>!x.1)&&(u6 cpos (uY [] X.env)).all (λx=>x.1.isSome)
   && decide ((e::es).length+([]:List uP).length+(if ([]:List uP).isEmpty then 0 else 1)<30))=true:=by rfl)
  (hline:(apos.endLine==cpos.line)=true:=by rfl) (hs:vK (e::es) X.env=(false,eval e X.env)::vK es X.env:=by rfl) (hplain:(v3 cpos (vK es X.env)).any (·.1)=false:=by rfl) :
  PE X (.Call (.Attribute o name apos) (e::es) [] cpos) (tBM X.K T r to t):=by
 intro pins s σ H Q I h;refine wpAny_Call_method_late hbase hfew hline rfl (thn (ho pins s σ H _ I h) λv s1 ⟨x,H1,I1,r1,ty,q1⟩=>?_);obtain⟨h1,h2⟩:=qc0 I1 r1 ty;refine⟨T,id,pa,slot,hty,h1,h2,?_⟩;have hA:=ha cpos pins s1 σ H1 _ I1 q1;rw[hs]at hA ⊢;refine Calls.callWith_builtin (by show (false || (v3 cpos (vK es X.env)).any (·.1))=false;rw[hplain] <;> rfl) (Calls.evalArgs_plain ?_);exact thn hA λus s2 ⟨vs,H2,I2,r2,q2⟩=>hm pins s2 σ H2 x vs v us Q I2 r1 r2 q2
end
def MtM(X:Cx)(id:String)(r:V->List V->Hp->VK->Prop):Prop :=
 ∀(pins:List (vJ×Obj))(s:vG)(σ:St)(H:Hp)(x:V)(xs:List V)(v:vB)(us:List vB)(Q:VK),Inv X pins σ H s->RelV x v->Y2 xs us->r x xs H Q ->
  vN (model X.prog X.w) X.A (call (.builtin id) (v::us)) (EP X pins σ Q) X.xe s
theorem Y2.one:∀{x:V}{us:List vB},Y2 [x] us->∃u,us=[u]/\RelV x u
 | _,_,.cons r .nil=>⟨_,rfl,r⟩
theorem Y2.zero:∀{us:List vB},Y2 [] us->us=[]
 | _,.nil=>rfl
theorem Y2.dropLast{xs:List V}{us:List vB}(h:Y2 xs us):Y2 xs.dropLast us.dropLast:=by
 induction h with
 | nil=>exact .nil
 | cons r t ih=>
  cases t with
  | nil=>exact .nil
  | cons q t'=>exact .cons r ih
theorem Y2.reverse{xs:List V}{us:List vB}(h:Y2 xs us):Y2 xs.reverse us.reverse:=by
 induction h with
 | nil=>exact .nil
 | cons r t ih=>rw[Zu,Zu];exact Y2.append ih (.cons r .nil)
theorem Y2.rep{xs:List V}{us:List vB}(h:Y2 xs us):∀k:Nat,Y2 (zb k xs).flatten (zb k us).flatten
 | 0=>.nil
 | k+1=>by
  rw[yG,yG,yO,yO];exact Y2.append h (Y2.rep h k)
theorem qb8{α:Type}(l:List α):l.eraseIdx (l.length-1)=l.dropLast:=by
 induction l with
 | nil=>rfl
 | cons a r ih=>
  cases r with
  | nil=>rfl
  | cons b r=>
   have e:(a::b::r).length-1=((b::r).length-1)+1:=by
    have h1:(a::b::r).length=r.length+2:=rfl;have h2:(b::r).length=r.length+1:=rfl;omega
   rw[e,List.eraseIdx_cons_succ,ih]
   all_goals rfl
theorem q73(its:List vB):∀(k:Nat)(acc:List vB),
  w9 (λx1 x2=>x1++x2) acc.toArray (zb k its.toArray)=(acc++(zb k its).flatten).toArray
 | 0,acc=>by simp
 | k+1,acc=>by
  have e:acc.toArray++its.toArray=(acc++its).toArray:=by simp
  have e2:(acc++its)++(zb k its).flatten=acc++(zb (k+1) its).flatten:=by
   rw[yG,yO,zP]
  rw[<- e2,<- q73 its k (acc++its),<- e,yG,YI]
section
variable{X:Cx}{pins:List (vJ×Obj)}{σ:St}{H:Hp}{s:vG}{l b:vJ}{xs ys zs:List V}
theorem Inv.lset{its its':List vB}{n:Nat}{f:Array vB->Array vB}{t':Nat}(I:Inv X pins σ H s)(hH:H l=some (.lst xs))(e:s.heap.get? l=some { cls:=.type "list", data:=.seq its.toArray n })(hf:f its.toArray=its'.toArray)(hv:Y2 ys its')(hz:ys.length<=sizeLine):
  Inv X pins σ (upd H l (.lst ys)) { s with heap:=s.heap.update l (Obj.mapSeq f),toks:=t' }:=by
 have q:=PySem.IsL.update e f;rw[hf]at q;refine I.write (x:=l) (e:=l) (by rw[hH];exact trivial) (.inl rfl) (λb' u hb hu=>(ye s.heap (Obj.mapSeq f) (Ne.symm hb)).trans hu) ⟨_,q⟩ ?_;exact⟨hz,its',_,hv,q⟩
theorem Inv.lnew{its:List vB}{t':Nat}(I:Inv X pins σ H s)(hv:Y2 ys its)(hz:ys.length<=sizeLine):
  Inv X pins σ (upd H s.heap.objs.size (.lst ys)) { s with heap:=s.heap.push { cls:=.type "list", data:=.seq its.toArray },toks:=t' } :=
 I.laid (λ_ _ q=>zF _ q) (zK _) ⟨hz,its,0,hv,zQ _ rfl⟩
theorem Inv.fresh(I:Inv X pins σ H s):H s.heap.objs.size=none:=I.hok.fresh (zK _)
theorem Inv.lstM(I:Inv X pins σ H s)(hH:H l=some (.lst xs)):xs.length<=sizeLine/\∃(its:List vB) (n:Nat),Y2 xs its/\xs.length=its.length/\s.heap.get? l=some { cls:=.type "list", data:=.seq its.toArray n }:=by
 obtain⟨z,its,n,r,e⟩:=I.hok l _ hH;exact⟨z,its,n,r,r.length,e⟩
theorem Wy{n:Nat}(h:n<=sizeLine):Builtin.List.listTooLong n=false:=by
 unfold Builtin.List.listTooLong;exact vW ∅
end
section
variable{X:Cx}
def Xy:V->List V->Hp->VK->Prop:=λx vs H Q=>∃l xs y,x=.ref l/\vs=[y]/\H l=some (.lst xs)/\xs.length<sizeLine/\Q .non (upd H l (.lst (xs++[y])))
theorem q0r:MtM X "list.append" Xy:=by
 intro pins s σ H x vs v us Q I rx rv h;obtain⟨l,xs,y,rfl,rfl,hH,hz,q⟩:=h;cases rx;obtain⟨u,rfl,ru⟩:=rv.one;obtain⟨z,its,n,r,hl,e⟩:=I.lstM hH;refine u7 F.slot_list_append ⟨_,e,rfl⟩ F.entry_list_append (F.args_list_append_2 _ _) (PySem.list_append l its.toArray n u (by rw[zN];omega)) ⟨e,?_⟩;refine⟨.non,_,I.lset (its':=its++[u]) hH e (by simp) (r.append (.cons ru .nil)) ?_,rfl,q⟩;rw[zC,zk];omega
def zBT:V->List V->Hp->VK->Prop:=λx vs H Q=>∃l b xs zs,x=.ref l/\vs=[.ref b]/\H l=some (.lst xs)/\H b=some (.lst zs)/\xs.length+zs.length<=sizeLine/\Q .non (upd H l (.lst (xs++zs)))
theorem qcZ:MtM X "list.extend" zBT:=by
 intro pins s σ H x vs v us Q I rx rv h;obtain⟨l,b,xs,zs,rfl,rfl,hH,hB,hz,q⟩:=h;cases rx;obtain⟨u,rfl,ru⟩:=rv.one;cases ru;obtain⟨z,its,n,r,hl,e⟩:=I.lstM hH;obtain⟨z2,its2,n2,r2,hl2,e2⟩:=I.lstM hB;have hsz:its.toArray.size+its2.toArray.size<=sizeLine:=by rw[zN,zN];omega
 have hlong:¬(!its.toArray.isEmpty&&Builtin.List.listTooLong (its.toArray.size+its2.toArray.size))=true:=by
  rw[Wy hsz,xi];exact yF
 refine u7 F.slot_list_extend ⟨_,e,rfl⟩ F.entry_list_extend (F.args_list_extend_2 _ _)
  (AutoSeq1.list_extend_list_list_0 l its.toArray n b its2.toArray n2 hlong (by rw[zN];omega) ∅) ⟨e,e2,?_⟩
 refine⟨.non,_,I.lset (its':=its++its2) hH e (by simp) (r.append r2) ?_,rfl,q⟩;rw[zC];omega
def rPop:V->List V->Hp->VK->Prop:=λx vs H Q=>∃l xs y,x=.ref l/\vs=[]/\H l=some (.lst xs)/\xs[xs.length-1]?=some y/\Q y (upd H l (.lst xs.dropLast))
theorem q8C:MtM X "list.pop" rPop:=by
 intro pins s σ H x vs v us Q I rx rv h;obtain⟨l,xs,y,rfl,rfl,hH,hy,q⟩:=h;cases rx;have hus:=rv.zero;subst hus;obtain⟨z,its,n,r,hl,e⟩:=I.lstM hH;obtain⟨u,hu,ru⟩:=r.get hy;have hy':its.toArray[its.toArray.size-1]?=some u:=by
  show its.toArray[its.length-1]?=some u;rw[<- zn,<- hl];exact hu
 refine u7 F.slot_list_pop ⟨_,e,rfl⟩ F.entry_list_pop (F.args_list_pop_1 _) (MeetsSeq.list_pop_last l its.toArray n u hy' (by rw[zN];omega)) ⟨e,?_⟩;refine⟨y,_,I.lset (its':=its.dropLast) hH e ?_ r.dropLast ?_,ru,q⟩
 ·show its.toArray.eraseIdxIfInBounds (its.toArray.size-1)=its.dropLast.toArray
  rw[zN,List.eraseIdxIfInBounds_toArray,qb8]
 ·rw[List.length_dropLast]
  omega
noncomputable def rCat:R2:=λx y H Q=>∃l b xs zs,x=.ref l/\y=.ref b/\H l=some (.lst xs)/\H b=some (.lst zs)/\xs.length+zs.length<=sizeLine/\∀p,H p=none->Q (.ref p) (upd H p (.lst (xs++zs)))
theorem qg6:OpR X (uQ .Add) rCat:=by
 intro pins s σ H x y v u Q I rx ry h;obtain⟨l,b,xs,zs,rfl,rfl,hH,hB,hz,q⟩:=h;cases rx;cases ry;obtain⟨z,its,n,r,hl,e⟩:=I.lstM hH;obtain⟨z2,its2,n2,r2,hl2,e2⟩:=I.lstM hB;refine PySem.P.add_list e e2 ?_ (by rw[zN,zN];omega);have ea:its.toArray++its2.toArray=(its++its2).toArray:=by simp
 rw[ea];exact⟨.ref _,_,I.lnew (t':=s.toks) (r.append r2) (by rw[zC];omega),rfl,q _ I.fresh⟩
noncomputable def rRep:R2:=λx y H Q=>∃l k xs,x=.ref l/\y=.int k/\H l=some (.lst xs)/\-(2^63)<=k/\k<2^63/\xs.length*k.toNat<=sizeLine /\
 ∀p,H p=none->Q (.ref p) (upd H p (.lst (zb k.toNat xs).flatten))
theorem qeu{α:Type}(xs:List α)(k:Nat):(zb k xs).flatten.length=k*xs.length:=by
 induction k with
 | zero=>simp
 | succ k ih=>rw[yG,yO,zC,ih,Nat.succ_mul,Zv]
theorem qg2:OpR X (uQ .Mult) rRep:=by
 intro pins s σ H x y v u Q I rx ry h;obtain⟨l,k,xs,rfl,rfl,hH,h1,h2,hz,q⟩:=h;cases rx;obtain⟨t,rfl⟩:=ry;obtain⟨z,its,n,r,hl,e⟩:=I.lstM hH;have hlen:its.toArray.size*k.toNat<=sizeLine:=by rw[zN,<- hl];exact hz
 have hcap:¬its.toArray.size*k.toNat>(2^63-1)/8:=by
  have:(sizeLine:Nat)<=(2^63-1)/8:=by decide
  omega
 have hfit:¬(!Builtin.List.listFitsIndex k)=true:=by
  rw[fitsIndex_both h1 h2];exact yF
 have hlong:¬Builtin.List.listTooLong (its.toArray.size*k.toNat)=true:=by
  rw[Wy hlen];exact yF
 have hnew:w9 (λx1 x2=>x1++x2) #[] (zb (if its.toArray.isEmpty=true then 0 else k.toNat) its.toArray)=(zb k.toNat its).flatten.toArray:=by
  have f0:∀m:Nat,w9 (λx1 x2=>x1++x2) #[] (zb m its.toArray)=(zb m its).flatten.toArray:=λm=>by
   have:=q73 its m [];rw[xD]at this;exact this
  rw[f0];cases its with
  | nil=>simp
  | cons a r'=>rw[vF (by simp)]
 refine wpAny_binaryOp_repeat_ref (T := "list") (U := "int") (by decide) ⟨_,e,rfl⟩ (λs'=>typeIs_int s' k t) noFill_list_mul F.fills_int_mul F.slot_int_rmul repeat_list F.slot_int_index.lookup
  (u7 F.slot_int_rmul (typeIs_int s k t) F.entry_int_rmul (F.args_int_rmul_2 _ _) (int___rmul___int_list k t l its.toArray n)
   ⟨e,rfl,⟨_,e,rfl⟩,u7 F.slot_list_mul ⟨_,e,rfl⟩ F.entry_list_mul (F.args_list_mul_2 _ _) (AutoListH.list___mul___list_int_3 l its.toArray n k t hfit hcap hlong) ⟨e,?_⟩⟩)
 rw[hnew];exact⟨.ref _,_,I.lnew (t':=s.toks) (r.rep k.toNat) (by rw[qeu,Nat.mul_comm];exact hz),rfl,q _ I.fresh⟩
end
section
variable{prog:vS}{w:vZ}{A:vb}{E:vB->vG->Prop}{s:vG}
end
section
variable{X:Cx}
end
end L2
namespace Att
open PySem PySem.W PySem.Calls PyProof.Rows
theorem Wc{P:Params}{h:vn}:∀(ns:List Int)(vs:List vB),WellAll P h vs (ns.map WData.int)->uG vs ns:=by
 intro ns
 induction ns with
 | nil=>
  intro vs w;rw[yw]at w;cases w;exact .nil
 | cons n ns ih=>
  intro vs w;rw[zX]at w;cases w with
  | cons a b=>
   cases a;exact .cons _ _ (ih _ b)
theorem zBF{l:OpenLaw}{n:Nat}(hn:l.most=some n){P:Params}{h:vn}{args:List WData}{vals:List vB}(hpre:l.row.toRowW.claim.pre args=true)(hwl:WellAll P h vals args):
  ∃a vs ns,vals=[Value.ref a]/\args=[WData.list (ns.map WData.int)]/\h.get? a=some { cls:=.type "list", data:=.seq vs.toArray }/\uG vs ns/\ns.length<=n:=by
 have hsh:WShape.hasAll [] args [.list .int]=true:=(pre_splitW hpre).1;have hc:l.pre.holds [] { args:=args }=true:=(pre_splitW hpre).2;obtain⟨d,r,rfl,h1,h2⟩:=hasAllW_cons hsh;obtain rfl:=hasAllW_nil h2;obtain⟨xs,rfl,h3⟩:=hasW_list h1;obtain⟨ns,rfl⟩:=items_int h3;have hlen:ns.length<=n:=by
  unfold OpenLaw.pre at hc;have h4:(WTm.not (.lt (.lit (.int (n:Int))) (.len (.arg 0)))).holds [] { args:=[.list (ns.map .int)] }=true:=by
   have h4:=(holds_andW hc).1;rw[hn]at h4;exact h4
  have h5:=condW_of h4 (w_not (w_lt w_lit (w_len_list (w_arg rfl))));rw[zB]at h5;refine Nat.le_of_not_lt λq=>?_;have q':(n:Int)<((ns.length:Nat):Int):=∅
  first
   | (rw[vQ q']at h5;exact vL h5 (by decide))
   | (simp at h5;omega)
 cases hwl with
 | cons w1 w2=>
  cases w2;cases w1 with
  | list ho hall=>exact⟨_,_,ns,rfl,rfl,ho,Wc ns _ hall,hlen⟩
theorem zBG(l:OpenLaw)(args:List WData):l.row.toRowW.claim.post args (.bool true) args=true :=
 postW_of (r:=l.row.toRowW) (X:=(true==true))
  (show WShape.has [] (.bool true) .bool=true by first|rfl|decide|simp[WShape.has,WShape.arms,WShape.armsAll])
  (show (WTm.eq .res (.lit (.bool true))).value [] { args:=args,res:=some (.bool true),after:=args }=some (.bool (true==true))from w_eq_bool (w_res rfl) w_lit) rfl
theorem attach_call{l:OpenLaw}{n:Nat}{q:vS}{loose:List Str}{XP:(Str->Option vB)->vn->Prop}{YP:vZ->vn->Prop}{d:DefRec}(hn:l.most=some n)(hdf:d.params.defaults=[])(call:∀(w:vZ)(s₀ s₁:vG)(mg mb:Str->Option vB)(fa:vJ)(o:Obj)(pm cd doc:vB)(a:vJ)(vs:List vB)(ns:List Int),
   Ground q loose [] XP w s₀ mg mb s₁.heap->YP w s₁.heap ->
   s₁.heap.get? fa=some o->o.data=.func (docDef d.name d.params d.body d.scope pm cd doc)->s₁.heap.CodeRec cd d.name->mg d.name=some (.ref fa) ->
   s₁.heap.get? a=some { cls:=.type "list", data:=.seq vs.toArray }->uG vs ns->ns.length<=n->s₁.gens=#[] ->
   uh (model l.prog w) tf (.call (.ref fa) ⟨[.ref a],[]⟩) (λr s'=>r=.ok (.ret (.bool true))/\OldK s₁.heap s'.heap/\s'.os=s₁.os/\tF s'.gens) s₁) :
  WalkO q loose XP YP l.row.toRowW d [] (λf vs=>PySem.call f vs):=by
 intro w s₀ s₁ mg mb G Y fa o pm cd doc dV kV ho hd hcd hD hmg hg args vals as hpre hlay hrd hwl hlo;obtain rfl:dV=.none:=Dflts.none hD hdf;obtain rfl:kV=.none:=Dflts.noKw hD;obtain⟨a,vs,ns,rfl,rfl,hobj,hints,hlen⟩:=zBF hn hpre hwl;refine enter_call (ui (call w s₀ s₁ mg mb fa o pm cd doc a vs ns G Y ho (fd_plain hd) hcd hmg hobj hints hlen hg) λr s' hq=>?_);obtain⟨rfl,h2,h3,h4⟩:=hq;exact⟨.inl ⟨.bool true,.bool true,[],rfl,λ_=>rfl,.bool true,zBG l _,λ_=>⟨y0,λ_ hm=>(nomatch hm)⟩⟩,h2,h3,h4⟩
section
variable{prog:vS}{w:vZ}{A:vb}{E:vB->vG->Prop}{s:vG}{K:Frag}
end
end Att
namespace L2
open PySem PySem.Spec PyProof.Rows
theorem q22:∀{vs:List vB}{ns:List Int},uG vs ns->Y2 (ns.map V.int) vs
 | _,_,.nil=>.nil
 | _,_,.cons n t h=>.cons ⟨t,rfl⟩ (q22 h)
def Only(H:Hp):Prop:=∀b,H b=none\/∃o xs,H b=some (.frz o (.lst xs))
theorem qdy{P:vS}{w:vZ}{K:zA}{mg mb:Str->Option vB}{CX:CXT}{k:Nat}{fa a:vJ}{fd:vP}{x:Str}{sp:Sp}{s₁:vG}{vs:List vB}{ns:List Int}(KX:K.In s₁.heap)(hns:s₁.heap.Ns vY mg)(hb:s₁.heap.Ns builtinsNs mb)(hbb:∀x:Str,x ≠ "__name__" -> mb x=vf x)(hlim:s₁.heap.NoLimit)(hg:s₁.gens=#[])(ha:s₁.heap.get? a=some { cls:=.type "list", data:=.seq vs.toArray })(hi:uG vs ns)(hl:ns.length<=sizeLine)(hr:Room k tf)(F:∀base:vn,K.In base->base.Ns vY mg->FnOk P w K mg base CX k fa fd [x] sp)(hbind:∀(s:vG)(u:vB),sF s fd ⟨[u],[]⟩ [(x,u)])(hsp:∀H:Hp,Only H->SqL K H a (ns.map V.int)->sp [.ref a] H (λv _=>v=.bl true) λ_ _ _=>False)(hCX:∀H e s',CX [] H s₁ (λ_ _ _=>False) e s'->False):
  uh (model P w) tf (.call (.ref fa) ⟨[.ref a],[]⟩) (λr s'=>r=.ok (.ret (.bool true))/\OldK s₁.heap s'.heap/\s'.os=s₁.os/\tF s'.gens) s₁:=by
 have rv:=q22 hi;have lenV:=hi.length;have core:∀H:Hp,Only H->SqL K H a (ns.map V.int)->HOk P w H s₁.heap->(∀b,H b≠none->b=a)->(H a≠none->K.lookup a=none) ->
   uh (model P w) tf (.call (.ref fa) ⟨[.ref a],[]⟩) (λr s'=>r=.ok (.ret (.bool true))/\OldK s₁.heap s'.heap/\s'.os=s₁.os/\tF s'.gens) s₁:=by
  intro H hO hS hok hA hK;have base_of:∀{b:vJ}{o:Obj},s₁.heap.get? b=some o->H b=none->(zBm s₁.heap H).get? b=some o:=λe n=>qdC e n;have noA:∀{b:vJ}{o:Obj}{es:Array DictEntry}{ep:Nat},s₁.heap.get? b=some o->o.data=.dict es ep->H b=none:=λ{b o es ep} e d=>by
   cases q:H b with
   | none=>rfl
   | some u=>
    have e':b=a:=hA b (by rw[q];simp);subst e';rw[ha]at e;cases e;have d':Data.seq vs.toArray _=Data.dict es ep:=d;cases d'
  have nsK:∀{b:vJ}{m:Str->Option vB},s₁.heap.Ns b m->(zBm s₁.heap H).Ns b m:=λ{b m} ⟨o,es,ep,e,d,r⟩=>⟨o,es,ep,base_of e (noA e d),d,r⟩;have hKb:K.In (zBm s₁.heap H):=λb o e=>base_of (KX b o e) (by
   cases q:H b with
   | none=>rfl
   | some u=>
    have e':b=a:=hA b (by rw[q];simp);subst e';rw[hK (by rw[q];simp)]at e;cases e)
  have hM:Mod K mg (zBm s₁.heap H):=⟨hKb,nsK hns,⟨mb,nsK hb,hbb⟩,let ⟨mc,h1,h2⟩:=hlim;⟨mc,nsK h1,h2⟩⟩;have e0:Env0 P w K mg (zBm s₁.heap H) tf [] s₁ H:=⟨rfl,hM,λb o e=>qf0 e,Nat.le_of_eq (qcx _ _),trivial,λb hb=>vL (show b∈([]:List vJ)from hb) (by simp),hok,.of_eq hg⟩;refine ui ((F _ hKb (nsK hns)).run tf [] s₁ H ⟨[.ref a],[]⟩ [.ref a] [.ref a] _ _ hr e0 (hbind s₁ (.ref a)) (.cons rfl .nil) (hsp H hO hS)) λr s' h=>?_;cases r with
  | error e=>exact(hCX H e s' h).elim
  | ok fl=>
   cases fl with
   | next=>exact False.elim h
   | brk=>exact False.elim h
   | cont=>exact False.elim h
   | ret u=>
    obtain⟨v,H',os,bare,un,hok',r',q⟩:=h;have q':v=.bl true:=q;subst q';obtain rfl:u=Value.bool true:=r';refine⟨rfl,OldK.of_keep λb o e=>?_,os,bare⟩;cases q:H b with
    | none=>exact un.keep b o e q (by intro z;exact vL (show b∈([]:List vJ)from z) (by simp)) (by simp)
    | some u=>
     rcases hO b with z|⟨ob,xs,z⟩
     ·rw[q]at z;cases z
     ·have z2:=un.frzs b ob _ z
      obtain⟨e1,_⟩:=hok b _ z;obtain⟨e2,_⟩:=hok' b _ z2;rw[e]at e1;cases e1;exact e2
 cases hk:K.lookup a with
 | some o=>
  have e:=KX a o hk;rw[ha]at e;cases e;refine core (λ_=>none) (λ_=>.inl rfl) (.inr ⟨_,vs.toArray,_,hk,rfl,rfl,rfl,by rw[zN,lenV];exact hl,by simpa using rv⟩) (λb u z=>by have z':(none:Option HO)=some u:=z;cases z') (λb z=>vL rfl z) λz=>vL rfl z
 | none=>
  refine core (λb=>if b=a then some (.frz { cls:=.type "list", data:=.seq vs.toArray } (.lst (ns.map V.int)))else none) (λb=>?_) (.inl (.inr ⟨{ cls:=.type "list", data:=.seq vs.toArray },vC rfl⟩)) (λb u z=>?_) (λb z=>?_) λ_=>hk
  ·by_cases hb:b=a
   ·exact .inr ⟨_,_,vC hb⟩
   ·exact .inl (vF hb)
  ·by_cases hb:b=a
   ·have z':=(vC hb).symm.trans z
    cases z';subst hb;exact⟨ha,by rw[zB];exact hl,vs,_,rv,ha⟩
   ·have z':=(vF hb).symm.trans z
    cases z'
  ·by_cases hb:b=a
   ·exact hb
   ·exact vL (vF hb) z
noncomputable abbrev KOf{K:zA}{h:vn}(_:K.In h):zA:=K
theorem q9r{l:ZI}{n k:Nat}{q:vS}{loose:List Str}{XP:(Str->Option vB)->vn->Prop}{YP:vZ->vn->Prop}{d:DefRec}{K:Params->zA}{CX:vZ->CXT}{sp:vZ->Sp}{x:Str}(hn:l.most=some n)(hn2:n<=sizeLine)(hdf:d.params.defaults=[])(hr:Room k tf)(hY:∀(w:vZ)(h:vn),YP w h->(K w.params).In h)(F:∀(w:vZ)(mg:Str->Option vB)(fa:vJ)(h:vn),(K w.params).In h->h.Ns vY mg->mg d.name=some (.ref fa) ->
   ∃fd:vP,(∀(s:vG)(u:vB),sF s fd ⟨[u],[]⟩ [(x,u)]) /\
    ∀base:vn,(K w.params).In base->base.Ns vY mg->FnOk l.prog w (K w.params) mg base (CX w) k fa fd [x] (sp w))
  (hsp:∀(w:vZ)(H:Hp)(a:vJ)(ns:List Int),ns.length<=n->Only H->SqL (K w.params) H a (ns.map V.int)->sp w [.ref a] H (λv _=>v=.bl true) λ_ _ _=>False)
  (hCX:∀(w:vZ)(H:Hp)(s:vG)(e:vB)(s':vG),CX w [] H s (λ_ _ _=>False) e s'->False) :
  Ya q loose XP YP l.row.toRowW d [] (λf vs=>PySem.call f vs):=by
 refine Att.attach_call hn hdf λw s₀ s₁ mg mb fa o pm cd doc a vs ns G Y ho hd hcd hmg hobj hints hlen hg=>?_;have KX:=hY w _ Y;obtain⟨fd,hb,hF⟩:=F w mg fa _ KX G.T.g hmg;exact qdy KX G.T.g G.T.b G.T.builtins G.T.nolimit hg hobj hints (yK hlen hn2) hr hF hb (λH hO hS=>hsp w H a ns hlen hO hS) λH e s'=>hCX w H s₁ e s'
end L2
namespace L2
open PySem PySem.Spec PyProof.Rows
noncomputable def X1(s:vx):Arguments:=match s with
 | .FunctionDef _ a _ _ _ _ _ _ _ _=>a
 | _=>{ posonlyargs:=[],args:=[],vararg:=none,kwonlyargs:=[],kw_defaults:=[],kwarg:=none,defaults:=[] }
noncomputable def Xf(s:vx):List vx:=match s with
 | .FunctionDef _ _ b _ _ _ _ _ _ _=>b
 | _=>[]
noncomputable def Yk(s:vx):um:=match s with
 | .FunctionDef _ _ _ _ _ _ sc _ _ _=>sc
 | _=>{ kind:=.function,names:=[],isGenerator:=false,isCoroutine:=false }
noncomputable abbrev CX0:CXT:=λ_ _ _ _ _ _=>False
noncomputable abbrev E0:XK:=λ_ _ _=>False
theorem zB2{X:Cx}:zAw CX0 X E0:=λ_ _ _ _ _ _ _ h=>h.elim
structure Fun (K:zA) (x qual:Str) (st:vx) (f:vJ) (fd:vP):Prop where
 ex:∃(oc:vB) (od:Option vJ) (kV doc pm:vB) (an:Option vJ) (cdv ct:vB) (osl:Array (Option vB)),
  fd=xQ x qual (X1 st) (Xf st) (Yk st) .none kV doc pm an cdv ct/\K.lookup f=some ⟨oc,od,.func fd,osl⟩/\wV K cdv qual=true
 kp:xI K (.ref f)=true
section
variable{P:vS}{w:vZ}{K:zA}{mg:Str->Option vB}{base:vn}
theorem Fun.ok{x qual:Str}{st:vx}{f:vJ}{fd:vP}{N ps:List Str}{k:Nat}{sp:Sp}(F:Fun K x qual st f fd)(S:FnScope N ps (Yk st))(len:∀vs H Q E,sp vs H Q E->vs.length=ps.length)(hbody:∀(cdv:vB)(A:vb)(outer:List Env)(s:vG)(H:Hp)(vs:List V)(Q:VK)(E:XK),Room k (A.deeper (tV qual (Yk st) s.heap.objs.size f cdv))->sp vs H Q E ->
   ∃t,PSs (zBA CX0 P w K mg base N qual (Yk st) f cdv A outer s H E).nox (Xf st) t/\t { nx:=λ_ H'=>Q .non H',rt:=Q } (start N vs) H):FnOk P w K mg base CX0 (k+1) f fd ps sp:=by
 obtain⟨oc,od,kV,doc,pm,an,cdv,ct,osl,rfl,lk,hcd⟩:=F.ex;refine qh5 lk hcd S len λA outer s H vs Q E hr hsp=>?_;obtain⟨t,h,q⟩:=hbody cdv A outer s H vs Q E hr hsp;exact⟨t,h.nox,q⟩
theorem Fun.binds{x qual:Str}{st:vx}{f:vJ}{fd:vP}{ps:List Str}(F:Fun K x qual st f fd)(h:∀(kV doc pm:vB)(an:Option vJ)(cdv ct:vB)(us:List vB),us.length=ps.length->bindArgs (xQ x qual (X1 st) (Xf st) (Yk st) .none kV doc pm an cdv ct) ⟨us,[]⟩=pure (ps.zip us)):Binds K fd ps []:=by
 obtain⟨oc,od,kV,doc,pm,an,cdv,ct,osl,rfl,lk,hcd⟩:=F.ex;exact .all (h kV doc pm an cdv ct)
theorem qgx{x qual:Str}{st:vx}{f:vJ}{oc:vB}{od an:Option vJ}{osl:Array (Option vB)}{kV doc pm cdv ct:vB}(l:K.lookup f=some ⟨oc,od,.func (xQ x qual (X1 st) (Xf st) (Yk st) .none kV doc pm an cdv ct),osl⟩)(c:wV K cdv qual=true)(k:xI K (.ref f)=true):Fun K x qual st f (xQ x qual (X1 st) (Xf st) (Yk st) .none kV doc pm an cdv ct):=⟨⟨oc,od,kV,doc,pm,an,cdv,ct,osl,rfl,l,c⟩,k⟩
end
theorem zBb{n:Nat}(h:n<=1000):n<sizeLine:=Zn h (by decide)
section
variable{X:Cx}
theorem pv(i:Nat){x:Str}{pos:Pos}(hN:X.N[i]?=some x:=by rfl)(hv:Vis X.env.scope x:=by first|exact Or.inl rfl|exact Or.inr (Or.inl rfl)|exact Or.inr (Or.inr rfl))(hd:(x==("__debug__" : Str))=false:=by decide)(hcd:(x==("__classdict__" : Str))=false:=by decide):PE X (.Name x pos) (XL i):=qfS hN hv hd hcd
end
def Yz(H H':Hp):Prop:=∀b o,H b=some o->H' b=some o
theorem Yz.refl(H:Hp):Yz H H:=λ_ _ h=>h
theorem Yz.trans{H H1 H2:Hp}(a:Yz H H1)(b:Yz H1 H2):Yz H H2:=λc o h=>b c o (a c o h)
theorem Yz.free{H H':Hp}(e:Yz H H'){l:vJ}(h:H' l=Yd):H l=Yd:=by
 cases q:H l with
 | none=>rfl
 | some o=>
  rw[e l o q]at h;cases h
theorem Yz.seq{K:zA}{H H':Hp}{a:vJ}{xs:List V}(e:Yz H H')(h:SqL K H a xs):SqL K H' a xs:=by
 rcases h with (h|⟨o,h⟩)|h
 ·exact .inl (.inl (e _ _ h))
 ·exact .inl (.inr ⟨o,e _ _ h⟩)
 ·exact .inr h
end L2
namespace Hk
open PySem
def zA7(xs:Array Nat):Prop:=xs.toList.Pairwise (· < ·)
theorem q4z{l:List Nat}(h:l.Pairwise (· < ·)){i j:Nat}(hi:i<l.length)(hj:j<l.length)(hij:i<j):l[i]<l[j]:=xM.mp h i j hi hj hij
theorem qdv{xs:Array Nat}{j:Nat}(h:zA7 xs):∀(fuel lo hi:Nat),lo<=hi->hi<=xs.size->hi-lo<=fuel->(∀k(z:k<xs.toList.length),k<lo->xs.toList[k]<j)->(∀k(z:k<xs.toList.length),hi<=k->j<=xs.toList[k]) ->
  SetTable.below.go xs j fuel lo hi<=xs.size/\(∀k(z:k<xs.toList.length),k<SetTable.below.go xs j fuel lo hi->xs.toList[k]<j)/\(∀k(z:k<xs.toList.length),SetTable.below.go xs j fuel lo hi<=k->j<=xs.toList[k]):=by
 intro fuel
 induction fuel with
 | zero=>
  intro lo hi h1 h2 h3 h4 h5;have e:lo=hi:=∅
  subst e;exact⟨h2,h4,h5⟩
 | succ n ih=>
  intro lo hi h1 h2 h3 h4 h5;unfold SetTable.below.go
  by_cases hl:lo<hi
  ·rw[vC hl]
   have hm:(lo+hi)/2<xs.toList.length:=by rw[zO];omega
   have hg:xs.getD ((lo+hi)/2) j=xs.toList[(lo+hi)/2]:=by
    rw[Array.getD_eq_getD_getElem?,<- zn,zE hm];rfl
   by_cases hc:xs.getD ((lo+hi)/2) j<j
   ·simp only[hc,if_true]
    refine ih _ _ ∅ h2 ∅ (λk z hk=>?_) h5
    by_cases e:k=(lo+hi)/2
    ·subst e;rw[hg]at hc;exact hc
    ·have:=q4z h z hm ∅
     rw[hg]at hc;omega
   ·simp only[hc,if_false]
    refine ih _ _ ∅ ∅ ∅ h4 (λk z hk=>?_)
    by_cases e:k=(lo+hi)/2
    ·subst e;rw[hg]at hc;omega
    ·have:=q4z h hm z ∅
     rw[hg]at hc;omega
  ·rw[vF hl]
   have e:lo=hi:=∅
   subst e;exact⟨h2,h4,h5⟩
theorem q8b{xs:Array Nat}(h:zA7 xs)(j:Nat):SetTable.below xs j<=xs.size/\(∀k(z:k<xs.toList.length),k<SetTable.below xs j->xs.toList[k]<j)/\(∀k(z:k<xs.toList.length),SetTable.below xs j<=k->j<=xs.toList[k]) :=
 qdv h xs.size 0 xs.size (yH _) (zK _) ∅ (λk z hk=>vL hk (xO _)) (λk z hk=>by rw[zO]at z;omega)
theorem q3M{α:Type}(xs:Array α)(p:Nat)(x:α):(SetTable.insertAt xs p x).toList=xs.toList.take p++x::xs.toList.drop p:=by
 unfold SetTable.insertAt;simp[xR,yn]
theorem q92{xs:Array Nat}(h:zA7 xs){j:Nat}(hn:xs[SetTable.below xs j]?≠some j):zA7 (SetTable.insertAt xs (SetTable.below xs j) j):=by
 obtain⟨h1,h2,h3⟩:=q8b h j;unfold zA7;rw[q3M,zW];have lt:∀y∈xs.toList.drop (SetTable.below xs j),j<y:=by
  intro y hy;obtain⟨k,hk,e⟩:=zy.mp hy;rw[yV]at hk;rw[xS]at e;have hb:SetTable.below xs j<xs.toList.length:=∅
  have hh:=h3 _ hb (zK _);have ne:xs.toList[SetTable.below xs j]≠j:=λz=>hn (by rw[<- zn,zE hb,z]);have hle:xs.toList[SetTable.below xs j]<=y:=by
   by_cases e0:k=0
   ·subst e0;rw[<- e];simp
   ·rw[<- e];exact yZ (q4z h hb ∅ ∅)
  omega
 refine⟨wI (we _ _) h,zZ.mpr ⟨lt,wI (Zw _ _) h⟩,λa ha b hb=>?_⟩;have haj:a<j:=by
  obtain⟨k,hk,e⟩:=zy.mp ha;rw[zv]at hk;rw[xA]at e;rw[<- e];exact h2 k ∅ ∅
 rcases zG.mp hb with rfl|hb
 ·exact haj
 ·exact Zx haj (lt b hb)
structure Tb (t:SetTable) (n:Nat):Prop where
 fits:t.fits n=true
 rise:zA7 t.place
 dum:t.dummies=#[]
theorem q8K{t:SetTable}(hd:t.dummies=#[])(j:Nat):t.slot j≠.dummy:=by
 unfold SetTable.slot;rw[hd]
 dsimp only
 split
 ·exact λz=>nomatch z
 ·have:SetTable.has #[] j=false:=by simp[SetTable.has]
  rw[this];exact λz=>nomatch z
theorem q95{t:SetTable}(hd:t.dummies=#[]){h:Int}:∀(fuel:Nat)(p:SetTable.Probe)(m:SetTable.Met),p.dummy=none->SetTable.probe.go t (λ_=>h+1) h fuel p=some m->∃j,m=.empty j none/\t.slot j=.empty:=by
 intro fuel
 induction fuel with
 | zero=>intro p m _ e;cases e
 | succ n ih=>
  intro p m hp e;unfold SetTable.probe.go at e;cases hs:t.slot p.j with
  | empty=>
   rw[hs]at e;cases e;exact⟨p.j,by rw[hp],hs⟩
  | dummy=>exact vL hs (q8K hd _)
  | live i=>
   rw[hs]at e;have hne:(h+1==h)=false:=by simp only[beq_eq_false_iff_ne,ne_eq];omega
   dsimp only at e
   rw[hne]at e;refine ih _ m ?_ e;unfold SetTable.advance
   split
   ·exact hp
   ·exact hp
theorem q9g{t:SetTable}(hd:t.dummies=#[]){h:Int}{slot:Nat}{b:Bool}(e:t.freeSlot h=some (slot,b)):b=false/\t.place[SetTable.below t.place slot]?≠some slot:=by
 unfold SetTable.freeSlot at e;cases q:t.probe (λ_=>h+1) h (t.probeStart h)with
 | none=>rw[q]at e;cases e
 | some m=>
  rw[q]at e;obtain⟨j,rfl,hs⟩:=q95 hd _ _ m (by rfl) q;cases e;refine⟨rfl,λz=>?_⟩;unfold SetTable.slot at hs
  dsimp only at hs
  have:(t.place[SetTable.below t.place j]?==some j)=true:=by
   rw[show t.place[SetTable.below t.place j]?=some j from z];simp
  rw[vC this]at hs;cases hs
theorem qbB(n:Nat):zA7 (Array.range n):=by
 unfold zA7;rw[Array.toList_range];exact ZA
theorem q2f(t:SetTable)(n:Nat):Tb (t.standIn n) n:=by
 refine⟨?_,qbB n,rfl⟩;unfold SetTable.fits SetTable.standIn SetTable.fill;simp;omega
theorem qgQ{t:SetTable}{n:Nat}(h:zA7 t.place)(hd:t.dummies=#[]):Tb (t.orStandIn n) n:=by
 unfold SetTable.orStandIn
 by_cases z:t.fits n=true
 ·rw[vC z];exact⟨z,h,hd⟩
 ·rw[vF z];exact q2f t n
theorem qfD(t:SetTable)(n:Nat):(t.orStandIn n).led=t.led:=by
 unfold SetTable.orStandIn
 split <;> rfl
theorem qcv{t:SetTable}{es:Array (Int×vB)}{h:Int}{x:vB}(T:Tb t es.size):
  (layNew t es h x).2.2.1=false/\Tb (layNew t es h x).2.1 (layNew t es h x).1.size/\(layNew t es h x).2.1.led=t.led/\(layNew t es h x).1.toList.Perm ((h,x)::es.toList):=by
 unfold layNew;cases q:t.freeSlot h with
 | none=>
  refine⟨rfl,?_,rfl,?_⟩
  ·rw[Array.size_push];exact q2f t _
  ·rw[wf]
   exact List.perm_append_singleton _ _
 | some p=>
  obtain⟨slot,b⟩:=p;obtain⟨rfl,hn⟩:=q9g T.dum q;have hd:(t.put slot).1.dummies=#[]:=by
   unfold SetTable.put
   dsimp only
   rw[T.dum];simp[SetTable.has]
  refine⟨rfl,qgQ (q92 T.rise hn) hd,(qfD _ _).trans rfl,?_⟩;rw[q3M];refine yq YD ?_;rw[yU]
theorem q59{α:Type}{f:α->Option α}(h:∀x y,f x=some y->y=x):∀l:List α,(l.filterMap f).Sublist l
 | []=>by simp
 | a::r=>by
  rw[xU];cases q:f a with
  | none=>exact(q59 h r).cons a
  | some b=>rw[h a b q];exact(q59 h r).cons_cons a
theorem q5y{α:Type}:∀l:List α,(zw l.length).filterMap (λi=>l[i]?)=l
 | []=>rfl
 | a::r=>by
  rw[zD,ZB,xU];simp only[xX];rw[Zm];have e:((λi=>(a::r)[i]?) ∘ Nat.succ)=λi=>r[i]?:=by funext i;simp
  rw[e,q5y r]
theorem qeX{mask finger moves:Nat}{led plain:Bool}{hs:Array Int}{t:SetTable}{o:Array Nat}(e:SetTable.laid mask finger moves led plain hs=some (t,o)):zA7 t.place/\t.dummies=#[]/\t.led=led:=by
 unfold SetTable.laid at e;cases q:SetTable.layClean mask hs with
 | none=>rw[q]at e;cases e
 | some owner=>
  rw[q]at e;cases e;refine⟨?_,rfl,rfl⟩;unfold zA7
  dsimp only
  rw[List.map_filterMap];refine wI (q59 (λx y z=>?_) _) ZA;cases q2:owner.getD x none with
  | none=>rw[q2]at z;cases z
  | some c=>rw[q2]at z;exact(zc z).symm
theorem qda{t:SetTable}{es:Array (Int×vB)}(w:Nat):Tb (relayAll t es w).2.1 (relayAll t es w).1.size/\(relayAll t es w).2.1.led=t.led/\(relayAll t es w).1.toList.Perm es.toList:=by
 unfold relayAll;cases q:t.relaid (es.map (·.1)) w with
 | none=>exact⟨q2f t _,rfl,xJ _⟩
 | some p=>
  obtain⟨t',order⟩:=p
  dsimp only
  obtain⟨h1,h2,h3⟩:=qeX q
  by_cases z:(coversAll order es.size&&t'.fits (order.filterMap (es[·]?)).size)=true
  ·rw[vC z]
   rw[zS]at z;refine⟨⟨z.2,h1,h2⟩,h3,?_⟩;have hp:order.toList.Perm (zw es.size):=List.isPerm_iff.mp z.1;rw[Array.toList_filterMap];have e:(λ(i:Nat)=>es[i]?)=λ(i:Nat)=>es.toList[i]?:=by funext i;simp
   rw[e];have q2:=hp.filterMap λi=>es.toList[i]?;rw[<- zO,q5y]at q2;exact q2
  ·rw[vF z]
   exact⟨q2f t _,rfl,xJ _⟩
end Hk
namespace Hk
open PySem PySem.Spec PyProof.Rows
noncomputable def vI:vB->Int
 | .int i _=>i
 | _=>0
def W7(e:Int×vB):Prop:=∃x t,e=(sT x,Value.int x t)
theorem qbg{prog:vS}{w:vZ}{l:List (Int×vB)}(h:∀e∈l,W7 e):ElemsOf (uy prog w) l:=λe he=>by
 obtain⟨x,t,rfl⟩:=h e he;exact⟨⟨x,intKind_is _ _ _ _,rfl⟩,rfl⟩
def zAS(h:vn)(a:vJ)(led:Bool)(xs:List Int):Prop:=∃o es ep t,h.get? a=some o/\o.ExactSet/\o.data=.set es ep t/\Tb t es.size/\t.led=led/\es.size<ub /\
 (∀e∈es.toList,W7 e)/\es.toList.map (λe=>vI e.2)=xs/\xs.Nodup
theorem zAS.len{h:vn}{a:vJ}{led:Bool}{xs:List Int}(S:zAS h a led xs):xs.length<ub:=by
 obtain⟨o,es,ep,t,_,_,_,_,_,z,_,e,_⟩:=S;rw[<- e,zB,zO];exact z
theorem zAS.at{h h':vn}{a:vJ}{led:Bool}{xs:List Int}(S:zAS h a led xs)(k:∀o,h.get? a=some o->h'.get? a=some o):zAS h' a led xs:=by
 obtain⟨o,es,ep,t,e,r⟩:=S;exact⟨o,es,ep,t,k o e,r⟩
theorem q9W{prog:vS}{w:vZ}{e:Int×vB}(h:W7 e)(x:Int):(uy prog w).is x e.2=decide (vI e.2=x):=by
 obtain⟨y,t,rfl⟩:=h;show Value.isInt x (.int y t)=decide (y=x)
 by_cases z:y=x
 ·subst z;simp[Value.isInt]
 ·simp[Value.isInt,z]
theorem qcH{prog:vS}{w:vZ}{l:List (Int×vB)}(h:∀e∈l,W7 e){x:Int}(q:l.findIdx? (λe=>(uy prog w).is x e.2)=none):x∉l.map (λe=>vI e.2):=λz=>by
 obtain⟨e,he,ex⟩:=ya.mp z;have:=List.findIdx?_eq_none_iff.mp q e he;rw[q9W (h e he),ex]at this;simp at this
theorem qd4{prog:vS}{w:vZ}{l:List (Int×vB)}(h:∀e∈l,W7 e){x:Int}{j:Nat}(q:l.findIdx? (λe=>(uy prog w).is x e.2)=some j):x∈l.map (λe=>vI e.2):=by
 obtain⟨hj,hp,_⟩:=List.findIdx?_eq_some_iff_getElem.mp q;rw[q9W (h _ (yu hj))]at hp;exact ya.mpr ⟨_,yu hj,of_decide_eq_true hp⟩
section
variable{prog:vS}{w:vZ}{A:vb}{E:vB->vG->Prop}{s:vG}
theorem qa2{h:vn}{a:vJ}{o:Obj}{es es':Array (Int×vB)}{ep:Nat}{t t':SetTable}{led:Bool}{xs:List Int}(go:h.get? a=some o)(gx:o.ExactSet)(gd:o.data=.set es ep t)(T:Tb t' es'.size)(gl:t'.led=led)(gb:es'.size<ub)(gg:∀e∈es'.toList,W7 e)(gv:es'.toList.map (λe=>vI e.2)=xs)(gn:xs.Nodup):
  (h.update a (Obj.putSet es' t')).get? a=some { o with data:=.set es' (ep+1) t' }/\zAS (h.update a (Obj.putSet es' t')) a led xs:=by
 have q:=xf (Obj.putSet es' t') go (by rw[putSet_of es' t' gd];rfl);rw[putSet_of es' t' gd]at q;exact⟨q,_,es',ep+1,t',q,gx,rfl,T,gl,gb,gg,gv,gn⟩
theorem qcM{g:Bool->Sem Unit}(gw:∀(b:Bool)(s1:vG)(Q':Unit->vG->Prop),Q' () s1->vN (model prog w) A (g b) Q' E s1){a:vJ}{o:Obj}{es es1:Array (Int×vB)}{ep:Nat}{t t2:SetTable}{led:Bool}{xs:List Int}(go:s.heap.get? a=some o)(gx:o.ExactSet)(gd:o.data=.set es ep t)(T:Tb t2 es1.size)(gl:t2.led=led)(gb:es1.size<ub)(gg:∀e∈es1.toList,W7 e)(gv:es1.toList.map (λe=>vI e.2)=xs)(gn:xs.Nodup){dm:Bool}{R:Option Bool->vG->Prop}(k:∀h' ys,xP a s.heap h'->zAS h' a led ys->ys.Perm xs->R (some true) { s with heap:=h' }):
  vN (model prog w) A (do
    storeSet a es1 t2
    if (!dm&&t2.tooFull)=true then do
      g (relayAll t2 es1 (SetTable.grown es1.size)).2.2
      storeSet a (relayAll t2 es1 (SetTable.grown es1.size)).1 (relayAll t2 es1 (SetTable.grown es1.size)).2.1
      pure (some true)
     else pure (some true)) R E s:=by
 refine vA (wpAny_storeSet_of go gd ?_ (fits_of_scanBound gb));obtain⟨g1,S1⟩:=qa2 go gx gd T gl gb gg gv gn;have sb:=ZT s.heap a (Obj.putSet es1 t2)
 split
 ·obtain⟨T2,l2,p2⟩:=qda (t:=t2) (es:=es1) (SetTable.grown es1.size)
  generalize relayAll t2 es1 (SetTable.grown es1.size)=rl at T2 l2 p2 ⊢;obtain⟨es2,t3,gv2⟩:=rl
  dsimp only at T2 l2 p2 ⊢
  have hz:es2.size=es1.size:=by rw[<- zO,p2.length_eq,zO]
  have gb2:es2.size<ub:=by rw[hz];exact gb
  have pv:(es2.toList.map λe=>vI e.2).Perm xs:=by rw[<- gv];exact p2.map _
  refine vA (gw _ _ _ ?_);refine vA (wpAny_storeSet_of g1 rfl ?_ (fits_of_scanBound gb2));obtain⟨_,S2⟩:=qa2 g1 gx rfl T2 (l2.trans gl) gb2 (λe he=>gg e (p2.mem_iff.mp he)) rfl (pv.nodup_iff.mpr gn);exact vH (k _ _ (sb.trans (ZT _ a _)) S2 pv)
 ·exact vH (k _ _ sb S1 (xJ _))
theorem qgW{a:vJ}{led:Bool}{xs:List Int}{x:Int}{tk:Tok}{Q:Bool->vG->Prop}(S:zAS s.heap a led xs)(room:xs.length+1<ub)(k:∀b h' ys,xP a s.heap h'->zAS h' a led ys->(x∈xs->ys=xs)->(x∉xs->ys.Perm (x::xs))->Q b { s with heap:=h' }):
  vN (model prog w) A (setAddHashed a (.int x tk) (sT x)) Q E s:=by
 obtain⟨o,es,ep,t,go,gx,gd,T,gl,gb,gg,gv,gn⟩:=id S;have hl:es.size=xs.length:=by rw[<- gv,zB,zO]
 have el:ElemsOf (uy prog w) es.toList:=qbg gg;unfold setAddHashed setAddHashedIn;refine vh (vA (vy go gd T.fits ?_))
 dsimp only
 rw[byScan_of (knd:=uy prog w) (x:=.int x tk) rfl gb el];simp only[↓reduceIte];unfold setAddByScan;refine vA (vA (uB (vA (wpAny_setScan_of (knd:=uy prog w) (k:=x) (intKind_is _ _ _ _) go gd T.fits el ?_))));cases q:List.findIdx? (λe=>(uy prog w).is x e.2) es.toList with
 | some j=>
  dsimp only
  have hx:x∈xs:=by rw[<- gv];exact qd4 gg q
  refine vH (vH ?_);exact k false s.heap xs (Zy a s.heap) S (λ_=>rfl) λz=>vL hx z
 | none=>
  dsimp only
  have hx:x∉xs:=by rw[<- gv];exact qcH gg q
  obtain⟨d0,T1,l1,p1⟩:=qcv (t:=t) (es:=es) (h:=sT x) (x:=.int x tk) T;generalize layNew t es (sT x) (.int x tk)=ly at d0 T1 l1 p1 ⊢;obtain⟨es1,t1,dm,gave⟩:=ly
  dsimp only at d0 T1 l1 p1 ⊢
  have gg1:∀e∈es1.toList,W7 e:=λe he=>by
   rcases zG.mp (p1.mem_iff.mp he)with rfl|he
   ·exact⟨x,tk,rfl⟩
   ·exact gg e he
  have pv:(es1.toList.map λe=>vI e.2).Perm (x::xs):=by rw[<- gv];exact p1.map _
  have gn1:(es1.toList.map λe=>vI e.2).Nodup:=pv.nodup_iff.mpr (xC.mpr ⟨hx,gn⟩);have gb1:es1.size<ub:=by
   have:=pv.length_eq;rw[zB,zO,zD]at this;omega
  have gw:∀(b:Bool)(s1:vG)(Q':Unit->vG->Prop),Q' () s1->vN (model prog w) A (match b with|true=>rule "set.scan.the-table-gave-way" | false=>pure ()) Q' E s1 :=
   λb s1 Q' z=>by cases b <;> first|exact vH z|exact uB z
  refine vA (gw _ _ _ ?_);have fin:∀h' ys,xP a s.heap h'->zAS h' a led ys->ys.Perm (es1.toList.map λe=>vI e.2)->Q true { s with heap:=h' }:=λh' ys sb S' p=>k true h' ys sb S' (λz=>vL z hx) λ_=>p.trans pv
  split
  ·refine vA ?_
   rw[hashByValue_scannable 8 (x:=Value.int x tk) rfl];refine vH ?_;refine qcM (λb s1 Q' z=>by cases b <;> first|exact vH z|exact uB z) go gx gd T1 (l1.trans gl) gb1 gg1 rfl gn1 λh' ys sb S' p=>?_;exact vH (fin h' ys sb S' p)
  ·refine vA (vH ?_)
   simp only[↓reduceIte];refine qcM (λb s1 Q' z=>by cases b <;> first|exact vH z|exact uB z) go gx gd T1 (l1.trans gl) gb1 gg1 rfl gn1 λh' ys sb S' p=>?_;exact vH (fin h' ys sb S' p)
end
def zBu(h:vn)(S:vJ)(led:Bool)(val:Nat->Int)(m:Nat):Prop:=∃xs,zAS h S led xs/\xs.length<=m/\∀x,x∈xs↔∃i,i<m/\val i=x
theorem zBu.at{h h':vn}{a:vJ}{led:Bool}{val:Nat->Int}{m:Nat}(S:zBu h a led val m)(k:∀o,h.get? a=some o->h'.get? a=some o):zBu h' a led val m:=by
 obtain⟨xs,q,r⟩:=S;exact⟨xs,q.at k,r⟩
section
variable{prog:vS}{w:vZ}{A:vb}{R:sC->vG->Prop}{I:vJ}{fp wr:List vJ}{G:Array sZ->Array sZ->Prop}{n:Nat}{P:Nat->vB->Prop}{St:Nat->vG->Prop}
theorem zCm(W:WalksS prog w A.in1 I fp wr G n P St)(S:vJ)(hS:S∉fp){led:Bool}(val:Nat->Int)(hv:∀i v,P i v->∃t,v=.int (val i) t)(hb:n+1<ub):
  ∀(k i:Nat)(s:vG),n-i=k->i<=n->St i s->zBu s.heap S led val i->(∀s',Moved (S::wr) G s s'->zBu s'.heap S led val n->R (.ok (.ret .none)) s') ->
   uh (model prog w) A (.builtin "set.update.loop" ⟨[.ref S,.ref I],[]⟩) R s:=by
 have hw:S∉wr:=λz=>hS (W.sub _ z);have hsub:∀b∈wr,b∈S::wr:=λb z=>zH _ z;intro k
 induction k with
 | zero=>
  intro i s hk hi st SV hR;have hin:i=n:=∅
  subst hin;refine uU PyProof.Rows.F.entry_set_update_loop ?_;rw[Around.under_plainId PyProof.Rows.F.plain_set_update_loop _];show vN _ A.in1 (uH (.ref I) >>= _) _ _ s;refine vA (W.done s _ _ st λs' hm=>?_);show vN _ A.in1 (ret Value.none) _ _ s';exact vH (hR s' (hm.mono hsub) (SV.at λo e=>hm.heap S o hw e))
 | succ k ih=>
  intro i s hk hi st SV hR;have hlt:i<n:=∅
  refine uU PyProof.Rows.F.entry_set_update_loop ?_;rw[Around.under_plainId PyProof.Rows.F.plain_set_update_loop _];show vN _ A.in1 (uH (.ref I) >>= _) _ _ s;refine vA (W.item i s _ _ hlt st λv s1 hP st1 hm=>?_);obtain⟨t,rfl⟩:=hv i v hP;obtain⟨xs,S1,hl,hx⟩:=SV.at (h':=s1.heap) λo e=>hm.heap S o hw e;show vN _ A.in1 (holding [Value.int (val i) t] (setAdd S (.int (val i) t)) >>= _) _ _ s1;refine vA (vh ?_);unfold setAdd;refine vh ?_;refine vA ((uy prog w).pyHash (k:=val i) (intKind_is _ _ _ _) ?_);refine qgW (s:={ s1 with toks:=s1.toks+1 }) (x:=val i) S1 ∅ λb h' ys sb S2 y1 y2=>?_;have SV2:zBu h' S led val (i+1):=by
   refine⟨ys,S2,?_,λx=>?_⟩
   ·by_cases z:val i∈xs
    ·rw[y1 z];omega
    ·rw[(y2 z).length_eq,zD];omega
   ·by_cases z:val i∈xs
    ·rw[y1 z,hx]
     refine⟨λ⟨j,h1,h2⟩=>⟨j,∅,h2⟩,λ⟨j,h1,h2⟩=>?_⟩
     by_cases e:j=i
     ·subst e;exact(hx x).mp (by rw[<- h2];exact z)
     ·exact⟨j,∅,h2⟩
    ·rw[(y2 z).mem_iff,zG,hx]
     refine⟨λh=>?_,λ⟨j,h1,h2⟩=>?_⟩
     ·rcases h with h|⟨j,h1,h2⟩
      ·exact⟨i,∅,h.symm⟩
      ·exact⟨j,∅,h2⟩
     ·by_cases e:j=i
      ·subst e;exact .inl h2.symm
      ·exact .inr ⟨j,∅,h2⟩
  refine vH ⟨ud PyProof.Rows.F.plain_set_update_loop _,ih (i+1) _ ∅ hlt (W.frame _ s1 _ _ st1 (xj _) λb z o e=>?_) SV2 λs2 hm2 S3=>?_⟩
  ·rw[sb.2 b (λy:b=S=>hS (by rw[<- y];exact z))];exact e
  ·refine hR s2 (Moved.trans W.gtrans ((hm.mono hsub).then_heap (xj _) λb o z e=>?_) hm2) S3
   rw[sb.2 b (λy:b=S=>z (by rw[y];exact zI))];exact e
end
noncomputable abbrev Xk(w:vZ):Bool:=!w.params.followText "set-order"
section
variable{prog:vS}{w:vZ}{A:vb}{E:vB->vG->Prop}{s:vG}
theorem qeV(a:vB){Q1:vB->vG->Prop}(h:Q1 (.ref s.heap.objs.size) { s with heap:=s.heap.push { cls:=.type "set", data:=.set #[] 0 (.fresh 0 0 (Xk w)) } }):
  uh (model prog w) A (.call (.builtin "set.__new__") ⟨[.type "set", a],[]⟩) (wants Q1 E) s:=by
 refine codeAny_of_tree ?_;show vN _ A.in1 (checkBuiltinCall "set.__new__" ⟨[.type "set", a],[]⟩ >>= λ_=>again (.builtin "set.__new__" ⟨[.type "set", a],[]⟩)) _ _ s;refine vA (sO (PySem.F.newCall_set_1 a) (vH ⟨ud PySem.F.plain_set_new _,uU PySem.F.entry_set_new ?_⟩));rw[Around.under_plainId PySem.F.plain_set_new _];unfold Builtin.«set.__new__» Builtin.Frozenset.newClass;have p1:=sub_set_self;obtain⟨hp,g,d,tk,os⟩:=s
 dsimp only
 wp_walk
 refine tN (vH ?_)
 dsimp only
 simp only[newObj];refine vA (wpAny_alloc (vH ?_));exact vH h
set_option maxHeartbeats 3200000 in
theorem q9b{l:vJ}{items:Array vB}{ns:List Int}{Q:vB->vG->Prop}(hh:A.handled=none)(il:s.heap.IsList l items)(ia:uG items.toList ns)(hb:items.size+1<ub)(k:∀(h':vn)(tk:Nat),zBu h' s.heap.objs.size (Xk w) (λi=>ns.getD i 0) items.size->(∀b o,b<s.heap.objs.size->s.heap.get? b=some o->h'.get? b=some o)->Q (.ref s.heap.objs.size) { s with heap:=h',toks:=tk }):
  vN (model prog w) A (call (.type "set") [.ref l]) Q E s:=by
 obtain⟨c,tl,c1⟩:=PySem.F.called_set.mro;have c2:=PySem.F.called_set.made;have c3:=PySem.F.called_set.sub;refine wpAny_call (codeAny_of_tree ?_);show vN _ _ (callAny (.type "set") _) _ _ _;refine vH ⟨Code.quiet_builtin _ ⋯,uU PySem.F.entry_type_call ?_⟩;rw[Around.under_plain (weight_type_call_type "set" [.ref l] []) rfl];have c4:=PySem.F.called_set.notType;have c5:=PySem.F.called_set.canCreate;have c6:=PySem.F.typeCall_set_1 (.ref l)
 repeat (any_goals (first|assumption|wp_step))
 refine ui (qeV (.ref l) (E:=E) (Q1:=λobj s1=>obj=.ref s.heap.objs.size/\s1={ s with heap:=s.heap.push { cls:=.type "set", data:=.set #[] 0 (.fresh 0 0 (Xk w)) } }) ⟨rfl,rfl⟩) λr s1 hr=>?_;cases r with
 | error e=>exact hr
 | ok fl=>
  cases fl with
  | ret obj=>
   obtain⟨rfl,rfl⟩:=hr;have hS:(s.heap.push { cls:=.type "set", data:=.set #[] 0 (.fresh 0 0 (Xk w)) }).get? s.heap.objs.size=some { cls:=.type "set", data:=.set #[] 0 (.fresh 0 0 (Xk w)) }:=zQ _ rfl;have hT:Shared.TypeIs { s with heap:=s.heap.push { cls:=.type "set", data:=.set #[] 0 (.fresh 0 0 (Xk w)) } } (.ref s.heap.objs.size) "set" := ⟨_,hS,rfl⟩;have c7:=PySem.F.called_set.init.lookup;have c8:=PySem.F.called_set.init.bind (.ref s.heap.objs.size)
   repeat (any_goals (first|assumption|wp_step))
   refine ui (codeAny_call_builtin (R:=wants (λr s2=>r=.none/\∃h' tk,s2={ s with heap:=h',toks:=tk }/\zBu h' s.heap.objs.size (Xk w) (λi=>ns.getD i 0) items.size /\
     (∀b o,b<s.heap.objs.size->s.heap.get? b=some o->h'.get? b=some o)) E) PySem.F.called_set.init.plain PySem.F.entry_set_init (check_set_init_1 hT ?_)) λr2 s2 hr2=>?_
   ·obtain⟨ol,e1,e2,nl,e3⟩:=il
    obtain⟨ocls,odict,odata,oslots⟩:=ol;simp only at e2 e3;subst e2;subst e3;have e1':(s.heap.push { cls:=.type "set", data:=.set #[] 0 (.fresh 0 0 (Xk w)) }).get? l=some { cls:=.type "list", dict:=odict,data:=.seq items nl,slots:=oslots }:=zF _ e1;have d1:=PySem.F.sub_list_set;have d2:=PySem.F.sub_list_frozenset;have d3:(Value.type "list" == Value.type "dict")=false:=by decide
    have il1:(s.heap.push { cls:=.type "set", data:=.set #[] 0 (.fresh 0 0 (Xk w)) }).IsList l items:=⟨_,e1',rfl,nl,rfl⟩;unfold Builtin.«set.__init__» noKeywords Builtin.Frozenset.updateFrom;generalize hPI:t7=PI
    wp_walk
    subst hPI;refine ug il1 ?_;refine vA (wpAny_runValue ?_);have lS:l<s.heap.objs.size:=zM e1;have h3:A.in1.in1.in1.handled=none:=by simp[hh]
    have nI:l≠(s.heap.push { cls:=.type "set", data:=.set #[] 0 (.fresh 0 0 (Xk w)) }).objs.size:=by rw[yX];exact zg (yP lS)
    have nS:s.heap.objs.size∉[(s.heap.push { cls:=.type "set", data:=.set #[] 0 (.fresh 0 0 (Xk w)) }).objs.size,l]:=by
     rw[yX];simp only[zG,za,zj,or_false,not_or];exact⟨zg (yW _),wD lS⟩
    have hv:∀(i:Nat)(v:vB),items[i]?=some v->∃t,v=.int ((λi=>ns.getD i 0) i) t:=λi v z=>IntsAre.int_at ia i v (by rw[zn];exact z);refine zCm ((Walks.list h3 _ l nI items).toS) s.heap.objs.size nS (led:=Xk w) (λi=>ns.getD i 0) hv hb (items.size-0) 0 _ ∅ (yH _) ⟨⟨_,zQ _ rfl,rfl,rfl⟩,(il1.push _)⟩ ?S0 ?RR
    case S0=>
     refine⟨[],⟨_,#[],0,.fresh 0 0 (Xk w),zF _ hS,⟨rfl,rfl,rfl⟩,rfl,⟨rfl,y0,rfl⟩,rfl,by show 0<ub;decide,λe z=>by simp at z,rfl,ZP⟩,zK _,λx=>⟨λz=>(by cases z),λ⟨i,z,_⟩=>vL z (xO _)⟩⟩
    case RR=>
     intro s' hm S';obtain⟨h',g',d',tk',os'⟩:=s';have eg:g'=s.gens:=hm.gens;have ed:d'=s.drawn:=hm.drawn;have eos:os'=s.os:=hm.os;subst eg;subst ed;subst eos;show vN _ _ _ _ _ _;refine vH ?_;show vN _ _ (ret Value.none) _ _ _;refine vH ⟨rfl,h',tk',rfl,S',λb o z y=>?_⟩;refine hm.heap b o ?_ (zF _ (zF _ y));simp only[zG,za,zj,or_false,not_or];exact⟨zg z,by rw[yX];exact zg (yP z)⟩
   ·cases r2 with
    | error e=>exact hr2
    | ok fl2=>
     cases fl2 with
     | ret r=>
      obtain⟨rfl,h',tk,rfl,S',kp⟩:=hr2
      repeat (any_goals (first|assumption|wp_step))
      exact k _ _ S' kp
     | next=>exact hr2.elim
     | brk=>exact hr2.elim
     | cont=>exact hr2.elim
  | next=>exact hr.elim
  | brk=>exact hr.elim
  | cont=>exact hr.elim
end
end Hk
namespace PySem.F
theorem slotSetNext:Slot "set_iterator" "__next__" "set_iterator.__next__" := .of (owner := "set_iterator") (n := "__next__") (by rw[uV,uA];kernel_rfl) ⋯ ⋯ ⋯ (by first|exact .inl ⋯|exact .inr ⋯) (by rw[uk];kernel_rfl)
theorem slotSetIt:Slot "set_iterator" "__iter__" "set_iterator.__iter__" := .of (owner := "set_iterator") (n := "__iter__") (by rw[uV,uA];kernel_rfl) ⋯ ⋯ ⋯ (by first|exact .inl ⋯|exact .inr ⋯) (by rw[uk];kernel_rfl)
theorem zAo:Manifest.owners.lookup (String.ofList ['r','o','t','a','r','e','t','i','_','t','e','s'].reverse)=some Manifest.sig_set_iterator:=by kernel_rfl
theorem argsSetNext(a:vB):si "set_iterator.__next__" ⟨[a],[]⟩:=by
 unfold si;rw[signature?_of (id := "set_iterator.__next__") (n:=['_','_','t','x','e','n','_','_']) (o:=['r','o','t','a','r','e','t','i','_','t','e','s']) (by kernel_rfl) zAo]
 kernel_rfl
theorem argsSetIt(a:vB):si "set_iterator.__iter__" ⟨[a],[]⟩:=by
 unfold si;rw[signature?_of (id := "set_iterator.__iter__") (n:=['_','_','r','e','t','i','_','_']) (o:=['r','o','t','a','r','e','t','i','_','t','e','s']) (by kernel_rfl) zAo]
 kernel_rfl
theorem entSetNext:entryFor table "set_iterator.__next__" = some Builtin.«set_iterator.__next__»:=entryFor_of_tree (by kernel_rfl)
theorem entSetIter:entryFor table "set.__iter__" = some Builtin.«frozenset.__iter__»:=entryFor_alias (id' := "frozenset.__iter__") (by kernel_rfl) rfl ⋯ (by kernel_rfl)
theorem entSetIt:entryFor table "set_iterator.__iter__" = some Builtin.«dict_keyiterator.__iter__»:=entryFor_alias (id' := "dict_keyiterator.__iter__") (by kernel_rfl) rfl ⋯ (by kernel_rfl)
end PySem.F
namespace Hk
open PySem PySem.Spec PyProof.Rows
section
variable{prog:vS}{w:vZ}{A:vb}{E:vB->vG->Prop}{s:vG}
theorem q3G{α:Type}:∀(l:List α)(k:Nat)(h:k<l.length),(l[k]::l.eraseIdx k).Perm l
 | a::r,0,_=>xJ _
 | a::r,k+1,h=>by
  have h':k<r.length:=by simpa using h
  show (r[k]::a::r.eraseIdx k).Perm (a::r);exact(List.Perm.swap a r[k] _).trans ((q3G r k h').cons a)
theorem q9u{α:Type}(next:Nat->Nat):∀(fuel k:Nat)(left:List α)(out:Array α),left.length=fuel->(pickOrder.go next fuel k left out).toList.Perm (out.toList++left)
 | 0,k,left,out,h=>by
  have e:left=[]:=yg h;subst e;unfold pickOrder.go;rw[yJ]
 | fuel+1,k,left,out,h=>by
  unfold pickOrder.go;have hlt:next k%left.length<left.length:=Nat.mod_lt _ ∅
  rw[zE hlt]
  dsimp only
  refine(q9u next fuel (k+1) _ _ (by rw[wW hlt,h];rfl)).trans ?_;rw[wf,zP];exact yI _ (q3G left _ hlt)
theorem qbL{α:Type}(next:Nat->Nat)(xs:Array α):(uo next xs).toList.Perm xs.toList:=by
 have:=q9u next xs.size 0 xs.toList #[] (by simp)
 simpa [uo]using this
theorem qc3{M:Model}{src:Source}{n:Nat}{Q:Nat->vG->Prop}(hn:n≠0)(h:Q (M.w.draws src (s.drawn.get src)%n) { s with drawn:=s.drawn.bump src }):vN M A (choose src n) Q E s:=λ_ _ _=>⟨hn,h⟩
theorem q44{M:Model}{α:Type}:∀(n:Nat)(xs:List α)(s:vG)(Q:List α->vG->Prop),xs.length=n->(∀ys d,ys.Perm xs->Q ys { s with drawn:=d })->vN M A (drawOrder n xs) Q E s
 | 0,xs,s,Q,hl,h=>by
  have e:xs=[]:=yg hl;subst e;exact vH (h [] s.drawn (xJ _))
 | n+1,[],s,Q,hl,h=>by cases hl
 | n+1,x::r,s,Q,hl,h=>by
  unfold drawOrder;refine vA (qc3 (by simp) ?_);generalize hk:M.w.draws Source.order (s.drawn.get Source.order)%(x::r).length=k;have hlt:k<(x::r).length:=by rw[<- hk];exact Nat.mod_lt _ (by simp)
  rw[zE hlt]
  dsimp only
  have hl2:((x::r).eraseIdx k).length=n:=by rw[wW hlt,hl];rfl
  refine vA (q44 n _ _ _ hl2 λys d p=>vH (h _ d ?_));refine yq (p.cons _) ?_;exact q3G _ k hlt
end
noncomputable abbrev WG(f:vB)(i:Nat)(a:vJ)(n ep:Nat):Obj:={ cls:=.type "set_iterator", data:=.fields #[f,.int i 0,.ref a,.int n 0,.int ep 0] }
section
variable{prog:vS}{w:vZ}{A:vb}{E:vB->vG->Prop}{s:vG}
theorem q1A{a:vJ}{o:Obj}{es:Array (Int×vB)}{ep:Nat}{t:SetTable}{Q:Array (Int×vB)->vG->Prop}(go:s.heap.get? a=some o)(gd:o.data=.set es ep t)(gf:t.fits es.size=true)(h:Q es s):vN (model prog w) A (setEntries a) Q E s:=by
 unfold setEntries;exact vA (vy go gd gf (vH h))
theorem qcs{it a:vJ}{slot i n ep:Nat}{o:Obj}{es:Array (Int×vB)}{t:SetTable}{x:vB}{nxt:Nat}{Q:Option vB->vG->Prop}(e:s.heap.get? it=some (WG (.int slot 0) i a n ep))(go:s.heap.get? a=some o)(gd:o.data=.set es ep t)(gf:t.fits es.size=true)(hn:es.size=n)(hnext:∀A' Q' E',Q' (some (x,nxt)) s->vN (model prog w) A' (u5 a slot i ep) Q' E' s)(k:∀h',h'.get? it=some (WG (.int nxt 0) (i+1) a n ep)->xP it s.heap h'->Q (some x) { s with heap:=h' }):
  vN (model prog w) A (uH (.ref it)) Q E s:=by
 have hT:s.TypeIs (.ref it) "set_iterator" := ⟨_,e,rfl⟩;unfold uH;refine vA (uJ (wpAny_callSpecial?_slot (name:=Str.ofString "__next__") hT F.slotSetNext (ve F.slotSetNext hT F.entSetNext ?_ (F.argsSetNext _))));unfold Builtin.«set_iterator.__next__»;refine vA (m:=sG "__next__" 0 ⟨[.ref it],[]⟩) (vH ?_);refine vA (u8 e rfl ?_)
 dsimp only
 refine vA (q1A go gd gf ?_);rw[vF (by rw[hn];simp)];simp only[yE];refine vA (hnext _ _ _ ?_)
 dsimp only
 refine vA (vg e (by simp) λh1 e1 sb1=>?_);refine vA (vg (s:={ s with heap:=h1 }) e1 (by simp) λh2 e2 sb2=>?_);refine vH ⟨_,rfl,vH (k h2 ?_ (sb1.trans sb2))⟩;rw[e2];simp[v8]
theorem qcf{it a:vJ}{slot i n ep:Nat}{o:Obj}{es:Array (Int×vB)}{t:SetTable}{Q:Option vB->vG->Prop}(hh:A.handled=none)(e:s.heap.get? it=some (WG (.int slot 0) i a n ep))(go:s.heap.get? a=some o)(gd:o.data=.set es ep t)(gf:t.fits es.size=true)(hn:es.size=n)(hnext:∀A' Q' E',Q' none s->vN (model prog w) A' (u5 a slot i ep) Q' E' s)(k:∀h',Heap.ExtBut it s.heap h'->Q none { s with heap:=h' }):
  vN (model prog w) A (uH (.ref it)) Q E s:=by
 have hT:s.TypeIs (.ref it) "set_iterator" := ⟨_,e,rfl⟩;unfold uH;refine vA (uJ (wpAny_callSpecial?_slot (name:=Str.ofString "__next__") hT F.slotSetNext (ve F.slotSetNext hT F.entSetNext ?_ (F.argsSetNext _))));unfold Builtin.«set_iterator.__next__»;refine vA (m:=sG "__next__" 0 ⟨[.ref it],[]⟩) (vH ?_);refine vA (u8 e rfl ?_)
 dsimp only
 refine vA (q1A go gd gf ?_);rw[vF (by rw[hn];simp)];simp only[yE];refine vA (hnext _ _ _ ?_)
 dsimp only
 refine vA (vg e (by simp) λh1 e1 sb1=>?_);show vN _ _ (newExc (.type "StopIteration") [] >>= λx=>sm x) _ _ _;refine vA ?_;simp only[newExc,newTuple];refine vA (vi ?_ (by size_fits));refine vA (m:=u9 _ _) (sO (a:=Value.none) (by first|rfl|(simp only[u9];rfl)) ?_);refine vi ?_ (by size_fits);simp only[sm];refine vA (wpAny_handled ?_);rw[show A.in1.handled=none from hh];refine vA (vH (wpAny_throw ?_));refine vA (uC (T := "StopIteration") (b:=true) ⟨_,zQ _ rfl,rfl⟩ uZ ?_);exact vH (k _ ((sb1.extBut.push _).push _))
end
section
variable{prog:vS}{w:vZ}{A:vb}{E:vB->vG->Prop}{s:vG}
theorem q2Q{Q:Bool->vG->Prop}(h:Q (w.params.followText "set-order") s):vN (model prog w) A setsByText Q E s:=by
 unfold setsByText;exact vA (tN (vH h))
theorem q5s{a:vJ}{o:Obj}{es:Array (Int×vB)}{ep:Nat}{t:SetTable}{slot i:Nat}{r:Option (vB×Nat)}{Q:Option (vB×Nat)->vG->Prop}(go:s.heap.get? a=some o)(gd:o.data=.set es ep t)(gf:t.fits es.size=true)(hB:w.params.followText "set-order" = false)(hl:t.led=true)(hd:(!t.plain&&decide (es.size>1))=false)(hr:(match es[SetTable.below t.place slot]?,t.place[SetTable.below t.place slot]? with|some (_,x),some j=>some (x,j+1)|_,_=>none)=r)(h:Q r s):vN (model prog w) A (u5 a slot i ep) Q E s:=by
 unfold u5;refine vA (vy go gd gf ?_)
 dsimp only
 refine vA (q2Q ?_);rw[hB];refine vc (λz=>vL z (by decide)) (λ_=>?_);refine vc (λz=>vL ((show (!t.plain&&decide (es.size>1))=true from z).symm.trans hd) (by decide)) (λ_=>?_);refine vA ?_;refine vc (λz=>?_) (λ_=>?_)
 ·have z':(!t.led && !es.isEmpty)=true:=z
  rw[hl]at z';exact vL z' (by simp)
 ·refine vH ?_
  refine vH ?_;rw[<- hr]at h;exact h
theorem qd5{a:vJ}{o:Obj}{es:Array (Int×vB)}{ep:Nat}{t:SetTable}{Q:Array (Int×vB)->vG->Prop}(go:s.heap.get? a=some o)(gd:o.data=.set es ep t)(gf:t.fits es.size=true)(hB:w.params.followText "set-order" = true)(h:Q (uo (w.params.setOrder a ep) es) s):vN (model prog w) A (setWalk a) Q E s:=by
 unfold setWalk;refine vA (vy go gd gf ?_)
 dsimp only
 refine vA (q2Q ?_);rw[hB];refine vc (λ_=>?_) (λz=>vL rfl z);exact vA (tN (vH h))
theorem q6V{a:vJ}{o:Obj}{es:Array (Int×vB)}{ep:Nat}{t:SetTable}{slot i:Nat}{Q:Option (vB×Nat)->vG->Prop}(go:s.heap.get? a=some o)(gd:o.data=.set es ep t)(gf:t.fits es.size=true)(hB:w.params.followText "set-order" = true)(h:Q (((uo (w.params.setOrder a ep) es)[i]?).map λe=>(e.2,slot)) s):vN (model prog w) A (u5 a slot i ep) Q E s:=by
 unfold u5;refine vA (vy go gd gf ?_)
 dsimp only
 refine vA (q2Q ?_);rw[hB];refine vc (λ_=>?_) (λz=>vL rfl z);refine vc (λz=>vL z (by simp)) (λ_=>?_);exact vA (qd5 go gd gf hB (vH h))
theorem qaa{it:vJ}{f:vB}{i:Nat}{a:vJ}{n ep:Nat}{Q:vB->vG->Prop}(e:s.heap.get? it=some (WG f i a n ep))(h:Q (.ref it) s):vN (model prog w) A (t7 (.ref it)) Q E s:=by
 have hT:s.TypeIs (.ref it) "set_iterator" := ⟨_,e,rfl⟩;refine tG hT F.slotSetIt (ve F.slotSetIt hT F.entSetIt ?_ (F.argsSetIt _));show vN _ _ (ret (.ref it)) _ _ s;exact vH ⟨_,rfl, "set_iterator", _,hT,F.slotSetNext.lookup,h⟩
theorem qaR(hh:A.handled=none){I a:vJ}(hne:a≠I){o:Obj}{es:Array (Int×vB)}{ep:Nat}{t:SetTable}(gd:o.data=.set es ep t)(gf:t.fits es.size=true)(slot:Nat->Nat)(val:Nat->vB)(hn:∀(i:Nat)(s:vG),i<es.size->s.heap.get? a=some o->∀A' Q' E',Q' (some (val i,slot (i+1))) s->vN (model prog w) A' (u5 a (slot i) i ep) Q' E' s)(hz:∀(s:vG),s.heap.get? a=some o->∀A' Q' E',Q' none s->vN (model prog w) A' (u5 a (slot es.size) es.size ep) Q' E' s):
  Walks prog w A I [I,a] [I] es.size (λi v=>v=val i) (λi h=>h.get? I=some (WG (.int (slot i) 0) i a es.size ep)/\h.get? a=some o) where
 sub:=λb hb=>by simp at hb;simp[hb]
 frame:=λ_ _ _ st hk=>⟨hk I (by simp) _ st.1,hk a (by simp) _ st.2⟩
 item:=λi s Q E hi st hQ=>by
  refine qcs st.1 st.2 gd gf rfl (hn i s hi st.2) λh' e' sb=>?_;exact hQ _ h' s.toks rfl ⟨e',sb.extBut a o hne st.2⟩ λb u hb e=>sb.extBut b u (λz=>hb (by simp[z])) e
 done:=λs Q E st hQ=>qcf hh st.1 st.2 gd gf rfl (hz s st.2) λh' eb=>hQ h' s.toks λb u hb e=>eb b u (λz=>hb (by simp[z])) e
 self:=λ_ _ _ _ st hQ=>qaa st.1 hQ
theorem qaP{it a tp:vJ}{i n ep p:Nat}{o:Obj}{es:Array (Int×vB)}{t:SetTable}{x:Int×vB}{ps:Array vB}{ot:Obj}{nt:Nat}{Q:Option vB->vG->Prop}(e:s.heap.get? it=some (WG (.ref tp) i a n ep))(go:s.heap.get? a=some o)(gd:o.data=.set es ep t)(gf:t.fits es.size=true)(hn:es.size=n)(gt:s.heap.get? tp=some ot)(gtd:ot.data=.seq ps nt)(hp:ps[i]?=some (.int p 0))(hx:es[p]?=some x)(k:∀h',h'.get? it=some (WG (.ref tp) (i+1) a n ep)->xP it s.heap h'->Q (some x.2) { s with heap:=h' }):
  vN (model prog w) A (uH (.ref it)) Q E s:=by
 have hT:s.TypeIs (.ref it) "set_iterator" := ⟨_,e,rfl⟩;unfold uH;refine vA (uJ (wpAny_callSpecial?_slot (name:=Str.ofString "__next__") hT F.slotSetNext (ve F.slotSetNext hT F.entSetNext ?_ (F.argsSetNext _))));unfold Builtin.«set_iterator.__next__»;refine vA (m:=sG "__next__" 0 ⟨[.ref it],[]⟩) (vH ?_);refine vA (u8 e rfl ?_)
 dsimp only
 refine vA (q1A go gd gf ?_);rw[vF (by rw[hn];simp)];refine vA (v6 gt gtd ?_)
 dsimp only
 simp only[yE];rw[hp]
 dsimp only
 unfold setNextDrawn;refine vA (vA (vy go gd gf ?_))
 dsimp only
 refine vc (λz=>vL z (by simp)) (λ_=>?_);simp only[yE];rw[hx];refine vH ?_;refine vA (vg e (by simp) λh1 e1 sb1=>?_);refine vH ⟨_,rfl,vH (k h1 ?_ sb1)⟩;rw[e1];simp[v8]
theorem qaB{it a tp:vJ}{i n ep:Nat}{o:Obj}{es:Array (Int×vB)}{t:SetTable}{ps:Array vB}{ot:Obj}{nt:Nat}{Q:Option vB->vG->Prop}(hh:A.handled=none)(e:s.heap.get? it=some (WG (.ref tp) i a n ep))(go:s.heap.get? a=some o)(gd:o.data=.set es ep t)(gf:t.fits es.size=true)(hn:es.size=n)(gt:s.heap.get? tp=some ot)(gtd:ot.data=.seq ps nt)(hp:ps[i]?=none)(k:∀h',Heap.ExtBut it s.heap h'->Q none { s with heap:=h' }):
  vN (model prog w) A (uH (.ref it)) Q E s:=by
 have hT:s.TypeIs (.ref it) "set_iterator" := ⟨_,e,rfl⟩;unfold uH;refine vA (uJ (wpAny_callSpecial?_slot (name:=Str.ofString "__next__") hT F.slotSetNext (ve F.slotSetNext hT F.entSetNext ?_ (F.argsSetNext _))));unfold Builtin.«set_iterator.__next__»;refine vA (m:=sG "__next__" 0 ⟨[.ref it],[]⟩) (vH ?_);refine vA (u8 e rfl ?_)
 dsimp only
 refine vA (q1A go gd gf ?_);rw[vF (by rw[hn];simp)];refine vA (v6 gt gtd ?_)
 dsimp only
 simp only[yE];rw[hp]
 dsimp only
 refine vA (vg e (by simp) λh1 e1 sb1=>?_);refine vA (vg (s:={ s with heap:=h1 }) e1 (by simp) λh2 e2 sb2=>?_);show vN _ _ (newExc (.type "StopIteration") [] >>= λx=>sm x) _ _ _;refine vA ?_;simp only[newExc,newTuple];refine vA (vi ?_ (by size_fits));refine vA (m:=u9 _ _) (sO (a:=Value.none) (by first|rfl|(simp only[u9];rfl)) ?_);refine vi ?_ (by size_fits);simp only[sm];refine vA (wpAny_handled ?_);rw[show A.in1.handled=none from hh];refine vA (vH (wpAny_throw ?_));refine vA (uC (T := "StopIteration") (b:=true) ⟨_,zQ _ rfl,rfl⟩ uZ ?_);exact vH (k _ (((sb1.trans sb2).extBut.push _).push _))
theorem q94(hh:A.handled=none){I a tp:vJ}(hne:a≠I)(htp:tp≠I){o:Obj}{es:Array (Int×vB)}{ep:Nat}{t:SetTable}(gd:o.data=.set es ep t)(gf:t.fits es.size=true){ot:Obj}{nt:Nat}(ord:List Nat)(hp:ord.Perm (zw es.size))(gtd:ot.data=.seq (ord.map λ(i:Nat)=>v8 i).toArray nt):
  Walks prog w A I [I,a,tp] [I] es.size (λi v=>∃p x,ord[i]?=some p/\es[p]?=some x/\v=x.2) (λi h=>h.get? I=some (WG (.ref tp) i a es.size ep)/\h.get? a=some o/\h.get? tp=some ot) where
 sub:=λb hb=>by simp at hb;simp[hb]
 frame:=λ_ _ _ st hk=>⟨hk I (by simp) _ st.1,hk a (by simp) _ st.2.1,hk tp (by simp) _ st.2.2⟩
 item:=λi s Q E hi st hQ=>by
  have hl:ord.length=es.size:=by rw[hp.length_eq,zx]
  have ho:ord[i]?=some (ord[i]'∅):=zE _;have hlt:ord[i]'∅<es.size:=xW.mp (hp.mem_iff.mp (yu _));refine qaP (p:=ord[i]'∅) (x:=es[ord[i]'∅]) st.1 st.2.1 gd gf rfl st.2.2 gtd (by simp[v8,ho]) (by simp[hlt]) λh' e' sb=>?_;exact hQ _ h' s.toks ⟨_,_,ho,by simp[hlt],rfl⟩ ⟨e',sb.extBut a o hne st.2.1,sb.extBut tp ot htp st.2.2⟩ λb u hb e=>sb.extBut b u (λz=>hb (by simp[z])) e
 done:=λs Q E st hQ=>qaB hh st.1 st.2.1 gd gf rfl st.2.2 gtd (by simp[hp.length_eq]) λh' eb=>hQ h' s.toks λb u hb e=>eb b u (λz=>hb (by simp[z])) e
 self:=λ_ _ _ _ st hQ=>qaa st.1 hQ
end
end Hk
namespace PySem.F
theorem slotSetLen:tS (.type "set") "__len__" = pure (some (.builtin "set.__len__")):=by rw[uV,uA];kernel_rfl
theorem slotSetIter:Slot "set" "__iter__" "set.__iter__" := .of (owner := "set") (n := "__iter__") (by rw[uV,uA];kernel_rfl) ⋯ ⋯ ⋯ (by first|exact .inl ⋯|exact .inr ⋯) (by rw[uk];kernel_rfl)
theorem argsSetIter(a:vB):si "set.__iter__" ⟨[a],[]⟩:=by
 unfold si;kernel_rfl
end PySem.F
namespace Hk
open PySem PySem.Spec PyProof.Rows
noncomputable def slotAt(xs:Array Nat):Nat->Nat
 | 0=>0
 | i+1=>xs.toList.getD i 0+1
theorem q5P{xs:Array Nat}(h:zA7 xs):∀i,i<=xs.size->SetTable.below xs (slotAt xs i)=i:=by
 intro i hi;obtain⟨h1,h2,h3⟩:=q8b h (slotAt xs i);have hz:xs.toList.length=xs.size:=zO;cases i with
 | zero=>
  rcases Nat.eq_zero_or_pos (SetTable.below xs (slotAt xs 0))with z|z
  ·exact z
  ·exact vL (h2 0 ∅ z) (xO _)
 | succ i=>
  have hlt:i<xs.toList.length:=∅
  have e:slotAt xs (i+1)=xs.toList[i]+1:=by
   show xs.toList.getD i 0+1=_;rw[zU,zE hlt];rfl
  rw[e]at h2 h3 h1 ⊢;generalize SetTable.below xs (xs.toList[i]+1)=b at h1 h2 h3 ⊢;have a1:i<b:=by
   rcases zz i b with z|z
   ·exact z
   ·have:=h3 i hlt z;omega
  have a2:b<=i+1:=by
   rcases zz (i+1) b with z|z
   ·have y:=h2 (i+1) ∅ z
    have y':=q4z h hlt (show i+1<xs.toList.length by omega) (yW i);omega
   ·exact z
  omega
theorem qd0{val:Nat->vB}{n:Nat}{acc:Array vB}(h:ItemsOf (λi v=>v=val i) acc n):acc.toList=(zw n).map val:=by
 apply xB;intro i;rw[zn,zV];rcases zz i n with z|z
 ·rw[xE z]
  have hz:i<acc.size:=by rw[h.1];exact z
  have:acc[i]?=some acc[i]:=yC hz;rw[this,h.2 i _ this];rfl
 ·rw[ze (by rw[zx];exact z),yo (by rw[h.1];exact z)];rfl
theorem q74:∀{l:List (Int×vB)},(∀e∈l,W7 e)->uG (l.map (·.2)) (l.map λe=>vI e.2)
 | [],_=>.nil
 | e::r,h=>by
  obtain⟨x,t,rfl⟩:=h e zI;exact .cons _ _ (q74 λe he=>h e (zH _ he))
section
variable{prog:vS}{w:vZ}{A:vb}{E:vB->vG->Prop}{s:vG}
theorem qdZ{r:vJ}{Q:Bool->vG->Prop}(hT:s.TypeIs (.ref r) "set")(h:Q false s):vN (model prog w) A (Builtin.List.listLengthHint (.ref r)) Q E s:=by
 unfold Builtin.List.listLengthHint;refine vA (uw hT F.slotSetLen ?_);generalize hid:("set.__len__" : String)=id0
 wp_delta
 rw[show splitId id0=some ("set", "__len__")from by subst hid;decide +kernel];subst hid;refine vA (uC (T := "set") (b:=true) hT (by rw[uk];kernel_rfl) ?_);refine vc (λhab=>vL hab (by decide)) (λ_=>?_);refine vc (λ_=>?_) (λhab=>vL ⋯ hab);refine vA (uj hT ?_);exact vH h
theorem qdh{a:vJ}{xs:List Int}{Q:vB->vG->Prop}(S:zAS s.heap a (Xk w) xs)(k:∀(h':vn)(d:Drawn)(I:vJ)(fp:List vJ)(P:Nat->vB->Prop)(St:Nat->vn->Prop),(∀b o,s.heap.get? b=some o->h'.get? b=some o)->s.heap.objs.size<=I->(∀b∈fp,b=a\/s.heap.objs.size<=b) ->
   (∀A:vb,A.handled=none->Walks prog w A I fp [I] xs.length P St)->St 0 h'->(∀acc:Array vB,ItemsOf P acc xs.length->∃ys,uG acc.toList ys/\ys.Perm xs)->(∀b∈fp,b<h'.objs.size)->Q (.ref I) { s with heap:=h',drawn:=d }) :
  vN (model prog w) A (t7 (.ref a)) Q E s:=by
 obtain⟨o,es,ep,t,go,gx,gd,T,gl,gb,gg,gv,gn⟩:=id S;have hl:es.size=xs.length:=by rw[<- gv,zB,zO]
 have hlt:a<s.heap.objs.size:=zM go;have hps:t.place.size=es.size:=by
  have:=T.fits;unfold SetTable.fits at this;simp only[zS,beq_iff_eq]at this;exact this.1
 have hT:s.TypeIs (.ref a) "set" := ⟨o,go,gx.1⟩;refine tG hT F.slotSetIter (ve F.slotSetIter hT F.entSetIter ?_ (F.argsSetIter _));unfold Builtin.«frozenset.__iter__» Builtin.Frozenset.slot0 Builtin.Frozenset.sizeOf;refine vA ?_;refine vA (m:=sG "__iter__" 0 ⟨[.ref a],[]⟩) (vH ?_);show vN _ _ (pure a) _ _ s;refine vH ?_;refine vA (vA (q1A go gd T.fits (vH ?_)));refine vA ?_;unfold setDrawn;refine vA (vy go gd T.fits ?_)
 dsimp only
 refine vA (q2Q (vH ?_));have perm_ok:∀(l:List (Int×vB)),l.Perm es.toList->∃ys,uG (l.map (·.2)) ys/\ys.Perm xs:=λl p=>
  ⟨_,q74 λe he=>gg e (p.mem_iff.mp he),by rw[<- gv];exact p.map _⟩
 have slots:∀(slot:Nat->Nat)(l:List (Int×vB)),slot 0=0->l.Perm es.toList ->
   (∀(i:Nat)(s:vG),i<es.size->s.heap.get? a=some o->∀A' Q' E',Q' (some ((l.map (·.2)).getD i .none,slot (i+1))) s->vN (model prog w) A' (u5 a (slot i) i ep) Q' E' s) ->
   (∀(s:vG),s.heap.get? a=some o->∀A' Q' E',Q' none s->vN (model prog w) A' (u5 a (slot es.size) es.size ep) Q' E' s) ->
   Q (.ref s.heap.objs.size) { s with heap:=s.heap.push (WG (.int (slot 0:Nat) 0) 0 a es.size ep) }:=λslot l h0 p hn hz=>by
  have:=k (s.heap.push (WG (.int (slot 0:Nat) 0) 0 a es.size ep)) s.drawn s.heap.objs.size [s.heap.objs.size,a] (λi v=>v=(l.map (·.2)).getD i .none) (λi h=>h.get? s.heap.objs.size=some (WG (.int (slot i) 0) i a es.size ep)/\h.get? a=some o)
   (λb u e=>zF _ e) (zK _) (λb hb=>by
    simp only[zG,zj,or_false]at hb;rcases hb with rfl|rfl
    ·exact .inr (zK _)
    ·exact .inl rfl) (λA hh=>by rw[<- hl];exact qaR hh (zg hlt) gd T.fits slot _ hn hz) ⟨zQ _ rfl,zF _ go⟩ (λacc hacc=>by
    rw[qd0 hacc];obtain⟨ys,y1,y2⟩:=perm_ok l p;have e:(zw xs.length).map (λi=>(l.map (·.2)).getD i .none)=l.map (·.2):=by
     apply xB;intro i;have hll:l.length=xs.length:=by rw[p.length_eq,zO,hl]
     rw[zV];rcases zz i xs.length with z|z
     ·rw[xE z]
      show some ((l.map (·.2)).getD i .none)=_;rw[zU,zE (by rw[zB,hll];exact z)];rfl
     ·rw[ze (by rw[zx];exact z),ze (by rw[zB,hll];exact z)];rfl
    rw[e];exact⟨ys,y1,y2⟩) (λb hb=>by
    rw[yX];simp only[zG,zj,or_false]at hb;rcases hb with rfl|rfl
    ·exact yW _
    ·exact yP hlt)
  exact this
 have getD_at:∀(l:List (Int×vB))(i:Nat)(e:Int×vB),l[i]?=some e->(l.map (·.2)).getD i .none=e.2:=λl i e h=>by
  rw[zU,zV,h];rfl
 cases hB:w.params.followText "set-order" with
 | true=>
  refine vA (vH ?_);refine vA ?_;unfold setEpoch;refine vA (vy go gd T.fits (vH ?_));refine vA (vi (vH ⟨_,rfl, "set_iterator", _,⟨_,zQ _ rfl,rfl⟩,F.slotSetNext.lookup,?_⟩));have pp:=qbL (w.params.setOrder a ep) es;have hpl:(uo (w.params.setOrder a ep) es).size=es.size:=by rw[<- zO,pp.length_eq,zO]
  refine slots (λ_=>0) _ rfl pp (λi s hi go' A' Q' E' q=>?_) λs go' A' Q' E' q=>?_
  ·refine q6V go' gd T.fits hB ?_
   have hz:i<(uo (w.params.setOrder a ep) es).size:=by rw[hpl];exact hi
   rw[yC hz];have:=getD_at (uo (w.params.setOrder a ep) es).toList i (uo (w.params.setOrder a ep) es)[i] (by rw[zn,yC hz]);rw[this]at q;exact q
  ·refine q6V go' gd T.fits hB ?_
   rw[yo (by rw[hpl];exact zK _)];exact q
 | false=>
  have led:t.led=true:=by rw[gl];unfold Xk;rw[hB];rfl
  cases hD:(!t.plain&&decide (es.size>1))with
  | false=>
   refine vc (λz=>vL ((show (!false&&(!t.plain&&decide (es.size>1)))=true from z)) (by rw[hD];decide)) (λ_=>?_);refine vA (vH ?_);refine vA ?_;unfold setEpoch;refine vA (vy go gd T.fits (vH ?_));refine vA (vi (vH ⟨_,rfl, "set_iterator", _,⟨_,zQ _ rfl,rfl⟩,F.slotSetNext.lookup,?_⟩));refine slots (slotAt t.place) es.toList rfl (xJ _) (λi s hi go' A' Q' E' q=>?_) λs go' A' Q' E' q=>?_
   ·refine q5s go' gd T.fits hB led hD rfl ?_
    rw[q5P T.rise i ∅,yC hi,yC (show i<t.place.size by omega)];have:=getD_at es.toList i es[i] (by rw[zn,yC hi]);rw[this]at q;have e2:slotAt t.place (i+1)=t.place[i]'∅+1:=by
     show t.place.toList.getD i 0+1=_;rw[zU,zn,yC (show i<t.place.size by omega)];rfl
    rw[e2]at q;exact q
   ·refine q5s go' gd T.fits hB led hD rfl ?_
    rw[q5P T.rise es.size ∅,yo (zK _)];exact q
  | true=>
   refine vc (λ_=>?_) (λz=>vL (show (!false&&(!t.plain&&decide (es.size>1)))=true by rw[hD];rfl) z);refine vA (q44 es.size (zw es.size) _ _ zx λord d po=>?_);have hol:ord.length=es.size:=by rw[po.length_eq,zx]
   refine vA (tD ?_ (by rw[zB,hol];exact yK (yZ gb) (by decide)));refine vA ?_;unfold setEpoch;have go2:(s.heap.push { cls:=.type "tuple", data:=.seq (ord.map λ(i:Nat)=>v8 i).toArray }).get? a=some o:=zF _ go;refine vA (vy go2 gd T.fits (vH ?_));refine vA (vi (vH ⟨_,rfl, "set_iterator", _,⟨_,zQ _ rfl,rfl⟩,F.slotSetNext.lookup,?_⟩));have hs1:(s.heap.push { cls:=.type "tuple", data:=.seq (ord.map λ(i:Nat)=>v8 i).toArray }).objs.size=s.heap.objs.size+1:=yX _ _;have ht1:(s.heap.push { cls:=.type "tuple", data:=.seq (ord.map λ(i:Nat)=>v8 i).toArray }).get? s.heap.objs.size=some { cls:=.type "tuple", data:=.seq (ord.map λ(i:Nat)=>v8 i).toArray }:=zQ _ rfl;refine k _ d _ [(s.heap.push { cls:=.type "tuple", data:=.seq (ord.map λ(i:Nat)=>v8 i).toArray }).objs.size,a,s.heap.objs.size] (λi v=>∃p x,ord[i]?=some p/\es[p]?=some x/\v=x.2)
    (λi h=>h.get? (s.heap.push { cls:=.type "tuple", data:=.seq (ord.map λ(i:Nat)=>v8 i).toArray }).objs.size=some (WG (.ref s.heap.objs.size) i a es.size ep)/\h.get? a=some o/\h.get? s.heap.objs.size=some { cls:=.type "tuple", data:=.seq (ord.map λ(i:Nat)=>v8 i).toArray }) (λb u e=>zF _ (zF _ e)) (by rw[hs1];exact xj _) (λb hb=>?_) (λA hh=>by
    rw[<- hl];exact q94 (tp:=s.heap.objs.size) hh (by rw[hs1];exact zg (yP hlt)) (by rw[hs1];exact zg (yW _)) gd T.fits ord po rfl)
    ⟨zQ _ rfl,zF _ go2,zF _ ht1⟩ (λacc hacc=>?_) (λb hb=>?_)
   ·simp only[zG,zj,or_false]at hb
    rcases hb with rfl|rfl|rfl
    ·exact .inr (by rw[hs1];exact xj _)
    ·exact .inl rfl
    ·exact .inr (zK _)
   ·have e:acc.toList=(ord.map λp=>es.toList.getD p (0,.none)).map (·.2):=by
     apply xB;intro i;rw[zn,zV,zV];rcases zz i acc.size with z|z
     ·obtain⟨p,x,h1,h2,h3⟩:=hacc.2 i acc[i] (yC z)
      rw[yC z,h1,h3];show _=some (es.toList.getD p (0,.none)).2;rw[zU,zn,h2];rfl
     ·rw[yo z,ze (by rw[hol,hl,<- hacc.1];exact z)];rfl
    have p2:(ord.map λp=>es.toList.getD p (0,.none)).Perm es.toList:=by
     refine(po.map _).trans ?_;have:(zw es.size).map (λp=>es.toList.getD p (0,Value.none))=es.toList:=by
      apply xB;intro i;rw[zV];rcases zz i es.size with z|z
      ·rw[xE z]
       show some (es.toList.getD i (0,Value.none))=_;rw[zU,zE (by rw[zO];exact z)];rfl
      ·rw[ze (by rw[zx];exact z),ze (by rw[zO];exact z)];rfl
     rw[this]
    rw[e];exact perm_ok _ p2
   ·rw[yX,hs1]
    simp only[zG,zj,or_false]at hb;rcases hb with rfl|rfl|rfl
    ·rw[hs1];exact yW _
    ·exact yP (yP hlt)
    ·exact yP (yW _)
end
section
variable{prog:vS}{w:vZ}{A:vb}{E:vB->vG->Prop}{s:vG}
theorem qaq{R:sC->vG->Prop}{a:vJ}{xs:List Int}(hh:A.handled=none)(SI:zAS s.heap a (Xk w) xs)(S:vJ)(hSa:S≠a)(res:vB)(c₀:Nat)(hS:s.heap.get? S=some { cls:=.type "list", data:=.seq #[] c₀ })(hR:∀h' tk d acc' c',(∀b o,b≠S->s.heap.get? b=some o->h'.get? b=some o)->h'.get? S=some { cls:=.type "list", dict:=none,data:=.seq acc' c',slots:=#[] }->(∃ys,uG acc'.toList ys/\ys.Perm xs)->R (.ok (.ret res)) { s with heap:=h',toks:=tk,drawn:=d }):
  vN (model prog w) A.in1 (Builtin.List.listExtendWith (.ref S) (.ref a) res)
   (λfin s'=>match fin with|.done f=>R (.ok f) s'|.again c'=>c'.quiet=true/\uh (model prog w) A c' R s') (λe s'=>R (.error e) s') s:=by
 have hn:xs.length<=sizeLine:=yK (yZ SI.len) (by decide);obtain⟨o,es,ep,t,go,gx,gd,T,gl,gb,gg,gv,gn⟩:=id SI;have hTy:∀h:vn,h.get? a=some o->Shared.TypeIs { s with heap:=h } (.ref a) "set" := λh e=>⟨o,e,gx.1⟩;unfold Builtin.List.listExtendWith;refine vA (uj (T := "set") ⟨o,go,gx.1⟩ ?_);have h1:Builtin.List.listSameRef (.ref S) (.ref a)=false:=by simp[Builtin.List.listSameRef,hSa]
 have h2:(Value.type "set" == Value.type "list")=false:=by decide
 have h3:(Value.type "set" == Value.type "tuple")=false:=by decide
 simp only[h1,h2,h3,wM,yc,if_false];refine vA (qdh SI λh1 d I fp P St keep hI hfp W st items hlt=>?_);have hS1:h1.get? S=some { cls:=.type "list", data:=.seq #[] c₀ }:=keep _ _ hS;have hSlt:S<s.heap.objs.size:=zM hS;have hSf:S∉fp:=λhm=>by
  rcases hfp S hm with z|z
  ·exact hSa z
  ·exact vL hSlt (Nat.not_lt.mpr z)
 have key:∀(h:vn)(c₁ tk:Nat),St 0 h->(∀b o,b≠S->s.heap.get? b=some o->h.get? b=some o) ->
   h.get? S=some { cls:=.type "list", data:=.seq #[] c₁ }->uh (model prog w) A (.builtin "list.extend.loop" ⟨[.ref S,.ref I,res],[]⟩) R { s with heap:=h,toks:=tk,drawn:=d }:=by
  intro h c₁ tk hst hk hS₁;refine tW (W A.in1 hh).toS hn S hSf res xs.length 0 _ #[] c₁ rfl (yH _) hst hS₁ (ItemsOf.nil _) λs' acc' c' hm hS' hacc=>?_;rw[Moved.eq_with hm];refine hR s'.heap s'.toks d acc' c' (λb o hb e=>hm.heap b o (λhmem=>?_) (hk b o hb e)) hS' (items acc' hacc);rcases zG.mp hmem with e'|hmem
  ·exact hb e'
  ·exact vL (zM e) (by rw[za.mp hmem];exact Nat.not_lt.mpr hI)
 refine vA (vh (qdZ ⟨o,keep _ _ go,gx.1⟩ ?_));refine vc (λ_=>?_) (λ_=>vH ⟨ud PySem.F.plain_extend_loop _,key _ c₀ _ st (λb o _ e=>keep b o e) hS1⟩);refine vA (uB ?_);refine vA ?_;show vN _ _ (updateSeq S (·.push .none) >>= λ_=>updateSeq S (·.pop)) _ _ _;refine vA (ux hS1 rfl ?_);have hS₂:=xf (Obj.mapSeq (·.push Value.none)) hS1 rfl;refine ux (hz:=by seq_fits) hS₂ rfl ?_;have hS₃:=xf (Obj.mapSeq (·.pop)) hS₂ rfl;refine vH ⟨ud PySem.F.plain_extend_loop _,key _ _ _ ?_ (λb o hb e=>?_) hS₃⟩
 ·refine(W A.in1 hh).frame 0 _ _ st λb hb o e=>?_
  have hbS:b≠S:=λh=>hSf (h▸hb);exact(ye _ _ (Ne.symm hbS)).trans ((ye _ _ (Ne.symm hbS)).trans e)
 ·exact(ye _ _ (Ne.symm hb)).trans ((ye _ _ (Ne.symm hb)).trans (keep b o e))
theorem q93{R:List vB->vG->Prop}{a:vJ}{xs:List Int}(hh:A.handled=none)(SI:zAS s.heap a (Xk w) xs)(h:∀(h':vn)(tk:Nat)(d:Drawn)(vs:List vB)(ys:List Int),(∀b o,s.heap.get? b=some o->h'.get? b=some o)->s.heap.objs.size<h'.objs.size->uG vs ys->ys.Perm xs->R vs { s with heap:=h',toks:=tk,drawn:=d }):
  vN (model prog w) A (collect (.ref a)) R E s:=by
 obtain⟨o,es,ep,t,go,gx,gd,T,gl,gb,gg,gv,gn⟩:=id SI;have hlt:a<s.heap.objs.size:=zM go;unfold collect;refine vA (wpAny_runValue (uU entry_proto_collect' ?_));rw[Around.under_plainId PySem.F.plain_proto_collect _];show vN _ A.in1 (newList [] >>= λl=>again (.builtin "list.__iadd__" ⟨[l,.ref a],[]⟩)) _ _ s;refine vA (vi ?_);refine vH ⟨ud PySem.F.plain_list_iadd _,uU entry_list_iadd' ?_⟩;rw[Around.under_plainId PySem.F.plain_list_iadd _];have hS₁:(s.heap.push { cls:=.type "list", data:=.seq ([]:List vB).toArray }).get? s.heap.objs.size=some { cls:=.type "list", data:=.seq #[] }:=zQ _ rfl;show vN _ A.in1 (Builtin.List.listExtendWith (.ref s.heap.objs.size) (.ref a) (.ref s.heap.objs.size)) _ _ _;have key:=qaq (prog:=prog) (A:=A) (s:={ s with heap:=s.heap.push { cls:=.type "list", data:=.seq ([]:List vB).toArray } })
  (R:=λ(q:sC) (s':vG)=>∃(h':vn) (tk:Nat) (d:Drawn) (acc':Array vB) (c':Nat),q=.ok (.ret (.ref s.heap.objs.size))/\s'={ s with heap:=h',toks:=tk,drawn:=d } /\
   (∀b o,s.heap.get? b=some o->h'.get? b=some o)/\h'.get? s.heap.objs.size=some { cls:=.type "list", dict:=none,data:=.seq acc' c',slots:=#[] }/\∃ys,uG acc'.toList ys/\ys.Perm xs)
  hh (SI.at λo e=>zF _ e) s.heap.objs.size (wD hlt) (.ref s.heap.objs.size) 0 hS₁
  (λh' tk d acc' c' hk hS' hacc=>⟨h',tk,d,acc',c',rfl,rfl,λb o e=>hk b o (zg (zM e)) (zF _ e),hS',hacc⟩)
 refine vq key (λfin s' x=>?_) λe s' x=>?_
 ·cases fin with
  | done f=>
   obtain⟨h',tk,d,acc',c',e,rfl,hk,hS',ys,y1,y2⟩:=x;cases e;show vN _ A (load s.heap.objs.size >>= _) _ _ _;refine vA (wpAny_load hS' ?_);exact vH (h h' tk d _ ys hk (zM hS') y1 y2)
  | again c₁=>
   refine⟨x.1,ui x.2 λq s₂ y=>?_⟩;obtain⟨h',tk,d,acc',c',rfl,rfl,hk,hS',ys,y1,y2⟩:=y;show vN _ A (load s.heap.objs.size >>= _) _ _ _;refine vA (wpAny_load hS' ?_);exact vH (h h' tk d _ ys hk (zM hS') y1 y2)
 ·obtain⟨_,_,_,_,_,e',_⟩:=x
  cases e'
theorem qbj{a:vJ}{xs:List Int}{Q:vB->vG->Prop}(hh:A.handled=none)(SI:zAS s.heap a (Xk w) xs)(h64:xs.length<64)(h:∀(D:vJ)(h':vn)(tk:Nat)(d:Drawn)(vs:List vB)(ys:List Int)(n:Nat),(∀b o,s.heap.get? b=some o->h'.get? b=some o)->s.heap.objs.size<=D->h'.get? D=some (uW "list" vs.toArray n)->uG vs ys->ys.Perm xs->ys.Pairwise (· <= ·)->Q (.ref D) { s with heap:=h',toks:=tk,drawn:=d }):
  vN (model prog w) A (call (.builtin "sorted") [.ref a]) Q E s:=by
 refine Calls.call_function_entry sP sH sI (sJ _) ?_;unfold Builtin.«sorted»;refine vA (m:=checkCount "sorted" 1 1 _) (vH ?_);refine vA (q93 (A:=A.in1) hh SI λh1 tk d vs ys hk hz y1 y2=>?_);have hlen:vs.length=xs.length:=by rw[IntsAre.length y1,y2.length_eq]
 refine vA (tI ?_ (yK (by rw[hlen];exact yZ h64) (by decide)));have hoL:(h1.push (uW "list" vs.toArray 0)).get? h1.objs.size=some (uW "list" vs.toArray 0):=zQ _ rfl;refine vA (vh (ve slot_list_sort ⟨_,hoL,rfl⟩ entry_list_sort (list_sort_tree hoL y1 (by rw[hlen];exact h64) λout ns' a1 a2 a3=>⟨_,rfl,?_⟩) (tX _)));obtain⟨n,hn⟩:=sortedHeap_at (vs:=vs) (out:=out) hoL;refine vH ⟨_,rfl,h h1.objs.size _ tk d out.toList ns' n (λb o e=>?_) ?_ ?_ a1 (a2.trans y2) a3⟩
 ·have e1:=hk b o e
  rw[sortedHeap_old (zg (zM e1)) (by rw[yX];exact yP (zM e1))];exact zF _ e1
 ·exact yZ hz
 ·rw[wP];exact hn
end
end Hk
namespace L2
open PySem PySem.Spec PyProof.Rows
noncomputable def WW(names:List (Str×uT))(cells:List (Str×vJ))(cs:List (Str×vJ)):List (Str×vJ) :=
 match names with
 | []=>cs
 | p::r=>WW r cells (if p.2 == .free then (p.1,(cells.lookup p.1).getD 0)::cs else cs)
theorem q3L{scope:um}{env:Env}(h:∀p∈scope.names,p.2=NameKind.free->(env.cells.lookup p.1).isSome=true):
  closureFor scope env=pure (WW scope.names env.cells []):=by
 simp only[closureFor];generalize scope.names=l at h ⊢;have key:∀(l:List (Str×uT))(cs:List (Str×vJ)),(∀p∈l,p.2=NameKind.free->(env.cells.lookup p.1).isSome=true) ->
   (forIn l cs (λ(p:Str×uT) (r:List (Str×vJ))=>if (p.2==NameKind.free)=true then (do let a <- cellOf env p.1;pure (ForInStep.yield ((p.1,a)::r)))else pure (ForInStep.yield r)):Sem _)=pure (WW l env.cells cs):=by
  intro l
  induction l with
  | nil=>intro cs _;rfl
  | cons p r ih=>
   intro cs hp;rw[xw];have hr:=λq hq=>hp q (zH _ hq)
   by_cases hf:p.2=NameKind.free
   ·have hs:=hp p zI hf
    obtain⟨a,ha⟩:=yh.mp hs;have e:cellOf env p.1=pure a:=by unfold cellOf;rw[ha]
    have hb:(p.2==NameKind.free)=true:=by rw[hf];rfl
    rw[vC hb,e,pure_bind,pure_bind];show forIn r _ _=_;rw[ih _ hr];show _=pure (WW r env.cells (if p.2 == .free then _ else _));rw[vC hb,ha];rfl
   ·have hb:¬(p.2==NameKind.free)=true:=by intro z;exact hf (by cases hk:p.2 <;> simp_all)
    rw[vF hb,pure_bind];show forIn r _ _=_;rw[ih _ hr];show _=pure (WW r env.cells (if p.2 == .free then _ else _));rw[vF hb]
 rw[key l [] h];rfl
theorem qab{k:uT}(h:(k==NameKind.free)=true):k=NameKind.free:=by cases k <;> first|rfl|cases h
theorem q4i{cells:List (Str×vJ)}:∀(l:List (Str×uT))(cs:List (Str×vJ)),(∀p∈l,p.2=NameKind.free->(cells.lookup p.1).isSome=true) ->
  (∀x c,cs.lookup x=some c->cells.lookup x=some c)->∀x c,(WW l cells cs).lookup x=some c->cells.lookup x=some c
 | [],cs,_,h,x,c,e=>h x c e
 | p::r,cs,hp,h,x,c,e=>by
  refine q4i r _ (λq hq=>hp q (zH _ hq)) (λy d hy=>?_) x c e
  by_cases hb:(p.2==NameKind.free)=true
  ·rw[vC hb,yv]at hy
   cases hyp:y==p.1 with
   | true=>
    rw[hyp]at hy;have hy':(cells.lookup p.1).getD 0=d:=zc hy;obtain⟨a,ha⟩:=yh.mp (hp p zI (qab hb));rw[ha]at hy';rw[eq_of_beq hyp,ha,<- hy'];rfl
   | false=>rw[hyp]at hy;exact h y d hy
  ·rw[vF hb]at hy;exact h y d hy
theorem q4m{cells:List (Str×vJ)}:∀(l:List (Str×uT))(cs:List (Str×vJ))(x:Str),((x,NameKind.free)∈l\/(cs.lookup x).isSome=true)->((WW l cells cs).lookup x).isSome=true
 | [],cs,x,h=>by
  rcases h with h|h
  ·cases h
  ·exact h
 | p::r,cs,x,h=>by
  refine q4m r _ x ?_;rcases h with h|h
  ·rcases zG.mp h with rfl|h
   ·right
    show (List.lookup x (if (NameKind.free==NameKind.free)=true then _ else _)).isSome=true;rw[vC (by rfl),yv,beq_self_eq_true];rfl
   ·exact .inl h
  ·right
   by_cases hb:(p.2==NameKind.free)=true
   ·rw[vC hb,yv]
    cases hx:x==p.1 with
    | true=>rfl
    | false=>exact h
   ·rw[vF hb];exact h
noncomputable def X7(X:Cx)(N:List Str)(scope:um)(C:vJ)(s:vG)(H:Hp)(fp:List vJ):Cx :=
 { X with N:=N,s₀:=s,H₀:=H,env:=compEnvC scope (WW scope.names X.env.cells []) C X.env,outer:=X.stack,stack:=X.stack,ex:=fp,fn:=λ_=>false,pn:=[],xe:=λ_ _=>False }
noncomputable def zBl(M:Nat)(frees:List Nat)(σ:St):St:=zb M none++frees.map λj=>(σ[j]?).getD none
structure BlkOk (X:Cx) (N:List Str) (M:Nat) (frees:List Nat) (scope:um):Prop where
 kind:scope.kind=.function
 nocell:∀y∈scope.names,y.2≠.cell
 own:∀y∈scope.names,y.2=.local->scope.names.lookup y.1=some .local
 cells:∀p∈scope.names,p.2=NameKind.free->(X.env.cells.lookup p.1).isSome=true
 fr:∀(k:Nat)(x:Str),N[M+k]?=some x->∃j,frees[k]?=some j/\X.N[j]?=some x/\(X.env.kindOf x=some .cell\/X.env.kindOf x=some .free)/\scope.names.lookup x=some .free
 len:N.length=M+frees.length
theorem q2o{env:Env}{x:Str}:∀{names:List (Str×uT)}{k:uT},(∀y∈names,y.2≠.cell)->(k=.cell\/k=.free) ->
  (names.map λ(n,k)=>if (k==NameKind.free&&env.scope.kind == .function&&env.kindOf n==some .cell)then (n,NameKind.cell)else (n,k)).lookup x=some k->(x,NameKind.free)∈names
 | [],_,_,_,h=>by cases h
 | (n,k0)::r,k,hc,hk,h=>by
  have ih:=@q2o env x r k (λy hy=>hc y (zH _ hy)) hk;rw[zX]at h
  by_cases hb:(k0==NameKind.free&&env.scope.kind == .function&&env.kindOf n==some .cell)=true
  ·have hf:k0=NameKind.free:=qab (by rw[zS,zS]at hb;exact hb.1.1)
   dsimp only at h
   rw[vC hb,yv]at h;cases hx:x==n with
   | true=>rw[eq_of_beq hx,hf];exact zI
   | false=>rw[hx]at h;exact zH _ (ih h)
  ·dsimp only at h
   rw[vF hb,yv]at h;cases hx:x==n with
   | true=>
    rw[hx]at h;have e:k0=k:=zc h;have z:=hc (n,k0) zI;rw[eq_of_beq hx];rcases hk with rfl|rfl
    ·exact vL e z
    ·rw[e];exact zI
   | false=>rw[hx]at h;exact zH _ (ih h)
theorem q4j{env:Env}{x:Str}:∀{names:List (Str×uT)},names.lookup x=some .free ->
  (names.map λ(n,k)=>if (k==NameKind.free&&env.scope.kind == .function&&env.kindOf n==some .cell)then (n,NameKind.cell)else (n,k)).lookup x=some .cell \/
  (names.map λ(n,k)=>if (k==NameKind.free&&env.scope.kind == .function&&env.kindOf n==some .cell)then (n,NameKind.cell)else (n,k)).lookup x=some .free
 | [],h=>by cases h
 | (n,k0)::r,h=>by
  have ih:=@q4j env x r;rw[zX]
  dsimp only
  rw[yv]at h
  by_cases hb:(k0==NameKind.free&&env.scope.kind == .function&&env.kindOf n==some .cell)=true
  ·rw[vC hb,yv]
   cases hx:x==n with
   | true=>exact .inl rfl
   | false=>rw[hx]at h;exact ih h
  ·rw[vF hb,yv]
   cases hx:x==n with
   | true=>rw[hx]at h;exact .inr h
   | false=>rw[hx]at h;exact ih h
section
variable{X:Cx}{pins:List (vJ×Obj)}{σ:St}{H:Hp}{s:vG}{N:List Str}{M:Nat}{frees:List Nat}{scope:um}{fp:List vJ}
theorem Inv.enter{h1:vn}{C D tk:Nat}{m1:Str->Option vB}(I:Inv X pins σ H s)(B:BlkOk X N M frees scope)(f:∀b∈fp,zBX X pins H b)(lt:∀b∈fp,b<s.heap.objs.size)(hC:s.heap.objs.size<C)(hD:s.heap.objs.size<=D)(hDC:C≠D)(k:∀b u,s.heap.get? b=some u->h1.get? b=some u)(hns:h1.Ns C m1)(hl:h1.get? D=some { cls:=.type "list", data:=.seq ([]:List vB).toArray }):
  Inv (X7 X N scope C s H fp) [] (zBl M frees σ) (upd H D (.lst [])) { s with heap:=h1,toks:=tk }:=by
 have sub:=q4i (cells:=X.env.cells) scope.names [] B.cells (λx c e=>by cases e);have hfr:H D=none:=I.hok.fresh hD;have hfc:H C=none:=I.hok.fresh (yZ hC);have clt:∀x c,(WW scope.names X.env.cells []).lookup x=some c->c<s.heap.objs.size:=λx c e=>by
  obtain⟨v,q⟩:=I.cell x c (sub x c e);exact q.lt
 refine⟨⟨I.ok.mod,B.kind,I.ok.glob,I.ok.blt,yZ hC,λx y c e1 e2=>I.ok.inj x y c (sub x c e1) (sub y c e2),λx hx=>?_,λx c e=>vL e (by intro z;cases z),I.ok.hd,I.ok.frames,.inl rfl,λb hb=>?_,I.bs,yK I.ok.bsz I.sz,λb o e hb=>?_,
  λb hb hf=>?_,I.stack,I.stkFree⟩,rfl,I.bare,Un.laid k hD hfr,⟨m1,hns,λi x v e1 e2 e3=>?_⟩,λx c e=>?_,?_,λx c e=>?_,λp hp=>vL (show p∈([]:List (vJ×Obj))from hp) (by simp),I.hok.laid k hD ⟨yH _,[],0,.nil,hl⟩,?_⟩
 ·have hm:(x,NameKind.free)∈scope.names:=by
   rcases hx with hx|hx
   ·exact q2o B.nocell (.inl rfl) hx
   ·exact q2o B.nocell (.inr rfl) hx
  exact yh.mp (q4m scope.names [] x (.inl hm))
 ·exact⟨zg (Zx (lt b hb) hC),λx c e=>(f b hb).2.2.2.2.1 x c (sub x c e)⟩
 ·rcases (f b hb).2.2.2.1 with z|z
  ·exact I.ok.noex b o e z
  ·exact vL (zr (zM e) (yK I.ok.bsz z)) (xG _)
 ·rcases zG.mp (I.stkSub b hf)with z|z
  ·exact(f b hb).2.1 z
  ·exact(f b hb).2.2.1 z
 ·have hi:M<=i:=by
   rcases zz i M with z|z
   ·unfold zBl at e2
    rw[zo ⇑z,yb,vC z]at e2;cases e2
   ·exact z
  obtain⟨q,rfl⟩:∃q,i=M+q:=⟨i-M,∅⟩;obtain⟨j,h1',h2',h3',h4'⟩:=B.fr q x e1;have ev:σ[j]?=some (some v):=by
   unfold zBl at e2;rw[zh (by simp),yD,wq,zV,h1']at e2;cases e:σ[j]? with
   | none=>rw[yi,e]at e2;cases e2
   | some o=>rw[yi,e]at e2;exact e2
  obtain⟨m,hn,hl'⟩:=I.loc;have vis:Vis X.env.scope x:=by
   rcases h3' with z|z
   ·exact .inr (.inl z)
   ·exact .inr (.inr z)
  obtain⟨u,ru,lk⟩:=hl' j x v h2' ev vis;refine⟨u,ru,.inr ?_⟩;rcases lk with⟨z,_⟩|⟨_,c,ec,ic⟩
  ·rcases h3' with y|y <;> (rw[z]at y;cases y)
  ·obtain⟨c',ec'⟩:=yh.mp (q4m (cells:=X.env.cells) scope.names [] x (.inl (PySem.mem_of_lookup h4')))
   have:c'=c:=zc ((sub x c' ec').symm.trans ec);subst this;exact⟨q4j h4',c',ec',ic.keeps k⟩
 ·obtain⟨v,q⟩:=I.cell x c (sub x c e)
  exact⟨v,q.keeps k⟩
 ·show upd H D (.lst []) C=none
  rw[qd hDC];exact hfc
 ·show upd H D (.lst []) c=none
  rw[qd (zg (zr (clt x c e) hD))];exact I.freeC x c (sub x c e)
 ·show (zBl M frees σ).length=N.length
  unfold zBl;rw[zC,yD,zB,B.len]
end
section
variable{prog:vS}{w:vZ}{A:vb}{R:sC->vG->Prop}{s:vG}
theorem q97{elt target iter:vX}{ifs:List vX}{scope:um}{pos:Pos}{it acc:vB}{env:Env}(J:Nat->vG->Prop)(turn:∀n s,J n s->vN (model prog w) A (uH it) (λr s1=>match r with
   | none=>R (.ok .next) s1
   | some v=>vN (model prog w) A (uv target it v) (λ_ s2=>vN (model prog w) A (assign target env v) (λ_ s3=>
     vN (model prog w) A (forIn ifs true λc r=>if r=true then do let ok <- sf c env (eval c env);pure (ForInStep.yield ok)else pure (ForInStep.yield r)) (λok s4=>
      if ok=true then vN (model prog w) A (eval elt env) (λx s5=>vN (model prog w) A (call (.builtin "list.append") [acc,x]) (λ_ s6=>∃m,m<n/\J m s6) (λ_ _=>False) s5) (λ_ _=>False) s4
      else ∃m,m<n/\J m s4) (λ_ _=>False) s3) (λ_ _=>False) s2) (λ_ _=>False) s1) (λ_ _=>False) s)
  (n:Nat) (h:J n s):uh (model prog w) A (.compLoop (.ListComp elt [⟨target,iter,ifs,0⟩] scope pos) 0 it acc env) R s:=by
 refine codeAny_loop rfl J (λn s hJ=>?_) n h;show vN _ A ((compTurn (.ListComp elt [⟨target,iter,ifs,0⟩] scope pos) 0 it acc env).onRaise (λx=>do noteFrame x env;theTreesLotGoes x)) _ _ s;refine wpAny_noted (vq (Q:=λfin s'=>match fin with|.done f=>R (.ok f) s'|.again c'=>c'=.compLoop (.ListComp elt [⟨target,iter,ifs,0⟩] scope pos) 0 it acc env/\∃m,m<n/\J m s') ?_ (λ_ _ q=>q) λ_ _ (z:False)=>z.elim);rw[compTurn_list];refine vA (tm (vA (vq (turn n s hJ) (λr s1 h1=>?_) λ_ _ q=>q)));cases r with
 | none=>exact vH h1
 | some v=>
  refine vA (vq h1 (λ_ s2 h2=>vA (vq h2 (λ_ s3 h3=>vA (vq h3 (λok s4 h4=>?_) λ_ _ q=>q)) λ_ _ q=>q)) λ_ _ q=>q);cases ok with
  | false=>exact vH ⟨rfl,h4⟩
  | true=>exact vA (vA (vq h4 (λx s5 h5=>vA (vq h5 (λ_ s6 h6=>vH (vH ⟨rfl,h6⟩)) λ_ _ q=>q)) λ_ _ q=>q))
end
def PTs(X:Cx)(ifs:List vX)(t:TT):Prop :=
 ∀(pins:List (vJ×Obj))(s:vG)(σ:St)(H:Hp)(Q:Bool->Hp->Prop),Inv X pins σ H s->t σ H Q ->
  vN (model X.prog X.w) X.A (forIn ifs true λc r=>if r=true then do let ok <- sf c X.env (eval c X.env);pure (ForInStep.yield ok)else pure (ForInStep.yield r)) (TP X pins σ Q) X.xe s
theorem qf6{X:Cx}:PTs X [] (λ_ H Q=>Q true H):=λ_ _ _ H _ I q=>wpAny_tests_nil ⟨H,I,q⟩
theorem qeW{X:Cx}{c:vX}{t:TT}(h:PT X c t):PTs X [c] t:=λpins s σ H Q I q=>wpAny_tests_one (h pins s σ H Q I q)
noncomputable def zCP(M:Nat)(frees:List Nat)(wi:TI)(g:TG)(tc:TT)(te:TE):TE:=λσ H Q=>wi σ H λJ H1=>∀D,H1 D=none ->
 ∃W:Nat->Nat->St->Hp->Prop,(∃m,W 0 m (zBl M frees σ) (upd H1 D (.lst [])))/\∀i m σ' H',W i m σ' H' ->
  (J.stop i H'/\Q (.ref D) H')\/(J.go i H'/\∀x H2,J.yld i H' x H2->g x σ' H2 λσ2 H3=>tc σ2 H3 λb H4=>
   if b=true then te σ2 H4 λv H5=>∃acc,H5 D=some (.lst acc)/\acc.length<sizeLine/\∃m',m'<m/\W (i+1) m' σ2 (upd H5 D (.lst (acc++[v])))
   else ∃m',m'<m/\W (i+1) m' σ2 H4)
section
variable{X:Cx}{N:List Str}{M:Nat}{frees:List Nat}{scope:um}{tg iter elt:vX}{ifs:List vX}{pos:Pos}{wi:TI}{g:TG}{tc:TT}{te:TE}
theorem q7W(hc:X.calm=true)(B:BlkOk X N M frees scope)(hb:∀C s H fp,PG (X7 X N scope C s H fp) tg g/\PTs (X7 X N scope C s H fp) ifs tc/\PE (X7 X N scope C s H fp) elt te){pins:List (vJ×Obj)}{σ:St}{Q:VK}{s2:vG}{itv:vB}{E:vB->vG->Prop}{RR:vB->vJ->sC->vG->Prop}(h2:PIE X pins σ tg (λJ H1=>∀D,H1 D=none ->
   ∃W:Nat->Nat->St->Hp->Prop,(∃m,W 0 m (zBl M frees σ) (upd H1 D (.lst [])))/\∀i m σ' H',W i m σ' H' ->
    (J.stop i H'/\Q (.ref D) H')\/(J.go i H'/\∀x H2,J.yld i H' x H2->g x σ' H2 λσ2 H3=>tc σ2 H3 λb H4=>
     if b=true then te σ2 H4 λv H5=>∃acc,H5 D=some (.lst acc)/\acc.length<sizeLine/\∃m',m'<m/\W (i+1) m' σ2 (upd H5 D (.lst (acc++[v])))
     else ∃m',m'<m/\W (i+1) m' σ2 H4)) itv s2)
  (hR:∀D C s' H' m,Inv X pins σ H' s'->Q (.ref D) H'->s'.heap.Ns C m->H' C=none->C≠X.env.locals->X.s₀.heap.objs.size<=C->(∀x c,X.env.cells.lookup x=some c->c≠C)->(∀p∈X.pn++pins,p.1≠C)->RR (.ref D) C (.ok .next) s') :
  vN (model X.prog X.w) X.A (newList []) (λacc s3=>vN (model X.prog X.w) X.A (newFunctionEnv scope X.env.globals (WW scope.names X.env.cells []) [] X.env.qual none .none (some X.env)) (λcenv s4=>
   uh (model X.prog X.w) X.A (.compStart (.ListComp elt [⟨tg,iter,ifs,0⟩] scope pos) 0 itv acc { cenv with scope:=relabel scope X.env }) (RR acc cenv.locals) s4) E s3) E s2:=by
 obtain⟨it,fp,tn,J,H2,e,I2,T,st2,f2,q⟩:=h2;subst e;refine vi (wpAny_newFunctionEnv B.nocell (by intro y hy;simp at hy) (λh1 hns hsb=>?_) B.kind)
 dsimp only at hns hsb ⊢
 generalize hP:s2.heap.push { cls:=.type "list", dict:=none,data:=.seq ([]:List vB).toArray }=P1 at hns hsb ⊢;have hsz:P1.objs.size=s2.heap.objs.size+1:=by rw[<- hP,yX]
 have below:∀b,b<s2.heap.objs.size->b≠P1.objs.size:=λb z=>by rw[hsz];exact zg (yP z)
 have keep:∀b u,s2.heap.get? b=some u->h1.get? b=some u:=λb u z=>hsb.extBut b u (below b (zM z)) (zF _ (hP▸zF _ z));have hne:s2.heap.objs.size≠P1.objs.size:=by rw[hsz];exact zg (yW _)
 have hl:h1.get? s2.heap.objs.size=some { cls:=.type "list", data:=.seq ([]:List vB).toArray }:=hsb.extBut _ _ hne (zF _ (hP▸zQ _ rfl));have lt2:∀b∈fp,b<s2.heap.objs.size:=λb z=>by
  obtain⟨o,eo,_⟩:=T.obj _ _ st2 b z;exact zM eo
 have hD0:H2 s2.heap.objs.size=none:=I2.hok.fresh (zK _);obtain⟨W,⟨m0,w0⟩,turn⟩:=q s2.heap.objs.size hD0;have I4:=I2.enter (N:=N) (M:=M) (frees:=frees) (scope:=scope) (fp:=fp) (h1:=h1) (C:=P1.objs.size) (D:=s2.heap.objs.size) (tk:=s2.toks+([]:List (Str×vB)).length) B f2 lt2 (by rw[hsz];exact yW _) (zK _) (Ne.symm hne) keep hns hl;have hcx:∀(C:vJ),(X7 X N scope C s2 H2 fp).calm=true:=λ_=>hc;have stat:∀{H':Hp},(∀b∈fp,H' b=none)->∀b∈fp,zBX (X7 X N scope P1.objs.size s2 H2 fp) [] H' b:=λ{H'} hn b z=>by
  refine⟨hn b z,below b (lt2 b z),λy=>?_,.inl z,λx c y=>?_,λp y=>vL (show p∈([]:List (vJ×Obj))from y) (by simp)⟩
  ·rcases zG.mp (I2.stkSub b y)with u|u
   ·exact(f2 b z).2.1 u
   ·exact(f2 b z).2.2.1 u
  ·exact(f2 b z).2.2.2.2.1 x c (q4i (cells:=X.env.cells) scope.names [] B.cells (λx c e=>by cases e) x c y)
 have fr4:∀b∈fp,(upd H2 s2.heap.objs.size (HO.lst [])) b=none:=λb z=>by
  rw[qd (zg (lt2 b z))];exact(f2 b z).1
 have st4:tn 0 h1:=T.keep _ _ _ st2 λb _ o z=>keep b o z;have fin:∀(s':vG)(σ':St)(H':Hp),Inv (X7 X N scope P1.objs.size s2 H2 fp) [] σ' H' s'->Q (.ref s2.heap.objs.size) H'->RR (.ref s2.heap.objs.size) P1.objs.size (.ok .next) s':=λs' σ' H' I' q'=>by
  obtain⟨m,hm,_⟩:=I'.loc;have u':Un (frs X.stack) fp H2 H' s2.heap s'.heap:=I'.base;have I0:Inv X pins σ H' s':=I2.call' (ch:=fp) I'.os u' I'.hok I'.bare λb z=>⟨(f2 b z).2.2.2.1,(f2 b z).2.1,(f2 b z).2.2.2.2.1,(f2 b z).2.2.2.2.2⟩;refine hR _ _ s' H' m I0 q' hm I'.free (wD (zr I2.lt (by rw[hsz];exact xj _))) (yK I2.sz (by rw[hsz];exact xj _)) (λx c z=>?_) λp z=>?_
  ·obtain⟨v,y⟩:=I2.cell x c z
   exact below c y.lt
  ·exact below p.1 (zM (I2.pin p z).1)
 have loop:∀s4:vG,s4={ s2 with heap:=h1,toks:=s2.toks+([]:List (Str×vB)).length } ->
   uh (model X.prog X.w) X.A (.compLoop (.ListComp elt [⟨tg,iter,ifs,0⟩] scope pos) 0 (.ref it) (.ref s2.heap.objs.size) (compEnvC scope (WW scope.names X.env.cells []) P1.objs.size X.env)) (RR (.ref s2.heap.objs.size) P1.objs.size) s4:=by
  rintro s4 rfl;refine q97 (λn s'=>∃i σ' H',Inv (X7 X N scope P1.objs.size s2 H2 fp) [] σ' H' s'/\tn i s'.heap/\(∀b∈fp,H' b=none)/\W i n σ' H') ?_ m0 ⟨0,_,_,I4,st4,fr4,w0⟩;rintro n s5 ⟨i,σ5,H5,I5,st5,fr5,w5⟩;rcases turn i n σ5 H5 w5 with⟨stop,qn⟩|⟨go,step⟩
  ·refine thn (T.done (X7 X N scope P1.objs.size s2 H2 fp) rfl rfl rfl hc i [] s5 σ5 H5 _ I5 (stat fr5) st5 stop) λr s6 ⟨hr,I6⟩=>?_
   subst hr;exact fin s6 σ5 H5 I6 qn
  ·refine thn (T.item (X7 X N scope P1.objs.size s2 H2 fp) rfl rfl rfl hc i [] s5 σ5 H5 _ I5 (stat fr5) st5 go) λr s6 ⟨u,hr,h6⟩=>?_
   subst hr;refine thn h6 λ_ s7 ⟨x,H7,I7,r7,y7,st7,fr7⟩=>?_;have I7':=I7.pinned (stat fr7) (T.obj _ _ st7);have B7:=hb P1.objs.size s2 H2 fp;refine thn (B7.1 _ s7 σ5 H7 x u _ I7' r7 (step x H7 y7)) λ_ s8 ⟨σ8,H8,I8,q8⟩=>?_;refine thn (B7.2.1 _ s8 σ8 H8 _ I8 q8) λok s9 ⟨H9,I9,q9⟩=>?_;have again:∀{σa:St}{Ha:Hp}{sa:vG},Inv (X7 X N scope P1.objs.size s2 H2 fp) ([]++zAF fp s7.heap) σa Ha sa->(∃m',m'<n/\W (i+1) m' σa Ha) ->
     ∃m,m<n/\∃i σ' H',Inv (X7 X N scope P1.objs.size s2 H2 fp) [] σ' H' sa/\tn i sa.heap/\(∀b∈fp,H' b=none)/\W i m σ' H':=λ{σa Ha sa} Ia ⟨m',hm,wa⟩=>by
    refine⟨m',hm,i+1,σa,Ha,Ia.unpinned,T.keep _ _ _ st7 λb z o eo=>(Ia.pin (b,o) (zd _ (zd _ (q2h z eo)))).1,λb z=>?_,wa⟩;obtain⟨o,eo,d⟩:=T.obj _ _ st7 b z;exact(Ia.pin (b,o) (zd _ (zd _ (q2h z eo)))).2.1
   cases ok with
   | false=>exact again I9 q9
   | true=>
    rw[vC rfl];refine thn (B7.2.2 _ s9 σ8 H9 _ I9 q9) λy s10 ⟨v,H10,I10,r10,acc,ha,hz,m',hm,wn⟩=>?_;refine thn (q0r (X:=X7 X N scope P1.objs.size s2 H2 fp) _ s10 σ8 H10 (.ref s2.heap.objs.size) [v] (.ref s2.heap.objs.size) [y] (λ_ Hn=>∃m',m'<n/\W (i+1) m' σ8 Hn) I10 rfl (.cons r10 .nil) ⟨_,acc,v,rfl,rfl,ha,hz,m',hm,wn⟩) λ_ s11 ⟨_,H11,I11,_,q11⟩=>?_;exact again I11 q11
 exact codeAny_compStart_list (loop _ rfl) (T.self _ 0 _ _ _ st4 (loop _ rfl))
theorem qeJ(hc:X.calm=true)(B:BlkOk X N M frees scope)(hi:PI X tg iter wi)(hb:∀C s H fp,PG (X7 X N scope C s H fp) tg g/\PTs (X7 X N scope C s H fp) ifs tc/\PE (X7 X N scope C s H fp) elt te)(hs:∀x,v4 iter X.env x=pure x:=by intro _;rfl):PE X (.ListComp elt [⟨tg,iter,ifs,0⟩] scope pos) (zCP M frees wi g tc te):=by
 intro pins s σ H Q I h;rw[eval_ListComp];refine tJ (use:=none) rfl hs (q3L B.cells) B.kind B.own (vq (hi pins s σ H _ I h) (λv s1 h1=>vq h1 (λitv s2 h2=>?_) λ_ _ q=>q) λ_ _ q=>q);refine q7W (RR:=λacc C=>compPost (model X.prog X.w) X.A X.xe none (EP X pins σ Q) acc C) hc B hb h2 λD C s' H' m I' q' hm hC h1 h3 h4 h5=>?_;exact⟨m,hm,λh' hs'=>⟨.ref D,H',I'.turned (t':=s'.toks) (λb o z y=>hs'.extBut b o z y) hC h1 (.inr h3) h4 h5,rfl,q'⟩⟩
theorem qeD{i:Nat}{x:Str}{pos' spos:Pos}(hc:X.calm=true)(hN:X.N.Nodup)(hi':X.N[i]?=some x)(hx:X.env.scope.names.lookup x=some .local)(B:BlkOk X N M frees scope)(hi:PI X tg iter wi)(hb:∀C s H fp,PG (X7 X N scope C s H fp) tg g/\PTs (X7 X N scope C s H fp) ifs tc/\PE (X7 X N scope C s H fp) elt te)(hsw:vz (.ListComp elt [⟨tg,iter,ifs,0⟩] scope pos) (some (.Name x pos')) spos.line X.env=pure true:=by rfl)(hs:∀x,v4 iter X.env x=pure x:=by intro _;rfl):PS X (.Assign [.Name x pos'] (.ListComp elt [⟨tg,iter,ifs,0⟩] scope pos) spos) (zAj (zCP M frees wi g tc te) (X2 i)):=by
 intro pins s σ H D I h;rw[exec_Assign_Name_used _ _ _ _ hsw];refine vA (tm (vA ?_));show vN _ X.A (do let _ <- comprehension (.ListComp elt [⟨tg,iter,ifs,0⟩] scope pos) scope X.env _ (newList []) false (eval iter X.env) (some (assign (.Name x pos') X.env))) _ _ s;refine vA (vq (tJ (use:=some (assign (.Name x pos') X.env)) (Q:=λ_ s'=>SP X pins D .next s') rfl hs (q3L B.cells) B.kind B.own
  (vq (hi pins s σ H _ I h) (λv s1 h1=>vq h1 (λitv s2 h2=>?_) λ_ _ q=>q) λ_ _ q=>q)) (λ_ s' hq=>vH (vH hq)) λ_ _ q=>q)
 refine q7W (Q:=λy H1=>X2 i y σ H1 D.nx) (RR:=λacc C=>compPost (model X.prog X.w) X.A X.xe (some (assign (.Name x pos') X.env)) (λ_ s'=>SP X pins D .next s') acc C) hc B hb h2 λDd C s' H' m I' q' hm hC h1 h3 h4 h5=>?_;show vN _ X.A (assign (.Name x pos') X.env (.ref Dd)) _ _ _;refine wpAny_assign_Name (q7c I' hN hi' (.inl hx) (v:=.ref Dd) (u:=.ref Dd) rfl (λs'' I'' ⟨a,hsb,ha⟩=>?_) (.inr hx));have hCa:C≠a:=by
  rcases ha with rfl|ha
  ·exact h1
  ·exact Ne.symm (h4 x a ha)
 refine⟨m,hm.sameBut hsb hCa,λh' hs'=>⟨_,H',I''.turned (t':=s''.toks) (λb o z y=>hs'.extBut b o z y) hC h1 (.inr h3) h4 h5,q'⟩⟩
end
end L2
namespace Hk
open PySem L2
inductive D where
 | non|bl (b:Bool)|int (i:Int)|str (x:Str)|lst (xs:List D)|tup (xs:List D)|scr (ns:List Int)|exc (c:Str)|dic (ks:List Int) (xs:List D)
noncomputable def kvsOf:List Int->List V->List (Key×V)
 | k::ks,v::vs=>(.inl k,v)::kvsOf ks vs
 | _,_=>[]
def excP(a C:vJ)(h:vn):Prop:=∃o,h.get? a=some o/\o.cls=.ref C
mutual
def Rep(K:zA)(H:Hp):D->V->Prop
 | .non,v=>v=.non
 | .bl b,v=>v=.bl b
 | .int i,v=>v=.int i
 | .str x,v=>v=.str x
 | .lst ds,v=>∃a vs,v=.ref a/\H a=some (.lst vs)/\Yp K H ds vs
 | .tup ds,v=>∃a vs,v=.ref a/\H a=some (.tup vs)/\Yp K H ds vs
 | .scr ns,v=>∃a,v=.ref a/\SqL K H a (ns.map V.int)
 | .exc c,v=>∃a C,v=.ref a/\yM K vY c=some (some (.ref C))/\H a=some (.ext (excP a C))
 | .dic ks ds,v=>∃a vs,v=.ref a/\(∃o,H a=some (.frz o (.dK (kvsOf ks vs))))/\ks.length=ds.length/\Yp K H ds vs
def Yp(K:zA)(H:Hp):List D->List V->Prop
 | [],vs=>vs=[]
 | d::ds,vs=>∃v r,vs=v::r/\Rep K H d v/\Yp K H ds r
end
mutual
theorem Rep.mono{K:zA}{H H':Hp}(e:Yz H H'):∀{d:D}{v:V},Rep K H d v->Rep K H' d v
 | .non,_,h=>h
 | .bl _,_,h=>h
 | .int _,_,h=>h
 | .str _,_,h=>h
 | .lst _,_,⟨a,vs,h1,h2,h3⟩=>⟨a,vs,h1,e _ _ h2,Yp.mono e h3⟩
 | .tup _,_,⟨a,vs,h1,h2,h3⟩=>⟨a,vs,h1,e _ _ h2,Yp.mono e h3⟩
 | .scr _,_,⟨a,h1,h2⟩=>⟨a,h1,e.seq h2⟩
 | .exc _,_,⟨a,C,h1,h2,h3⟩=>⟨a,C,h1,h2,e _ _ h3⟩
 | .dic _ _,_,⟨a,vs,h1,⟨o,h2⟩,h4,h3⟩=>⟨a,vs,h1,⟨o,e _ _ h2⟩,h4,Yp.mono e h3⟩
theorem Yp.mono{K:zA}{H H':Hp}(e:Yz H H'):∀{ds:List D}{vs:List V},Yp K H ds vs->Yp K H' ds vs
 | [],_,h=>h
 | _::_,_,⟨v,r,h1,h2,h3⟩=>⟨v,r,h1,Rep.mono e h2,Yp.mono e h3⟩
end
section
variable{K:zA}{H:Hp}
theorem Yp.nil:Yp K H [] []:=rfl
theorem Yp.cons{d:D}{ds:List D}{v:V}{vs:List V}(h:Rep K H d v)(t:Yp K H ds vs):Yp K H (d::ds) (v::vs):=⟨v,vs,rfl,h,t⟩
theorem Yp.len:∀{ds:List D}{vs:List V},Yp K H ds vs->ds.length=vs.length
 | [],_,h=>by cases (show _=_ from h);rfl
 | _::_,_,⟨v,r,h1,_,h3⟩=>by rw[h1,zD,zD,Yp.len h3]
theorem Yp.app:∀{ds es:List D}{vs us:List V},Yp K H ds vs->Yp K H es us->Yp K H (ds++es) (vs++us)
 | [],_,_,_,h,t=>by cases (show _=_ from h);exact t
 | _::_,_,_,_,⟨v,r,h1,h2,h3⟩,t=>by rw[h1];exact⟨v,_,rfl,h2,Yp.app h3 t⟩
theorem Yp.get:∀{ds:List D}{vs:List V}{i:Nat}{d:D},Yp K H ds vs->ds[i]?=some d->∃v,vs[i]?=some v/\Rep K H d v
 | [],_,_,_,_,e=>by simp at e
 | _::_,_,0,_,⟨v,r,h1,h2,h3⟩,e=>by simp at e;subst e;rw[h1];exact⟨v,rfl,h2⟩
 | _::_,_,i+1,d,⟨v,r,h1,h2,h3⟩,e=>by
  obtain⟨u,e1,e2⟩:=Yp.get (i:=i) (d:=d) h3 ⇑e;exact⟨u,by rw[h1];simpa using e1,e2⟩
theorem Yp.take:∀{ds:List D}{vs:List V}(n:Nat),Yp K H ds vs->Yp K H (ds.take n) (vs.take n)
 | _,_,0,_=>rfl
 | [],_,_+1,h=>by cases (show _=_ from h);rfl
 | _::_,_,n+1,⟨v,r,h1,h2,h3⟩=>by rw[h1];exact⟨v,_,rfl,h2,Yp.take n h3⟩
theorem Yp.drop:∀{ds:List D}{vs:List V}(n:Nat),Yp K H ds vs->Yp K H (ds.drop n) (vs.drop n)
 | _,_,0,h=>h
 | [],_,_+1,h=>by cases (show _=_ from h);rfl
 | _::_,_,n+1,⟨v,r,h1,h2,h3⟩=>by rw[h1];exact Yp.drop n h3
theorem Yp.ints:∀(ns:List Int),Yp K H (ns.map D.int) (ns.map V.int)
 | []=>rfl
 | n::r=>⟨.int n,_,rfl,rfl,Yp.ints r⟩
theorem Yp.of_ints:∀{ns:List Int}{vs:List V},Yp K H (ns.map D.int) vs->vs=ns.map V.int
 | [],_,h=>h
 | n::r,_,⟨v,vs,h1,h2,h3⟩=>by
  have:=Yp.of_ints h3;have e:v=.int n:=h2;rw[h1,this,e];rfl
theorem Yp.one{d:D}{vs:List V}(h:Yp K H [d] vs):∃v,vs=[v]/\Rep K H d v:=by
 obtain⟨v,r,h1,h2,h3⟩:=h;cases (show r=[]from h3);exact⟨v,h1,h2⟩
theorem Yp.two{d e:D}{vs:List V}(h:Yp K H [d,e] vs):∃v u,vs=[v,u]/\Rep K H d v/\Rep K H e u:=by
 obtain⟨v,r,h1,h2,h3⟩:=h;obtain⟨u,rfl,h4⟩:=Yp.one h3;exact⟨v,u,h1,h2,h4⟩
end
structure Ext (G H G' H':Hp):Prop where
 gg:Yz G G'
 gh:Yz G' H'
 hh:Yz H H'
 new:∀b,G b=none->H b≠none->G' b=none
theorem Ext.refl{G H:Hp}(h:Yz G H):Ext G H G H:=⟨Yz.refl _,h,Yz.refl _,λ_ e _=>e⟩
theorem Ext.trans{G H G1 H1 G2 H2:Hp}(a:Ext G H G1 H1)(b:Ext G1 H1 G2 H2):Ext G H G2 H2:=by
 refine⟨a.gg.trans b.gg,b.gh,a.hh.trans b.hh,λc h1 h2=>?_⟩;have e1:=a.new c h1 h2;refine b.new c e1 λz=>h2 ?_;exact a.hh.free z
theorem Xj{H:Hp}{p:vJ}(h:H p=none)(o:HO):Yz H (upd H p o):=λb u q=>by rw[qd (q0B q h)];exact q
theorem zAI{G H:Hp}{p:vJ}(e:Yz G H)(o:HO):Yz (upd G p o) (upd H p o):=λb u q=>by
 by_cases z:b=p
 ·subst z;rw[qe]at q ⊢;exact q
 ·rw[qd z]at q ⊢;exact e b u q
theorem Yv{G H:Hp}{p:vJ}(e:Yz G H)(h:G p=none)(o:HO):Yz G (upd H p o):=λb u q=>by rw[qd (q0B q h)];exact e b u q
theorem Ext.lay{G H:Hp}{p:vJ}(e:Yz G H)(h:H p=none)(o:HO):Ext G H (upd G p o) (upd H p o):=by
 have g:G p=none:=e.free h;refine⟨Xj g o,zAI e o,Xj h o,λb h1 h2=>?_⟩
 by_cases z:b=p
 ·subst z;exact vL h h2
 ·rw[qd z];exact h1
theorem Ext.hide{G H:Hp}{p:vJ}(e:Yz G H)(h:H p=none)(o:HO):Ext G H G (upd H p o) :=
 ⟨Yz.refl _,Yv e (e.free h) o,Xj h o,λ_ z _=>z⟩
inductive W where
 | sh (d:D)|ow (ds:List D)|od (ks:List Int) (ds:List D)|pw (ds:List D)
noncomputable abbrev WSt:=List (Option W)
structure Fr where
 hp:Hp
 pin:Nat->vJ
noncomputable instance:CoeFun Fr λ_=>Hp:=⟨Fr.hp⟩
noncomputable instance:Coe Fr Hp:=⟨Fr.hp⟩
noncomputable def fr(H:Hp):Fr:=⟨H,λ_=>0⟩
def Xp(K:zA)(F:Fr)(G:Hp)(ω:WSt)(σ:St)(H:Hp):Prop:=∀(i:Nat)ds,ω[i]?=some (some (.pw ds))->∃vs,σ[i]?=some (some (.ref (F.pin i)))/\H (F.pin i)=some (.lst vs)/\G (F.pin i)=none/\F.hp (F.pin i)=none/\Yp K G ds vs /\
 (∀(j:Nat)es,ω[j]?=some (some (.pw es))->F.pin j=F.pin i->j=i)/\∀(j:Nat)es,ω[j]?=some (some (.ow es))->σ[j]?≠some (some (.ref (F.pin i)))
theorem Xp.keep{K:zA}{F:Fr}{G G':Hp}{ω:WSt}{σ:St}{H H':Hp}(o:Xp K F G ω σ H)(e:Ext G H G' H'):Xp K F G' ω σ H':=λi ds h=>by
 obtain⟨vs,h1,h2,h3,h4,h5,h6⟩:=o i ds h;exact⟨vs,h1,e.hh _ _ h2,e.new _ h3 (by rw[h2];exact λz=>by cases z),h4,h5.mono e.gg,h6⟩
theorem Xp.no{K:zA}{F:Fr}{G:Hp}{ω:WSt}{σ:St}{H:Hp}(h:∀(i:Nat)ds,ω[i]?≠some (some (.pw ds))):Xp K F G ω σ H:=λi ds e=>vL e (h i ds)
structure Own (K:zA) (G0:Hp) (H0:Fr) (G:Hp) (ω:WSt) (σ:St) (H:Hp):Prop where
 ext:Ext G0 H0.hp G H
 len:ω.length=σ.length
 sh:∀(i:Nat)d,ω[i]?=some ↥d->∃v,σ[i]?=some (some v)/\Rep K G d v
 ow:∀(i:Nat)ds,ω[i]?=some (some (.ow ds))->∃l vs,σ[i]?=some (some (.ref l))/\H l=some (.lst vs)/\G l=none/\H0 l=none/\Yp K G ds vs
 nd:∀(i j:Nat)ds es l,ω[i]?=some (some (.ow ds))->ω[j]?=some (some (.ow es))->σ[i]?=some (some (.ref l))->σ[j]?=some (some (.ref l))->i=j
 od:∀(i:Nat)ks ds,ω[i]?=some (some (.od ks ds))->∃p vs,σ[i]?=some (some (.ref p))/\H p=some (.dK (kvsOf ks vs))/\G p=none/\H0 p=none/\ks.length=ds.length/\Yp K G ds vs /\
  ∀(j:Nat)ks' es,ω[j]?=some (some (.od ks' es))->σ[j]?=some (some (.ref p))->i=j
 pw:Xp K H0 G ω σ H
inductive R where
 | sh (d:D)|fr (ds:List D)|vw (ds:List D)
noncomputable def R.d:R->D
 | .sh d=>d
 | .fr ds=>.lst ds
 | .vw ds=>.lst ds
def zCN(K:zA)(H G' H':Hp):R->V->Prop
 | .sh d,v=>Rep K G' d v
 | .fr ds,v=>∃l vs,v=.ref l/\H l=none/\G' l=none/\H' l=some (.lst vs)/\Yp K G' ds vs
 | .vw ds,v=>∃l vs,v=.ref l/\H' l=some (.lst vs)/\Yp K G' ds vs
def Vw(K:zA)(G H:Hp)(d:D)(v:V):Prop:=Rep K G d v\/∃ds l vs,d=.lst ds/\v=.ref l/\H l=some (.lst vs)/\Yp K G ds vs
theorem Own.keep{K:zA}{G0:Hp}{H0:Fr}{G G':Hp}{ω:WSt}{σ:St}{H H':Hp}(o:Own K G0 H0 G ω σ H)(e:Ext G H G' H'):Own K G0 H0 G' ω σ H':=by
 refine⟨o.ext.trans e,o.len,λi d h=>?_,λi ds h=>?_,o.nd,λi ks ds h=>?_,o.pw.keep e⟩
 ·obtain⟨v,h1,h2⟩:=o.sh i d h
  exact⟨v,h1,h2.mono e.gg⟩
 ·obtain⟨l,vs,h1,h2,h3,h4,h5⟩:=o.ow i ds h
  exact⟨l,vs,h1,e.hh _ _ h2,e.new l h3 (by rw[h2];exact λz=>by cases z),h4,h5.mono e.gg⟩
 ·obtain⟨l,vs,h1,h2,h3,h4,h6,h5,h7⟩:=o.od i ks ds h
  exact⟨l,vs,h1,e.hh _ _ h2,e.new l h3 (by rw[h2];exact λz=>by cases z),h4,h6,h5.mono e.gg,h7⟩
theorem Own.gh{K:zA}{G0:Hp}{H0:Fr}{G:Hp}{ω:WSt}{σ:St}{H:Hp}(o:Own K G0 H0 G ω σ H):Yz G H:=o.ext.gh
noncomputable abbrev FE:=WSt->Option R
noncomputable abbrev FD:=WSt->Option D
noncomputable abbrev FT:=WSt->Option Bool
noncomputable abbrev FA:=WSt->Option (List D)
def zCr(K:zA)(t:TE)(f:FE):Prop:=∀G0 H0 G ω σ H r(Q:VK),Own K G0 H0 G ω σ H->f ω=some r ->
 (∀v G' H',Ext G H G' H'->zCN K H G' H' r v->Q v H')->t σ H Q
def zBY(K:zA)(t:TE)(f:FD):Prop:=∀G0 H0 G ω σ H d(Q:VK),Own K G0 H0 G ω σ H->f ω=some d ->
 (∀v G' H',Ext G H G' H'->Rep K G' d v->Q v H')->t σ H Q
def SimV(K:zA)(t:TE)(f:FD):Prop:=∀G0 H0 G ω σ H d(Q:VK),Own K G0 H0 G ω σ H->f ω=some d ->
 (∀v G' H',Ext G H G' H'->Vw K G' H' d v->Q v H')->t σ H Q
def zBM(K:zA)(t:TT)(f:FT):Prop:=∀G0 H0 G ω σ H b(Q:Bool->Hp->Prop),Own K G0 H0 G ω σ H->f ω=some b ->
 (∀G' H',Ext G H G' H'->Q b H')->t σ H Q
def SimA(K:zA)(t:TA)(f:FA):Prop:=∀G0 H0 G ω σ H ds(Q:List V->Hp->Prop),Own K G0 H0 G ω σ H->f ω=some ds ->
 (∀vs G' H',Ext G H G' H'->Yp K G' ds vs->Q vs H')->t σ H Q
def XE(X:Cx)(e:vX)(f:FE):Prop:=∃t,PE X e t/\zCr X.K t f
def XD(X:Cx)(e:vX)(f:FD):Prop:=∃t,PE X e t/\zBY X.K t f
def XV(X:Cx)(e:vX)(f:FD):Prop:=∃t,PE X e t/\SimV X.K t f
def XT(X:Cx)(e:vX)(f:FT):Prop:=∃t,PT X e t/\zBM X.K t f
def XW(X:Cx)(e:vX)(f:FT):Prop:=∃t,PW X e t/\zBM X.K t f
def XA(X:Cx)(es:List vX)(f:FA):Prop:=(∃t,PA X es t/\SimA X.K t f)/\∀ω ds,f ω=some ds->ds.length=es.length
noncomputable def eOf(f:FD):FE:=λω=>(f ω).map R.sh
noncomputable def dOf(f:FE):FD:=λω=>match f ω with
 | ↥d=>some d
 | some (.fr ds)=>some (.lst ds)
 | _=>none
noncomputable def vOf(f:FE):FD:=λω=>(f ω).map R.d
section
variable{X:Cx}{e:vX}
theorem XD.toE{f:FD}(h:XD X e f):XE X e (eOf f):=by
 obtain⟨t,h1,h2⟩:=h;refine⟨t,h1,λG0 H0 G ω σ H r Q o e k=>?_⟩;unfold eOf at e;cases q:f ω with
 | none=>rw[q]at e;cases e
 | some d=>rw[q]at e;cases e;exact h2 G0 H0 G ω σ H d Q o q k
theorem XE.toD{f:FE}(h:XE X e f):XD X e (dOf f):=by
 obtain⟨t,h1,h2⟩:=h;refine⟨t,h1,λG0 H0 G ω σ H d Q o e k=>?_⟩;unfold dOf at e;cases q:f ω with
 | none=>rw[q]at e;cases e
 | some r=>
  rw[q]at e;cases r with
  | sh d'=>cases e;exact h2 G0 H0 G ω σ H _ Q o q k
  | fr ds=>
   cases e;refine h2 G0 H0 G ω σ H _ Q o q λv G' H' x ⟨l,vs,e1,e2,e3,e4,e5⟩=>?_;have s1:Yz G' (upd G' l (.lst vs)):=Xj e3 _;refine k v (upd G' l (.lst vs)) H' ⟨x.gg.trans s1,λb u z=>?_,x.hh,λb z1 z2=>?_⟩ ⟨l,vs,e1,qe,e5.mono s1⟩
   ·by_cases hb:b=l
    ·subst hb;rw[qe]at z;rw[e4];exact z
    ·rw[qd hb]at z;exact x.gh b u z
   ·rw[qd (λhb=>z2 (by rw[hb];exact e2))];exact x.new b z1 z2
  | vw ds=>cases e
theorem XE.toV{f:FE}(h:XE X e f):XV X e (vOf f):=by
 obtain⟨t,h1,h2⟩:=h;refine⟨t,h1,λG0 H0 G ω σ H d Q o e k=>?_⟩;unfold vOf at e;cases q:f ω with
 | none=>rw[q]at e;cases e
 | some r=>
  rw[q]at e;have e':r.d=d:=zc e;subst e';refine h2 G0 H0 G ω σ H r Q o q λv G' H' x y=>k v G' H' x ?_;cases r with
  | sh d'=>exact .inl y
  | fr ds=>obtain⟨l,vs,e1,e2,e3,e4,e5⟩:=y;exact .inr ⟨ds,l,vs,rfl,e1,e4,e5⟩
  | vw ds=>obtain⟨l,vs,e1,e2,e3⟩:=y;exact .inr ⟨ds,l,vs,rfl,e1,e2,e3⟩
theorem XD.toV{f:FD}(h:XD X e f):XV X e f:=by
 obtain⟨t,h1,h2⟩:=h;exact⟨t,h1,λG0 H0 G ω σ H d Q o e k=>h2 G0 H0 G ω σ H d Q o e λv G' H' x y=>k v G' H' x (.inl y)⟩
end
noncomputable def Yj(i:Nat):FE:=λω=>match ω[i]? with
 | some ↥d=>↥d
 | some (some (.ow ds))=>some (.vw ds)
 | some (some (.pw ds))=>some (.vw ds)
 | _=>none
noncomputable def fC(d:D):FD:=λ_=>some d
section
variable{X:Cx}
theorem zBH{e:vX}(i:Nat)(h:PE X e (XL i)):XE X e (Yj i):=by
 refine⟨_,h,λG0 H0 G ω σ H r Q o e k=>?_⟩;unfold Yj at e;cases q:ω[i]? with
 | none=>rw[q]at e;cases e
 | some w=>
  rw[q]at e;cases w with
  | none=>cases e
  | some w=>
   cases w with
   | sh d=>
    cases e;obtain⟨v,h1,h2⟩:=o.sh i d q;exact⟨v,h1,k v G H (Ext.refl o.gh) h2⟩
   | ow ds=>
    cases e;obtain⟨l,vs,h1,h2,h3,h4,h5⟩:=o.ow i ds q;exact⟨_,h1,k _ G H (Ext.refl o.gh) ⟨l,vs,rfl,h2,h5⟩⟩
   | od ks ds=>cases e
   | pw ds=>
    cases e;obtain⟨vs,h1,h2,h3,h4,h5,_⟩:=o.pw i ds q;exact⟨_,h1,k _ G H (Ext.refl o.gh) ⟨_,vs,rfl,h2,h5⟩⟩
theorem xd_c{e:vX}{v:V}{d:D}(h:PE X e (tC v))(hr:∀K H,Rep K H d v):XD X e (fC d):=by
 refine⟨_,h,λG0 H0 G ω σ H r Q o e k=>?_⟩;cases e;exact k v G H (Ext.refl o.gh) (hr _ _)
theorem Yh{i j pos}:XD X (.Constant (.int i) j pos) (fC (.int i)):=xd_c qgq λ_ _=>rfl
theorem WP{b j pos}:XD X (.Constant (.bool b) j pos) (fC (.bl b)):=xd_c qgR λ_ _=>rfl
theorem WI{x j pos}:XD X (.Constant (.str x) j pos) (fC (.str x)):=xd_c qg0 λ_ _=>rfl
end
theorem bnd{α β:Type}{o:Option α}{f:α->Option β}{r:β}(h:o.bind f=some r):∃a,o=some a/\f a=some r:=ym.mp h
theorem mpd{α β:Type}{o:Option α}{f:α->β}{r:β}(h:o.map f=some r):∃a,o=some a/\f a=r:=wE.mp h
noncomputable def Yq:FA:=λ_=>some []
noncomputable def Yi(f:FD)(g:FA):FA:=λω=>(f ω).bind λd=>(g ω).map λds=>d::ds
section
variable{X:Cx}{e:vX}{es:List vX}
theorem Yn:XA X [] Yq:=⟨⟨_,qt,λG0 H0 G ω σ H ds Q o e k=>by cases e;exact k [] G H (Ext.refl o.gh) rfl⟩,λω ds e=>by cases e;rfl⟩
theorem Yg{f:FD}{g:FA}(h:XD X e f)(hr:XA X es g)(hs:vK (e::es) X.env=(false,eval e X.env)::vK es X.env:=by rfl):XA X (e::es) (Yi f g):=by
 obtain⟨t,h1,h2⟩:=h;obtain⟨⟨u,h3,h4⟩,h5⟩:=hr;refine⟨⟨_,qv h1 h3 hs,λG0 H0 G ω σ H ds Q o e k=>?_⟩,λω ds e=>?_⟩
 ·obtain⟨d,q,e⟩:=bnd e
  obtain⟨r,q2,e⟩:=mpd e;subst e;refine h2 G0 H0 G ω σ H d _ o q λv G1 H1 x1 y1=>?_;refine h4 G0 H0 G1 ω σ H1 r _ (o.keep x1) q2 λvs G2 H2 x2 y2=>?_;exact k _ G2 H2 (x1.trans x2) (Yp.cons (y1.mono x2.gg) y2)
 ·obtain⟨d,q,e⟩:=bnd e
  obtain⟨r,q2,e⟩:=mpd e;subst e;rw[zD,zD,h5 ω r q2]
noncomputable def zAp(g:FA):FD:=λω=>(g ω).map D.tup
noncomputable def zAE(g:FA):FE:=λω=>(g ω).map R.fr
theorem zBL{n:Nat}(h:n<=1000):n<=sizeLine:=yZ (zBb h)
theorem Xo{x1 pos}{g:FA}(h:XA X es g)(hl:es.length<=1000:=by decide):XD X (.Tuple es x1 pos) (zAp g):=by
 obtain⟨⟨t,h1,h2⟩,h5⟩:=h;refine⟨_,qfT h1,λG0 H0 G ω σ H d Q o e k=>?_⟩;obtain⟨ds,q,e⟩:=mpd e;subst e;refine h2 G0 H0 G ω σ H ds _ o q λvs G1 H1 x1 y1=>⟨zBL (by rw[<- y1.len,h5 ω ds q];exact hl),λp hp=>?_⟩;have x2:=Ext.lay x1.gh hp (.tup vs);exact k _ _ _ (x1.trans x2) ⟨p,vs,rfl,qe,y1.mono x2.gg⟩
theorem XX{pos}{g:FA}(h:XA X es g)(hl:es.length<=1000:=by decide):XE X (.List es pos) (zAE g):=by
 obtain⟨⟨t,h1,h2⟩,h5⟩:=h;refine⟨_,q2l h1,λG0 H0 G ω σ H d Q o e k=>?_⟩;obtain⟨ds,q,e⟩:=mpd e;subst e;refine h2 G0 H0 G ω σ H ds _ o q λvs G1 H1 x1 y1=>⟨zBL (by rw[<- y1.len,h5 ω ds q];exact hl),λp hp=>?_⟩;have x2:=Ext.hide x1.gh hp (.lst vs);exact k _ _ _ (x1.trans x2) ⟨p,vs,rfl,x1.hh.free hp,x1.gh.free hp,qe,y1⟩
inductive O where
 | sh (d:D)|fr (ds:List D)
noncomputable def O.r:O->R
 | .sh d=>.sh d
 | .fr ds=>.fr ds
noncomputable def spD(K:zA)(n:Nat)(m:List D->Option O):Sp:=λvs H Q _=>∃G ds r,m ds=some r/\ds.length=n/\Yz G H/\Yp K G ds vs/\∀v G' H',Ext G H G' H'->zCN K H G' H' r.r v->Q v H'
noncomputable def Yr(m:List D->Option O)(g:FA):FE:=λω=>(g ω).bind λds=>(m ds).map O.r
theorem zCl{CX:CXT}{k:Nat}{f:vJ}{fd:vP}{ps:List Str}{m:List D->Option O}{E:XK}{x:Str}{p pos:Pos}{g:FA}(F:FnOk X.prog X.w X.K X.mg X.base CX k f fd ps (spD X.K (e::es).length m))(hr:Room k X.A)(hg:Gl X x)(hm:X.mg x=some (.ref f))(hk:xI X.K (.ref f)=true)(hb:Binds X.K fd ps [])(hx:zAw CX X E)(ha:XA X (e::es) g)(hdb:(x==("__debug__" : Str))=false:=by decide)(he:vK (e::es) X.env=(false,eval e X.env)::vK es X.env:=by rfl)(hpl:(v3 pos (vK es X.env)).any (·.1)=false:=by rfl):
  XE X (.Call (.Name x p) (e::es) [] pos) (Yr m g):=by
 obtain⟨⟨t,h1,h2⟩,h5⟩:=ha;refine⟨_,q4u F hr hg hm hk hb .nil hx h1 hdb he hpl,λG0 H0 G ω σ H r Q o e k=>?_⟩;obtain⟨ds,q,e⟩:=bnd e;obtain⟨r',q2,e⟩:=mpd e;subst e;refine h2 G0 H0 G ω σ H ds _ o q λvs G1 H1 x1 y1=>?_;refine⟨G1,ds,r',q2,h5 ω ds q,x1.gh,by rw[yJ];exact y1,λv G2 H2 x2 y2=>k v G2 H2 (x1.trans x2) ?_⟩;cases r' with
 | sh d=>exact y2
 | fr ds=>obtain⟨l,vs,e1,e2,e3⟩:=y2;exact⟨l,vs,e1,x1.hh.free e2,e3⟩
end
open PySem.Spec PyProof.Rows PySem.SeqAt PySem.MeetsSeq PySem.MeetsSeq2 PySem.MeetsSeq3 in
theorem q7m{prog:vS}{w:vZ}{A:vb}{E:vB->vG->Prop}{s:vG}{t sl:vJ}{items:Array vB}{vl vu:vB}{lo hi:Option Int}{Q:vB->vG->Prop}(ht:IsTup s.heap t items)(hs:s.heap.IsSliceOf sl vl vu .none)(pl:tQ vl lo)(pu:tQ vu hi)(hw:HT.sIx items.size 0 lo=0/\HT.sIx items.size items.size hi=items.size)(h:Q (.ref t) s):vN (model prog w) A (uz (.ref t) (.ref sl)) Q E s:=by
 obtain⟨os,hos,hcs,hds⟩:=id hs;have hTs:s.TypeIs (.ref sl) "slice" := ⟨os,hos,hcs⟩;unfold uz
 try with_reducible refine vh ?_
 first|refine vA (vH ?_)|skip
 refine vA (wpAny_sequenceKey ht.typeIs (by decide) ?_);refine vA (wpAny_callSpecial?_slot (name:=Str.ofString "__getitem__") ht.typeIs PyProof.Rows.slot_tuple_getitem
  (ve PyProof.Rows.slot_tuple_getitem ht.typeIs entry_tuple_getitem ?_ (sD _ _)))
 show vN _ _ (Builtin.Tuple.tupleItemsOf (.ref t) >>= _) _ _ s;refine vA (tupleItemsOf_ ht ?_);refine vA (uj hTs ?_);rw[vC (by decide)];refine vA (HT.q2M hs pl pu ?_);have hy:(((HT.sIx items.size 0 lo:Nat):Int)==0&&(1:Int)==1&&(HT.sIx items.size items.size hi-HT.sIx items.size 0 lo)==items.size)=true:=by
  rw[hw.1,hw.2];simp
 show vN _ _ (if (((HT.sIx items.size 0 lo:Nat):Int)==0&&(1:Int)==1&&(HT.sIx items.size items.size hi-HT.sIx items.size 0 lo)==items.size)=true then _ else _) _ _ s;rw[vC hy];have hb:∀{R:Bool->vG->Prop},R true s->vN (model prog w) A.in1 (Builtin.Tuple.tupleIsExact (.ref t)) R E s:=λr=>by
  unfold Builtin.Tuple.tupleIsExact;refine vA (uj ht.typeIs ?_);exact vH r
 refine vA (hb ?_);rw[vC rfl];refine vA (uB ?_);exact vH ⟨_,rfl,vH h⟩
section
variable{X:Cx}
def rSlW(K:zA):V->Option Int->Option Int->Hp->VK->Prop:=λx lo hi H Q=>∃a xs,x=.ref a/\SqT K H a xs /\
 (HT.sIx xs.length 0 lo=0/\HT.sIx xs.length xs.length hi=xs.length)/\Q (.ref a) H
theorem qdn:SlR X (rSlW X.K):=by
 intro pins s σ H x v vl vu lo hi sl Q I rx hs pl pu h;obtain⟨a,xs,rfl,hx,hw,q⟩:=h;cases rx;obtain⟨its,r,ht,hz⟩:=I.tuple hx;have hlen:its.toArray.size=xs.length:=by rw[zN];exact r.length.symm
 refine⟨"tuple", _,PyProof.Rows.slot_tuple_getitem.lookup,ht.typeIs,?_⟩;exact q7m ht hs pl pu (by rw[hlen];exact hw) ⟨.ref a,H,I,rfl,q⟩
end
theorem Vw.rep{K:zA}{G H:Hp}{d:D}{v:V}(h:Vw K G H d v)(e:Yz G H):Rep K H d v:=by
 rcases h with h|⟨ds,l,vs,rfl,rfl,h1,h2⟩
 ·exact h.mono e
 ·exact⟨l,vs,rfl,h1,h2.mono e⟩
theorem Vw.keep{K:zA}{G H G' H':Hp}{d:D}{v:V}(h:Vw K G H d v)(e:Ext G H G' H'):Vw K G' H' d v:=by
 rcases h with h|⟨ds,l,vs,h0,h1,h2,h3⟩
 ·exact .inl (h.mono e.gg)
 ·exact .inr ⟨ds,l,vs,h0,h1,e.hh _ _ h2,h3.mono e.gg⟩
theorem Vw.lst{K:zA}{G H:Hp}{ds:List D}{v:V}(h:Vw K G H (.lst ds) v)(e:Yz G H):∃a vs,v=.ref a/\H a=some (.lst vs)/\Yp K G ds vs:=by
 rcases h with⟨a,vs,h1,h2,h3⟩|⟨ds',l,vs,h0,h1,h2,h3⟩
 ·exact⟨a,vs,h1,e _ _ h2,h3⟩
 ·cases h0;exact⟨l,vs,h1,h2,h3⟩
theorem Vw.of_ne{K:zA}{G H:Hp}{d:D}{v:V}(h:Vw K G H d v)(n:∀ds,d≠.lst ds):Rep K G d v:=by
 rcases h with h|⟨ds',l,vs,h0,h1,h2,h3⟩
 ·exact h
 ·exact vL h0 (n _)
def VwA(K:zA)(G H:Hp):List D->List V->Prop
 | [],vs=>vs=[]
 | d::ds,vs=>∃v r,vs=v::r/\Vw K G H d v/\VwA K G H ds r
def SimVA(K:zA)(t:TA)(f:FA):Prop:=∀G0 H0 G ω σ H ds(Q:List V->Hp->Prop),Own K G0 H0 G ω σ H->f ω=some ds ->
 (∀vs G' H',Ext G H G' H'->VwA K G' H' ds vs->Q vs H')->t σ H Q
def XVA(X:Cx)(es:List vX)(f:FA):Prop:=∃t,PA X es t/\SimVA X.K t f
section
variable{X:Cx}{e:vX}{es:List vX}
theorem qi:XVA X [] Yq:=⟨_,qt,λG0 H0 G ω σ H ds Q o e k=>by cases e;exact k [] G H (Ext.refl o.gh) rfl⟩
theorem qf{f:FD}{g:FA}(h:XV X e f)(hr:XVA X es g)(hs:vK (e::es) X.env=(false,eval e X.env)::vK es X.env:=by rfl):XVA X (e::es) (Yi f g):=by
 obtain⟨t,h1,h2⟩:=h;obtain⟨u,h3,h4⟩:=hr;refine⟨_,qv h1 h3 hs,λG0 H0 G ω σ H ds Q o e k=>?_⟩;obtain⟨d,q,e⟩:=bnd e;obtain⟨r,q2,e⟩:=mpd e;subst e;refine h2 G0 H0 G ω σ H d _ o q λv G1 H1 x1 y1=>?_;refine h4 G0 H0 G1 ω σ H1 r _ (o.keep x1) q2 λvs G2 H2 x2 y2=>?_;exact k _ G2 H2 (x1.trans x2) ⟨v,vs,rfl,y1.keep x2,y2⟩
noncomputable def Yo(op:D->D->Option R)(f g:FD):FE:=λω=>(f ω).bind λx=>(g ω).bind λy=>op x y
def OpV(K:zA)(r:R2)(op:D->D->Option R):Prop:=∀G H x y d v u(Q:VK),Yz G H->op x y=some d->Vw K G H x v->Vw K G H y u ->
 (∀w G' H',Ext G H G' H'->zCN K H G' H' d w->Q w H')->r v u H Q
theorem q4t{r:R2}{o:D->D->Option R}{f g:FD}{t u:TE}(hd:OpV X.K r o)(h2:SimV X.K t f)(h4:SimV X.K u g):zCr X.K (tOp r t u) (Yo o f g):=by
 intro G0 H0 G ω σ H d Q ow e k;obtain⟨x,q,e⟩:=bnd e;obtain⟨y,q2,e⟩:=bnd e;refine h2 G0 H0 G ω σ H x _ ow q λv G1 H1 x1 y1=>?_;refine h4 G0 H0 G1 ω σ H1 y _ (ow.keep x1) q2 λv2 G2 H2 x2 y2=>?_;refine hd G2 H2 x y d v v2 Q x2.gh e (y1.keep x2) y2 λw G3 H3 x3 z=>k w G3 H3 ((x1.trans x2).trans x3) ?_;cases d with
 | sh d=>exact z
 | fr ds=>obtain⟨l,vs,e1,e2,e3⟩:=z;exact⟨l,vs,e1,(x1.trans x2).hh.free e2,e3⟩
 | vw ds=>exact z
variable{a b:vX}{pos:Pos}{f g:FD}
theorem q2w{op:Operator}{r:R2}{o:D->D->Option R}(ho:OpR X (uQ op) r)(hd:OpV X.K r o)(ha:XV X a f)(hb:XV X b g):XE X (.BinOp a op b pos) (Yo o f g):=by
 obtain⟨t,h1,h2⟩:=ha;obtain⟨u,h3,h4⟩:=hb;exact⟨_,qh3 ho h1 h3,q4t hd h2 h4⟩
theorem q3S{op:sM}{r:R2}{o:D->D->Option R}(ho:OpR X (uE op) r)(hd:OpV X.K r o)(ha:XV X a f)(hb:XV X b g)(hm:v5 op b=false):XE X (.Compare a [op] [b] pos) (Yo o f g):=by
 obtain⟨t,h1,h2⟩:=ha;obtain⟨u,h3,h4⟩:=hb;exact⟨_,qfe ho h1 h3 hm,q4t hd h2 h4⟩
theorem qh6{r:R2}{o:D->D->Option R}(ho:IxR X r)(hd:OpV X.K r o)(ha:XV X a f)(hb:XV X b g)(hs:zAT b):XE X (.Subscript a b pos) (Yo o f g):=by
 obtain⟨t,h1,h2⟩:=ha;obtain⟨u,h3,h4⟩:=hb;exact⟨_,qh7 ho h1 h3 hs,q4t hd h2 h4⟩
noncomputable def tOf(f:FE):FT:=λω=>match f ω with
 | ↥(.bl k)=>some k
 | _=>none
theorem qc7{t:TE}{f:FE}(h:zCr X.K t f):zBM X.K (tTest t) (tOf f):=by
 intro G0 H0 G ω σ H b Q o e k;unfold tOf at e;cases q:f ω with
 | none=>rw[q]at e;cases e
 | some r=>
  rw[q]at e;cases r with
  | sh d=>
   cases d with
   | bl c=>
    cases e;refine h G0 H0 G ω σ H _ _ o q λv G' H' x y=>?_;cases (show v=V.bl b from y);exact⟨b,rfl,k G' H' x⟩
   | _=>cases e
  | _=>cases e
theorem q3h{op:sM}{r:R2}{o:D->D->Option R}(ho:OpR X (uE op) r)(hd:OpV X.K r o)(ha:XV X a f)(hb:XV X b g)(hm:v5 op b=false):XT X (.Compare a [op] [b] pos) (tOf (Yo o f g)):=by
 obtain⟨t,h1,h2⟩:=ha;obtain⟨u,h3,h4⟩:=hb;exact⟨_,qeB ho h1 h3 hm,qc7 (q4t hd h2 h4)⟩
noncomputable def zBE(c:Int->Int->Bool)(g:Int->Int->D):D->D->Option R
 | .int i,.int j=>if c i j=true then ↥(g i j)else none
 | _,_=>none
theorem Vw.int{K:zA}{G H:Hp}{i:Int}{v:V}(h:Vw K G H (.int i) v):v=.int i:=h.of_ne (λ_ z=>by cases z)
theorem Vw.bl{K:zA}{G H:Hp}{i:Bool}{v:V}(h:Vw K G H (.bl i) v):v=.bl i:=h.of_ne (λ_ z=>by cases z)
theorem Vw.str{K:zA}{G H:Hp}{i:Str}{v:V}(h:Vw K G H (.str i) v):v=.str i:=h.of_ne (λ_ z=>by cases z)
theorem Vw.non{K:zA}{G H:Hp}{v:V}(h:Vw K G H .non v):v=.non:=h.of_ne (λ_ z=>by cases z)
theorem Vw.tup{K:zA}{G H:Hp}{ds:List D}{v:V}(h:Vw K G H (.tup ds) v):∃a vs,v=.ref a/\G a=some (.tup vs)/\Yp K G ds vs:=h.of_ne (λ_ z=>by cases z)
theorem Vw.scr{K:zA}{G H:Hp}{ns:List Int}{v:V}(h:Vw K G H (.scr ns) v):∃a,v=.ref a/\SqL K G a (ns.map V.int):=h.of_ne (λ_ z=>by cases z)
theorem q4E{K:zA}{C:Int->Int->Prop}{c:Int->Int->Bool}{gV:Int->Int->V}{g:Int->Int->D}(hc:∀i j,c i j=true->C i j)(hg:∀H i j,Rep K H (g i j) (gV i j)):OpV K (rI C gV) (zBE c g):=by
 intro G H x y d v u Q s e hx hy k;cases x with
 | int i=>
  cases y with
  | int j=>
   cases hx.int;cases hy.int;unfold zBE at e
   dsimp only at e
   by_cases z:c i j=true
   ·rw[vC z]at e
    cases e;exact⟨i,j,rfl,rfl,hc i j z,k _ G H (Ext.refl s) (hg _ i j)⟩
   ·rw[vF z]at e;cases e
  | _=>cases e
 | _=>cases e
theorem q2L{K:zA}{gV:Int->Int->V}{g:Int->Int->D}(hg:∀H i j,Rep K H (g i j) (gV i j)):OpV K (rI0 gV) (zBE (λ_ _=>true) g):=by
 intro G H x y d v u Q s e hx hy k;cases x with
 | int i=>
  cases y with
  | int j=>
   cases hx.int;cases hy.int;cases e;exact⟨i,j,rfl,rfl,k _ G H (Ext.refl s) (hg _ i j)⟩
  | _=>cases e
 | _=>cases e
noncomputable def zCZ(i j:Int):Bool:=(decide (-(2^64)<i)&&decide (i<2^64)) || (decide (-(2^64)<j)&&decide (j<2^64))
noncomputable def cDiv(_ j:Int):Bool:=decide (0<j)&&decide (j<1073741824)
noncomputable def cMod(_ j:Int):Bool:=decide (0<j)
noncomputable def cPow(i j:Int):Bool:=decide (0<=j)&&decide (j<=1000000)&&decide (i.natAbs<2^64)
noncomputable abbrev zBR:D->D->Option R:=zBE (λ_ _=>true) λi j=>.int (i-j)
noncomputable abbrev zB3:D->D->Option R:=zBE zCZ λi j=>.int (i*j)
noncomputable abbrev oDiv:D->D->Option R:=zBE cDiv λi j=>.int (i/j)
noncomputable abbrev oMod:D->D->Option R:=zBE cMod λi j=>.int (i%j)
noncomputable abbrev oPow:D->D->Option R:=zBE cPow λi j=>.int (i^j.toNat)
noncomputable abbrev oLt:D->D->Option R:=zBE (λ_ _=>true) λi j=>.bl (decide (i<j))
noncomputable abbrev oLe:D->D->Option R:=zBE (λ_ _=>true) λi j=>.bl (decide (i<=j))
noncomputable abbrev oGe:D->D->Option R:=zBE (λ_ _=>true) λi j=>.bl (decide (j<=i))
noncomputable def WD:D->D->Option R
 | .int i,.int j=>↥(.int (i+j))
 | .lst xs,.lst ys=>if xs.length+ys.length<=1000000 then some (.fr (xs++ys))else none
 | .tup [],.tup ys=>↥(.tup ys)
 | .tup (x::xs),.tup ys=>if (x::xs).length+ys.length<=1000000 then ↥(.tup ((x::xs)++ys))else none
 | _,_=>none
theorem q5j{n:Nat}(h:n<=1000000):n<=sizeLine:=by rw[vp];omega
noncomputable def rCat0(K:zA):R2:=λx y H Q=>∃a b ys,x=.ref a/\y=.ref b/\SqT K H a []/\SqT K H b ys/\Q (.ref b) H
theorem qet:OpR X (uQ .Add) (rCat0 X.K):=by
 intro pins s σ H x y v u Q I rx ry h;obtain⟨a,b,ys,rfl,rfl,ha,hb,q⟩:=h;cases rx;cases ry;obtain⟨its,r1,p1,_⟩:=I.tuple ha;obtain⟨its2,r2,p2,_⟩:=I.tuple hb;have e0:its=[]:=r1.nil_iff.mpr rfl;subst e0;obtain⟨⟨cls,dd,data,sl⟩,ho,hc,n,hd⟩:=id p1;obtain⟨⟨cls2,dd2,data2,sl2⟩,ho2,hc2,n2,hd2⟩:=id p2;simp only at hc hd hc2 hd2;subst hc hd hc2 hd2;exact PySem.concat_meets ⟨_,ho,rfl⟩ ⟨_,ho2,rfl⟩ PySem.noFill_tuple_add PySem.seq_tuple_add PySem.F.slot_tuple_add PySem.F.entry_tuple_add (PySem.F.args_tuple_add_2 _ _)
  (PyProof.Rows.tuple_addW0 a b _ its2.toArray n n2 dd dd2 sl sl2 (by simp)) ⟨ho,ho2,⟨.ref b,H,I,rfl,q⟩⟩
noncomputable def zBc(K:zA):R2:=λx y H Q=>rI0 (λi j=>.int (i+j)) x y H Q\/rCat x y H Q\/rCatT K x y H Q\/rCat0 K x y H Q
theorem qcc:OpR X (uQ .Add) (zBc X.K):=qgN.or (qg6.or (qeG.or qet))
theorem qeH{K:zA}:OpV K (zBc K) WD:=by
 intro G H x y d v u Q s e hx hy k;cases x with
 | int i=>
  cases y with
  | int j=>
   cases hx.int;cases hy.int;cases e;exact .inl ⟨i,j,rfl,rfl,k _ G H (Ext.refl s) rfl⟩
  | _=>cases e
 | lst xs=>
  cases y with
  | lst ys=>
   unfold WD at e
   dsimp only at e
   by_cases z:xs.length+ys.length<=1000000
   ·rw[vC z]at e
    cases e;obtain⟨a,vs,rfl,h1,h2⟩:=hx.lst s;obtain⟨b,us,rfl,h3,h4⟩:=hy.lst s;refine .inr (.inl ⟨a,b,vs,us,rfl,rfl,h1,h3,q5j (by rw[<- h2.len,<- h4.len];exact z),λp hp=>?_⟩);exact k _ G _ (Ext.hide s hp _) ⟨p,_,rfl,hp,s.free hp,qe,h2.app h4⟩
   ·rw[vF z]at e;cases e
  | _=>cases e
 | tup xs=>
  cases y with
  | tup ys=>
   obtain⟨a,vs,rfl,h1,h2⟩:=hx.tup;obtain⟨b,us,rfl,h3,h4⟩:=hy.tup;cases xs with
   | nil=>
    cases e;have ev:vs=[]:=yg h2.len.symm;subst ev;exact .inr (.inr (.inr ⟨a,b,us,rfl,rfl,SqT.of (s _ _ h1),SqT.of (s _ _ h3),k _ G H (Ext.refl s) ⟨b,us,rfl,h3,h4⟩⟩))
   | cons x0 xs=>
    unfold WD at e
    dsimp only at e
    by_cases z:(x0::xs).length+ys.length<=1000000
    ·rw[vC z]at e
     cases e;refine .inr (.inr (.inl ⟨a,b,vs,us,rfl,rfl,SqT.of (s _ _ h1),SqT.of (s _ _ h3),λw=>?_,q5j (by rw[<- h2.len,<- h4.len];exact z),λw=>?_,λ_ p hp=>?_⟩))
     ·have:=h2.len
      rw[w]at this;cases this
     ·have:=h4.len
      rw[w]at this;have ey:ys=[]:=yg this;subst ey;rw[yJ]at k;exact k _ G H (Ext.refl s) ⟨a,vs,rfl,h1,h2⟩
     ·have x2:=Ext.lay s hp (.tup (vs++us))
      exact k _ _ _ x2 ⟨p,_,rfl,qe,(h2.app h4).mono x2.gg⟩
    ·rw[vF z]at e;cases e
  | _=>cases xs <;> cases e
 | _=>cases e
theorem qQ(ha:XV X a f)(hb:XV X b g):XE X (.BinOp a .Add b pos) (Yo WD f g):=q2w qcc qeH ha hb
theorem q1r(ha:XV X a f)(hb:XV X b g):XE X (.BinOp a .Sub b pos) (Yo zBR f g):=q2w qgl (q2L λ_ _ _=>rfl) ha hb
theorem mulOk{i j:Int}(h:zCZ i j=true):CMul i j:=by
 unfold zCZ at h;rw[YJ,zS,zS,decide_eq_true_iff,decide_eq_true_iff,decide_eq_true_iff,decide_eq_true_iff]at h;exact h
theorem divOk{i j:Int}(h:cDiv i j=true):CDiv i j:=by
 unfold cDiv at h;rw[zS,decide_eq_true_iff,decide_eq_true_iff]at h;exact h
theorem powOk{i j:Int}(h:cPow i j=true):CPow i j:=by
 unfold cPow at h;rw[zS,zS,decide_eq_true_iff,decide_eq_true_iff,decide_eq_true_iff]at h;exact⟨h.1.1,h.1.2,h.2⟩
theorem q88(ha:XV X a f)(hb:XV X b g):XE X (.BinOp a .Mult b pos) (Yo zB3 f g):=q2w qgJ (q4E (λ_ _ h=>mulOk h) λ_ _ _=>rfl) ha hb
theorem q00(ha:XV X a f)(hb:XV X b g):XE X (.BinOp a .FloorDiv b pos) (Yo oDiv f g):=q2w qfh (q4E (λ_ _ h=>divOk h) λ_ _ _=>rfl) ha hb
theorem qM(ha:XV X a f)(hb:XV X b g):XE X (.BinOp a .Mod b pos) (Yo oMod f g):=q2w qgm (q4E (λ_ _ h=>of_decide_eq_true h) λ_ _ _=>rfl) ha hb
theorem q7O(ha:XV X a f)(hb:XV X b g):XE X (.BinOp a .Pow b pos) (Yo oPow f g):=q2w qgK (q4E (λ_ _ h=>powOk h) λ_ _ _=>rfl) ha hb
noncomputable def oNeg:D->Option R
 | .int i=>↥(.int (-i))
 | _=>none
noncomputable def zB7(f:FD):FE:=λω=>(f ω).bind oNeg
theorem q2u(ha:XV X a f):XE X (.UnaryOp .USub a pos) (zB7 f):=by
 obtain⟨t,h1,h2⟩:=ha;refine⟨_,qh0 qg4 h1,λG0 H0 G ω σ H d Q ow e k=>?_⟩;obtain⟨x,q,e⟩:=bnd e;refine h2 G0 H0 G ω σ H x _ ow q λv G1 H1 x1 y1=>?_;cases x with
 | int i=>cases e;cases y1.int;exact⟨i,rfl,k _ G1 H1 x1 rfl⟩
 | _=>cases e
theorem qav(ha:XV X a f)(hb:XV X b g):XE X (.Compare a [.Lt] [b] pos) (Yo oLt f g):=q3S qek (q2L λ_ _ _=>rfl) ha hb (X9 _)
theorem qaj(ha:XV X a f)(hb:XV X b g):XE X (.Compare a [.LtE] [b] pos) (Yo oLe f g):=q3S qgU (q2L λ_ _ _=>rfl) ha hb (X9 _)
theorem qbd(ha:XV X a f)(hb:XV X b g):XE X (.Compare a [.GtE] [b] pos) (Yo oGe f g):=q3S qgT (q2L λ_ _ _=>rfl) ha hb (X9 _)
theorem qe9(ha:XV X a f)(hb:XV X b g):XT X (.Compare a [.Lt] [b] pos) (tOf (Yo oLt f g)):=q3h qek (q2L λ_ _ _=>rfl) ha hb (X9 _)
end
mutual
noncomputable def D.py:D->PyData
 | .non=>.none
 | .bl b=>.bool b
 | .int i=>.int i
 | .str x=>.str x
 | .lst xs=>.list (D.pys xs)
 | .tup xs=>.tuple (D.pys xs)
 | .scr ns=>.list (ns.map PyData.int)
 | .exc _=>.dict []
 | .dic _ _=>.dict []
noncomputable def D.pys:List D->List PyData
 | []=>[]
 | d::ds=>d.py::D.pys ds
end
section
variable{X:Cx}{pins:List (vJ×Obj)}{σ:St}{H:Hp}{s:vG}
theorem Wp{h:vn}:∀{ns:List Int}{us:List vB},Y2 (ns.map V.int) us->∃as,ReadsAll h us (ns.map PyData.int) as
 | [],_,r=>by cases r;exact⟨_,.nil⟩
 | n::ns,_,r=>by
  rw[zX]at r;cases r with
  | cons r1 r2=>
   obtain⟨t,rfl⟩:=r1;obtain⟨as,q⟩:=Wp (h:=h) r2;exact⟨_,.cons (.int n t) q⟩
mutual
theorem WA(I:Inv X pins σ H s):∀{d:D}{v:V}{u:vB},d.py.canLay0=true->Rep X.K H d v->RelV v u->∃as,Reads s.heap u d.py as
 | .non,_,_,_,h,r=>by cases (show _=V.non from h);cases r;exact⟨_,.none⟩
 | .bl b,_,_,_,h,r=>by cases (show _=V.bl b from h);cases r;exact⟨_,.bool b⟩
 | .int i,_,_,_,h,r=>by cases (show _=V.int i from h);obtain⟨t,rfl⟩:=r;exact⟨_,.int i t⟩
 | .str x,_,_,_,h,r=>by cases (show _=V.str x from h);obtain⟨t,rfl⟩:=r;exact⟨_,.str x t⟩
 | .lst ds,_,_,hc,⟨a,vs,rfl,h2,h3⟩,r=>by
  cases r;obtain⟨its,n,rv,e,_⟩:=I.lst h2;obtain⟨as,q⟩:=WX I (show PyData.canLayAll0 (D.pys ds)=true from hc) h3 rv;exact⟨_,.list e rfl rfl ⇑q⟩
 | .tup ds,_,_,hc,⟨a,vs,rfl,h2,h3⟩,r=>by
  cases r;obtain⟨its,rv,⟨o,e,c,n,dd⟩,_⟩:=I.tuple (SqT.of h2);obtain⟨as,q⟩:=WX I (show PyData.canLayAll0 (D.pys ds)=true from hc) h3 rv;exact⟨_,.tuple e c dd ⇑q⟩
 | .exc _,_,_,hc,_,_=>by cases hc
 | .dic _ _,_,_,hc,_,_=>by cases hc
 | .scr ns,_,_,_,⟨a,rfl,h2⟩,r=>by
  cases r;obtain⟨its,rv,pl,_⟩:=I.list h2;obtain⟨o,e,c,n,dd⟩:=pl.isList;obtain⟨as,q⟩:=Wp (h:=s.heap) rv;exact⟨_,.list e c dd ⇑q⟩
theorem WX(I:Inv X pins σ H s):∀{ds:List D}{vs:List V}{us:List vB},PyData.canLayAll0 (D.pys ds)=true->Yp X.K H ds vs->Y2 vs us->∃as,ReadsAll s.heap us (D.pys ds) as
 | [],_,_,_,h,r=>by cases (show _=[]from h);cases r;exact⟨_,.nil⟩
 | d::ds,_,_,hc,⟨v,vr,h1,h2,h3⟩,r=>by
  have hc':=yy.mp (show (d.py.canLay0&&PyData.canLayAll0 (D.pys ds))=true from hc);subst h1;cases r with
  | cons r1 r2=>
   obtain⟨as,q1⟩:=WA I hc'.1 h2 r1;obtain⟨bs,q2⟩:=WX I hc'.2 h3 r2;exact⟨_,.cons q1 q2⟩
end
end
noncomputable def shp(d:D):Bool:=SeqAt.shaped d.py
noncomputable def eqD(x y:D):Bool:=PyData.eqv x.py y.py
noncomputable def rEqD(K:zA)(neg:Bool):R2:=λx y H Q=>∃d e,Rep K H d x/\Rep K H e y/\shp d=true/\shp e=true/\Q (.bl (if neg then !eqD d e else eqD d e)) H
noncomputable def oEq(neg:Bool):D->D->Option R:=λx y=>if shp x&&shp y then ↥(.bl (if neg then !eqD x y else eqD x y))else none
section
variable{X:Cx}{a b:vX}{pos:Pos}{f g:FD}
theorem zCC(hu:X.A.units+64<uc):OpR X (uE .Eq) (rEqD X.K false):=by
 intro pins s σ H x y v u Q I rx ry h;obtain⟨d,e,h1,h2,h3,h4,q⟩:=h;obtain⟨as,ra⟩:=WA I (SeqAt.canLay_of_shaped h3) h1 rx;obtain⟨bs,rb⟩:=WA I (SeqAt.canLay_of_shaped h4) h2 ry;exact SeqAt.compareEq_shaped ra rb h3 h4 hu ⟨.bl _,H,I,rfl,q⟩
theorem zCE(hu:X.A.units+64<uc):OpR X (uE .NotEq) (rEqD X.K true):=by
 intro pins s σ H x y v u Q I rx ry h;obtain⟨d,e,h1,h2,h3,h4,q⟩:=h;obtain⟨as,ra⟩:=WA I (SeqAt.canLay_of_shaped h3) h1 rx;obtain⟨bs,rb⟩:=WA I (SeqAt.canLay_of_shaped h4) h2 ry;exact SeqAt.compareNe_shaped ra rb h3 h4 hu ⟨.bl _,H,I,rfl,q⟩
theorem zAq{K:zA}{neg:Bool}:OpV K (rEqD K neg) (oEq neg):=by
 intro G H x y d v u Q s e hx hy k;unfold oEq at e
 by_cases z:(shp x&&shp y)=true
 ·rw[vC z]at e
  cases e;rw[zS]at z;exact⟨x,y,hx.rep s,hy.rep s,z.1,z.2,k _ G H (Ext.refl s) rfl⟩
 ·rw[vF z]at e;cases e
theorem zBw(hu:X.A.units+64<uc)(ha:XV X a f)(hb:XV X b g):XE X (.Compare a [.Eq] [b] pos) (Yo (oEq false) f g):=q3S (zCC hu) zAq ha hb (X9 _)
theorem xe_ne(hu:X.A.units+64<uc)(ha:XV X a f)(hb:XV X b g):XE X (.Compare a [.NotEq] [b] pos) (Yo (oEq true) f g):=q3S (zCE hu) zAq ha hb (X9 _)
theorem zCA(hu:X.A.units+64<uc)(ha:XV X a f)(hb:XV X b g):XT X (.Compare a [.Eq] [b] pos) (tOf (Yo (oEq false) f g)):=q3h (zCC hu) zAq ha hb (X9 _)
theorem WO(hu:X.A.units+64<uc)(ha:XV X a f)(hb:XV X b g):XT X (.Compare a [.NotEq] [b] pos) (tOf (Yo (oEq true) f g)):=q3h (zCE hu) zAq ha hb (X9 _)
noncomputable def rIs(neg:Bool):R2:=λx y H Q=>(y=.non/\Q (.bl (if neg then !decide (x=.non)else decide (x=.non))) H)\/∃a b,x=.bl a/\y=.bl b/\Q (.bl (if neg then !(a==b)else a==b)) H
theorem zB9:OpR X (uE .IsNot) (rIs true):=by
 intro pins s σ H x y v u Q I rx ry h;rcases h with⟨rfl,q⟩|⟨a,b,rfl,rfl,q⟩
 ·exact qf7 pins s σ H x .non v u Q I rx ry ⟨rfl,q⟩
 ·cases rx
  cases ry;exact PyProof.Rows.isnot_bool ⟨.bl _,H,I,rfl,q⟩
noncomputable def isN:D->Bool
 | .non=>true
 | _=>false
noncomputable def oIs(neg:Bool):D->D->Option R
 | x,.non=>↥(.bl (if neg then !isN x else isN x))
 | .bl i,.bl j=>↥(.bl (if neg then !(i==j)else i==j))
 | _,_=>none
theorem isN_of{K:zA}{H:Hp}{d:D}{v:V}(h:Rep K H d v):decide (v=.non)=isN d:=by
 cases d with
 | non=>cases (show v=V.non from h);rfl
 | bl b=>cases (show v=V.bl b from h);rfl
 | int b=>cases (show v=V.int b from h);rfl
 | str b=>cases (show v=V.str b from h);rfl
 | lst _=>obtain⟨a,_,rfl,_⟩:=h;rfl
 | tup _=>obtain⟨a,_,rfl,_⟩:=h;rfl
 | scr _=>obtain⟨a,rfl,_⟩:=h;rfl
 | exc _=>obtain⟨a,_,rfl,_⟩:=h;rfl
 | dic _ _=>obtain⟨a,_,rfl,_⟩:=h;rfl
theorem opv_is{K:zA}{neg:Bool}:OpV K (rIs neg) (oIs neg):=by
 intro G H x y d v u Q s e hx hy k;cases y with
 | non=>
  cases hy.non;refine .inl ⟨rfl,?_⟩;rw[isN_of (hx.rep s)];cases x <;> (cases e;exact k _ G H (Ext.refl s) rfl)
 | bl j=>
  cases x with
  | bl i=>
   cases hx.bl;cases hy.bl;cases e;exact .inr ⟨i,j,rfl,rfl,k _ G H (Ext.refl s) rfl⟩
  | _=>cases e
 | _=>cases x <;> cases e
theorem zBv(ha:XV X a f)(hb:XV X b g):XT X (.Compare a [.IsNot] [b] pos) (tOf (Yo (oIs true) f g)):=q3h zB9 opv_is ha hb (X9 _)
noncomputable def Xr:D->Bool
 | .non=>true
 | .bl _=>true
 | .int _=>true
 | .str _=>true
 | _=>false
noncomputable def D.v:D->V
 | .bl b=>.bl b
 | .int i=>.int i
 | .str x=>.str x
 | _=>.non
theorem Wx{K:zA}{H:Hp}{d:D}{v:V}(h:Rep K H d v)(f:Xr d=true):v=d.v/\Wk v=true:=by
 cases d with
 | non=>cases (show v=V.non from h);exact⟨rfl,rfl⟩
 | bl b=>cases (show v=V.bl b from h);exact⟨rfl,rfl⟩
 | int b=>cases (show v=V.int b from h);exact⟨rfl,rfl⟩
 | str b=>cases (show v=V.str b from h);exact⟨rfl,rfl⟩
 | _=>cases f
theorem Wa{K:zA}{H:Hp}:∀{ds:List D}{vs:List V},Yp K H ds vs->ds.all Xr=true->vs=ds.map D.v/\vs.all Wk=true
 | [],_,h,_=>by cases (show _=[]from h);exact⟨rfl,rfl⟩
 | d::ds,_,⟨v,r,h1,h2,h3⟩,f=>by
  rw[xH,zS]at f;obtain⟨e1,e2⟩:=Wx h2 f.1;obtain⟨e3,e4⟩:=Wa h3 f.2;subst h1;refine⟨by rw[zX,<- e1,<- e3],by rw[xH,e2,e4];rfl⟩
noncomputable def inD(x:D)(ds:List D):Bool:=inV x.v (ds.map D.v)
noncomputable def oIn(neg:Bool):D->D->Option R
 | x,.lst ys=>if Xr x&&ys.all Xr then ↥(.bl (if neg then !inD x ys else inD x ys))else none
 | x,.tup ys=>if Xr x&&ys.all Xr then ↥(.bl (if neg then !inD x ys else inD x ys))else none
 | _,_=>none
theorem zCK{K:zA}{neg:Bool}:OpV K (rIn K neg) (oIn neg):=by
 intro G H x y d v u Q s e hx hy k;cases y with
 | lst ys=>
  unfold oIn at e
  dsimp only at e
  by_cases z:(Xr x&&ys.all Xr)=true
  ·rw[vC z]at e
   cases e;rw[zS]at z;obtain⟨p,vs,rfl,h1,h2⟩:=hy.lst s;obtain⟨e1,e2⟩:=Wx (hx.rep s) z.1;obtain⟨e3,e4⟩:=Wa h2 z.2;refine⟨p,vs,rfl,.inl (SqL.of h1),e2,e4,?_⟩;rw[e1,e3];exact k _ G H (Ext.refl s) rfl
  ·rw[vF z]at e;cases e
 | tup ys=>
  unfold oIn at e
  dsimp only at e
  by_cases z:(Xr x&&ys.all Xr)=true
  ·rw[vC z]at e
   cases e;rw[zS]at z;obtain⟨p,vs,rfl,h1,h2⟩:=hy.tup;obtain⟨e1,e2⟩:=Wx (hx.rep s) z.1;obtain⟨e3,e4⟩:=Wa h2 z.2;refine⟨p,vs,rfl,.inr (SqT.of (s _ _ h1)),e2,e4,?_⟩;rw[e1,e3];exact k _ G H (Ext.refl s) rfl
  ·rw[vF z]at e;cases e
 | _=>cases x <;> cases e
theorem xt_in(ha:XV X a f)(hb:XV X b g)(hm:v5 .In b=false:=by with_unfolding_all rfl):XT X (.Compare a [.In] [b] pos) (tOf (Yo (oIn false) f g)):=q3h qcn zCK ha hb hm
theorem zB1(ha:XV X a f)(hb:XV X b g)(hm:v5 .NotIn b=false:=by with_unfolding_all rfl):XT X (.Compare a [.NotIn] [b] pos) (tOf (Yo (oIn true) f g)):=q3h q8V zCK ha hb hm
noncomputable def oIx:D->D->Option R
 | .lst ds,.int i=>(atI ds i).map R.sh
 | .tup ds,.int i=>(atI ds i).map R.sh
 | .scr ns,.int i=>(atI ns i).map λn=>.sh (.int n)
 | _,_=>none
theorem zAg{K:zA}{H:Hp}{ds:List D}{vs:List V}{i:Int}{d:D}(h:Yp K H ds vs)(e:atI ds i=some d):∃v,atI vs i=some v/\Rep K H d v:=by
 unfold atI at e ⊢;rw[<- h.len];cases q:ixN ds.length i with
 | none=>rw[q]at e;cases e
 | some j=>
  rw[q]at e;obtain⟨v,e1,e2⟩:=h.get e;exact⟨v,e1,e2⟩
theorem zBp{ns:List Int}{i n:Int}(e:atI ns i=some n):atI (ns.map V.int) i=some (.int n):=by
 unfold atI at e ⊢;rw[zB];cases q:ixN ns.length i with
 | none=>rw[q]at e;cases e
 | some j=>
  rw[q]at e;have e':ns[j]?=some n:=e;show (ns.map V.int)[j]?=_;rw[zV,e'];rfl
theorem opv_ix{K:zA}:OpV K (rIx K) oIx:=by
 intro G H x y d v u Q s e hx hy k;cases y with
 | int i=>
  cases hy.int;cases x with
  | lst ds=>
   obtain⟨d',q,e'⟩:=mpd e;subst e';obtain⟨p,vs,rfl,h1,h2⟩:=hx.lst s;obtain⟨w,e1,e2⟩:=zAg h2 q;exact .inl ⟨p,vs,i,w,rfl,rfl,SqL.of h1,e1,k _ G H (Ext.refl s) e2⟩
  | tup ds=>
   obtain⟨d',q,e'⟩:=mpd e;subst e';obtain⟨p,vs,rfl,h1,h2⟩:=hx.tup;obtain⟨w,e1,e2⟩:=zAg h2 q;exact .inr (.inl ⟨p,vs,i,w,rfl,rfl,SqT.of (s _ _ h1),e1,k _ G H (Ext.refl s) e2⟩)
  | scr ns=>
   obtain⟨n,q,e'⟩:=mpd e;subst e';obtain⟨p,rfl,h1⟩:=hx.scr;exact .inl ⟨p,_,i,.int n,rfl,rfl,s.seq h1,zBp q,k _ G H (Ext.refl s) rfl⟩
  | _=>cases e
 | _=>cases x <;> cases e
theorem Yl(ha:XV X a f)(hb:XV X b g)(hs:zAT b:=by exact λ_ _=>rfl):XE X (.Subscript a b pos) (Yo oIx f g):=qh6 qgc opv_ix ha hb hs
noncomputable abbrev FO:=WSt->Option (Option Int)
def SimO(K:zA)(t:TO)(f:FO):Prop:=∀G0 H0 G ω σ H o(Q:Option Int->Hp->Prop),Own K G0 H0 G ω σ H->f ω=some o->(∀G' H',Ext G H G' H'->Q o H')->t σ H Q
def XO(X:Cx)(e:Option vX)(f:FO):Prop:=∃t,PO X e t/\SimO X.K t f
noncomputable def pNo:FO:=λ_=>some none
noncomputable def pAt(f:FD):FO:=λω=>(f ω).bind λd=>match d with|.int i=>some (some i)|_=>none
theorem Xd:XO X none pNo:=⟨_,qft,λG0 H0 G ω σ H o Q ow e k=>by cases e;exact k G H (Ext.refl ow.gh)⟩
theorem XC(h:XV X a f):XO X (some a) (pAt f):=by
 obtain⟨t,h1,h2⟩:=h;refine⟨_,qeo h1,λG0 H0 G ω σ H o Q ow e k=>?_⟩;obtain⟨d,q,e⟩:=bnd e;refine h2 G0 H0 G ω σ H d _ ow q λv G1 H1 x1 y1=>?_;cases d with
 | int i=>cases e;cases y1.int;exact⟨i,rfl,k G1 H1 x1⟩
 | _=>cases e
noncomputable def cutD{α:Type}(xs:List α)(lo hi:Option Int):List α:=(xs.drop (HT.sIx xs.length 0 lo)).take (HT.sIx xs.length xs.length hi-HT.sIx xs.length 0 lo)
theorem zAm{K:zA}{H:Hp}{ds:List D}{vs:List V}(h:Yp K H ds vs)(lo hi:Option Int):Yp K H (cutD ds lo hi) (zBa vs lo hi):=by
 unfold cutD zBa;rw[h.len];exact(h.drop _).take _
theorem zBx(ns:List Int)(lo hi:Option Int):zBa (ns.map V.int) lo hi=(cutD ns lo hi).map V.int:=by
 unfold cutD zBa;rw[zB,Yb,ZZ]
noncomputable def oSl:D->Option Int->Option Int->Option R
 | .lst ds,lo,hi=>some (.fr (cutD ds lo hi))
 | .scr ns,lo,hi=>some (.fr ((cutD ns lo hi).map D.int))
 | .tup ds,lo,hi=>if HT.sIx ds.length 0 lo=0/\HT.sIx ds.length ds.length hi=ds.length then ↥(.tup ds)else ↥(.tup (cutD ds lo hi))
 | _,_,_=>none
noncomputable def fSl(f:FD)(l h:FO):FE:=λω=>(f ω).bind λd=>(l ω).bind λlo=>(h ω).bind λhi=>oSl d lo hi
theorem Y9{lo hi:Option vX}{l h:FO}{p2:Pos}(ha:XV X a f)(hl:XO X lo l)(hh:XO X hi h):XE X (.Subscript a (.Slice lo hi none p2) pos) (fSl f l h):=by
 obtain⟨t,h1,h2⟩:=ha;obtain⟨tl,h3,h4⟩:=hl;obtain⟨th,h5,h6⟩:=hh;refine⟨_,qdW (qeO.or (qgA.or qdn)) h1 h3 h5,λG0 H0 G ω σ H r Q ow e k=>?_⟩;obtain⟨d,q,e⟩:=bnd e;obtain⟨lo',q2,e⟩:=bnd e;obtain⟨hi',q3,e⟩:=bnd e;refine h2 G0 H0 G ω σ H d _ ow q λv G1 H1 x1 y1=>?_;refine h4 G0 H0 G1 ω σ H1 lo' _ (ow.keep x1) q2 λG2 H2 x2=>?_;refine h6 G0 H0 G2 ω σ H2 hi' _ ((ow.keep x1).keep x2) q3 λG3 H3 x3=>?_;have y3:=(y1.keep x2).keep x3;have x13:=(x1.trans x2).trans x3;cases d with
 | lst ds=>
  cases e;obtain⟨p,vs,rfl,h1,h2⟩:=y3.lst x3.gh;refine .inl ⟨p,vs,rfl,SqL.of h1,λn hn=>?_⟩;exact k _ G3 _ (x13.trans (Ext.hide x3.gh hn _)) ⟨n,_,rfl,x13.hh.free hn,x3.gh.free hn,qe,zAm h2 _ _⟩
 | scr ns=>
  cases e;obtain⟨p,rfl,h1⟩:=y3.scr;refine .inl ⟨p,_,rfl,x3.gh.seq h1,λn hn=>?_⟩;refine k _ G3 _ (x13.trans (Ext.hide x3.gh hn _)) ⟨n,_,rfl,x13.hh.free hn,x3.gh.free hn,qe,?_⟩;rw[zBx];exact Yp.ints _
 | tup ds=>
  unfold oSl at e
  dsimp only at e
  obtain⟨p,vs,rfl,h1,h2⟩:=y3.tup
  by_cases z:HT.sIx ds.length 0 lo'=0/\HT.sIx ds.length ds.length hi'=ds.length
  ·rw[vC z]at e
   cases e;exact .inr (.inr ⟨p,vs,rfl,SqT.of (x3.gh _ _ h1),by rw[<- h2.len];exact z,k _ G3 H3 x13 ⟨p,vs,rfl,h1,h2⟩⟩)
  ·rw[vF z]at e
   cases e;refine .inr (.inl ⟨p,vs,rfl,SqT.of (x3.gh _ _ h1),by rw[<- h2.len];exact z,λn hn=>?_⟩);have x4:=Ext.lay x3.gh hn (.tup (zBa vs lo' hi'));exact k _ _ _ (x13.trans x4) ⟨n,_,rfl,qe,(zAm h2 _ _).mono x4.gg⟩
 | _=>cases e
end
section
variable{X:Cx}{a b c:vX}{pos:Pos}{rest:List vX}{f g:FT}
noncomputable def zCB(f g:FT):FT:=λω=>(f ω).bind λc=>if c=true then some true else g ω
noncomputable def WM(f:FT):FT:=λω=>(f ω).map (!·)
theorem qf1{t u:TT}(h:zBM X.K t f)(h':zBM X.K u g):zBM X.K (tOr t u) (zCB f g):=by
 intro G0 H0 G ω σ H b Q o e k;obtain⟨c,q,e⟩:=bnd e;refine h G0 H0 G ω σ H c _ o q λG1 H1 x1=>?_;cases c with
 | true=>cases e;exact k G1 H1 x1
 | false=>exact h' G0 H0 G1 ω σ H1 b Q (o.keep x1) e λG2 H2 x2=>k G2 H2 (x1.trans x2)
theorem q8J(h:XT X a f):XW X (.BoolOp .Or [a] pos) f:=let ⟨t,h1,h2⟩:=h;⟨t,qcU h1,h2⟩
theorem q4v(h:XT X a f)(h':XW X (.BoolOp .Or (b::rest) pos) g):XW X (.BoolOp .Or (a::b::rest) pos) (zCB f g):=let ⟨_,h1,h2⟩:=h;let ⟨_,h3,h4⟩:=h';⟨_,qe7 h1 h3,qf1 h2 h4⟩
theorem XW.toT(h:XW X a f):XT X a f:=let ⟨t,h1,h2⟩:=h;⟨t,h1.pt,h2⟩
theorem q1a(h:XT X a f):XT X (.UnaryOp .Not a pos) (WM f):=by
 obtain⟨t,h1,h2⟩:=h;refine⟨_,qg3 h1,λG0 H0 G ω σ H b Q o e k=>?_⟩;obtain⟨c,q,e⟩:=mpd e;subst e;exact h2 G0 H0 G ω σ H c _ o q k
noncomputable def truD:D->Option Bool
 | .non=>some false
 | .bl b=>some b
 | .int i=>some (i != 0)
 | .lst xs=>some (!xs.isEmpty)
 | .tup xs=>some (!xs.isEmpty)
 | _=>none
noncomputable def zAP(f:FD):FT:=λω=>(f ω).bind truD
theorem q4N{α β:Type}{xs:List α}{ys:List β}(h:xs.length=ys.length):xs.isEmpty=ys.isEmpty:=by
 cases xs <;> cases ys <;> first|rfl|cases h
theorem q07{f:FD}(h:XV X a f)(he:∀whole,sf a X.env whole=(do let v <- whole;sV a.pos;holding [v] (truthy v)):=by intro _;rfl):XT X a (zAP f):=by
 obtain⟨t,h1,h2⟩:=h;refine⟨_,q3y h1 he,λG0 H0 G ω σ H b Q o e k=>?_⟩;obtain⟨d,q,e⟩:=bnd e;refine h2 G0 H0 G ω σ H d _ o q λv G1 H1 x1 y1=>⟨b,?_,k G1 H1 x1⟩;cases d with
 | non=>cases e;cases y1.non;rfl
 | bl c=>cases e;cases y1.bl;rfl
 | int i=>cases e;cases y1.int;rfl
 | lst xs=>
  cases e;obtain⟨p,vs,rfl,h1,h2⟩:=y1.lst x1.gh;exact .inl ⟨vs,SqL.of h1,by rw[q4N h2.len]⟩
 | tup xs=>
  cases e;obtain⟨p,vs,rfl,h1,h2⟩:=y1.tup;exact .inr (.inl ⟨vs,SqT.of (x1.gh _ _ h1),by rw[q4N h2.len]⟩)
 | _=>cases e
noncomputable def blOf:D->Option Bool
 | .bl b=>some b
 | _=>none
noncomputable def zAQ(f g:FD):FD:=λω=>(f ω).bind λd=>(blOf d).bind λc=>if c=true then g ω else some (.bl false)
noncomputable def vOr(f g:FD):FD:=λω=>(f ω).bind λd=>(blOf d).bind λc=>if c=true then some (.bl true)else g ω
noncomputable def vNot(f:FD):FD:=λω=>(f ω).bind λd=>(blOf d).map λc=>.bl (!c)
variable{fa fb:FD}
theorem q0M{op}(h:XD X a fa):XD X (.BoolOp op [a] pos) fa:=let ⟨t,h1,h2⟩:=h;⟨t,qgj h1,h2⟩
theorem q0n(h:XD X a fa)(h':XD X (.BoolOp .And (b::rest) pos) fb):XD X (.BoolOp .And (a::b::rest) pos) (zAQ fa fb):=by
 obtain⟨t,h1,h2⟩:=h;obtain⟨u,h3,h4⟩:=h';refine⟨_,qgs h1 h3,λG0 H0 G ω σ H d Q o e k=>?_⟩;obtain⟨x,q,e⟩:=bnd e;obtain⟨c,q2,e2⟩:=bnd e;clear e;refine h2 G0 H0 G ω σ H x _ o q λv G1 H1 x1 y1=>?_;cases x with
 | bl z=>
  cases q2;cases (show v=V.bl c from y1);refine⟨c,rfl,?_⟩;cases c with
  | true=>rw[vC rfl]at e2 ⊢;exact h4 G0 H0 G1 ω σ H1 d Q (o.keep x1) e2 λv G2 H2 x2 y2=>k v G2 H2 (x1.trans x2) y2
  | false=>cases e2;exact k _ G1 H1 x1 rfl
 | _=>cases q2
theorem qgY(h:XD X a fa)(h':XD X (.BoolOp .Or (b::rest) pos) fb):XD X (.BoolOp .Or (a::b::rest) pos) (vOr fa fb):=by
 obtain⟨t,h1,h2⟩:=h;obtain⟨u,h3,h4⟩:=h';refine⟨_,qgX h1 h3,λG0 H0 G ω σ H d Q o e k=>?_⟩;obtain⟨x,q,e⟩:=bnd e;obtain⟨c,q2,e2⟩:=bnd e;clear e;refine h2 G0 H0 G ω σ H x _ o q λv G1 H1 x1 y1=>?_;cases x with
 | bl z=>
  cases q2;cases (show v=V.bl c from y1);refine⟨c,rfl,?_⟩;cases c with
  | true=>cases e2;exact k _ G1 H1 x1 rfl
  | false=>exact h4 G0 H0 G1 ω σ H1 d Q (o.keep x1) e2 λv G2 H2 x2 y2=>k v G2 H2 (x1.trans x2) y2
 | _=>cases q2
theorem qfH(h:XD X a fa):XD X (.UnaryOp .Not a pos) (vNot fa):=by
 obtain⟨t,h1,h2⟩:=h;refine⟨_,qgd h1,λG0 H0 G ω σ H d Q o e k=>?_⟩;obtain⟨x,q,e⟩:=bnd e;obtain⟨c,q2,e⟩:=mpd e;subst e;refine h2 G0 H0 G ω σ H x _ o q λv G1 H1 x1 y1=>?_;cases x with
 | bl z=>cases q2;cases (show v=V.bl c from y1);exact⟨c,rfl,k _ G1 H1 x1 rfl⟩
 | _=>cases q2
theorem zCN.after{K:zA}{G H G1 H1 G2 H2:Hp}{r:R}{v:V}(x:Ext G H G1 H1)(y:zCN K H1 G2 H2 r v):zCN K H G2 H2 r v:=by
 cases r with
 | sh d=>exact y
 | fr ds=>obtain⟨l,vs,e1,e2,e3⟩:=y;exact⟨l,vs,e1,x.hh.free e2,e3⟩
 | vw ds=>exact y
end
def Wj(K:zA)(r:List V->Hp->VK->Prop)(op:List D->Option R):Prop:=∀G H ds vs d(Q:VK),Yz G H->op ds=some d->VwA K G H ds vs ->
 (∀w G' H',Ext G H G' H'->zCN K H G' H' d w->Q w H')->r vs H Q
noncomputable def Xq(op:List D->Option R)(g:FA):FE:=λω=>(g ω).bind op
section
variable{X:Cx}{e:vX}{es:List vX}{x:Str}{p pos:Pos}{r:List V->Hp->VK->Prop}{op:List D->Option R}{g:FA}{id T:String}
theorem q9E{t:TA}(hd:Wj X.K r op)(h:SimVA X.K t g):zCr X.K (tCB r t) (Xq op g):=by
 intro G0 H0 G ω σ H d Q o e k;obtain⟨ds,q,e⟩:=bnd e;refine h G0 H0 G ω σ H ds _ o q λvs G1 H1 x1 y1=>?_;exact hd G1 H1 ds vs d Q x1.gh e y1 λw G2 H2 x2 y2=>k w G2 H2 (x1.trans x2) (y2.after x1)
theorem qp(hc:Xu X (.builtin id) r)(hd:Wj X.K r op)(hg:Gl X x)(hm:X.mg x=none)(hv:vf x=some (.builtin id))(ha:XVA X (e::es) g)(hn:x ≠ "__name__" := by decide)(hdb:(x==("__debug__" : Str))=false:=by decide)(he:vK (e::es) X.env=(false,eval e X.env)::vK es X.env:=by rfl)(hpl:(v3 pos (vK es X.env)).any (·.1)=false:=by rfl):XE X (.Call (.Name x p) (e::es) [] pos) (Xq op g):=by
 obtain⟨t,h1,h2⟩:=ha;exact⟨_,q2r hc hg hm hv h1 hn hdb he hpl,q9E hd h2⟩
theorem q7x(hc:Xu X (.type T) r)(hd:Wj X.K r op)(hg:Gl X x)(hm:X.mg x=none)(hv:vf x=some (.type T))(ha:XVA X (e::es) g)(hn:x ≠ "__name__" := by decide)(hdb:(x==("__debug__" : Str))=false:=by decide)(he:vK (e::es) X.env=(false,eval e X.env)::vK es X.env:=by rfl)(hpl:(v3 pos (vK es X.env)).any (·.1)=false:=by rfl):XE X (.Call (.Name x p) (e::es) [] pos) (Xq op g):=by
 obtain⟨t,h1,h2⟩:=ha;exact⟨_,q75 hc hg hm hv h1 hn hdb he hpl,q9E hd h2⟩
theorem VwA.one{K:zA}{G H:Hp}{d:D}{vs:List V}(h:VwA K G H [d] vs):∃v,vs=[v]/\Vw K G H d v:=by
 obtain⟨v,r,h1,h2,h3⟩:=h;cases (show r=[]from h3);exact⟨v,h1,h2⟩
noncomputable def WZ:List D->Option R
 | [.lst ds]=>↥(.int ds.length)
 | [.tup ds]=>↥(.int ds.length)
 | [.scr ns]=>↥(.int ns.length)
 | _=>none
theorem qK{K:zA}:Wj K (λxs H Q=>∃p ys,xs=[.ref p]/\(SqL K H p ys\/SqT K H p ys)/\Q (.int ys.length) H) WZ:=by
 intro G H ds vs d Q s e hv k
 match ds,e with
 | [.lst ds],e=>
  cases e;obtain⟨v,rfl,h⟩:=hv.one;obtain⟨p,us,rfl,h1,h2⟩:=h.lst s;exact⟨p,us,rfl,.inl (SqL.of h1),k _ G H (Ext.refl s) (by show V.int _=V.int _;rw[h2.len])⟩
 | [.tup ds],e=>
  cases e;obtain⟨v,rfl,h⟩:=hv.one;obtain⟨p,us,rfl,h1,h2⟩:=h.tup;exact⟨p,us,rfl,.inr (SqT.of (s _ _ h1)),k _ G H (Ext.refl s) (by show V.int _=V.int _;rw[h2.len])⟩
 | [.scr ns],e=>
  cases e;obtain⟨v,rfl,h⟩:=hv.one;obtain⟨p,rfl,h1⟩:=h.scr;exact⟨p,_,rfl,.inl (s.seq h1),k _ G H (Ext.refl s) (by show V.int _=V.int _;rw[zB])⟩
noncomputable def bAbs:List D->Option R
 | [.int i]=>↥(.int (if i<0 then -i else i))
 | _=>none
theorem qg1{K:zA}:Wj K (λxs H Q=>∃i,xs=[.int i]/\Q (.int (if i<0 then -i else i)) H) bAbs:=by
 intro G H ds vs d Q s e hv k
 match ds,e with
 | [.int i],e=>
  cases e;obtain⟨v,rfl,h⟩:=hv.one;cases h.int;exact⟨i,rfl,k _ G H (Ext.refl s) rfl⟩
noncomputable def zAY:List D->Option R
 | [.lst ds]=>some (.fr ds)
 | [.tup ds]=>some (.fr ds)
 | _=>none
theorem q4w{K:zA}:Wj K (λxs H Q=>∃p ys,xs=[.ref p]/\(SqL K H p ys\/SqT K H p ys)/\∀l,H l=none->Q (.ref l) (upd H l (.lst ys))) zAY:=by
 intro G H ds vs d Q s e hv k
 match ds,e with
 | [.lst ds],e=>
  cases e;obtain⟨v,rfl,h⟩:=hv.one;obtain⟨p,us,rfl,h1,h2⟩:=h.lst s;exact⟨p,us,rfl,.inl (SqL.of h1),λl hl=>k _ G _ (Ext.hide s hl _) ⟨l,us,rfl,hl,s.free hl,qe,h2⟩⟩
 | [.tup ds],e=>
  cases e;obtain⟨v,rfl,h⟩:=hv.one;obtain⟨p,us,rfl,h1,h2⟩:=h.tup;exact⟨p,us,rfl,.inr (SqT.of (s _ _ h1)),λl hl=>k _ G _ (Ext.hide s hl _) ⟨l,us,rfl,hl,s.free hl,qe,h2⟩⟩
noncomputable def allB:List D->Option Bool
 | []=>some true
 | .bl b::r=>(allB r).map λc=>b&&c
 | _=>none
noncomputable def zBi:List D->Option R
 | [.lst ds]=>(allB ds).map λb=>.sh (.bl b)
 | _=>none
noncomputable def zCs:List D->Option Int
 | []=>some 0
 | .int i::r=>(zCs r).map λc=>i+c
 | _=>none
noncomputable def bSum:List D->Option R
 | [.lst ds]=>(zCs ds).map λb=>.sh (.int b)
 | _=>none
end
def rAll:List V->Hp->VK->Prop:=λxs H Q=>∃(p:vJ) (bs:List Bool),xs=[.ref p]/\H p=some (.lst (bs.map V.bl))/\Q (.bl (bs.all id)) H
def rSum:List V->Hp->VK->Prop:=λxs H Q=>∃(p:vJ) (ns:List Int),xs=[.ref p]/\H p=some (.lst (ns.map V.int))/\Q (.int ns.sum) H
section
variable{X:Cx}
theorem q9X:∀{bs:List Bool}{us:List vB},Y2 (bs.map V.bl) us->us=bs.map Value.bool
 | [],_,r=>by cases r;rfl
 | b::bs,_,r=>by
  rw[zX]at r;cases r with
  | cons r1 r2=>cases r1;rw[q9X r2];rfl
theorem qcr{bs:List Bool}:(zw bs.length).all (λi=>bs.getD i false)=bs.all id:=by
 induction bs with
 | nil=>rfl
 | cons b r ih=>
  rw[zD,ZB,xH,wF,xH];have e:((λi=>(b::r).getD i false) ∘ Nat.succ)=λi=>r.getD i false:=by funext i;rfl
  rw[e,ih];rfl
theorem q2S(hc:X.calm=true):Xu X (.builtin "all") rAll:=by
 intro pins s σ H xs us Q I r h;obtain⟨p,bs,rfl,hp,q⟩:=h;obtain⟨u,rfl,rx⟩:=vals1 r;cases rx;obtain⟨its,n,rv,e,hz⟩:=I.lst hp;have ei:=q9X rv;have hlt:p<s.heap.objs.size:=zM e;refine call_all_walk (ug (items:=its.toArray) ⟨_,e,rfl,n,rfl⟩ ?_);refine⟨s.heap.objs.size,_,_,its.toArray.size,_,_,λi=>bs.getD i false,rfl,Walks.list (by first|exact I.ok.hd hc|(show X.A.handled=none;exact I.ok.hd hc)) _ p (zg hlt) its.toArray,⟨⟨_,zQ _ rfl,rfl,rfl⟩,⟨_,zF _ e,rfl,n,rfl⟩⟩,λi v s' Q' E' hv hq=>?_,λh' tk hk=>?_⟩
 ·have hv':its[i]?=some v:=by simpa using hv
  rw[ei,zV]at hv';cases eb:bs[i]? with
  | none=>rw[eb]at hv';cases hv'
  | some b=>
   rw[eb]at hv';cases hv';have:bs.getD i false=b:=by rw[zU,eb];rfl
   have hq':Q' b s':=by rw[<- this];exact hq
   exact uF hq'
 ·have hl:its.toArray.size=bs.length:=by rw[zN,ei,zB]
  rw[hl,qcr];exact⟨.bl _,H,I.kept (λb o z=>hk b o (λhm=>by
   have:b=s.heap.objs.size:=by simpa using hm
   subst this;exact vL (zM z) (xG _)) (zF _ z)),rfl,q⟩
theorem q9H:∀{ds:List D}{b:Bool},allB ds=some b->∃bs:List Bool,ds=bs.map D.bl/\bs.all id=b
 | [],_,e=>by cases e;exact⟨[],rfl,rfl⟩
 | .bl c::r,b,e=>by
  obtain⟨k,q,e⟩:=mpd e;obtain⟨bs,h1,h2⟩:=q9H q;exact⟨c::bs,by rw[h1];rfl,by rw[xH,h2];exact e⟩
 | .non::_,_,e=>by cases e
 | .int _::_,_,e=>by cases e
 | .str _::_,_,e=>by cases e
 | .lst _::_,_,e=>by cases e
 | .tup _::_,_,e=>by cases e
 | .scr _::_,_,e=>by cases e
 | .exc _::_,_,e=>by cases e
 | .dic _ _::_,_,e=>by cases e
theorem q9N:∀{ds:List D}{b:Int},zCs ds=some b->∃bs:List Int,ds=bs.map D.int/\bs.sum=b
 | [],_,e=>by cases e;exact⟨[],rfl,rfl⟩
 | .int c::r,b,e=>by
  obtain⟨k,q,e⟩:=mpd e;obtain⟨bs,h1,h2⟩:=q9N q;exact⟨c::bs,by rw[h1];rfl,by rw[yQ,h2];exact e⟩
 | .non::_,_,e=>by cases e
 | .bl _::_,_,e=>by cases e
 | .str _::_,_,e=>by cases e
 | .lst _::_,_,e=>by cases e
 | .tup _::_,_,e=>by cases e
 | .scr _::_,_,e=>by cases e
 | .exc _::_,_,e=>by cases e
 | .dic _ _::_,_,e=>by cases e
theorem q9G{K:zA}{H:Hp}:∀{bs:List Bool}{vs:List V},Yp K H (bs.map D.bl) vs->vs=bs.map V.bl
 | [],_,h=>h
 | n::r,_,⟨v,vs,h1,h2,h3⟩=>by
  have:=q9G h3;have e:v=.bl n:=h2;rw[h1,this,e];rfl
theorem q5q{K:zA}:Wj K rAll zBi:=by
 intro G H ds vs d Q s e hv k
 match ds,e with
 | [.lst ds],e=>
  obtain⟨b,q,e⟩:=mpd e;subst e;obtain⟨bs,rfl,rfl⟩:=q9H q;obtain⟨v,rfl,h⟩:=hv.one;obtain⟨p,us,rfl,h1,h2⟩:=h.lst s;exact⟨p,bs,rfl,by rw[h1,q9G h2],k _ G H (Ext.refl s) rfl⟩
theorem q5I:∀(ns:List Int)(k:Nat),k<=ns.length->preSum (λi=>ns.getD i 0) k=(ns.take k).sum
 | _,0,_=>rfl
 | ns,k+1,h=>by
  have e:ns.take (k+1)=ns.take k++[ns.getD k 0]:=by
   rw[Zz,zE ∅,zU,zE ∅];rfl
  show preSum (λi=>ns.getD i 0) k+ns.getD k 0=_;rw[q5I ns k ∅,e,YK];simp
theorem qbT(hc:X.calm=true):Xu X (.builtin "sum") rSum:=by
 intro pins s σ H xs us Q I r h;obtain⟨p,ns,rfl,hp,q⟩:=h;obtain⟨u,rfl,rx⟩:=vals1 r;cases rx;obtain⟨its,n,rv,e,hz⟩:=I.lst hp;have ia:=q1k rv;have hlen:its.length=ns.length:=by rw[<- rv.length,zB]
 have hlt:p<s.heap.objs.size:=zM e;refine call_sum_walkAnyS (ug (items:=its.toArray) ⟨_,e,rfl,n,rfl⟩ ?_);refine⟨s.heap.objs.size,_,_,_,its.toArray.size,_,_,λi=>ns.getD i 0,rfl,(Walks.list (by first|exact I.ok.hd hc|(show X.A.handled=none;exact I.ok.hd hc)) _ p (zg hlt) its.toArray).toS,⟨⟨_,zQ _ rfl,rfl,rfl⟩,⟨_,zF _ e,rfl,n,rfl⟩⟩,λb hb=>?_,λi v hv=>PyProof.Rows.IntsAre.int_at ia i v ⇑hv,λs' t' hm=>?_⟩
 ·show b<(s.heap.push _).objs.size
  rw[yX];rcases zG.mp hb with rfl|hb
  ·exact yW _
  ·rw[za.mp hb];exact yP hlt
 ·rw[Moved.eq_with hm]
  have es:preSum (λi=>ns.getD i 0) its.toArray.size=ns.sum:=by
   rw[zN,hlen,q5I ns _ (zK _),wK]
  rw[es];exact⟨.int _,H,I.kept (λb o z=>hm.heap b o (λhmm=>by
   have:b=s.heap.objs.size:=by simpa using hmm
   subst this;exact vL (zM z) (xG _)) (zF _ z)),⟨_,rfl⟩,q⟩
theorem qg9{K:zA}:Wj K rSum bSum:=by
 intro G H ds vs d Q s e hv k
 match ds,e with
 | [.lst ds],e=>
  obtain⟨b,q,e⟩:=mpd e;subst e;obtain⟨bs,rfl,rfl⟩:=q9N q;obtain⟨v,rfl,h⟩:=hv.one;obtain⟨p,us,rfl,h1,h2⟩:=h.lst s;exact⟨p,bs,rfl,by rw[h1,h2.of_ints],k _ G H (Ext.refl s) rfl⟩
end
inductive Ty where
 | non|bl|int|str|lst|tup|dic
noncomputable def Ty.n:Ty->String
 | .non => "NoneType"
 | .bl => "bool"
 | .int => "int"
 | .str => "str"
 | .lst => "list"
 | .tup => "tuple"
 | .dic => "dict"
noncomputable def tyD:D->Ty
 | .non=>.non
 | .bl _=>.bl
 | .int _=>.int
 | .str _=>.str
 | .lst _=>.lst
 | .tup _=>.tup
 | .scr _=>.lst
 | .exc _=>.non
 | .dic _ _=>.non
noncomputable def zBk:Ty->Ty->Bool
 | .non,.non=>true
 | .bl,.bl=>true
 | .bl,.int=>true
 | .int,.int=>true
 | .str,.str=>true
 | .lst,.lst=>true
 | .tup,.tup=>true
 | _,_=>false
noncomputable def zBo(c:Ty)(f:FD):FE:=λω=>(f ω).bind λd=>match d with
 | .scr _=>none
 | .exc _=>none
 | .dic _ _=>none
 | d=>↥(.bl (zBk (tyD d) c))
def IsT(K:zA)(c:Ty):Prop:=∀t:Ty,t≠.dic->ZO K (.type t.n) (.type c.n)=some (zBk t c)
def rIsi(K:zA):List V->Hp->VK->Prop:=λxs H Q=>∃x c T b,xs=[x,.ty c]/\TyOf K H x (.type T)/\ZO K (.type T) (.type c)=some b/\Q (.bl b) H
section
variable{X:Cx}{a:vX}{f:FD}
theorem qdN:Xu X (.builtin "isinstance") (rIsi X.K):=by
 intro pins s σ H xs us Q I r h;obtain⟨x,c,T,b,rfl,ty,e,q⟩:=h;obtain⟨u1,u2,rfl,r2,r3⟩:=vals2 r;cases (show u2=Value.type c from r3);exact qc2 I r2 ty e λtk=>⟨.bl b,H,I.tok tk,rfl,q⟩
theorem qfx{K:zA}{G H:Hp}{d:D}{v:V}(h:Vw K G H d v)(s:Yz G H)(n:∀ns,d≠.scr ns)(n':∀c,d≠.exc c)(n'':∀ks ds,d≠.dic ks ds):TyOf K H v (.type (tyD d).n):=by
 cases d with
 | non=>cases h.non;exact .non
 | bl b=>cases h.bl;exact .bl b
 | int i=>cases h.int;exact .int i
 | str x=>cases h.str;exact .str x
 | lst ds=>obtain⟨p,us,rfl,h1,_⟩:=h.lst s;exact .lst h1
 | tup ds=>obtain⟨p,us,rfl,h1,_⟩:=h.tup;exact .tup (s _ _ h1)
 | scr ns=>exact vL rfl (n ns)
 | exc c=>exact vL rfl (n' c)
 | dic ks ds=>exact vL rfl (n'' ks ds)
theorem qgv(d:D):tyD d≠.dic:=by cases d <;> exact λz=>nomatch z
theorem q2m{c:Ty}{x:Str}{p q pos:Pos}(ha:XV X a f)(hk:IsT X.K c)(hg:Gl X "isinstance")(hm:X.mg "isinstance" = none)(hgc:Gl X x)(hmc:X.mg x=none)(hvc:vf x=some (.type c.n))(hnx:x ≠ "__name__" := by decide)(hdx:(x==("__debug__" : Str))=false:=by decide)(he:vK [a,.Name x q] X.env=(false,eval a X.env)::vK [.Name x q] X.env:=by rfl)(he2:vK [.Name x q] X.env=(false,eval (.Name x q) X.env)::vK [] X.env:=by rfl)(hpl:(v3 pos (vK [.Name x q] X.env)).any (·.1)=false:=by rfl):
  XE X (.Call (.Name "isinstance" p) [a,.Name x q] [] pos) (zBo c f):=by
 obtain⟨t,h1,h2⟩:=ha;refine⟨_,q2r qdN hg hm PyProof.Rows.boot_isinstance (qv h1 (qv (qf8 hgc hmc hvc (v:=.ty c.n) rfl hnx hdx) qt he2) he) (by decide) (by decide) he hpl,λG0 H0 G ω σ H r Q o e k=>?_⟩;obtain⟨d,q,e⟩:=bnd e;refine h2 G0 H0 G ω σ H d _ o q λv G1 H1 x1 y1=>?_;have n:∀ns,d≠.scr ns:=λns z=>by subst z;cases e
 have n':∀c,d≠.exc c:=λns z=>by subst z;cases e
 have n'':∀ks ds,d≠.dic ks ds:=λks ds z=>by subst z;cases e
 have e':r=.sh (.bl (zBk (tyD d) c)):=by
  cases d <;> first|(cases e;rfl)|cases e
 subst e';exact⟨v,c.n,(tyD d).n,zBk (tyD d) c,rfl,qfx y1 x1.gh n n' n'',hk _ (qgv d),k _ G1 H1 x1 rfl⟩
end
inductive Out where
 | nx|bk|ct|rt (r:O)
noncomputable abbrev FS:=WSt->Option (Out×WSt)
def zA8(K:zA)(H0 G':Hp)(E:Ends):Out->St->Hp->Prop
 | .nx,σ,H=>E.nx σ H
 | .bk,σ,H=>E.bk σ H
 | .ct,σ,H=>E.ct σ H
 | .rt r,_,H=>∀v,zCN K H0 G' H r.r v->E.rt v H
def SimS(K:zA)(t:TS)(f:FS):Prop:=∀G0 H0 G ω σ H out ω'(E:Ends),Own K G0 H0 G ω σ H->f ω=some (out,ω') ->
 (∀G' σ' H',Own K G0 H0 G' ω' σ' H'->Yz G G'->zA8 K H0.hp G' E out σ' H')->t E σ H
def XS(X:Cx)(st:vx)(f:FS):Prop:=∃t,PS X st t/\SimS X.K t f
def XSs(X:Cx)(st:List vx)(f:FS):Prop:=∃t,PSs X st t/\SimS X.K t f
noncomputable def WQ:FS:=λω=>some (.nx,ω)
noncomputable def Y3(f g:FS):FS:=λω=>(f ω).bind λp=>match p.1 with
 | .nx=>g p.2
 | o=>some (o,p.2)
section
variable{X:Cx}{st:vx}{rest:List vx}{f g:FS}
theorem qr:XSs X [] WQ:=⟨_,qf3,λG0 H0 G ω σ H out ω' E o e k=>by cases e;exact k G σ H o (Yz.refl _)⟩
theorem qb(h:XS X st f):XSs X [st] f:=let ⟨t,h1,h2⟩:=h;⟨t,q0F h1,h2⟩
theorem qa(h:XS X st f)(h':XSs X rest g):XSs X (st::rest) (Y3 f g):=by
 obtain⟨t,h1,h2⟩:=h;obtain⟨u,h3,h4⟩:=h';refine⟨_,qy h1 h3,λG0 H0 G ω σ H out ω' E o e k=>?_⟩;obtain⟨⟨o1,ω1⟩,q,e⟩:=bnd e;refine h2 G0 H0 G ω σ H o1 ω1 _ o q λG1 σ1 H1 w1 g1=>?_;cases o1 with
 | nx=>exact h4 G0 H0 G1 ω1 σ1 H1 out ω' E w1 e λG2 σ2 H2 w2 g2=>k G2 σ2 H2 w2 (g1.trans g2)
 | bk=>cases e;exact k G1 σ1 H1 w1 g1
 | ct=>cases e;exact k G1 σ1 H1 w1 g1
 | rt r=>cases e;exact k G1 σ1 H1 w1 g1
end
section
variable{K:zA}{G0:Hp}{H0:Fr}{G:Hp}{ω:WSt}{σ:St}{H:Hp}
theorem qc{α:Type}{l:List α}{i j:Nat}{x y:α}(h:(l.set i x)[j]?=some y):(i=j/\i<l.length/\y=x)\/(i≠j/\l[j]?=some y):=by
 rw[List.getElem?_set]at h
 by_cases e:i=j
 ·rw[vC e]at h
  by_cases z:i<l.length
  ·rw[vC z]at h;exact .inl ⟨e,z,(zc h).symm⟩
  ·rw[vF z]at h;cases h
 ·rw[vF e]at h;exact .inr ⟨e,h⟩
theorem q1T{α:Type}{l:List α}{i:Nat}{x:α}(h:i<l.length):(l.set i x)[i]?=some x:=yL h
theorem Xp.set{i:Nat}{w:Option W}{v:Option V}(o:Xp K H0 G ω σ H)(hw:∀ds,w≠some (.pw ds))(hv:∀ds,w=some (.ow ds)->∀(j:Nat)es,ω[j]?=some (some (.pw es))->v≠some (.ref (H0.pin j))):Xp K H0 G (ω.set i w) (σ.set i v) H:=by
 intro j ds hj;rcases qc hj with⟨rfl,hl,z⟩|⟨ne,z⟩
 ·exact vL z.symm (hw ds)
 ·obtain⟨vs,h1,h2,h3,h4,h5,h6,h7⟩:=o j ds z
  refine⟨vs,by rw[zJ ne];exact h1,h2,h3,h4,h5,λk es hk=>?_,λk es hk sk=>?_⟩
  ·rcases qc hk with⟨rfl,hl',z'⟩|⟨ne',z'⟩
   ·exact vL z'.symm (hw es)
   ·exact h6 k es z'
  ·rcases qc hk with⟨rfl,hl',z'⟩|⟨ne',z'⟩
   ·rcases qc sk with⟨_,_,e⟩|⟨ne2,_⟩
    ·exact hv es z'.symm j ds z e.symm
    ·exact ne2 rfl
   ·rw[zJ ne']at sk;exact h7 k es z' sk
theorem Xp.setW{i:Nat}{w:Option W}(o:Xp K H0 G ω σ H)(hw:∀ds,w≠some (.pw ds))(ho:∀ds,w≠some (.ow ds)):Xp K H0 G (ω.set i w) σ H:=by
 intro j ds hj;rcases qc hj with⟨rfl,hl,z⟩|⟨ne,z⟩
 ·exact vL z.symm (hw ds)
 ·obtain⟨vs,h1,h2,h3,h4,h5,h6,h7⟩:=o j ds z
  refine⟨vs,h1,h2,h3,h4,h5,λk es hk=>?_,λk es hk=>?_⟩
  ·rcases qc hk with⟨rfl,hl',z'⟩|⟨ne',z'⟩
   ·exact vL z'.symm (hw es)
   ·exact h6 k es z'
  ·rcases qc hk with⟨rfl,hl',z'⟩|⟨ne',z'⟩
   ·exact vL z'.symm (ho es)
   ·exact h7 k es z'
theorem Xp.upd{p:vJ}{ob:HO}(o:Xp K H0 G ω σ H)(hp:∀(j:Nat)es,ω[j]?=some (some (.pw es))->H0.pin j≠p):Xp K H0 G ω σ (upd H p ob):=by
 intro j ds hj;obtain⟨vs,h1,h2,h3⟩:=o j ds hj;exact⟨vs,h1,by rw[qd (hp j ds hj)];exact h2,h3⟩
theorem Xp.grow{p:vJ}{ob:HO}(o:Xp K H0 G ω σ H)(g:G p=none)(hp:∀(j:Nat)es,ω[j]?=some (some (.pw es))->H0.pin j≠p):Xp K H0 (L2.upd G p ob) ω σ H:=by
 intro j ds hj;obtain⟨vs,h1,h2,h3,h4,h5,h6⟩:=o j ds hj;exact⟨vs,h1,h2,by rw[qd (hp j ds hj)];exact h3,h4,h5.mono (Xj g _),h6⟩
theorem Xp.ne_ow{i:Nat}{ds:List D}{l:vJ}(o:Xp K H0 G ω σ H)(hi:ω[i]?=some (some (.ow ds)))(hσ:σ[i]?=some (some (.ref l))):∀(j:Nat)es,ω[j]?=some (some (.pw es))->H0.pin j≠l:=λj es hj y=>by
 obtain⟨_,_,_,_,_,_,_,h7⟩:=o j es hj;exact h7 i ds hi (by rw[y];exact hσ)
theorem Xp.ne_ob{l:vJ}(o:Xp K H0 G ω σ H)(h:∀vs,H l≠some (.lst vs)):∀(j:Nat)es,ω[j]?=some (some (.pw es))->H0.pin j≠l:=λj es hj y=>by
 obtain⟨vs,_,h2,_⟩:=o j es hj;exact h vs (by rw[<- y];exact h2)
theorem Xp.setL{i:Nat}{ds es:List D}(o:Xp K H0 G ω σ H)(hi:ω[i]?=some (some (.ow ds))):Xp K H0 G (ω.set i (some (.ow es))) σ H:=by
 intro j ds' hj;rcases qc hj with⟨rfl,hl,z⟩|⟨ne,z⟩
 ·cases z
 ·obtain⟨vs,h1,h2,h3,h4,h5,h6,h7⟩:=o j ds' z
  refine⟨vs,h1,h2,h3,h4,h5,λk es hk=>?_,λk es hk=>?_⟩
  ·rcases qc hk with⟨rfl,hl',z'⟩|⟨ne',z'⟩
   ·cases z'
   ·exact h6 k es z'
  ·rcases qc hk with⟨rfl,hl',z'⟩|⟨ne',z'⟩
   ·exact h7 i ds hi
   ·exact h7 k es z'
theorem Own.od_set{i:Nat}{w:Option W}{v:Option V}(o:Own K G0 H0 G ω σ H)(h:∀ks ds,w≠some (.od ks ds)):∀(j:Nat)ks ds,(ω.set i w)[j]?=some (some (.od ks ds))->∃p vs,(σ.set i v)[j]?=some (some (.ref p))/\H p=some (.dK (kvsOf ks vs))/\G p=none/\H0 p=none/\ks.length=ds.length/\Yp K G ds vs /\
  ∀(k:Nat)ks' es,(ω.set i w)[k]?=some (some (.od ks' es))->(σ.set i v)[k]?=some (some (.ref p))->j=k:=by
 intro j ks ds hj;rcases qc hj with⟨rfl,hl,z⟩|⟨ne,z⟩
 ·exact vL z.symm (h ks ds)
 ·obtain⟨p,vs,h1,h2,h3,h4,h5,h6,h7⟩:=o.od j ks ds z
  refine⟨p,vs,by rw[zJ ne];exact h1,h2,h3,h4,h5,h6,λk ks' es hk sk=>?_⟩;rcases qc hk with⟨rfl,hl',z'⟩|⟨ne',z'⟩
  ·exact vL z'.symm (h ks' es)
  ·rw[zJ ne']at sk
   exact h7 k ks' es z' sk
theorem Own.setSh{i:Nat}{d:D}{v:V}(o:Own K G0 H0 G ω σ H)(h:Rep K G d v):Own K G0 H0 G (ω.set i ↥d) (σ.set i (some v)) H:=by
 refine⟨o.ext,by rw[yA,yA,o.len],λj e hj=>?_,λj ds hj=>?_,λj k ds es l hj hk sj sk=>?_,o.od_set (λ_ _ z=>by cases z),o.pw.set (λ_ z=>by cases z) (λ_ z=>by cases z)⟩
 ·rcases qc hj with⟨rfl,hl,z⟩|⟨ne,z⟩
  ·cases z;exact⟨v,q1T (by rw[<- o.len];exact hl),h⟩
  ·obtain⟨u,h1,h2⟩:=o.sh j e z
   exact⟨u,by rw[zJ ne];exact h1,h2⟩
 ·rcases qc hj with⟨rfl,hl,z⟩|⟨ne,z⟩
  ·cases z
  ·obtain⟨l,vs,h1,h2⟩:=o.ow j ds z
   exact⟨l,vs,by rw[zJ ne];exact h1,h2⟩
 ·rcases qc hj with⟨rfl,hl,z⟩|⟨ne,z⟩
  ·cases z
  ·rcases qc hk with⟨rfl,hl',z'⟩|⟨ne',z'⟩
   ·cases z'
   ·rw[zJ ne]at sj
    rw[zJ ne']at sk;exact o.nd j k ds es l z z' sj sk
theorem Own.setOw{i:Nat}{ds:List D}{l:vJ}{vs:List V}(o:Own K G0 H0 G ω σ H)(h1:H l=some (.lst vs))(h2:G l=none)(h3:H0 l=none)(h4:Yp K G ds vs)(h5:∀(j:Nat)es,ω[j]?=some (some (.ow es))->σ[j]?≠some (some (.ref l)))(h6:∀(j:Nat)es,ω[j]?=some (some (.pw es))->H0.pin j≠l):Own K G0 H0 G (ω.set i (some (.ow ds))) (σ.set i (some (.ref l))) H:=by
 refine⟨o.ext,by rw[yA,yA,o.len],λj e hj=>?_,λj es hj=>?_,λj k es fs m hj hk sj sk=>?_,o.od_set (λ_ _ z=>by cases z),o.pw.set (λ_ z=>by cases z) (λ_ _ j es hj y=>h6 j es hj (by cases y;rfl))⟩
 ·rcases qc hj with⟨rfl,hl,z⟩|⟨ne,z⟩
  ·cases z
  ·obtain⟨u,q1,q2⟩:=o.sh j e z
   exact⟨u,by rw[zJ ne];exact q1,q2⟩
 ·rcases qc hj with⟨rfl,hl,z⟩|⟨ne,z⟩
  ·cases z;exact⟨l,vs,q1T (by rw[<- o.len];exact hl),h1,h2,h3,h4⟩
  ·obtain⟨m,us,q1,q2⟩:=o.ow j es z
   exact⟨m,us,by rw[zJ ne];exact q1,q2⟩
 ·rcases qc hj with⟨e1,hl,z⟩|⟨ne,z⟩
  ·rcases qc hk with⟨e2,hl',z'⟩|⟨ne',z'⟩
   ·exact e1.symm.trans e2
   ·rw[zJ ne']at sk
    subst e1;rw[q1T (by rw[<- o.len];exact hl)]at sj;cases sj;exact vL sk (h5 k fs z')
  ·rcases qc hk with⟨e2,hl',z'⟩|⟨ne',z'⟩
   ·rw[zJ ne]at sj
    subst e2;rw[q1T (by rw[<- o.len];exact hl')]at sk;cases sk;exact vL sj (h5 j es z)
   ·rw[zJ ne]at sj
    rw[zJ ne']at sk;exact o.nd j k es fs m z z' sj sk
theorem Own.mut{i:Nat}{ds es:List D}{l:vJ}{vs us:List V}(o:Own K G0 H0 G ω σ H)(hi:ω[i]?=some (some (.ow ds)))(hσ:σ[i]?=some (some (.ref l)))(h1:H l=some (.lst vs))(h2:G l=none)(h3:H0 l=none)(h4:Yp K G es us):
  Own K G0 H0 G (ω.set i (some (.ow es))) σ (upd H l (.lst us)):=by
 have ho:i<ω.length:=(zf.mp hi).1;refine⟨⟨o.ext.gg,Yv o.ext.gh h2 _,Yv o.ext.hh h3 _,o.ext.new⟩,by rw[yA,o.len],λj e hj=>?_,λj fs hj=>?_,λj k fs gs m hj hk sj sk=>?_,λj ks fs hj=>?_,(o.pw.upd (o.pw.ne_ow hi hσ)).setL hi⟩
 ·rcases qc hj with⟨rfl,hl,z⟩|⟨ne,z⟩
  ·cases z
  ·exact o.sh j e z
 ·rcases qc hj with⟨rfl,hl,z⟩|⟨ne,z⟩
  ·cases z;exact⟨l,us,hσ,qe,h2,h3,h4⟩
  ·obtain⟨m,ws,q1,q2,q3,q4,q5⟩:=o.ow j fs z
   have hm:m≠l:=λy=>ne (o.nd i j ds fs l hi z hσ (by rw[<- y];exact q1));exact⟨m,ws,q1,by rw[qd hm];exact q2,q3,q4,q5⟩
 ·rcases qc hj with⟨e1,hl,z⟩|⟨ne,z⟩
  ·rcases qc hk with⟨e2,hl',z'⟩|⟨ne',z'⟩
   ·exact e1.symm.trans e2
   ·subst e1;exact o.nd i k ds gs m hi z' sj sk
  ·rcases qc hk with⟨e2,hl',z'⟩|⟨ne',z'⟩
   ·subst e2;exact o.nd j i fs ds m z hi sj sk
   ·exact o.nd j k fs gs m z z' sj sk
 ·rcases qc hj with⟨e1,hl,z⟩|⟨ne,z⟩
  ·cases z
  ·obtain⟨p,ws,q1,q2,q3,q4,q5,q6,q7⟩:=o.od j ks fs z
   have hp:p≠l:=λy=>by rw[y,h1]at q2;cases q2
   refine⟨p,ws,q1,by rw[qd hp];exact q2,q3,q4,q5,q6,λk ks' es hk sk=>?_⟩;rcases qc hk with⟨e2,hl',z'⟩|⟨ne',z'⟩
   ·cases z'
   ·exact q7 k ks' es z' sk
theorem Own.mutP{i:Nat}{ds es:List D}{us:List V}(o:Own K G0 H0 G ω σ H)(hi:ω[i]?=some (some (.pw ds)))(h4:Yp K G es us):
  Own K G0 H0 G (ω.set i (some (.pw es))) σ (L2.upd H (H0.pin i) (.lst us)):=by
 obtain⟨vs,p1,p2,p3,p4,p5,p6,p7⟩:=o.pw i ds hi;refine⟨⟨o.ext.gg,Yv o.ext.gh p3 _,Yv o.ext.hh p4 _,o.ext.new⟩,by rw[yA,o.len],λj e hj=>?_,λj fs hj=>?_,λj k fs gs m hj hk sj sk=>?_,λj ks fs hj=>?_,λj fs hj=>?_⟩
 ·rcases qc hj with⟨rfl,hl,z⟩|⟨ne,z⟩
  ·cases z
  ·exact o.sh j e z
 ·rcases qc hj with⟨rfl,hl,z⟩|⟨ne,z⟩
  ·cases z
  ·obtain⟨m,ws,q1,q2,q3,q4,q5⟩:=o.ow j fs z
   have hm:m≠H0.pin i:=λy=>p7 j fs z (by rw[<- y];exact q1);exact⟨m,ws,q1,by rw[qd hm];exact q2,q3,q4,q5⟩
 ·rcases qc hj with⟨e1,hl,z⟩|⟨ne,z⟩
  ·cases z
  ·rcases qc hk with⟨e2,hl',z'⟩|⟨ne',z'⟩
   ·cases z'
   ·exact o.nd j k fs gs m z z' sj sk
 ·rcases qc hj with⟨e1,hl,z⟩|⟨ne,z⟩
  ·cases z
  ·obtain⟨p,ws,q1,q2,q3,q4,q5,q6,q7⟩:=o.od j ks fs z
   have hp:p≠H0.pin i:=λy=>by rw[y,p2]at q2;cases q2
   refine⟨p,ws,q1,by rw[qd hp];exact q2,q3,q4,q5,q6,λk ks' es hk sk=>?_⟩;rcases qc hk with⟨e2,hl',z'⟩|⟨ne',z'⟩
   ·cases z'
   ·exact q7 k ks' es z' sk
 ·rcases qc hj with⟨rfl,hl,z⟩|⟨ne,z⟩
  ·cases z
   refine⟨us,p1,qe,p3,p4,h4,λk es hk y=>?_,λk es hk=>?_⟩
   ·rcases qc hk with⟨e2,hl',z'⟩|⟨ne',z'⟩
    ·exact e2.symm
    ·exact p6 k es z' y
   ·rcases qc hk with⟨e2,hl',z'⟩|⟨ne',z'⟩
    ·cases z'
    ·exact p7 k es z'
  ·obtain⟨ws,q1,q2,q3,q4,q5,q6,q7⟩:=o.pw j fs z
   have hp:H0.pin j≠H0.pin i:=λy=>ne (p6 j fs z y).symm;refine⟨ws,q1,by rw[qd hp];exact q2,q3,q4,q5,λk es hk y=>?_,λk es hk=>?_⟩
   ·rcases qc hk with⟨e2,hl',z'⟩|⟨ne',z'⟩
    ·subst e2;exact vL y (Ne.symm hp)
    ·exact q6 k es z' y
   ·rcases qc hk with⟨e2,hl',z'⟩|⟨ne',z'⟩
    ·cases z'
    ·exact q7 k es z'
theorem Own.setOd{i:Nat}{ks:List Int}{ds:List D}{p:vJ}{vs:List V}(o:Own K G0 H0 G ω σ H)(h1:H p=some (.dK (kvsOf ks vs)))(h2:G p=none)(h3:H0 p=none)(h4:ks.length=ds.length)(h5:Yp K G ds vs)(h6:∀(j:Nat)ks' es,ω[j]?=some (some (.od ks' es))->σ[j]?≠some (some (.ref p))):Own K G0 H0 G (ω.set i (some (.od ks ds))) (σ.set i (some (.ref p))) H:=by
 refine⟨o.ext,by rw[yA,yA,o.len],λj e hj=>?_,λj es hj=>?_,λj k es fs m hj hk sj sk=>?_,λj ks' es hj=>?_,o.pw.set (λ_ z=>by cases z) (λ_ z=>by cases z)⟩
 ·rcases qc hj with⟨rfl,hl,z⟩|⟨ne,z⟩
  ·cases z
  ·obtain⟨u,q1,q2⟩:=o.sh j e z
   exact⟨u,by rw[zJ ne];exact q1,q2⟩
 ·rcases qc hj with⟨rfl,hl,z⟩|⟨ne,z⟩
  ·cases z
  ·obtain⟨m,us,q1,q2⟩:=o.ow j es z
   exact⟨m,us,by rw[zJ ne];exact q1,q2⟩
 ·rcases qc hj with⟨e1,hl,z⟩|⟨ne,z⟩
  ·cases z
  ·rcases qc hk with⟨e2,hl',z'⟩|⟨ne',z'⟩
   ·cases z'
   ·rw[zJ ne]at sj
    rw[zJ ne']at sk;exact o.nd j k es fs m z z' sj sk
 ·rcases qc hj with⟨rfl,hl,z⟩|⟨ne,z⟩
  ·cases z
   refine⟨p,vs,q1T (by rw[<- o.len];exact hl),h1,h2,h3,h4,h5,λk ks'' fs hk sk=>?_⟩;rcases qc hk with⟨e2,hl',z'⟩|⟨ne',z'⟩
   ·exact e2
   ·rw[zJ ne']at sk
    exact vL sk (h6 k ks'' fs z')
  ·obtain⟨p',vs',q1,q2,q3,q4,q5,q6,q7⟩:=o.od j ks' es z
   refine⟨p',vs',by rw[zJ ne];exact q1,q2,q3,q4,q5,q6,λk ks'' fs hk sk=>?_⟩;rcases qc hk with⟨e2,hl',z'⟩|⟨ne',z'⟩
   ·subst e2
    rw[q1T (by rw[<- o.len];exact hl')]at sk;cases sk;exact vL q1 (h6 j ks' es z)
   ·rw[zJ ne']at sk
    exact q7 k ks'' fs z' sk
theorem Own.mutD{i:Nat}{ks ks2:List Int}{ds es:List D}{p:vJ}{vs us:List V}(o:Own K G0 H0 G ω σ H)(hi:ω[i]?=some (some (.od ks ds)))(hσ:σ[i]?=some (some (.ref p)))(h1:H p=some (.dK (kvsOf ks vs)))(h2:G p=none)(h3:H0 p=none)(h4:ks2.length=es.length)(h5:Yp K G es us):
  Own K G0 H0 G (ω.set i (some (.od ks2 es))) σ (upd H p (.dK (kvsOf ks2 us))):=by
 have ho:i<ω.length:=(zf.mp hi).1;refine⟨⟨o.ext.gg,Yv o.ext.gh h2 _,Yv o.ext.hh h3 _,o.ext.new⟩,by rw[yA,o.len],λj e hj=>?_,λj fs hj=>?_,λj k fs gs m hj hk sj sk=>?_,λj ks' fs hj=>?_,(o.pw.upd (o.pw.ne_ob λvs z=>by rw[h1]at z;cases z)).setW (λ_ z=>by cases z) (λ_ z=>by cases z)⟩
 ·rcases qc hj with⟨rfl,hl,z⟩|⟨ne,z⟩
  ·cases z
  ·exact o.sh j e z
 ·rcases qc hj with⟨rfl,hl,z⟩|⟨ne,z⟩
  ·cases z
  ·obtain⟨m,ws,q1,q2,q3,q4,q5⟩:=o.ow j fs z
   have hm:m≠p:=λy=>by rw[y,h1]at q2;cases q2
   exact⟨m,ws,q1,by rw[qd hm];exact q2,q3,q4,q5⟩
 ·rcases qc hj with⟨e1,hl,z⟩|⟨ne,z⟩
  ·cases z
  ·rcases qc hk with⟨e2,hl',z'⟩|⟨ne',z'⟩
   ·cases z'
   ·exact o.nd j k fs gs m z z' sj sk
 ·obtain⟨p0,vs0,r1,r2,r3,r4,r5,r6,r7⟩:=o.od i ks ds hi
  rw[hσ]at r1;cases r1;rcases qc hj with⟨rfl,hl,z⟩|⟨ne,z⟩
  ·cases z
   refine⟨p,us,hσ,qe,h2,h3,h4,h5,λk ks'' gs hk sk=>?_⟩;rcases qc hk with⟨e2,hl',z'⟩|⟨ne',z'⟩
   ·exact e2
   ·exact r7 k ks'' gs z' sk
  ·obtain⟨q,ws,q1,q2,q3,q4,q5,q6,q7⟩:=o.od j ks' fs z
   have hp:q≠p:=λy=>ne (r7 j ks' fs z (by rw[<- y];exact q1));refine⟨q,ws,q1,by rw[qd hp];exact q2,q3,q4,q5,q6,λk ks'' gs hk sk=>?_⟩;rcases qc hk with⟨e2,hl',z'⟩|⟨ne',z'⟩
   ·subst e2
    rw[hσ]at sk;cases sk;exact vL rfl hp
   ·exact q7 k ks'' gs z' sk
noncomputable def share(i:Nat)(ω:WSt):WSt:=match ω[i]? with
 | some (some (.ow ds))=>ω.set i ↥(.lst ds)
 | some (some (.od ks ds))=>ω.set i ↥(.dic ks ds)
 | _=>ω
theorem Own.share(i:Nat)(o:Own K G0 H0 G ω σ H):(∃G',Yz G G'/\Own K G0 H0 G' (share i ω) σ H)\/∃p kvs,σ[i]?=some (some (.ref p))/\H p=some (.dK kvs)/\∀ob,∃G',Yz G G'/\Own K G0 H0 G' (share i ω) σ (upd H p (.frz ob (.dK kvs))):=by
 unfold Hk.share;cases q:ω[i]? with
 | none=>exact .inl ⟨G,Yz.refl _,o⟩
 | some w=>
  cases w with
  | none=>exact .inl ⟨G,Yz.refl _,o⟩
  | some w=>
   cases w with
   | sh d=>exact .inl ⟨G,Yz.refl _,o⟩
   | pw ds=>exact .inl ⟨G,Yz.refl _,o⟩
   | ow ds=>
    obtain⟨l,vs,q1,q2,q3,q4,q5⟩:=o.ow i ds q;have s1:Yz G (upd G l (.lst vs)):=Xj q3 _;have ho:i<ω.length:=(zf.mp q).1;refine .inl ⟨upd G l (.lst vs),s1,⟨o.ext.gg.trans s1,λb u z=>?_,o.ext.hh,λb z1 z2=>?_⟩,by rw[yA,o.len],λj e hj=>?_,λj fs hj=>?_,λj k fs gs m hj hk sj sk=>?_,λj ks fs hj=>?_,(o.pw.grow q3 (o.pw.ne_ow q q1)).setW (λ_ z=>by cases z) (λ_ z=>by cases z)⟩
    ·by_cases hb:b=l
     ·subst hb;rw[qe]at z;rw[q2];exact z
     ·rw[qd hb]at z;exact o.ext.gh b u z
    ·rw[qd (λhb=>z2 (by rw[hb];exact q4))];exact o.ext.new b z1 z2
    ·rcases qc hj with⟨rfl,hl,z⟩|⟨ne,z⟩
     ·cases z;exact⟨_,q1,l,vs,rfl,qe,q5.mono s1⟩
     ·obtain⟨u,r1,r2⟩:=o.sh j e z
      exact⟨u,r1,r2.mono s1⟩
    ·rcases qc hj with⟨rfl,hl,z⟩|⟨ne,z⟩
     ·cases z
     ·obtain⟨m,ws,r1,r2,r3,r4,r5⟩:=o.ow j fs z
      have hm:m≠l:=λy=>ne (o.nd i j ds fs l q z q1 (by rw[<- y];exact r1));exact⟨m,ws,r1,r2,by rw[qd hm];exact r3,r4,r5.mono s1⟩
    ·rcases qc hj with⟨e1,hl,z⟩|⟨ne,z⟩
     ·cases z
     ·rcases qc hk with⟨e2,hl',z'⟩|⟨ne',z'⟩
      ·cases z'
      ·exact o.nd j k fs gs m z z' sj sk
    ·rcases qc hj with⟨e1,hl,z⟩|⟨ne,z⟩
     ·cases z
     ·obtain⟨m,ws,r1,r2,r3,r4,r5,r6,r7⟩:=o.od j ks fs z
      have hm:m≠l:=λy=>by rw[y,q2]at r2;cases r2
      refine⟨m,ws,r1,r2,by rw[qd hm];exact r3,r4,r5,r6.mono s1,λk ks' es hk sk=>?_⟩;rcases qc hk with⟨e2,hl',z'⟩|⟨ne',z'⟩
      ·cases z'
      ·exact r7 k ks' es z' sk
   | od ks0 ds=>
    obtain⟨l,vs,q1,q2,q3,q4,q6,q5,q7⟩:=o.od i ks0 ds q;refine .inr ⟨l,_,q1,q2,λob=>?_⟩;have s1:Yz G (upd G l (.frz ob (.dK (kvsOf ks0 vs)))):=Xj q3 _;have ho:i<ω.length:=(zf.mp q).1;refine⟨upd G l (.frz ob (.dK (kvsOf ks0 vs))),s1,⟨o.ext.gg.trans s1,zAI o.ext.gh _,Yv o.ext.hh q4 _,λb z1 z2=>?_⟩,by rw[yA,o.len],λj e hj=>?_,λj fs hj=>?_,λj k fs gs m hj hk sj sk=>?_,λj ks fs hj=>?_,((o.pw.upd (o.pw.ne_ob λvs z=>by rw[q2]at z;cases z)).grow q3 (o.pw.ne_ob λvs z=>by rw[q2]at z;cases z)).setW (λ_ z=>by cases z) (λ_ z=>by cases z)⟩
    ·rw[qd (λhb=>z2 (by rw[hb];exact q4))];exact o.ext.new b z1 z2
    ·rcases qc hj with⟨rfl,hl,z⟩|⟨ne,z⟩
     ·cases z;exact⟨_,q1,l,vs,rfl,⟨ob,qe⟩,q6,q5.mono s1⟩
     ·obtain⟨u,r1,r2⟩:=o.sh j e z
      exact⟨u,r1,r2.mono s1⟩
    ·rcases qc hj with⟨rfl,hl,z⟩|⟨ne,z⟩
     ·cases z
     ·obtain⟨m,ws,r1,r2,r3,r4,r5⟩:=o.ow j fs z
      have hm:m≠l:=λy=>by rw[y,q2]at r2;cases r2
      exact⟨m,ws,r1,by rw[qd hm];exact r2,by rw[qd hm];exact r3,r4,r5.mono s1⟩
    ·rcases qc hj with⟨e1,hl,z⟩|⟨ne,z⟩
     ·cases z
     ·rcases qc hk with⟨e2,hl',z'⟩|⟨ne',z'⟩
      ·cases z'
      ·exact o.nd j k fs gs m z z' sj sk
    ·rcases qc hj with⟨e1,hl,z⟩|⟨ne,z⟩
     ·cases z
     ·obtain⟨m,ws,r1,r2,r3,r4,r5,r6,r7⟩:=o.od j ks fs z
      have hm:m≠l:=λy=>ne (q7 j ks fs z (by rw[<- y];exact r1));refine⟨m,ws,r1,by rw[qd hm];exact r2,by rw[qd hm];exact r3,r4,r5,r6.mono s1,λk ks' es hk sk=>?_⟩;rcases qc hk with⟨e2,hl',z'⟩|⟨ne',z'⟩
      ·cases z'
      ·exact r7 k ks' es z' sk
end
theorem Inv.freeze{X:Cx}{pins:List (vJ×Obj)}{σ:St}{H:Hp}{s:vG}{p:vJ}{kvs:List (Key×V)}(I:Inv X pins σ H s)(hp:H p=some (.dK kvs)):∃ob,Inv X pins σ (upd H p (.frz ob (.dK kvs))) s:=by
 have ok:=I.hok p _ hp;obtain⟨_,_,_,_,ob,_,_,e,_⟩:=id ok;have stay:∀b u,Y6 X.prog X.w H s.heap b u->Y6 X.prog X.w (upd H p (.frz ob (.dK kvs))) s.heap b u:=λb u x=>
  x.stay (λ_ _ _ q=>q) (λc q=>by rw[qd (λz=>by rw[z,hp]at q;cases q)];exact q) λc xs q=>by rw[qd (λz=>by rw[z,hp]at q;cases q)];exact q
 refine⟨ob,I.step (H':=upd H p (.frz ob (.dK kvs))) (h':=s.heap) (g':=s.gens) (d':=s.drawn) (t':=s.toks) (ch:=[]) (λ_ z=>nomatch z) (λ_ _ _ _ _ e _=>e) (λ_ o _ _ _ e _=>⟨o.slots,e⟩) (λb o _ _ n=>by rw[qd (λz=>by rw[z,hp]at n;cases n)];exact n) (λ_ o _ e=>⟨o,e⟩)
  (λb xs q=>by rw[qd (λz=>by rw[z,hp]at q;cases q)];exact q) (λb o u q=>by rw[qd (λz=>by rw[z,hp]at q;cases q)];exact q) (λb ps q=>⟨#[],by rw[qd (λz=>by rw[z,hp]at q;cases q),q];simp⟩) (λ_ hm=>hm) (λb u q=>?_) I.bare⟩
 by_cases z:b=p
 ·subst z
  rw[qe]at q;cases q;exact⟨e,stay _ _ ok⟩
 ·rw[qd z]at q
  exact stay b u (I.hok b u q)
theorem q5L{X:Cx}{sts:List vx}{t:TS}(i:Nat)(h:PSs X sts t):PSs X sts (λD σ H=>∃p kvs,σ[i]?=some (some (.ref p))/\H p=some (.dK kvs)/\∀ob,t D σ (upd H p (.frz ob (.dK kvs)))):=by
 intro pins s σ H D I q;obtain⟨p,kvs,_,hp,q⟩:=q;obtain⟨ob,I'⟩:=Inv.freeze I hp;exact h pins s σ _ D I' (q ob)
noncomputable def zAH(i:Nat)(f:FS):FS:=λω=>f (share i ω)
theorem q3Q{X:Cx}{sts:List vx}{f:FS}(i:Nat)(h:XSs X sts f):XSs X sts (zAH i f):=by
 obtain⟨t,h1,h2⟩:=h;refine⟨λD σ H=>t D σ H\/∃p kvs,σ[i]?=some (some (.ref p))/\H p=some (.dK kvs)/\∀ob,t D σ (upd H p (.frz ob (.dK kvs))),λpins s σ H D I q=>?_,λG0 H0 G ω σ H out ω' E o e k=>?_⟩
 ·rcases q with q|q
  ·exact h1 pins s σ H D I q
  ·exact q5L i h1 pins s σ H D I q
 ·rcases o.share i with⟨G1,g1,o1⟩|⟨p,kvs,z1,z2,z3⟩
  ·exact .inl (h2 G0 H0 G1 _ σ H out ω' E o1 e λG2 σ2 H2 w2 g2=>k G2 σ2 H2 w2 (g1.trans g2))
  ·refine .inr ⟨p,kvs,z1,z2,λob=>?_⟩
   obtain⟨G1,g1,o1⟩:=z3 ob;exact h2 G0 H0 G1 _ σ _ out ω' E o1 e λG2 σ2 H2 w2 g2=>k G2 σ2 H2 w2 (g1.trans g2)
noncomputable def setR(i:Nat)(r:R)(ω:WSt):Option WSt:=match r with
 | .sh d=>some (ω.set i ↥d)
 | .fr ds=>some (ω.set i (some (.ow ds)))
 | .vw _=>none
noncomputable def Xg(i:Nat)(f:FE):FS:=λω=>(f ω).bind λr=>(setR i r ω).map λw=>(.nx,w)
section
variable{X:Cx}{e:vX}{f:FE}{pos pos':Pos}
theorem q9z{i:Nat}{t:TE}(h:zCr X.K t f):SimS X.K (zAj t (X2 i)) (Xg i f):=by
 intro G0 H0 G ω σ H out ω' E o e k;obtain⟨r,q,e⟩:=bnd e;obtain⟨w,q2,e⟩:=mpd e;cases e;refine h G0 H0 G ω σ H r _ o q λv G1 H1 x1 y1=>?_;have o1:=o.keep x1;show E.nx (σ.set i (some v)) H1;cases r with
 | sh d=>cases q2;exact k G1 _ H1 (o1.setSh y1) x1.gg
 | fr ds=>
  cases q2;obtain⟨l,vs,rfl,e2,e3,e4,e5⟩:=y1;refine k G1 _ H1 (o1.setOw e4 e3 (o.ext.hh.free e2) e5 (λj es hj z=>?_) λj es hj y=>?_) x1.gg
  ·obtain⟨m,us,q1,q2,_⟩:=o.ow j es hj
   rw[q1]at z;cases z;rw[e2]at q2;cases q2
  ·obtain⟨us,_,q2,_⟩:=o.pw j es hj
   rw[y,e2]at q2;cases q2
 | vw ds=>cases q2
theorem qm{i:Nat}{x:Str}(hN:X.N.Nodup)(hi:X.N[i]?=some x)(hx:Loc X.env.scope x)(he:XE X e f)(hs:vz e (some (.Name x pos')) pos.line X.env=pure false:=by rfl)(hf:X.fn x=true\/X.env.scope.names.lookup x=some .local:=by first|exact .inl rfl|exact .inr rfl|assumption):
  XS X (.Assign [.Name x pos'] e pos) (Xg i f):=let ⟨_,h1,h2⟩:=he;⟨_,q05 hN hi hx h1 hs hf,q9z h2⟩
noncomputable abbrev FG:=D->WSt->Option WSt
def SimG(K:zA)(g:TG)(fg:FG):Prop:=∀G0 H0 G ω σ H d v ω'(Q:St->Hp->Prop),Own K G0 H0 G ω σ H->fg d ω=some ω'->Rep K G d v->(∀σ',Own K G0 H0 G ω' σ' H->Q σ' H)->g v σ H Q
def XG(X:Cx)(tg:vX)(fg:FG):Prop:=∃g,PG X tg g/\SimG X.K g fg
noncomputable def gN(i:Nat):FG:=λd ω=>some (ω.set i ↥d)
theorem qg{i:Nat}{x:Str}(hN:X.N.Nodup)(hi:X.N[i]?=some x)(hx:Loc X.env.scope x)(hf:X.fn x=true\/X.env.scope.names.lookup x=some .local:=by first|exact .inl rfl|exact .inr rfl|assumption):XG X (.Name x pos) (gN i) :=
 ⟨_,q3d hN hi hx hf,λG0 H0 G ω σ H d v ω' Q o e h k=>by cases e;exact k _ (o.setSh h)⟩
def SimGs(K:zA)(g:TGs)(fg:List D->WSt->Option WSt):Prop:=∀G0 H0 G ω σ H ds vs ω'(Q:St->Hp->Prop),Own K G0 H0 G ω σ H->fg ds ω=some ω'->Yp K G ds vs->(∀σ',Own K G0 H0 G ω' σ' H->Q σ' H)->g vs σ H Q
def XGs(X:Cx)(tg:List vX)(fg:List D->WSt->Option WSt):Prop:=∃g,PGs X tg g/\SimGs X.K g fg
noncomputable def Xz:List D->WSt->Option WSt
 | [],ω=>some ω
 | _,_=>none
noncomputable def Yu(f:FG)(g:List D->WSt->Option WSt):List D->WSt->Option WSt
 | d::ds,ω=>(f d ω).bind λw=>g ds w
 | [],_=>none
theorem q3l:XGs X [] Xz:=⟨_,q9C,λG0 H0 G ω σ H ds vs ω' Q o e h k=>by
 cases ds with
 | nil=>cases e;cases (show vs=[]from h);exact⟨rfl,k σ o⟩
 | cons d r=>cases e⟩
theorem qO{es:List vX}{fg:FG}{gs:List D->WSt->Option WSt}(h:XG X e fg)(h':XGs X es gs)(hs:(uM (e::es) X.env).map (·.2)=assign e X.env::(uM es X.env).map (·.2):=by rfl):XGs X (e::es) (Yu fg gs):=by
 obtain⟨g,h1,h2⟩:=h;obtain⟨u,h3,h4⟩:=h';refine⟨_,q53 h1 h3 hs,λG0 H0 G ω σ H ds vs ω' Q o e h k=>?_⟩;cases ds with
 | nil=>cases e
 | cons d r=>
  obtain⟨w1,q,e1⟩:=bnd e;obtain⟨v,vr,rfl,r1,r2⟩:=h;exact⟨v,vr,rfl,h2 G0 H0 G ω σ H d v w1 _ o q r1 λσ1 o1=>h4 G0 H0 G w1 σ1 H r vr ω' Q o1 e1 r2 k⟩
noncomputable def gT(n:Nat)(g:List D->WSt->Option WSt):FG:=λd ω=>match d with
 | .tup ds=>if ds.length=n then g ds ω else none
 | _=>none
theorem q4g{es:List vX}{k n:Nat}{gs:List D->WSt->Option WSt}(hc:X.calm=true)(h:XGs X es gs)(hn:(uM es X.env).length=n:=by rfl)(hst:(uM es X.env).findIdx? (·.1)=none:=by rfl):XG X (.Tuple es k pos) (gT n gs):=by
 obtain⟨g,h1,h2⟩:=h;refine⟨_,qcF hc h1 hn hst,λG0 H0 G ω σ H d v ω' Q o e h k=>?_⟩;unfold gT at e;cases d with
 | tup ds=>
  dsimp only at e
  obtain⟨a,vs,rfl,r1,r2⟩:=h
  by_cases z:ds.length=n
  ·rw[vC z]at e
   exact⟨a,vs,rfl,SqT.of (o.gh _ _ r1),by rw[<- r2.len];exact z,h2 G0 H0 G ω σ H ds vs ω' Q o e r2 k⟩
  ·rw[vF z]at e;cases e
 | _=>cases e
end
noncomputable def sIf(c:FT)(f g:FS):FS:=λω=>(c ω).bind λb=>if b=true then f ω else g ω
noncomputable def XY(f:FE):FS:=λω=>(f ω).bind λr=>match r with
 | .sh d=>some (.rt (.sh d),ω)
 | .fr ds=>some (.rt (.fr ds),ω)
 | .vw _=>none
noncomputable def zAN(i:Nat):FS:=λω=>match ω[i]? with
 | some ↥d=>some (.rt (.sh d),ω)
 | some (some (.ow ds))=>some (.rt (.fr ds),ω)
 | _=>none
noncomputable def sNo:FS:=λ_=>none
noncomputable def zBV(f:FE):FS:=λω=>(f ω).map λ_=>(.nx,ω)
section
variable{X:Cx}{c e:vX}{a b:List vx}{st:vx}{pos:Pos}{fc:FT}{f g:FS}{fe:FE}
theorem qC(hc:XT X c fc)(ha:XSs X a f)(hb:XSs X b g):XS X (.If c a b pos) (sIf fc f g):=by
 obtain⟨t,h1,h2⟩:=hc;obtain⟨u,h3,h4⟩:=ha;obtain⟨w,h5,h6⟩:=hb;refine⟨_,qec h1 h3 h5,λG0 H0 G ω σ H out ω' E o e k=>?_⟩;obtain⟨z,q,e⟩:=bnd e;refine h2 G0 H0 G ω σ H z _ o q λG1 H1 x1=>?_;cases z with
 | true=>rw[vC rfl]at e ⊢;exact h4 G0 H0 G1 ω σ H1 out ω' E (o.keep x1) e λG2 σ2 H2 o2 g2=>k G2 σ2 H2 o2 (x1.gg.trans g2)
 | false=>exact h6 G0 H0 G1 ω σ H1 out ω' E (o.keep x1) e λG2 σ2 H2 o2 g2=>k G2 σ2 H2 o2 (x1.gg.trans g2)
theorem qh(he:XE X e fe):XS X (.Return (some e) pos) (XY fe):=by
 obtain⟨t,h1,h2⟩:=he;refine⟨_,q4l h1,λG0 H0 G ω σ H out ω' E o e k=>?_⟩;obtain⟨r,q,e⟩:=bnd e;refine h2 G0 H0 G ω σ H r _ o q λv G1 H1 x1 y1=>?_;cases r with
 | sh d=>cases e;exact k G1 σ H1 (o.keep x1) x1.gg v y1
 | fr ds=>
  cases e;obtain⟨l,vs,e1,e2,e3⟩:=y1;exact k G1 σ H1 (o.keep x1) x1.gg v ⟨l,vs,e1,o.ext.hh.free e2,e3⟩
 | vw ds=>cases e
theorem q4A{i:Nat}(he:PE X e (XL i)):XS X (.Return (some e) pos) (zAN i):=by
 refine⟨_,q4l he,λG0 H0 G ω σ H out ω' E o e k=>?_⟩;unfold zAN at e;cases q:ω[i]? with
 | none=>rw[q]at e;cases e
 | some w=>
  rw[q]at e;cases w with
  | none=>cases e
  | some w=>
   cases w with
   | sh d=>
    cases e;obtain⟨v,q1,q2⟩:=o.sh i d q;exact⟨v,q1,k G σ H o (Yz.refl _) v q2⟩
   | ow ds=>
    cases e;obtain⟨l,vs,q1,q2,q3,q4,q5⟩:=o.ow i ds q;exact⟨_,q1,k G σ H o (Yz.refl _) _ ⟨l,vs,rfl,q4,q3,q2,q5⟩⟩
   | od ks ds=>cases e
   | pw ds=>cases e
theorem qah:XS X st sNo:=⟨_,qdH,λG0 H0 G ω σ H out ω' E o e k=>by cases e⟩
theorem q6B(he:XE X e fe)(hs:vz e none pos.line X.env=pure false:=by rfl):XS X (.Expr e pos) (zBV fe):=by
 obtain⟨t,h1,h2⟩:=he;refine⟨_,q0E h1 hs,λG0 H0 G ω σ H out ω' E o e k=>?_⟩;obtain⟨r,q,e⟩:=mpd e;cases e;exact h2 G0 H0 G ω σ H r _ o q λv G1 H1 x1 y1=>k G1 σ H1 (o.keep x1) x1.gg
noncomputable def sApp(i:Nat)(f:FD):FS:=λω=>(f ω).bind λd=>match ω[i]? with
 | some (some (.ow ds))=>if ds.length<1000000 then some (.nx,ω.set i (some (.ow (ds++[d]))))else none
 | _=>none
theorem q7C{i:Nat}{o e:vX}{fd:FD}{apos cpos:Pos}(ho:PE X o (XL i))(he:XD X e fd)(hbase:uI o "append" X.env (eval o X.env)=eval o X.env:=by rfl)(hfew:((v3 cpos (vK [e] X.env)).all (λx=>!x.1)&&(u6 cpos (uY [] X.env)).all (λx=>x.1.isSome)
   && decide (([e]:List vX).length+([]:List uP).length+(if ([]:List uP).isEmpty then 0 else 1)<30))=true:=by rfl)
  (hline:(apos.endLine==cpos.line)=true:=by rfl) (hs:vK [e] X.env=(false,eval e X.env)::vK [] X.env:=by rfl) (hplain:(v3 cpos (vK [] X.env)).any (·.1)=false:=by rfl)
  (hsw:vz (.Call (.Attribute o "append" apos) [e] [] cpos) none pos.line X.env=pure false:=by rfl) :
  XS X (.Expr (.Call (.Attribute o "append" apos) [e] [] cpos) pos) (sApp i fd):=by
 obtain⟨t,h1,h2⟩:=he;refine⟨_,q0E (q2P PySem.F.plainAttrs_list PySem.F.slot_list_append PySem.F.type_list_append q0r ho (qv h1 qt hs) hbase hfew hline hs hplain) hsw,λG0 H0 G ω σ H out ω' E ow e k=>?_⟩;obtain⟨d,q,e⟩:=bnd e;cases q2:ω[i]? with
 | none=>rw[q2]at e;cases e
 | some w=>
  rw[q2]at e;cases w with
  | none=>cases e
  | some w=>
   cases w with
   | sh d=>cases e
   | od ks ds=>cases e
   | pw ds=>cases e
   | ow ds=>
    dsimp only at e
    by_cases z:ds.length<1000000
    ·rw[vC z]at e
     cases e;obtain⟨l,vs,r1,r2,r3,r4,r5⟩:=ow.ow i ds q2;refine⟨.ref l,r1,.inl ⟨rfl,vs,SqL.of r2⟩,h2 G0 H0 G ω σ H d _ ow q λv G1 H1 x1 y1=>?_⟩;have o1:=ow.keep x1;have hz:vs.length<sizeLine:=by rw[<- r5.len,vp];omega
     refine⟨l,vs,v,rfl,rfl,x1.hh _ _ r2,hz,?_⟩;exact k G1 σ _ (o1.mut q2 r1 (x1.hh _ _ r2) (x1.new l r3 (by rw[r2];exact λz=>by cases z)) r4 ((r5.mono x1.gg).app (Yp.cons y1 Yp.nil))) x1.gg
    ·rw[vF z]at e;cases e
end
end Hk
namespace PySem
open AutoSeq1 MeetsSeq MeetsSeq2 MeetsSeq3
theorem extTup(l b:vJ)(xs ys:Array vB)(n m:Nat)(dd:Option vJ)(sl:Array (Option vB))(h1:¬(!xs.isEmpty&&Builtin.List.listTooLong (xs.size+ys.size))=true)(h2:xs.size<=sizeLine)(h3:xs.size+ys.size<=sizeLine+1):
  Meets (Builtin.«list.extend» ⟨[.ref l,.ref b],[]⟩) (λ_ R s=>s.heap.get? l=some { cls:=.type "list", data:=.seq xs n }/\s.heap.get? b=some { cls:=.type "tuple", dict:=dd,data:=.seq ys m,slots:=sl } /\
   R (.ok (.ret Value.none)) { s with heap:=s.heap.update l (Obj.mapSeq λz=>z++ys),toks:=s.toks }) :=
 .of_wp λprog w A R s h=>by
  obtain⟨hp,g,d,tk,os⟩:=s;obtain⟨e1,e2,q⟩:=h;have p1:=idx_int;have p2:=sub_tuple_tuple;have p3:=sub_list_list;have p4:=sub_tuple_list;have p5:=sub_list_tuple;have fit:(xs++ys).size<=sizeLine+1:=by rw[Array.size_append];exact h3
  wp_walk using (ux e1 rfl (hz:=h2) (_hz':=fit)),wpAny_loadPart' e1,wpAny_loadPart' e2
  exact⟨_,rfl,q⟩
end PySem
namespace Hk
open PySem L2
section
variable{X:Cx}{pos:Pos}
def rExtA:V->List V->Hp->VK->Prop:=λx vs H Q=>zBT x vs H Q\/∃l b xs zs,x=.ref l/\vs=[.ref b]/\H l=some (.lst xs)/\H b=some (.tup zs)/\xs.length+zs.length<=sizeLine/\Q .non (upd H l (.lst (xs++zs)))
theorem qfd:MtR X "list.extend" rExtA:=by
 intro pins s σ H x vs v us Q I rx rv h;rcases h with h|h
 ·exact qcZ pins s σ H x vs v us Q I rx rv h
 obtain⟨l,b,xs,zs,rfl,rfl,hH,hB,hz,q⟩:=h;cases rx;obtain⟨u,rfl,ru⟩:=rv.one;cases ru;obtain⟨z,its,n,r,hl,e⟩:=I.lstM hH;obtain⟨its2,r2,⟨o2,e2,c2,n2,d2⟩,z2⟩:=I.tuple (SqT.of hB);have hl2:=r2.length;obtain⟨cls,dd,dt,sl⟩:=o2;cases c2;cases d2;have hsz:its.toArray.size+its2.toArray.size<=sizeLine:=by rw[zN,zN];omega
 have hlong:¬(!its.toArray.isEmpty&&Builtin.List.listTooLong (its.toArray.size+its2.toArray.size))=true:=by
  rw[Wy hsz,xi];exact yF
 refine u7 F.slot_list_extend ⟨_,e,rfl⟩ F.entry_list_extend (F.args_list_extend_2 _ _)
  (extTup l b its.toArray its2.toArray n n2 dd sl hlong (by rw[zN];omega) ∅) ⟨e,e2,?_⟩
 refine⟨.non,_,I.lset (its':=its++its2) hH e (by simp) (r.append r2) ?_,rfl,q⟩;rw[zC];omega
noncomputable def itemsOf:D->Option (List D)
 | .lst ds=>some ds
 | .tup ds=>some ds
 | _=>none
noncomputable def zCt(i:Nat)(f:FD):FS:=λω=>(f ω).bind λd=>(itemsOf d).bind λes=>match ω[i]? with
 | some (some (.ow ds))=>if ds.length+es.length<=1000000 then some (.nx,ω.set i (some (.ow (ds++es))))else none
 | _=>none
theorem q5O{i:Nat}{o e:vX}{fd:FD}{apos cpos:Pos}(ho:PE X o (XL i))(he:XD X e fd)(hbase:uI o "extend" X.env (eval o X.env)=eval o X.env:=by rfl)(hfew:((v3 cpos (vK [e] X.env)).all (λx=>!x.1)&&(u6 cpos (uY [] X.env)).all (λx=>x.1.isSome)
   && decide (([e]:List vX).length+([]:List uP).length+(if ([]:List uP).isEmpty then 0 else 1)<30))=true:=by rfl)
  (hline:(apos.endLine==cpos.line)=true:=by rfl) (hs:vK [e] X.env=(false,eval e X.env)::vK [] X.env:=by rfl) (hplain:(v3 cpos (vK [] X.env)).any (·.1)=false:=by rfl)
  (hsw:vz (.Call (.Attribute o "extend" apos) [e] [] cpos) none pos.line X.env=pure false:=by rfl) :
  XS X (.Expr (.Call (.Attribute o "extend" apos) [e] [] cpos) pos) (zCt i fd):=by
 obtain⟨t,h1,h2⟩:=he;refine⟨_,q0E (q2P PySem.F.plainAttrs_list PySem.F.slot_list_extend PySem.F.type_list_extend qfd ho (qv h1 qt hs) hbase hfew hline hs hplain) hsw,λG0 H0 G ω σ H out ω' E ow e k=>?_⟩;obtain⟨d,q,e⟩:=bnd e;obtain⟨es,q3,e⟩:=bnd e;cases q2:ω[i]? with
 | none=>rw[q2]at e;cases e
 | some w=>
  rw[q2]at e;cases w with
  | none=>cases e
  | some w=>
   cases w with
   | sh d=>cases e
   | od ks ds=>cases e
   | pw ds=>cases e
   | ow ds=>
    dsimp only at e
    by_cases z:ds.length+es.length<=1000000
    ·rw[vC z]at e
     cases e;obtain⟨l,vs,r1,r2,r3,r4,r5⟩:=ow.ow i ds q2;refine⟨.ref l,r1,.inl ⟨rfl,vs,SqL.of r2⟩,h2 G0 H0 G ω σ H d _ ow q λv G1 H1 x1 y1=>?_⟩;have o1:=ow.keep x1;have fin:∀us:List V,Yp X.K G1 es us->vs.length+us.length<=sizeLine/\zA8 X.K H0 G1 E .nx σ (upd H1 l (.lst (vs++us))):=λus hu=>
      ⟨by rw[<- r5.len,<- hu.len];exact q5j z,k G1 σ _ (o1.mut q2 r1 (x1.hh _ _ r2) (x1.new l r3 (by rw[r2];exact λz=>by cases z)) r4 ((r5.mono x1.gg).app hu)) x1.gg⟩
     cases d with
     | lst ds'=>
      cases q3;obtain⟨b,us,rfl,r6,r7⟩:=y1;obtain⟨f1,f2⟩:=fin us r7;exact .inl ⟨l,b,vs,us,rfl,rfl,x1.hh _ _ r2,x1.gh _ _ r6,f1,f2⟩
     | tup ds'=>
      cases q3;obtain⟨b,us,rfl,r6,r7⟩:=y1;obtain⟨f1,f2⟩:=fin us r7;exact .inr ⟨l,b,vs,us,rfl,rfl,x1.hh _ _ r2,x1.gh _ _ r6,f1,f2⟩
     | _=>cases q3
    ·rw[vF z]at e;cases e
end
structure IterOf (K:zA) (J:It) (G:Hp) (ds:List D):Prop where
 go:∀H i,Yz G H->i<ds.length->J.go i H
 yld:∀G2 H i x H' d,Yz G G2->Yz G2 H->ds[i]?=some d->J.yld i H x H'->∃G3,Ext G2 H G3 H'/\Rep K G3 d x
 stop:∀H,Yz G H->J.stop ds.length H
noncomputable abbrev FI:=WSt->Option (List D)
def SimI(K:zA)(wi:TI)(f:FI):Prop:=∀G0 H0 G ω σ H ds(R:It->Hp->Prop),Own K G0 H0 G ω σ H->f ω=some ds->(∀J G' H',Ext G H G' H'->IterOf K J G' ds->R J H')->wi σ H R
def XI(X:Cx)(tg iter:vX)(f:FI):Prop:=∃wi,PI X tg iter wi/\SimI X.K wi f
section
variable{X:Cx}{tg e:vX}
theorem qdf{K:zA}{G:Hp}{a:vJ}{ds:List D}{vs:List V}(h1:G a=some (.lst vs))(h2:Yp K G ds vs):IterOf K (Itl K a) G ds:=by
 refine⟨λH i s hi=>?_,λG2 H i x H' d s0 s1 hd hy=>?_,λH s=>⟨vs,SqL.of (s _ _ h1),by rw[h2.len];exact zK _⟩⟩
 ·have:i<vs.length:=by rw[<- h2.len];exact hi
  exact⟨vs,vs[i],SqL.of (s _ _ h1),zE this⟩
 ·obtain⟨e,y⟩:=hy
  obtain⟨v,q1,q2⟩:=h2.get hd;have:=y vs (SqL.of (s1 _ _ (s0 _ _ h1)));rw[q1]at this;cases this;subst e;exact⟨G2,Ext.refl s1,q2.mono s0⟩
theorem qdF{K:zA}{G:Hp}{a:vJ}{ds:List D}{vs:List V}(h1:G a=some (.tup vs))(h2:Yp K G ds vs):IterOf K (Itt K a) G ds:=by
 refine⟨λH i s hi=>?_,λG2 H i x H' d s0 s1 hd hy=>?_,λH s=>⟨vs,SqT.of (s _ _ h1),by rw[h2.len];exact zK _⟩⟩
 ·have:i<vs.length:=by rw[<- h2.len];exact hi
  exact⟨vs,vs[i],SqT.of (s _ _ h1),zE this⟩
 ·obtain⟨e,y⟩:=hy
  obtain⟨v,q1,q2⟩:=h2.get hd;have:=y vs (SqT.of (s1 _ _ (s0 _ _ h1)));rw[q1]at this;cases this;subst e;exact⟨G2,Ext.refl s1,q2.mono s0⟩
noncomputable def WH(f:FD):FI:=λω=>(f ω).bind itemsOf
theorem qu{f:FD}(h:XD X e f):XI X tg e (WH f):=by
 obtain⟨t,h1,h2⟩:=h;refine⟨λσ H R=>iList X.K t σ H R\/iTup X.K t σ H R,λpins s σ H R I q=>?_,λG0 H0 G ω σ H ds R o e k=>?_⟩
 ·rcases q with q|q
  ·exact q60 h1 pins s σ H R I q
  ·exact qgb h1 pins s σ H R I q
 ·obtain⟨d,q,e⟩:=bnd e
  cases d with
  | lst es=>
   cases e;refine .inl (h2 G0 H0 G ω σ H _ _ o q λv G1 H1 x1 ⟨a,vs,e1,e2,e3⟩=>⟨a,e1,⟨vs,SqL.of (x1.gh _ _ e2)⟩,k _ G1 H1 x1 (qdf e2 e3)⟩)
  | tup es=>
   cases e;refine .inr (h2 G0 H0 G ω σ H _ _ o q λv G1 H1 x1 ⟨a,vs,e1,e2,e3⟩=>⟨a,e1,⟨vs,SqT.of (x1.gh _ _ e2)⟩,k _ G1 H1 x1 (qdF e2 e3)⟩)
  | _=>cases e
noncomputable def upTo(lo:Int)(n:Nat):List D:=(zw n).map λ(i:Nat)=>D.int (lo+(i:Int))
theorem qdr{K:zA}{G:Hp}(lo:Int)(n:Nat):IterOf K (Itr lo n) G (upTo lo n):=by
 have hl:(upTo lo n).length=n:=by unfold upTo;rw[zB,zx]
 refine⟨λH i s hi=>by rw[hl]at hi;exact hi,λG2 H i x H' d s0 s1 hd hy=>?_,λH s=>by rw[hl];exact zK _⟩;obtain⟨e,y⟩:=hy;subst e;refine⟨G2,Ext.refl s1,?_⟩;unfold upTo at hd;rw[zV]at hd;have hi:i<n:=by
  rcases zz i n with z|z
  ·exact z
  ·rw[ze (by rw[zx];exact z)]at hd;cases hd
 rw[xE hi]at hd;cases hd;exact y
noncomputable def iRg1(g:FA):FI:=λω=>(g ω).bind λds=>match ds with
 | [.int j]=>if -(2^62)<=j/\j<2^62 then some (upTo 0 j.toNat)else none
 | _=>none
theorem q6U{a:vX}{g:FA}{p pos:Pos}(hg:Gl X "range")(hm:X.mg "range" = none)(ha:XVA X [a] g)(hs:vK [a] X.env=[(false,eval a X.env)]:=by rfl):XI X tg (.Call (.Name "range" p) [a] [] pos) (iRg1 g):=by
 obtain⟨t,h1,h2⟩:=ha;refine⟨_,qch hg hm h1 hs,λG0 H0 G ω σ H ds R o e k=>?_⟩;obtain⟨vs,q,e⟩:=bnd e;refine h2 G0 H0 G ω σ H vs _ o q λus G1 H1 x1 y1=>?_
 match vs,e with
 | [.int j],e=>
  dsimp only at e
  by_cases z:-(2^62)<=j/\j<2^62
  ·rw[vC z]at e
   cases e;obtain⟨v,rfl,y2⟩:=y1.one;cases y2.int;exact⟨j,rfl,z.1,z.2,k _ G1 H1 x1 (qdr _ _)⟩
  ·rw[vF z]at e;cases e
end
noncomputable def Wg(g:FG)(b:FS):List D->FS
 | [],ω=>some (.nx,ω)
 | d::ds,ω=>(g d ω).bind λw=>(b w).bind λp=>match p.1 with
  | .nx=>Wg g b ds p.2
  | .ct=>Wg g b ds p.2
  | .bk=>some (.nx,p.2)
  | .rt r=>some (.rt r,p.2)
noncomputable def zAX(fi:FI)(g:FG)(b:FS):FS:=λω=>(fi ω).bind λds=>Wg g b ds ω
section
variable{X:Cx}{tg iter:vX}{body:List vx}{pos:Pos}{fi:FI}{fg:FG}{fb:FS}
theorem q0m(hp:tM (model X.prog X.w) X.A X.env X.xe)(hc:X.calm=true)(hi:XI X tg iter fi)(hg:XG X tg fg)(hb:XSs X body fb)(hs:∀x,v4 iter X.env x=pure x:=by intro _;rfl):XS X (.For tg iter body [] pos) (zAX fi fg fb):=by
 obtain⟨wi,h1,h2⟩:=hi;obtain⟨g,h3,h4⟩:=hg;obtain⟨tb,h5,h6⟩:=hb;refine⟨_,q5D hp hc h1 h3 h5 hs,λG0 H0 G ω σ H out ω' E o e k=>?_⟩;obtain⟨ds,q,e⟩:=bnd e;refine h2 G0 H0 G ω σ H ds _ o q λJ G1 H1 x1 it=>?_;refine⟨λi m σ2 H2=>∃G2 ω2,Own X.K G0 H0 G2 ω2 σ2 H2/\Yz G1 G2/\Wg fg fb (ds.drop i) ω2=some (out,ω')/\i<=ds.length/\m=ds.length-i,⟨_,G1,ω,o.keep x1,Yz.refl _,e,yH _,rfl⟩,?_⟩;rintro i m σ2 H2 ⟨G2,ω2,o2,s2,f2,hi2,rfl⟩
 by_cases hlt:i<ds.length
 ·refine .inr ⟨it.go H2 i (s2.trans o2.gh) hlt,λσ3 H3=>∃G3 ω3,Own X.K G0 H0 G3 ω3 σ3 H3/\Yz G1 G3/\Wg fg fb (ds.drop (i+1)) ω3=some (out,ω'),λσ3 H3 ⟨G3,ω3,a1,a2,a3⟩=>⟨ds.length-(i+1),∅,G3,ω3,a1,a2,a3,hlt,rfl⟩,λx H3 hy=>?_⟩
  have hd:ds[i]?=some ds[i]:=zE hlt;obtain⟨G4,x4,rx⟩:=it.yld G2 H2 i x H3 ds[i] s2 o2.gh hd hy;have o2:=o2.keep x4;have s2:=s2.trans x4.gg;rw[xN hlt]at f2;obtain⟨w,q1,f2⟩:=bnd f2;obtain⟨⟨o3,ω3⟩,q2,f2⟩:=bnd f2;refine h4 G0 H0 G4 ω2 σ2 H3 ds[i] x w _ o2 q1 rx λσ4 o4=>?_;refine h6 G0 H0 G4 w σ4 H3 o3 ω3 _ o4 q2 λG5 σ5 H5 o5 s5=>?_;cases o3 with
  | nx=>exact⟨G5,ω3,o5,s2.trans s5,f2⟩
  | ct=>exact⟨G5,ω3,o5,s2.trans s5,f2⟩
  | bk=>cases f2;exact k G5 σ5 H5 o5 (x1.gg.trans (s2.trans s5))
  | rt r=>cases f2;exact k G5 σ5 H5 o5 (x1.gg.trans (s2.trans s5))
 ·have ei:i=ds.length:=∅
  subst ei;rw[wt]at f2;cases f2;exact .inl ⟨it.stop H2 (s2.trans o2.gh),k G2 σ2 H2 o2 (x1.gg.trans s2)⟩
end
noncomputable def XH(g:FG)(c:FT)(f:FD):List D->WSt->Option (List D)
 | [],_=>some []
 | d::ds,ω=>(g d ω).bind λw=>(c w).bind λb=>if b=true then (f w).bind λx=>(XH g c f ds w).map λr=>x::r else XH g c f ds w
noncomputable def W8:Option (Option W)->Option W
 | some ↥d=>↥d
 | _=>none
noncomputable def inW(M:Nat)(frees:List Nat)(ω:WSt):WSt:=zb M none++frees.map λj=>W8 ω[j]?
noncomputable def Xc(M:Nat)(frees:List Nat)(fi:FI)(g:FG)(c:FT)(f:FD):FE:=λω=>(fi ω).bind λds=>if ds.length<=1000000 then (XH g c f ds (inW M frees ω)).map R.fr else none
def XTs(X:Cx)(ifs:List vX)(f:FT):Prop:=∃t,PTs X ifs t/\zBM X.K t f
noncomputable def XF:FT:=λ_=>some true
theorem qU{X:Cx}:XTs X [] XF:=⟨_,qf6,λG0 H0 G ω σ H b Q o e k=>by cases e;exact k G H (Ext.refl o.gh)⟩
theorem q4s{X:Cx}{c:vX}{f:FT}(h:XT X c f):XTs X [c] f:=let ⟨t,h1,h2⟩:=h;⟨t,qeW h1,h2⟩
section
variable{X:Cx}{N:List Str}{M:Nat}{frees:List Nat}{scope:um}{tg iter elt:vX}{ifs:List vX}{pos:Pos}{fi:FI}{fg:FG}{fc:FT}{fe:FD}
def X3(ω:WSt):Prop:=∀(i:Nat)w,ω[i]?=some (some w)->∃d,w=.sh d
theorem X3.ow{ω:WSt}(h:X3 ω)(i:Nat)(ds:List D):ω[i]?≠some (some (.ow ds)):=λz=>by obtain⟨d,e⟩:=h i _ z;cases e
theorem X3.od{ω:WSt}(h:X3 ω)(i:Nat)(ks:List Int)(ds:List D):ω[i]?≠some (some (.od ks ds)):=λz=>by obtain⟨d,e⟩:=h i _ z;cases e
theorem X3.pw{ω:WSt}(h:X3 ω)(i:Nat)(ds:List D):ω[i]?≠some (some (.pw ds)):=λz=>by obtain⟨d,e⟩:=h i _ z;cases e
theorem q8w{wi:TI}{g:TG}{tc:TT}{te:TE}(h2:SimI X.K wi fi)(h4:SimG X.K g fg)(h6:zBM X.K tc fc)(h8:zBY X.K te fe)(hg:∀d ω ω',X3 ω->fg d ω=some ω'->X3 ω'):zCr X.K (zCP M frees wi g tc te) (Xc M frees fi fg fc fe):=by
 intro G0 H0 G ω σ H r Q o e k;obtain⟨ds,q,e⟩:=bnd e
 by_cases hz:ds.length<=1000000
 ·rw[vC hz]at e
  obtain⟨rs,q2,e⟩:=mpd e;subst e;refine h2 G0 H0 G ω σ H ds _ o q λJ G1 H1 x1 it=>?_;intro A hA;have ow0:X3 (inW M frees ω):=by
   intro i es z;unfold inW at z;rcases zz i M with y|y
   ·rw[zo ⇑y,yb,vC y]at z;cases z
   ·rw[zh ⇑y,yD,zV]at z
    cases e1:frees[i-M]? with
    | none=>rw[e1]at z;cases z
    | some j=>
     rw[e1]at z;have z':W8 ω[j]?=some es:=zc z;generalize ω[j]?=u at z';unfold W8 at z'
     split at z'
     ·cases z';exact⟨_,rfl⟩
     ·cases z'
  have own0:∀G2 H2,Yz G1 G2->Yz G2 H2->Own X.K G2 (fr H2) G2 (inW M frees ω) (zBl M frees σ) H2:=λG2 H2 s1 s2=>by
   have o1:=o.keep x1;refine⟨Ext.refl s2,by unfold inW zBl;simp,λi d hi=>?_,λi ds' hi=>vL hi (ow0.ow i ds'),λi j ds' es l hi=>vL hi (ow0.ow i ds'),λi ks ds' hi=>vL hi (ow0.od i ks ds'),Xp.no ow0.pw⟩;unfold inW at hi;unfold zBl;rcases zz i M with y|y
   ·rw[zo ⇑y,yb,vC y]at hi;cases hi
   ·rw[zh ⇑y,yD,zV]at hi ⊢
    cases e1:frees[i-M]? with
    | none=>rw[e1]at hi;cases hi
    | some j=>
     rw[e1]at hi;have hi':W8 ω[j]?=↥d:=zc hi;cases e2:ω[j]? with
     | none=>rw[e2]at hi';cases hi'
     | some w=>
      rw[e2]at hi';cases w with
      | none=>cases hi'
      | some w=>
       cases w with
       | ow _=>cases hi'
       | od _ _=>cases hi'
       | pw _=>cases hi'
       | sh d'=>
        cases hi';obtain⟨v,q3,q4⟩:=o1.sh j _ e2;exact⟨v,by rw[yi,q3];rfl,q4.mono s1⟩
  refine⟨λi m σ2 H2=>∃G2 ω2 accd accv,Own X.K G2 (fr H2) G2 ω2 σ2 H2/\X3 ω2/\Ext G1 H1 G2 H2/\G2 A=none/\H2 A=some (.lst accv)/\Yp X.K G2 accd accv/\accd.length<=i/\i<=ds.length/\m=ds.length-i /\
   ∃rest,XH fg fc fe (ds.drop i) ω2=some rest/\accd++rest=rs,⟨_,G1,inW M frees ω,[],[],own0 _ _ (Yz.refl _) (Yv x1.gh (x1.gh.free hA) _),ow0,Ext.hide x1.gh hA _,x1.gh.free hA,qe,Yp.nil,zK _,yH _,rfl,rs,q2,rfl⟩,?_⟩
  rintro i m σ2 H2 ⟨G2,ω2,accd,accv,o2,no2,x2,gA,hA2,ra,la,li,rfl,rest,cd,er⟩
  by_cases hlt:i<ds.length
  ·refine .inr ⟨it.go H2 i (x2.gg.trans x2.gh) hlt,λx H3 hy=>?_⟩
   have hd:ds[i]?=some ds[i]:=zE hlt;obtain⟨G4,x4,rx⟩:=it.yld G2 H2 i x H3 ds[i] x2.gg x2.gh hd hy;have o2':=o2.keep x4;have o2:Own X.K G4 (fr H3) G4 ω2 σ2 H3:=⟨Ext.refl x4.gh,o2'.len,o2'.sh,λi ds' hi=>vL hi (no2.ow i ds'),λi j ds' es l hi=>vL hi (no2.ow i ds'),λi ks ds' hi=>vL hi (no2.od i ks ds'),Xp.no no2.pw⟩;have gA:G4 A=none:=x4.new A gA (by rw[hA2];exact λz=>by cases z);have hA2:H3 A=some (.lst accv):=x4.hh _ _ hA2;have x2:=x2.trans x4;have ra:=ra.mono x4.gg;rw[xN hlt]at cd;obtain⟨w,q1,cd⟩:=bnd cd;obtain⟨b,q3,cd⟩:=bnd cd;have now:=hg _ _ _ no2 q1;refine h4 G4 (fr H3) G4 ω2 σ2 H3 ds[i] x w _ o2 q1 rx λσ4 o4=>?_;refine h6 G4 (fr H3) G4 w σ4 H3 b _ o4 q3 λG5 H5 x5=>?_;have o5:=o4.keep x5;have gA5:G5 A=none:=x5.new A gA (by rw[hA2];exact λz=>by cases z);have hA5:H5 A=some (.lst accv):=x5.hh _ _ hA2;cases b with
   | false=>
    rw[vF yF];rw[vF yF]at cd;have o6:Own X.K G5 (fr H5) G5 w σ4 H5:=⟨Ext.refl x5.gh,o5.len,o5.sh,λi ds' hi=>vL hi (now.ow i ds'),λi j ds' es l hi=>vL hi (now.ow i ds'),λi ks ds' hi=>vL hi (now.od i ks ds'),Xp.no now.pw⟩;exact⟨ds.length-(i+1),∅,G5,w,accd,accv,o6,now,x2.trans x5,gA5,hA5,ra.mono x5.gg,∅,hlt,rfl,rest,cd,er⟩
   | true=>
    rw[vC rfl]at cd ⊢;obtain⟨d,q4,cd⟩:=bnd cd;obtain⟨rest',q5,cd⟩:=mpd cd;subst cd;refine h8 G4 (fr H3) G5 w σ4 H5 d _ o5 q4 λv G6 H6 x6 y6=>?_;have gA6:G6 A=none:=x6.new A gA5 (by rw[hA5];exact λz=>by cases z);have hA6:H6 A=some (.lst accv):=x6.hh _ _ hA5;have x26:=(x2.trans x5).trans x6;have raa:=ra.mono (x5.gg.trans x6.gg);have hl:accv.length<sizeLine:=by rw[<- raa.len,vp];omega
    refine⟨accv,hA6,hl,ds.length-(i+1),∅,G6,w,accd++[d],accv++[v],?_,now,⟨x26.gg,Yv x26.gh gA6 _,Yv x26.hh hA _,x26.new⟩,gA6,qe,raa.app (Yp.cons y6 Yp.nil),by rw[zC,zk];omega,hlt,rfl,rest',q5,by rw[zP];exact er⟩;have o6:=o5.keep x6;exact⟨Ext.refl (Yv x6.gh gA6 _),o6.len,o6.sh,λi ds' hi=>vL hi (now.ow i ds'),λi j ds' es l hi=>vL hi (now.ow i ds'),λi ks ds' hi=>vL hi (now.od i ks ds'),Xp.no now.pw⟩
  ·have ei:i=ds.length:=∅
   subst ei;rw[wt]at cd;cases cd;rw[yJ]at er;subst er;refine .inl ⟨it.stop H2 (x2.gg.trans x2.gh),k _ G2 H2 (x1.trans x2) ⟨A,accv,rfl,x1.hh.free hA,gA,hA2,ra⟩⟩
 ·rw[vF hz]at e;cases e
theorem qde{ω:WSt}{i:Nat}{d:D}(h:X3 ω):X3 (ω.set i ↥d):=by
 intro j ds z;rcases qc z with⟨_,_,y⟩|⟨_,y⟩
 ·cases y;exact⟨d,rfl⟩
 ·exact h j ds y
def Tame(fg:FG):Prop:=∀d ω ω',X3 ω->fg d ω=some ω'->X3 ω'
def zB5(gs:List D->WSt->Option WSt):Prop:=∀ds ω ω',X3 ω->gs ds ω=some ω'->X3 ω'
theorem qB(i:Nat):Tame (gN i):=λd ω ω' h e=>by cases e;exact qde h
theorem q76:zB5 Xz:=λds ω ω' h e=>by
 cases ds with
 | nil=>cases e;exact h
 | cons _ _=>cases e
theorem q1x{fg:FG}{gs:List D->WSt->Option WSt}(h:Tame fg)(h':zB5 gs):zB5 (Yu fg gs):=λds ω ω' n e=>by
 cases ds with
 | nil=>cases e
 | cons d r=>obtain⟨w,q,e⟩:=bnd e;exact h' _ _ _ (h _ _ _ n q) e
theorem qcq{n:Nat}{gs:List D->WSt->Option WSt}(h:zB5 gs):Tame (gT n gs):=λd ω ω' no e=>by
 unfold gT at e;cases d with
 | tup ds=>
  dsimp only at e
  by_cases z:ds.length=n
  ·rw[vC z]at e;exact h _ _ _ no e
  ·rw[vF z]at e;cases e
 | _=>cases e
noncomputable def canD(K:zA)(f:FD):TE:=λσ H Q=>∃G0 H0 G ω d,Own K G0 H0 G ω σ H/\f ω=some d/\∀v G' H',Ext G H G' H'->Rep K G' d v->Q v H'
noncomputable def canT(K:zA)(f:FT):TT:=λσ H Q=>∃G0 H0 G ω b,Own K G0 H0 G ω σ H/\f ω=some b/\∀G' H',Ext G H G' H'->Q b H'
noncomputable def canG(K:zA)(f:FG):TG:=λv σ H Q=>∃G0 H0 G ω d ω',Own K G0 H0 G ω σ H/\f d ω=some ω'/\Rep K G d v/\∀σ',Own K G0 H0 G ω' σ' H->Q σ' H
theorem XD.can{X:Cx}{e:vX}{f:FD}(h:XD X e f):PE X e (canD X.K f):=λpins s σ H Q I ⟨G0,H0,G,ω,d,o,e,k⟩=>let ⟨_,h1,h2⟩:=h;h1 pins s σ H Q I (h2 G0 H0 G ω σ H d Q o e k)
theorem XTs.can{X:Cx}{e:List vX}{f:FT}(h:XTs X e f):PTs X e (canT X.K f):=λpins s σ H Q I ⟨G0,H0,G,ω,d,o,e,k⟩=>let ⟨_,h1,h2⟩:=h;h1 pins s σ H Q I (h2 G0 H0 G ω σ H d Q o e k)
theorem XG.can{X:Cx}{e:vX}{f:FG}(h:XG X e f):PG X e (canG X.K f):=λpins s σ H v u Q I r ⟨G0,H0,G,ω,d,ω',o,e,y,k⟩=>let ⟨_,h1,h2⟩:=h;h1 pins s σ H v u Q I r (h2 G0 H0 G ω σ H d v ω' Q o e y k)
theorem q7z{K:zA}{f:FD}:zBY K (canD K f) f:=λG0 H0 G ω σ H d Q o e k=>⟨G0,H0,G,ω,d,o,e,k⟩
theorem q85{K:zA}{f:FT}:zBM K (canT K f) f:=λG0 H0 G ω σ H d Q o e k=>⟨G0,H0,G,ω,d,o,e,k⟩
theorem q82{K:zA}{f:FG}:SimG K (canG K f) f:=λG0 H0 G ω σ H d v ω' Q o e y k=>⟨G0,H0,G,ω,d,ω',o,e,y,k⟩
theorem q03(hc:X.calm=true)(B:BlkOk X N M frees scope)(hi:XI X tg iter fi)(ht:Tame fg)(hb:∀C s H fp,XG (X7 X N scope C s H fp) tg fg/\XTs (X7 X N scope C s H fp) ifs fc/\XD (X7 X N scope C s H fp) elt fe)(hs:∀x,v4 iter X.env x=pure x:=by intro _;rfl):XE X (.ListComp elt [⟨tg,iter,ifs,0⟩] scope pos) (Xc M frees fi fg fc fe):=by
 obtain⟨wi,h1,h2⟩:=hi;have b4:∀C s H fp,PG (X7 X N scope C s H fp) tg (canG X.K fg)/\PTs (X7 X N scope C s H fp) ifs (canT X.K fc)/\PE (X7 X N scope C s H fp) elt (canD X.K fe):=λC s H fp=>⟨(hb C s H fp).1.can,(hb C s H fp).2.1.can,(hb C s H fp).2.2.can⟩;exact⟨_,qeJ hc B h1 b4 hs,q8w h2 q82 q85 q7z ht⟩
theorem q3g{i:Nat}{x:Str}{pos' spos:Pos}(hc:X.calm=true)(hN:X.N.Nodup)(hi':X.N[i]?=some x)(hx:X.env.scope.names.lookup x=some .local)(B:BlkOk X N M frees scope)(hi:XI X tg iter fi)(ht:Tame fg)(hb:∀C s H fp,XG (X7 X N scope C s H fp) tg fg/\XTs (X7 X N scope C s H fp) ifs fc/\XD (X7 X N scope C s H fp) elt fe)(hsw:vz (.ListComp elt [⟨tg,iter,ifs,0⟩] scope pos) (some (.Name x pos')) spos.line X.env=pure true:=by rfl)(hs:∀x,v4 iter X.env x=pure x:=by intro _;rfl):XS X (.Assign [.Name x pos'] (.ListComp elt [⟨tg,iter,ifs,0⟩] scope pos) spos) (Xg i (Xc M frees fi fg fc fe)):=by
 obtain⟨wi,h1,h2⟩:=hi;have b4:∀C s H fp,PG (X7 X N scope C s H fp) tg (canG X.K fg)/\PTs (X7 X N scope C s H fp) ifs (canT X.K fc)/\PE (X7 X N scope C s H fp) elt (canD X.K fe):=λC s H fp=>⟨(hb C s H fp).1.can,(hb C s H fp).2.1.can,(hb C s H fp).2.2.can⟩;exact⟨_,qeD hc hN hi' hx B h1 b4 hsw hs,q9z (q8w h2 q82 q85 q7z ht)⟩
def W6(X:Cx)(scope:um):List Str->List Nat->Prop
 | [],[]=>True
 | x::xs,j::js=>(X.N[j]?=some x/\(X.env.kindOf x=some .cell\/X.env.kindOf x=some .free)/\scope.names.lookup x=some .free)/\W6 X scope xs js
 | _,_=>False
theorem q5x{X:Cx}{scope:um}:∀{xs:List Str}{js:List Nat},W6 X scope xs js->∀(k:Nat)(x:Str),xs[k]?=some x->∃j,js[k]?=some j/\X.N[j]?=some x/\(X.env.kindOf x=some .cell\/X.env.kindOf x=some .free)/\scope.names.lookup x=some .free
 | [],_,_,_,_,e=>by simp at e
 | _::_,[],h,_,_,_=>h.elim
 | y::ys,i::is,⟨h1,h2⟩,0,x,e=>by
  have:y=x:=by simpa using e
  subst this;exact⟨i,rfl,h1⟩
 | y::ys,i::is,⟨h1,h2⟩,k+1,x,e=>by
  obtain⟨j,q⟩:=q5x h2 k x ⇑e;exact⟨j,by simpa using q.1,q.2⟩
theorem q4P{X:Cx}{scope:um}:∀{xs:List Str}{js:List Nat},W6 X scope xs js->xs.length=js.length
 | [],[],_=>rfl
 | [],_::_,h=>h.elim
 | _::_,[],h=>h.elim
 | _::ys,_::is,⟨_,h2⟩=>by rw[zD,zD,q4P h2]
theorem blk{X:Cx}{scope:um}(own free:List Str)(frees:List Nat)(h1:scope.kind=.function)(h2:∀y∈scope.names,y.2≠.cell)(h3:∀y∈scope.names,y.2=.local->scope.names.lookup y.1=some .local)(h4:(scope.names.all λp=>p.2 != .free || (X.env.cells.lookup p.1).isSome)=true)(h5:W6 X scope free frees):BlkOk X (own++free) own.length frees scope:=by
 refine⟨h1,h2,h3,λp hp hf=>?_,λk x e=>?_,by rw[zC,q4P h5]⟩
 ·have:=yf.mp h4 p hp
  rw[hf]at this;simpa using this
 ·rw[zh (Nat.le_add_right _ _),wq]at e
  exact q5x h5 k x e
end
noncomputable def entry(n:Nat)(ds:List D):WSt:=ds.map (λd=>↥d)++zb (n-ds.length) none
noncomputable def mir(n:Nat)(body:FS)(ds:List D):Option O:=match body (entry n ds)with
 | some (.rt r,_)=>some r
 | some (.nx,_)=>some (.sh .non)
 | _=>none
theorem qaX{K:zA}{H:Hp}{N:List Str}{ds:List D}{vs:List V}(h:Yp K H ds vs)(i:Nat)(d:D)(e:(entry N.length ds)[i]?=some ↥d):∃v,(L2.start N vs)[i]?=some (some v)/\Rep K H d v:=by
 unfold entry at e;unfold L2.start;have hl:=h.len;rcases zz i ds.length with y|y
 ·rw[zo ⇑y,zV]at e
  have e1:ds[i]?=some d:=by
   cases q:ds[i]? with
   | none=>rw[q]at e;cases e
   | some d'=>rw[q]at e;cases e;rfl
  obtain⟨v,q1,q2⟩:=h.get e1;refine⟨v,?_,q2⟩;rw[zo ⇑((∅:i<vs.length)),zV,q1];rfl
 ·rw[zh ⇑y,yb]at e
  split at e <;> cases e
theorem q2g{n:Nat}{ds:List D}:X3 (entry n ds):=by
 intro i es z;unfold entry at z;rcases zz i ds.length with y|y
 ·rw[zo ⇑y,zV]at z
  cases q:ds[i]? with
  | none=>rw[q]at z;cases z
  | some d=>rw[q]at z;cases z;exact⟨d,rfl⟩
 ·rw[zh ⇑y,yb]at z
  split at z <;> cases z
theorem fnD{P:vS}{w:vZ}{K:zA}{mg:Str->Option vB}{base:vn}{x qual:Str}{st:vx}{f:vJ}{fd:vP}{N ps:List Str}{k:Nat}{body:FS}(F:Fun K x qual st f fd)(S:FnScope N ps (Yk st))(hb:∀(cdv:vB)(A:vb)(outer:List Env)(s:vG)(H:Hp)(E:XK),Room k (A.deeper (PyProof.Rows.envOfC qual (Yk st) s.heap.objs.size f cdv))->XSs (zBA CX0 P w K mg base N qual (Yk st) f cdv A outer s H E).nox (Xf st) body):
  FnOk P w K mg base CX0 (k+1) f fd ps (spD K ps.length (mir N.length body)):=by
 refine F.ok S (λvs H Q E h=>?_) (λcdv A outer s H vs Q E hr h=>?_)
 ·obtain⟨G,ds,r,_,h2,_,h4,_⟩:=h
  rw[<- h4.len];exact h2
 ·obtain⟨G,ds,r,h1,h2,h3,h4,h5⟩:=h
  obtain⟨t,p1,p2⟩:=hb cdv A outer s H E hr;refine⟨t,p1,?_⟩;unfold mir at h1;have hl:=h4.len;have hpl:ps.length<=N.length:=by have:=uL xh S.pre;rw[zv]at this;omega
  have o0:Own K G (fr H) G (entry N.length ds) (L2.start N vs) H:=by
   refine⟨Ext.refl h3,?_,λi d e=>qaX h4 i d e,λi es e=>vL e (q2g.ow i es),λi j es fs l e=>vL e (q2g.ow i es),λi ks es e=>vL e (q2g.od i ks es),Xp.no q2g.pw⟩;unfold entry L2.start;simp only[zC,zB,yD];omega
  cases q:body (entry N.length ds)with
  | none=>rw[q]at h1;cases h1
  | some p=>
   obtain⟨out,ω'⟩:=p;rw[q]at h1;refine p2 G (fr H) G _ _ H out ω' _ o0 q λG' σ' H' o' s'=>?_;cases out with
   | nx=>cases h1;exact h5 _ G' H' o'.ext rfl
   | bk=>cases h1
   | ct=>cases h1
   | rt r'=>cases h1;exact λv y=>h5 v G' H' o'.ext y
theorem qL:vf "len" = some (.builtin "len"):=⋯
theorem q5R:vf "all" = some (.builtin "all"):=⋯
theorem qgG:vf "sum" = some (.builtin "sum"):=⋯
theorem qct:vf "min" = some (.builtin "min"):=⋯
theorem qcN:vf "max" = some (.builtin "max"):=⋯
theorem qgz:vf "abs" = some (.builtin "abs"):=⋯
theorem q45:vf "sorted" = some (.builtin "sorted"):=⋯
theorem qfY:vf "int" = some (.type "int"):=⋯
theorem qfm:vf "bool" = some (.type "bool"):=⋯
theorem q1V:vf "list" = some (.type "list"):=⋯
theorem q51:vf "tuple" = some (.type "tuple"):=⋯
theorem qfV:vf "set" = some (.type "set"):=⋯
noncomputable def zB4(o:Option (Out×WSt))(g:FS):Option (Out×WSt):=o.bind λp=>match p.1 with
 | .nx=>g p.2
 | o=>some (o,p.2)
noncomputable def setS(i:Nat)(ω:WSt)(o:Option R):Option (Out×WSt):=o.bind λr=>(setR i r ω).map λw=>(.nx,w)
noncomputable def ifS(c:Option Bool)(f g:FS)(ω:WSt):Option (Out×WSt):=c.bind λb=>if b=true then f ω else g ω
noncomputable def retS(ω:WSt)(o:Option R):Option (Out×WSt):=o.bind λr=>match r with
 | .sh d=>some (.rt (.sh d),ω)
 | .fr ds=>some (.rt (.fr ds),ω)
 | .vw _=>none
noncomputable def retV(ω:WSt)(o:Option (Option W)):Option (Out×WSt):=match o with
 | some ↥d=>some (.rt (.sh d),ω)
 | some (some (.ow ds))=>some (.rt (.fr ds),ω)
 | _=>none
noncomputable def appS(i:Nat)(ω:WSt)(o:Option D)(l:Option (Option W)):Option (Out×WSt):=o.bind λd=>match l with
 | some (some (.ow ds))=>if ds.length<1000000 then some (.nx,ω.set i (some (.ow (ds++[d]))))else none
 | _=>none
noncomputable def extS(i:Nat)(ω:WSt)(o:Option D)(l:Option (Option W)):Option (Out×WSt):=o.bind λd=>(itemsOf d).bind λes=>match l with
 | some (some (.ow ds))=>if ds.length+es.length<=1000000 then some (.nx,ω.set i (some (.ow (ds++es))))else none
 | _=>none
noncomputable def shrS(i:Nat)(ω:WSt)(o:Option (Option W)):WSt:=match o with
 | some (some (.ow ds))=>ω.set i ↥(.lst ds)
 | some (some (.od ks ds))=>ω.set i ↥(.dic ks ds)
 | _=>ω
noncomputable def forS(o:Option (List D))(g:FG)(b:FS)(ω:WSt):Option (Out×WSt):=o.bind λds=>Wg g b ds ω
noncomputable def zCF(o:Option (Option W)):Option R:=match o with
 | some ↥d=>↥d
 | some (some (.ow ds))=>some (.vw ds)
 | some (some (.pw ds))=>some (.vw ds)
 | _=>none
noncomputable def eD(o:Option D):Option R:=o.map R.sh
noncomputable def dR(o:Option R):Option D:=match o with
 | ↥d=>some d
 | some (.fr ds)=>some (.lst ds)
 | _=>none
noncomputable def vR(o:Option R):Option D:=o.map R.d
noncomputable def op2(op:D->D->Option R)(x y:Option D):Option R:=x.bind λx=>y.bind λy=>op x y
noncomputable def callR(m:List D->Option O)(o:Option (List D)):Option R:=o.bind λds=>(m ds).map O.r
noncomputable def consA(o:Option D)(r:Option (List D)):Option (List D):=o.bind λd=>r.map λds=>d::ds
noncomputable def bltR(op:List D->Option R)(o:Option (List D)):Option R:=o.bind op
noncomputable def slR(o:Option D)(l h:Option (Option Int)):Option R:=o.bind λd=>l.bind λlo=>h.bind λhi=>oSl d lo hi
noncomputable def atP(o:Option D):Option (Option Int):=o.bind λd=>match d with|.int i=>some (some i)|_=>none
noncomputable def isiR(c:Ty)(o:Option D):Option R:=o.bind λd=>match d with
 | .scr _=>none
 | .exc _=>none
 | .dic _ _=>none
 | d=>↥(.bl (zBk (tyD d) c))
noncomputable def tR(o:Option R):Option Bool:=match o with
 | ↥(.bl k)=>some k
 | _=>none
noncomputable def orT(o:Option Bool)(g:FT)(ω:WSt):Option Bool:=o.bind λc=>if c=true then some true else g ω
noncomputable def notT(o:Option Bool):Option Bool:=o.map (!·)
noncomputable def truT(o:Option D):Option Bool:=o.bind truD
noncomputable def andV(o:Option D)(g:FD)(ω:WSt):Option D:=o.bind λd=>(blOf d).bind λc=>if c=true then g ω else some (.bl false)
noncomputable def orV(o:Option D)(g:FD)(ω:WSt):Option D:=o.bind λd=>(blOf d).bind λc=>if c=true then some (.bl true)else g ω
noncomputable def seqI(o:Option D):Option (List D):=o.bind itemsOf
noncomputable def rg1I(o:Option (List D)):Option (List D):=o.bind λds=>match ds with
 | [.int j]=>if -(2^62)<=j/\j<2^62 then some (upTo 0 j.toNat)else none
 | _=>none
noncomputable def compR(M:Nat)(fr:List Nat)(o:Option (List D))(g:FG)(c:FT)(f:FD)(ω:WSt):Option R:=o.bind λds=>if ds.length<=1000000 then (XH g c f ds (inW M fr ω)).map R.fr else none
noncomputable def outM(o:Option (Out×WSt)):Option O:=match o with
 | some (.rt r,_)=>some r
 | some (.nx,_)=>some (.sh .non)
 | _=>none
section
variable{f g:FS}{ω w:WSt}{i:Nat}{fe fe':FE}{fd fd':FD}{ft ft':FT}{r:O}{d d':D}{ds ds':List D}{a b:Int}{p q:Bool}{fa:FA}{fg:FG}{fi:FI}{n:Nat}
theorem qap:mir n f ds=outM (f (entry n ds)):=rfl
theorem q4q:outM (some (.rt r,w))=some r:=rfl
theorem q5X:outM (some (.nx,w))=some (.sh .non):=rfl
theorem qx:Y3 f g ω=zB4 (f ω) g:=rfl
theorem q4p:zB4 (some (.nx,w)) g=g w:=rfl
theorem q6e:zB4 (some (.rt r,w)) g=some (.rt r,w):=rfl
theorem qai:WQ ω=some (.nx,ω):=rfl
theorem qaW:Xg i fe ω=setS i ω (fe ω):=rfl
theorem q63:setS i ω ↥d=some (.nx,ω.set i ↥d):=rfl
theorem q6q:setS i ω (some (.fr ds))=some (.nx,ω.set i (some (.ow ds))):=rfl
theorem e_if:sIf ft f g ω=ifS (ft ω) f g ω:=rfl
theorem q84:ifS (some true) f g ω=f ω:=rfl
theorem q8h:ifS (some false) f g ω=g ω:=rfl
theorem qb2:XY fe ω=retS ω (fe ω):=rfl
theorem q6g:retS ω ↥d=some (.rt (.sh d),ω):=rfl
theorem q61:retS ω (some (.fr ds))=some (.rt (.fr ds),ω):=rfl
theorem q5w:zAN i ω=retV ω ω[i]?:=rfl
theorem q4F:retV ω (some (some (.ow ds)))=some (.rt (.fr ds),ω):=rfl
theorem qbw:sApp i fd ω=appS i ω (fd ω) ω[i]?:=rfl
theorem zCw(h:ds.length<1000000):appS i ω (some d) (some (some (.ow ds)))=some (.nx,ω.set i (some (.ow (ds++[d])))):=vC h
theorem qbu:zCt i fd ω=extS i ω (fd ω) ω[i]?:=rfl
theorem q5n(h:ds.length+ds'.length<=1000000):extS i ω (some (.tup ds')) (some (some (.ow ds)))=some (.nx,ω.set i (some (.ow (ds++ds')))):=vC h
theorem q3m(h:ds.length+ds'.length<=1000000):extS i ω (some (.lst ds')) (some (some (.ow ds)))=some (.nx,ω.set i (some (.ow (ds++ds')))):=vC h
theorem q6D:zAH i f ω=f (shrS i ω ω[i]?):=rfl
theorem q6o:shrS i ω (some (some (.ow ds)))=ω.set i ↥(.lst ds):=rfl
theorem qbh:zAX fi fg f ω=forS (fi ω) fg f ω:=rfl
theorem e_fs:forS (some ds) fg f ω=Wg fg f ds ω:=rfl
theorem qaV:Yj i ω=zCF ω[i]?:=rfl
theorem q6v:zCF (some ↥d)=↥d:=rfl
theorem q5Z:zCF (some (some (.ow ds)))=some (.vw ds):=rfl
theorem e_c:fC d ω=some d:=rfl
theorem e_e:eOf fd ω=eD (fd ω):=rfl
theorem e_ed:eD (some d)=↥d:=rfl
theorem e_d:dOf fe ω=dR (fe ω):=rfl
theorem q5U:dR ↥d=some d:=rfl
theorem q6I:dR (some (.fr ds))=some (.lst ds):=rfl
theorem e_v:vOf fe ω=vR (fe ω):=rfl
theorem q6k:vR ↥d=some d:=rfl
theorem q69:vR (some (.fr ds))=some (.lst ds):=rfl
theorem q6K:vR (some (.vw ds))=some (.lst ds):=rfl
theorem e_op{op}:Yo op fd fd' ω=op2 op (fd ω) (fd' ω):=rfl
theorem e_o2{op}:op2 op (some d) (some d')=op d d':=rfl
theorem q83{m}:Yr m fa ω=callR m (fa ω):=rfl
theorem e_cl{m}:callR m (some ds)=(m ds).map O.r:=rfl
theorem q67:(O.sh d).r=.sh d:=rfl
theorem q6y:(O.fr ds).r=.fr ds:=rfl
theorem e_ac:Yi fd fa ω=consA (fd ω) (fa ω):=rfl
theorem e_ca:consA (some d) (some ds)=some (d::ds):=rfl
theorem e_an:Yq ω=some []:=rfl
theorem qaA:zAE fa ω=(fa ω).map R.fr:=rfl
theorem qaz:zAp fa ω=(fa ω).map D.tup:=rfl
theorem qbA{op}:Xq op fa ω=bltR op (fa ω):=rfl
theorem e_bl{op}:bltR op (some ds)=op ds:=rfl
theorem qaO{l h:FO}:fSl fd l h ω=slR (fd ω) (l ω) (h ω):=rfl
theorem e_sl{lo hi:Option Int}:slR (some d) (some lo) (some hi)=oSl d lo hi:=rfl
theorem e_po:pNo ω=some none:=rfl
theorem e_pa:pAt fd ω=atP (fd ω):=rfl
theorem e_ap:atP (some (.int a))=some (some a):=rfl
theorem qao{c}:zBo c fd ω=isiR c (fd ω):=rfl
theorem q3Z{c}:isiR c (some (.lst ds))=↥(.bl (zBk .lst c)):=rfl
theorem q42{c}:isiR c (some (.tup ds))=↥(.bl (zBk .tup c)):=rfl
theorem e_t:tOf fe ω=tR (fe ω):=rfl
theorem e_tr:tR ↥(.bl p)=some p:=rfl
theorem qax:(if p=true then some q else some false)=some (p&&q):=by cases p <;> rfl
theorem qaJ:zCB ft ft' ω=orT (ft ω) ft' ω:=rfl
theorem e_to:orT (some p) ft ω=if p=true then some true else ft ω:=rfl
theorem qbD:(if p=true then some true else some q)=some (p || q):=by cases p <;> rfl
theorem q8R:WM ft ω=notT (ft ω):=rfl
theorem e_tn:notT (some p)=some (!p):=rfl
theorem q8D:zAP fd ω=truT (fd ω):=rfl
theorem q6f:truT (some (.bl p))=some p:=rfl
theorem q4V:truT (some (.lst ds))=some (!ds.isEmpty):=rfl
theorem q8I:zAQ fd fd' ω=andV (fd ω) fd' ω:=rfl
theorem e_va:andV (some (.bl p)) fd ω=if p=true then fd ω else some (.bl false):=rfl
theorem qat:(if p=true then some (D.bl q)else some (D.bl false))=some (.bl (p&&q)):=by cases p <;> rfl
theorem qaQ:vOr fd fd' ω=orV (fd ω) fd' ω:=rfl
theorem e_vo:orV (some (.bl p)) fd ω=if p=true then some (.bl true)else fd ω:=rfl
theorem q7B:WH fd ω=seqI (fd ω):=rfl
theorem q8B:seqI (some (.lst ds))=some ds:=rfl
theorem q8E:seqI (some (.tup ds))=some ds:=rfl
theorem qaL:iRg1 fa ω=rg1I (fa ω):=rfl
theorem qgZ(h:-(2^62)<=a/\a<2^62):rg1I (some [.int a])=some (upTo 0 a.toNat):=vC h
theorem q8z{M fr}:Xc M fr fi fg ft fd ω=compR M fr (fi ω) fg ft fd ω:=rfl
theorem Wf{M fr}(h:ds.length<=1000000):compR M fr (some ds) fg ft fd ω=(XH fg ft fd ds (inW M fr ω)).map R.fr:=vC h
theorem qau:zB7 fd ω=(fd ω).bind oNeg:=rfl
theorem e_ng:oNeg (.int a)=↥(.int (-a)):=rfl
theorem q6j:WZ [.lst ds]=↥(.int ds.length):=rfl
theorem q6b:WZ [.tup ds]=↥(.int ds.length):=rfl
theorem q6E{ns}:WZ [.scr ns]=↥(.int ns.length):=rfl
theorem q8a:oEq false (.int a) (.int b)=↥(.bl (a==b)):=rfl
theorem q7U:oEq true (.int a) (.int b)=↥(.bl (!(a==b))):=rfl
theorem q6i:zBR (.int a) (.int b)=↥(.int (a-b)):=rfl
theorem q8N:oLt (.int a) (.int b)=↥(.bl (decide (a<b))):=rfl
theorem q7X:oLe (.int a) (.int b)=↥(.bl (decide (a<=b))):=rfl
theorem q8f:oGe (.int a) (.int b)=↥(.bl (decide (b<=a))):=rfl
theorem q6c:WD (.int a) (.int b)=↥(.int (a+b)):=rfl
theorem q68:oIs true (.bl p) (.bl q)=↥(.bl (!(p==q))):=rfl
theorem qb7:oIx (.lst ds) (.int a)=(atI ds a).map R.sh:=rfl
theorem qam:oIx (.tup ds) (.int a)=(atI ds a).map R.sh:=rfl
theorem qbm{ns:List Int}:oIx (.scr ns) (.int a)=(atI ns a).map λn=>.sh (.int n):=rfl
theorem q0p{α:Type}{xs:List α}{i:Int}(h0:0<=i)(h1:i<xs.length):atI xs i=some (xs[i.toNat]'∅):=by
 unfold atI ixN;rw[vC h0,vC h1];show xs[i.toNat]?=_;rw[zE ∅]
theorem at0{α:Type}{x:α}{xs:List α}:atI (x::xs) 0=some x:=by
 rw[q0p (by decide) (by rw[zD];omega)];rfl
theorem at1{α:Type}{x y:α}{xs:List α}:atI (x::y::xs) 1=some y:=by
 rw[q0p (by decide) (by rw[zD,zD];omega)];rfl
theorem at2{α:Type}{x y z:α}{xs:List α}:atI (x::y::z::xs) 2=some z:=by
 rw[q0p (by decide) (by rw[zD,zD,zD];omega)];rfl
theorem qeS{i j:Int}(h0:0<j)(h1:j<1073741824):cDiv i j=true:=by unfold cDiv;rw[vQ h0,vQ h1];rfl
theorem qf9{i j:Int}(h0:0<j):cMod i j=true:=by unfold cMod;rw[vQ h0]
theorem qdG{i j:Int}(h0:-(2^64)<j)(h1:j<2^64):zCZ i j=true:=by unfold zCZ;rw[vQ h0,vQ h1];simp
theorem qdk{i j:Int}(h0:-(2^64)<i)(h1:i<2^64):zCZ i j=true:=by unfold zCZ;rw[vQ h0,vQ h1];simp
theorem q2j(h:0<b):oMod (.int a) (.int b)=↥(.int (a%b)):=vC (qf9 h)
theorem q4y(h:0<b)(h':b<1073741824):oDiv (.int a) (.int b)=↥(.int (a/b)):=vC (qeS h h')
theorem qdY(h:-(2^64)<b)(h':b<2^64):zB3 (.int a) (.int b)=↥(.int (a*b)):=vC (qdG h h')
theorem q8k(h:-(2^64)<a)(h':a<2^64):zB3 (.int a) (.int b)=↥(.int (a*b)):=vC (qdk h h')
end
def W0(o:Option (Out×WSt))(P:WSt->Prop):Prop:=match o with
 | some (.nx,ω)=>P ω
 | some (.ct,ω)=>P ω
 | _=>False
theorem q4K{ω:WSt}{P:WSt->Prop}:W0 (some (.nx,ω)) P=P ω:=rfl
theorem q0h{α:Type}{g:FG}{b:FS}(F:α->D)(xs:List α)(I:List α->WSt->Prop)(turn:∀pre x post ω,xs=pre++x::post->I pre ω->∃w,g (F x) ω=some w/\W0 (b w) (I (pre++[x]))){ω:WSt}(h0:I [] ω):∃ω',Wg g b (xs.map F) ω=some (.nx,ω')/\I xs ω':=by
 have key:∀(post pre:List α)(ω:WSt),xs=pre++post->I pre ω->∃ω',Wg g b (post.map F) ω=some (.nx,ω')/\I xs ω':=by
  intro post
  induction post with
  | nil=>intro pre ω e h;exact⟨ω,rfl,by rw[e,yJ];exact h⟩
  | cons d post ih=>
   intro pre ω e h;obtain⟨w,h1,h2⟩:=turn pre d post ω e h;rw[zX,Wg,h1,yN]
   match hb:b w,h2 with
   | some (.nx,ω2),h2=>exact ih (pre++[d]) ω2 (by rw[e,zP];rfl) h2
   | some (.ct,ω2),h2=>exact ih (pre++[d]) ω2 (by rw[e,zP];rfl) h2
 exact key xs [] ω rfl h0
theorem q77{g:FG}{b:FS}(lo:Int)(n:Nat)(I:Nat->WSt->Prop)(turn:∀i ω,i<n->I i ω->∃w,g (.int (lo+i)) ω=some w/\W0 (b w) (I (i+1))){ω:WSt}(h0:I 0 ω):∃ω',Wg g b (Hk.upTo lo n) ω=some (.nx,ω')/\I n ω':=by
 unfold Hk.upTo;obtain⟨ω',e,h⟩:=q0h (g:=g) (b:=b) (λ(i:Nat)=>D.int (lo+(i:Int))) (zw n) (λpre ω=>I pre.length ω) (λpre x post ω e h=>by
  have hx:x=pre.length:=by
   have:=uL (λl=>l[pre.length]?) e;rw[zh (zK _),Z0]at this;rcases zz pre.length n with z|z
   ·rw[xE z]at this;simpa using this.symm
   ·rw[ze (by rw[zx];exact z)]at this;cases this
  have hlt:pre.length<n:=by
   have:=uL xh e;rw[zx,zC,zD]at this;omega
  subst hx;obtain⟨w,h1,h2⟩:=turn pre.length ω hlt h;refine⟨w,h1,?_⟩;rw[zC];exact h2) h0
 rw[zx]at h;exact⟨ω',e,h⟩
theorem q4a{g:FG}{c:FT}{f:FD}(P:WSt->Prop)(q:D->Bool)(F:D->D):∀(ds:List D){ω:WSt},P ω ->
  (∀d∈ds,∀ω,P ω->∃w,g d ω=some w/\P w/\c w=some (q d)/\(q d=true->f w=some (F d)))->XH g c f ds ω=some ((ds.filter q).map F)
 | [],_,_,_=>rfl
 | d::ds,ω,h,t=>by
  obtain⟨w,h1,h2,h3,h4⟩:=t d zI ω h;have ih:=q4a P q F ds h2 (λe he=>t e (zH _ he));rw[XH,h1,yN,h3,yN];cases hq:q d with
  | true=>rw[vC rfl,h4 hq,yN,ih,wu hq];rfl
  | false=>rw[vF (by decide),ih,wv (by rw[hq];decide)]
theorem q2U{i:Nat}{f:FD}(F:D->D)(ds:List D){ω:WSt}(h:∀d∈ds,f (ω.set i ↥d)=some (F d)):XH (gN i) XF f ds ω=some (ds.map F):=by
 have:=q4a (g:=gN i) (c:=XF) (f:=f) (λw=>∀x,w.set i x=ω.set i x) (λ_=>true) F ds (ω:=ω) (λx=>rfl) λd hd w hw=>
  ⟨w.set i ↥d,rfl,λx=>by rw[Z1,hw],rfl,λ_=>by rw[hw];exact h d hd⟩
 rw[this,ZU.mpr (λ_ _=>rfl)]
theorem q78{i:Nat}{c:FT}{f:FD}(q:D->Bool)(F:D->D)(ds:List D){ω:WSt}(h:∀d∈ds,c (ω.set i ↥d)=some (q d)/\(q d=true->f (ω.set i ↥d)=some (F d))):XH (gN i) c f ds ω=some ((ds.filter q).map F) :=
 q4a (g:=gN i) (c:=c) (f:=f) (λw=>∀x,w.set i x=ω.set i x) q F ds (ω:=ω) (λx=>rfl) λd hd w hw=>
  ⟨w.set i ↥d,rfl,λx=>by rw[Z1,hw],by rw[hw];exact(h d hd).1,λz=>by rw[hw];exact(h d hd).2 z⟩
theorem qed{ds:List D}{lo hi:Option Int}:oSl (.lst ds) lo hi=some (.fr (cutD ds lo hi)):=rfl
theorem qel{ns:List Int}{lo hi:Option Int}:oSl (.scr ns) lo hi=some (.fr ((cutD ns lo hi).map D.int)):=rfl
theorem q64{xs ys:List D}(h:xs.length+ys.length<=1000000):WD (.lst xs) (.lst ys)=some (.fr (xs++ys)):=vC h
theorem q7P(a:Int):∀(ns:List Int),inD (.int a) (ns.map D.int)=decide (a∈ns)
 | []=>rfl
 | n::r=>by
  have ih:=q7P a r;unfold inD inV at ih ⊢;rw[zX,zX,xu,ih];have e:eqV (D.int n).v (D.int a).v=decide (a=n):=by
   show (n==a)=_
   by_cases h:a=n
   ·subst h;simp
   ·rw[vW h];simpa using λz=>h z.symm
  rw[e]
  by_cases h:a=n
  ·simp[h]
  ·by_cases h':a∈r <;> simp[h,h']
theorem qdu(ns:List Int):(ns.map D.int).all Xr=true:=by
 rw[wF];exact yf.mpr λ_ _=>rfl
theorem q5M{a:Int}{ns:List Int}:oIn false (.int a) (.lst (ns.map D.int))=↥(.bl (decide (a∈ns))):=by
 show (if (Xr (.int a)&&(ns.map D.int).all Xr)=true then _ else _)=_;rw[qdu];show some (R.sh (D.bl (inD _ _)))=_;rw[q7P]
theorem q7A{ns:List Int}{i:Nat}(h:i<ns.length):atI (ns.map D.int) (i:Int)=some (.int ns[i]):=by
 rw[q0p ∅ (by rw[zB];omega)];simp
theorem qdB{d:D}(h:shp d=true):eqD d d=true:=SeqAt.eqv_refl d.py (SeqAt.canLay_of_shaped h)
theorem qdb{d:D}(h:shp d=true):oEq false d d=↥(.bl true):=by
 unfold oEq;rw[h];show some (R.sh (D.bl (eqD d d)))=_;rw[qdB h]
noncomputable def dep(d:D):Nat:=d.py.depth
theorem qfi{ds:List D}(n:Nat)(hn:n<64)(h:∀d∈ds,d.py.canLay0=true/\d.py.depth<=n):shp (.lst ds)=true:=by
 unfold shp SeqAt.shaped;have:∀ds:List D,(∀d∈ds,d.py.canLay0=true/\d.py.depth<=n)->PyData.canLayAll0 (D.pys ds)=true/\PyData.depthAll (D.pys ds)<=n:=by
  intro ds
  induction ds with
  | nil=>intro _;exact⟨rfl,yH _⟩
  | cons d ds ih=>
   intro h;obtain⟨a,b⟩:=ih λe he=>h e (zH _ he);obtain⟨a',b'⟩:=h d zI;refine⟨?_,?_⟩
   ·rw[D.pys,PyData.canLayAll0,a,a'];rfl
   ·rw[D.pys,PyData.depthAll];exact Nat.max_le.mpr ⟨b',b⟩
 obtain⟨a,b⟩:=this ds h;show (PyData.canLayAll0 (D.pys ds)&&decide (PyData.depthAll (D.pys ds)+1<=64))=true;rw[a,vQ ∅];rfl
noncomputable def zA0(x:Int):List Int->List Int
 | []=>[x]
 | y::r=>if x<y then x::y::r else if x=y then y::r else y::zA0 x r
noncomputable def XR(ns:List Int):List Int:=ns.foldr zA0 []
theorem q4S{x y:Int}:∀{l:List Int},y∈zA0 x l↔y=x\/y∈l
 | []=>by simp[zA0]
 | z::r=>by
  unfold zA0
  split
  ·simp
  ·split
   ·rename_i h;subst h;simp
   ·simp only[zG,q4S (l:=r)]
    constructor
    ·rintro(h|h|h) <;> simp[h]
    ·rintro(h|h|h) <;> simp[h]
theorem q6X{x:Int}:∀{l:List Int},l.Pairwise (· < ·)->(zA0 x l).Pairwise (· < ·)
 | [],_=>by simp[zA0]
 | z::r,h=>by
  obtain⟨h1,h2⟩:=zZ.mp h;unfold zA0
  split
  ·rename_i hx
   refine zZ.mpr ⟨λy hy=>?_,h⟩;rcases zG.mp hy with rfl|hy
   ·exact hx
   ·exact Z2 hx (h1 y hy)
  ·split
   ·exact h
   ·refine zZ.mpr ⟨λy hy=>?_,q6X h2⟩
    rcases q4S.mp hy with rfl|hy
    ·omega
    ·exact h1 y hy
theorem q2O{y:Int}:∀{ns:List Int},y∈XR ns↔y∈ns
 | []=>by simp[XR]
 | x::r=>by
  show y∈zA0 x (XR r)↔_;rw[q4S,q2O (ns:=r),zG]
theorem q0t:∀{ns:List Int},(XR ns).Pairwise (· < ·)
 | []=>y0
 | x::r=>q6X (q0t (ns:=r))
theorem q8O{x:Int}:∀(l:List Int),(zA0 x l).length<=l.length+1
 | []=>by simp[zA0]
 | z::r=>by
  have:=q8O (x:=x) r;unfold zA0
  split
  ·simp
  ·split
   ·simp
   ·rw[zD,zD];omega
theorem q24:∀(l:List Int),(XR l).length<=l.length
 | []=>zK _
 | x::r=>by
  have h1:=q8O (x:=x) (XR r);have h2:=q24 r;show (zA0 x (XR r)).length<=_;rw[zD];omega
theorem q62:∀{l m:List Int},l.Pairwise (· < ·)->m.Pairwise (· < ·)->(∀x,x∈l↔x∈m)->l=m
 | [],[],_,_,_=>rfl
 | [],y::r,_,_,h=>vL ((h y).mpr zI) (by simp)
 | x::r,[],_,_,h=>vL ((h x).mp zI) (by simp)
 | x::r,y::q,hl,hm,h=>by
  obtain⟨a1,a2⟩:=zZ.mp hl;obtain⟨b1,b2⟩:=zZ.mp hm;have e:x=y:=by
   rcases zG.mp ((h x).mp zI)with e|e
   ·exact e
   ·rcases zG.mp ((h y).mpr zI)with f|f
    ·exact f.symm
    ·have:=b1 x e;have:=a1 y f;omega
  subst e;rw[q62 a2 b2 λz=>?_]
  constructor
  ·intro hz
   rcases zG.mp ((h z).mp (zH _ hz))with f|f
   ·have:=a1 z hz;omega
   ·exact f
  ·intro hz
   rcases zG.mp ((h z).mpr (zH _ hz))with f|f
   ·have:=b1 z hz;omega
   ·exact f
theorem q9k{l:List Int}(h:l.Pairwise (· <= ·))(n:l.Nodup):l.Pairwise (· < ·):=by
 induction l with
 | nil=>exact y0
 | cons x r ih=>
  obtain⟨h1,h2⟩:=zZ.mp h;obtain⟨n1,n2⟩:=xC.mp n;refine zZ.mpr ⟨λy hy=>?_,ih h2 n2⟩;have:=h1 y hy;have:x≠y:=λe=>n1 (e▸hy);omega
def setP(w:vZ)(S:vJ)(ns:List Int):vn->Prop:=λh=>zBu h S (Xk w) (λi=>ns.getD i 0) ns.length
def rSet(w:vZ):List V->Hp->VK->Prop:=λxs H Q=>∃p ns,xs=[.ref p]/\H p=some (.lst (ns.map V.int))/\ns.length+1<4096/\∀S,H S=none->Q (.ref S) (upd H S (.ext (setP w S ns)))
def fewS(ns:List Int):Prop:=(XR ns).length<64/\ns.length<4000
noncomputable instance (ns:List Int):Decidable (fewS ns):=inferInstanceAs (Decidable (_/\_))
theorem qgB{ns:List Int}(h:ns.length<64):fewS ns:=⟨Zn (q24 ns) h,∅⟩
def rSortS(w:vZ):List V->Hp->VK->Prop:=λxs H Q=>∃S ns,xs=[.ref S]/\H S=some (.ext (setP w S ns))/\fewS ns/\∀l,H l=none->Q (.ref l) (upd H l (.lst ((XR ns).map V.int)))
section
variable{X:Cx}
theorem qcl{pins:List (vJ×Obj)}{σ:St}{H:Hp}{s:vG}(I:L2.Inv X pins σ H s)(d:Drawn):L2.Inv X pins σ H { s with drawn:=d } :=
 ⟨I.ok,I.os,I.bare,I.base,I.loc,I.cell,I.free,I.freeC,I.pin,I.hok,I.len⟩
theorem qdq(hc:X.calm=true):Xu X (.type "set") (rSet X.w):=by
 intro pins s σ H xs us Q I r h;obtain⟨p,ns,rfl,hp,hz,q⟩:=h;obtain⟨u,rfl,rx⟩:=vals1 r;cases rx;obtain⟨its,n,rv,e,_⟩:=I.lst hp;have ia:=q1k rv;have hlen:its.length=ns.length:=by rw[<- rv.length,zB]
 refine q9b (items:=its.toArray) (ns:=ns) (I.ok.hd hc) ⟨_,e,rfl,n,rfl⟩ ⇑ia (by rw[zN,hlen];exact hz) λh' tk sv kp=>?_;have hsz:its.toArray.size=ns.length:=by rw[zN,hlen]
 rw[hsz]at sv;refine⟨.ref s.heap.objs.size,_,I.laid (t':=tk) (λb o e=>kp b o (zM e) e) (zK _) (show Y6 X.prog X.w _ h' _ (.ext (setP X.w s.heap.objs.size ns))from ⟨sv,?_,λh1 h2 a1 a2=>a1.at a2⟩),rfl,q _ (I.hok.fresh (zK _))⟩;obtain⟨_,⟨o,_,_,_,e,_⟩,_⟩:=sv;exact⟨o,e⟩
theorem qaH(hc:X.calm=true):Xu X (.builtin "sorted") (rSortS X.w):=by
 intro pins s σ H xs us Q I r h;obtain⟨S,ns,rfl,hp,hz,q⟩:=h;obtain⟨u,rfl,rx⟩:=vals1 r;cases rx;obtain⟨⟨zs,SI,hl,hm⟩,_⟩:=I.hok S _ hp;obtain⟨o,es,ep,t,go,gx,gd,T,gl,gb,gg,gv,gn⟩:=id SI;have mz:∀x,x∈zs↔x∈XR ns:=λx=>by
  rw[hm,q2O]
  constructor
  ·rintro⟨i,hi,rfl⟩
   dsimp only
   rw[zU,zE hi];exact yu hi
  ·intro hx
   obtain⟨i,hi,e⟩:=zy.mp hx;exact⟨i,hi,by dsimp only;rw[zU,zE hi];exact e⟩
 have zl:=((List.perm_ext_iff_of_nodup gn ((q0t (ns:=ns)).imp λh=>∅)).mpr mz).length_eq;refine qbj (I.ok.hd hc) SI (by rw[zl];exact hz.1) λD h' tk d vs ys n kp hD hg ia pm pw=>?_;have ey:ys=XR ns:=q62 (q9k pw (pm.nodup_iff.mpr gn)) q0t λx=>by rw[pm.mem_iff,mz]
 subst ey;have hvl:vs.length=(XR ns).length:=PyProof.Rows.IntsAre.length ia;have hsl:(XR ns).length<=sizeLine:=by
  have:=pm.length_eq;exact yK (show (XR ns).length<=64 from yZ hz.1) (by decide)
 have I2:=qcl (I.laid (a:=D) (o:=.lst ((XR ns).map V.int)) (t':=tk) kp hD (show Y6 X.prog X.w _ h' _ (.lst _)from ⟨by rw[zB];exact hsl,vs,n,q22 ia,hg⟩)) d;exact⟨.ref D,_,I2,rfl,q _ (I.hok.fresh hD)⟩
noncomputable def intsOf:List D->Option (List Int)
 | []=>some []
 | .int i::r=>(intsOf r).map λl=>i::l
 | _=>none
theorem q1h:∀{ds:List D}{ns:List Int},intsOf ds=some ns->ds=ns.map D.int
 | [],_,e=>by cases e;rfl
 | .int c::r,b,e=>by
  obtain⟨k,q,e⟩:=mpd e;subst e;rw[q1h q];rfl
 | .non::_,_,e=>by cases e
 | .bl _::_,_,e=>by cases e
 | .str _::_,_,e=>by cases e
 | .lst _::_,_,e=>by cases e
 | .tup _::_,_,e=>by cases e
 | .scr _::_,_,e=>by cases e
 | .exc _::_,_,e=>by cases e
 | .dic _ _::_,_,e=>by cases e
theorem q0y:∀(ns:List Int),intsOf (ns.map D.int)=some ns
 | []=>rfl
 | n::r=>by show (intsOf (r.map D.int)).map _=_;rw[q0y r];rfl
noncomputable def W1:D->Option R
 | .lst ds=>(intsOf ds).bind λns=>if fewS ns then some (.fr ((XR ns).map D.int))else none
 | _=>none
noncomputable def WB(f:FD):FE:=λω=>(f ω).bind W1
theorem q5r{a:vX}{f:FD}{p1 p2 q1 q2:Pos}(hg1:Gl X "sorted")(hm1:X.mg "sorted" = none)(hg2:Gl X "set")(hm2:X.mg "set" = none)(ha:XV X a f)(hc:X.calm=true:=by rfl)(he1:vK [a] X.env=(false,eval a X.env)::vK [] X.env:=by rfl)(hpl1:(v3 q2 (vK [] X.env)).any (·.1)=false:=by rfl)(he2:vK [.Call (.Name "set" p2) [a] [] q2] X.env=(false,eval (.Call (.Name "set" p2) [a] [] q2) X.env)::vK [] X.env:=by rfl)(hpl2:(v3 q1 (vK [] X.env)).any (·.1)=false:=by rfl):
  XE X (.Call (.Name "sorted" p1) [.Call (.Name "set" p2) [a] [] q2] [] q1) (WB f):=by
 obtain⟨t,h1,h2⟩:=ha;refine⟨_,q2r (qaH hc) hg1 hm1 q45 (qv (q75 (qdq hc) hg2 hm2 qfV (qv h1 qt he1) (by decide) (by decide) he1 hpl1) qt he2) (by decide) (by decide) he2 hpl2,λG0 H0 G ω σ H r Q o e k=>?_⟩;obtain⟨d,q,e⟩:=bnd e;refine h2 G0 H0 G ω σ H d _ o q λv G1 H1 x1 y1=>?_;cases d with
 | lst ds=>
  obtain⟨ns,e1,e2⟩:=bnd (show (intsOf ds).bind _=some r from e);have hds:=q1h e1;subst hds
  by_cases hz:fewS ns
  ·rw[vC hz]at e2
   cases e2;obtain⟨p,vs,rfl,g1,g2⟩:=y1.lst x1.gh;have hv:=g2.of_ints;subst hv;refine⟨p,ns,rfl,g1,by have:=hz.2;omega,λS hS=>?_⟩;refine⟨S,ns,rfl,qe,hz,λl hl=>?_⟩;have x2:=Ext.hide x1.gh hS (.ext (setP X.w S ns));have x3:=Ext.hide x2.gh hl (.lst ((XR ns).map V.int));exact k _ G1 _ ((x1.trans x2).trans x3) ⟨l,_,rfl,(x1.trans x2).hh.free hl,x2.gh.free hl,qe,Yp.ints _⟩
  ·rw[vF hz]at e2;cases e2
 | _=>cases e
end
end Hk
namespace PySem.F
end PySem.F
namespace Hk
open PySem PySem.Spec PyProof.Rows
section
variable{prog:vS}{w:vZ}{A:vb}{E:vB->vG->Prop}{s:vG}
abbrev XZ(h:vn)(z TI TO:vJ)(f0 f1:vB):Prop:=h.get? z=some { cls:=.type "zip", dict:=none,data:=.fields #[f0,f1,.bool false,.ref TI,.ref TO],slots:=#[] }
theorem q8p{a:vJ}{Q:Option Obj->vG->Prop}(h:Q (s.heap.get? a) s):vN (model prog w) A (sQ a) Q E s:=λ_ _ _=>h
theorem q9q{z TI TO t:vJ}{ot:Obj}{f1:vB}{Q:Bool->vG->Prop}(hz:XZ s.heap z TI TO (v8 t) f1)(ht:s.heap.get? t=some ot)(k:∀h' f1',XZ h' z TI TO (v8 t) f1'->xP z s.heap h'->Q false { s with heap:=h' }):vN (model prog w) A (Builtin.SmallTypes.ownedTupleIsFree (.ref z)) Q E s:=by
 unfold Builtin.SmallTypes.ownedTupleIsFree;refine vA (vt hz rfl (x:=v8 t) rfl ?_);show vN _ _ (sQ ((t:Int)).toNat >>= _) _ _ _;rw[yE];refine vA (q8p ?_);rw[ht];show vN _ _ (field (.ref z) 1 >>= _) _ _ _;refine vA (vt hz rfl (x:=f1) rfl ?_);refine vc (λ_=>?_) (λ_=>?_)
 ·refine vA (vg hz (by simp) λh1 e1 sb=>vH (k h1 (.bool true) e1 sb))
 ·exact vH (k s.heap f1 hz (Zy z s.heap))
theorem qcL{z TI TO i1 i2 l1 l2 t:vJ}{ot:Obj}{f1:vB}{k1 k2:Nat}{xs ys:Array vB}{x y:vB}{Q:Option vB->vG->Prop}(D:tE z TI TO i1 i2 l1 l2)(hz:XZ s.heap z TI TO (v8 t) f1)(ht:s.heap.get? t=some ot)(hTI:uN s.heap TI (.ref i1) (.ref i2))(h1:s.heap.IsListIter i1 l1 k1)(h2:s.heap.IsListIter i2 l2 k2)(hl1:s.heap.IsList l1 xs)(hl2:s.heap.IsList l2 ys)(hx:xs[k1]?=some x)(hy:ys[k2]?=some y)(hQ:∀h' f1',XZ h' z TI TO (v8 t) f1'->h'.IsListIter i1 l1 (k1+1)->h'.IsListIter i2 l2 (k2+1)->uN h' s.heap.objs.size x y ->
   (∀c o,c≠z->c≠i1->c≠i2->s.heap.get? c=some o->h'.get? c=some o)->Q (some (.ref s.heap.objs.size)) { s with heap:=h' }) :
  vN (model prog w) A (uH (.ref z)) Q E s:=by
 have hT:s.TypeIs (.ref z) "zip" := ⟨_,hz,rfl⟩;unfold uH;refine vA (uJ (wpAny_callSpecial?_slot (name:=Str.ofString "__next__") hT PySem.F.slot_zip_next (ve PySem.F.slot_zip_next hT PySem.F.entry_zip_next ?_ (PySem.F.args_zip_next_1 _))));show vN _ _ (field (.ref z) 2 >>= _) _ _ _;refine vA (vt hz rfl (x:=.bool false) rfl ?_);show vN _ _ (field (.ref z) 3 >>= _) _ _ _;refine vA (vt hz rfl (x:=.ref TI) rfl ?_);refine vA (v6 hTI rfl ?_);show vN _ _ (Builtin.SmallTypes.ownedTupleIsFree (.ref z) >>= _) _ _ _;refine vA (q9q hz ht λh' f1' hz1 sb1=>?_);simp only[yc,if_false];have a1:=h1.extBut sb1.extBut D.i1z;have a2:=h2.extBut sb1.extBut D.i2z;have b1:=hl1.extBut sb1.extBut D.l1z;have b2:=hl2.extBut sb1.extBut D.l2z;rw[<- Zo];simp only[xw,wX];refine vA (vA (vA (vh ?_)));show vN _ _ (Builtin.SmallTypes.nextOf (.ref i1) >>= _) _ _ _;refine vA (v9 a1 b1 hx λh₂ c1 sb2=>vH ?_);refine vH ?_;refine vA (vA (vh ?_));show vN _ _ (Builtin.SmallTypes.nextOf (.ref i2) >>= _) _ _ _;refine vA (v9 (a2.extBut sb2.extBut D.i12.symm) (b2.extBut sb2.extBut D.l2i1) hy λh₃ c2 sb3=>vH ?_);refine vH (vH ?_);show vN _ _ (newTuple [x,y] >>= _) _ _ _;refine vA (tD ?_);have hsz:h₃.objs.size=s.heap.objs.size:=by rw[sb3.1,sb2.1,sb1.1]
 refine vH ⟨_,rfl,vH ?_⟩
 dsimp only
 rw[hsz];refine hQ _ f1' ?_ ?_ ?_ ?_ ?_
 ·exact zF _ (sb3.extBut _ _ D.i2z.symm (sb2.extBut _ _ D.i1z.symm hz1))
 ·exact(c1.extBut sb3.extBut D.i12).at λo e=>zF _ e
 ·exact c2.at λo e=>zF _ e
 ·have:=zQ h₃ (o:={ cls:=.type "tuple", data:=.seq [x,y].toArray }) rfl
  rw[hsz]at this;exact this
 ·exact λc o n1 n2 n3 e=>zF _ (sb3.extBut _ _ n3 (sb2.extBut _ _ n2 (sb1.extBut _ _ n1 e)))
theorem qdx{z TI TO i1 i2 l1 l2 t:vJ}{ot:Obj}{f1:vB}{k1 k2:Nat}{xs ys:Array vB}{Q:Option vB->vG->Prop}(hh:A.handled=none)(D:tE z TI TO i1 i2 l1 l2)(hz:XZ s.heap z TI TO (v8 t) f1)(ht:s.heap.get? t=some ot)(hTI:uN s.heap TI (.ref i1) (.ref i2))(h1:s.heap.IsListIter i1 l1 k1)(h2:s.heap.IsListIter i2 l2 k2)(hl1:s.heap.IsList l1 xs)(hl2:s.heap.IsList l2 ys)(hend:xs[k1]?=none\/ys[k2]?=none)(hQ:∀h',(∀c o,c≠z->c≠i1->c≠i2->s.heap.get? c=some o->h'.get? c=some o)->Q none { s with heap:=h' }):
  vN (model prog w) A (uH (.ref z)) Q E s:=by
 have hT:s.TypeIs (.ref z) "zip" := ⟨_,hz,rfl⟩;unfold uH;refine vA (uJ (wpAny_callSpecial?_slot (name:=Str.ofString "__next__") hT PySem.F.slot_zip_next (ve PySem.F.slot_zip_next hT PySem.F.entry_zip_next ?_ (PySem.F.args_zip_next_1 _))));show vN _ _ (field (.ref z) 2 >>= _) _ _ _;refine vA (vt hz rfl (x:=.bool false) rfl ?_);show vN _ _ (field (.ref z) 3 >>= _) _ _ _;refine vA (vt hz rfl (x:=.ref TI) rfl ?_);refine vA (v6 hTI rfl ?_);show vN _ _ (Builtin.SmallTypes.ownedTupleIsFree (.ref z) >>= _) _ _ _;refine vA (q9q hz ht λh' f1' hz1 sb1=>?_);simp only[yc,if_false];have a1:=h1.extBut sb1.extBut D.i1z;have a2:=h2.extBut sb1.extBut D.i2z;have b1:=hl1.extBut sb1.extBut D.l1z;have b2:=hl2.extBut sb1.extBut D.l2z;rw[<- Zo];simp only[xw,wX];refine vA (vA (vA (vh ?_)));show vN _ _ (Builtin.SmallTypes.nextOf (.ref i1) >>= _) _ _ _;cases hx:xs[k1]? with
 | none=>
  refine vA (uX hh a1 b1 hx λh₂ e sb2 he=>?_);obtain⟨o,ho,hc⟩:=he;refine vA (uC (T := "StopIteration") (b:=true) ⟨o,ho,hc⟩ uZ ?_);exact vH (hQ _ λc o n1 n2 n3 e=>sb2 _ _ n2 (sb1.extBut _ _ n1 e))
 | some x=>
  have hy:ys[k2]?=none:=by rcases hend with h|h;rw[hx]at h;cases h;exact h
  refine vA (v9 a1 b1 hx λh₂ c1 sb2=>vH ?_);refine vH ?_;refine vA (vA (vh ?_));show vN _ _ (Builtin.SmallTypes.nextOf (.ref i2) >>= _) _ _ _;refine vA (uX hh (a2.extBut sb2.extBut D.i12.symm) (b2.extBut sb2.extBut D.l2i1) hy λh₃ e sb3 he=>?_);obtain⟨o,ho,hc⟩:=he;refine vA (uC (T := "StopIteration") (b:=true) ⟨o,ho,hc⟩ uZ ?_);exact vH (hQ _ λc o n1 n2 n3 e=>sb3 _ _ n3 (sb2.extBut _ _ n2 (sb1.extBut _ _ n1 e)))
end
end Hk
namespace Hk
open PySem PySem.Spec PySem.W PyProof.Rows
section
variable{prog:vS}{w:vZ}{A:vb}{E:vB->vG->Prop}{R:sC->vG->Prop}{s:vG}
abbrev zCe(h:vn)(S:vJ)(acc:Array vB)(c:Nat):Prop:=h.get? S=some { cls:=.type "list", dict:=none,data:=.seq acc c,slots:=#[] }
end
end Hk
namespace Hk
open PySem L2
section
variable{X:Cx}{pins:List (vJ×Obj)}{σ:St}{H H':Hp}{s:vG}
theorem q7a{K:zA}{G:Hp}:∀{ds:List D}{ts:List vJ},ds.length=ts.length->(∀(j:Nat)d t,ds[j]?=some d->ts[j]?=some t->Rep K G d (.ref t))->Yp K G ds (ts.map V.ref)
 | [],[],_,_=>rfl
 | [],_::_,h,_=>by simp at h
 | _::_,[],h,_=>by simp at h
 | d::ds,t::ts,h,f=>⟨.ref t,_,rfl,f 0 d t rfl rfl,q7a ⇑h λj e u h1 h2=>f (j+1) e u ⇑h1 ⇑h2⟩
end
noncomputable def zAt:List Int->Int
 | []=>0
 | [x]=>x
 | x::y::r=>if x<=zAt (y::r)then zAt (y::r)else x
noncomputable def zAZ:List Int->Int
 | []=>0
 | [x]=>x
 | x::y::r=>if zAZ (y::r)<=x then zAZ (y::r)else x
theorem q9x:∀{ns:List Int},ns≠[]->zAt ns∈ns/\∀a∈ns,a<=zAt ns
 | [x],_=>⟨by simp[zAt],λa h=>by simp at h;subst h;exact yB _⟩
 | x::y::r,_=>by
  obtain⟨h1,h2⟩:=q9x (ns:=y::r) (by simp);unfold zAt
  split
  ·rename_i h
   refine⟨zH _ h1,λa ha=>?_⟩;rcases zG.mp ha with rfl|ha
   ·exact h
   ·exact h2 a ha
  ·rename_i h
   refine⟨zI,λa ha=>?_⟩;rcases zG.mp ha with rfl|ha
   ·exact yB _
   ·have:=h2 a ha;omega
theorem q9v:∀{ns:List Int},ns≠[]->zAZ ns∈ns/\∀a∈ns,zAZ ns<=a
 | [x],_=>⟨by simp[zAZ],λa h=>by simp at h;subst h;exact yB _⟩
 | x::y::r,_=>by
  obtain⟨h1,h2⟩:=q9v (ns:=y::r) (by simp);unfold zAZ
  split
  ·rename_i h
   refine⟨zH _ h1,λa ha=>?_⟩;rcases zG.mp ha with rfl|ha
   ·exact h
   ·exact h2 a ha
  ·rename_i h
   refine⟨zI,λa ha=>?_⟩;rcases zG.mp ha with rfl|ha
   ·exact yB _
   ·have:=h2 a ha;omega
section
variable{X:Cx}
end
noncomputable def whD(c:FT)(b:FS):Nat->FS
 | 0=>λ_=>none
 | n+1=>λω=>(c ω).bind λk=>if k=true then (b ω).bind (λp=>match p.1 with
   | .nx=>whD c b n p.2
   | .ct=>whD c b n p.2
   | .bk=>some (.nx,p.2)
   | .rt r=>some (.rt r,p.2))else some (.nx,ω)
noncomputable def sWh(n:Nat)(c:FT)(b:FS):FS:=whD c b n
section
variable{X:Cx}{c:vX}{body:List vx}{fc:FT}{fb:FS}{pos:Pos}{n:Nat}
theorem qd6{K:zA}{t:TT}{u:TS}(h2:zBM K t fc)(h4:SimS K u fb):SimS K (zBO t u) (sWh n fc fb):=by
 intro G0 H0 G ω σ H out ω' E o e k;refine⟨λm σ1 H1=>∃G1 ω1,Own K G0 H0 G1 ω1 σ1 H1/\Yz G G1/\whD fc fb m ω1=some (out,ω'),⟨n,G,ω,o,Yz.refl _,e⟩,λm σ1 H1 ⟨G1,ω1,o1,g1,e1⟩=>?_⟩;cases m with
 | zero=>cases e1
 | succ m=>
  obtain⟨b,q,e1⟩:=bnd e1;refine h2 G0 H0 G1 ω1 σ1 H1 b _ o1 q λG2 H2 x2=>?_;cases b with
  | false=>cases e1;exact k G2 σ1 H2 (o1.keep x2) (g1.trans x2.gg)
  | true=>
   rw[vC rfl];rw[vC rfl]at e1;obtain⟨⟨o3,ω3⟩,q3,e1⟩:=bnd e1;refine⟨λσ' H'=>∃G1 ω1,Own K G0 H0 G1 ω1 σ' H'/\Yz G G1/\whD fc fb m ω1=some (out,ω'),λσ' H' z=>⟨m,yW m,z⟩,?_⟩;refine h4 G0 H0 G2 ω1 σ1 H2 o3 ω3 _ (o1.keep x2) q3 λG4 σ4 H4 o4 g4=>?_;have gg:=(g1.trans x2.gg).trans g4;cases o3 with
   | nx=>exact⟨G4,ω3,o4,gg,e1⟩
   | ct=>exact⟨G4,ω3,o4,gg,e1⟩
   | bk=>cases e1;exact k G4 σ4 H4 o4 gg
   | rt r=>cases e1;exact k G4 σ4 H4 o4 gg
theorem q7R(hp:tM (model X.prog X.w) X.A X.env X.xe)(hc:XT X c fc)(hb:XSs X body fb):XS X (.While c body [] pos) (sWh n fc fb):=by
 obtain⟨t,h1,h2⟩:=hc;obtain⟨u,h3,h4⟩:=hb;exact⟨_,q8X hp h1 h3,qd6 h2 h4⟩
end
section
variable{fc:FT}{fb:FS}
def stepW(I:WSt->Prop)(μ:WSt->Nat)(m:Nat)(J:WSt->Prop)(o:Option (Out×WSt)):Prop:=match o with
 | some (.nx,w)=>I w/\μ w<m
 | some (.ct,w)=>I w/\μ w<m
 | some (.bk,w)=>J w
 | _=>False
theorem q7I(I:WSt->Prop)(μ:WSt->Nat)(J:WSt->Prop)(stop:∀ω,I ω->fc ω=some false->J ω)(turn:∀ω,I ω->∃k,fc ω=some k/\(k=true->stepW I μ (μ ω) J (fb ω))):
  ∀(n:Nat)(ω:WSt),I ω->μ ω<n->∃ω',whD fc fb n ω=some (.nx,ω')/\J ω'
 | 0,_,_,z=>vL z (xO _)
 | n+1,ω,h,z=>by
  obtain⟨k,e,t⟩:=turn ω h;show ∃ω',((fc ω).bind _)=_/\_;rw[e];cases k with
  | false=>exact⟨ω,rfl,stop ω h e⟩
  | true=>
   have t:=t rfl;rw[show ∀(f:Bool->Option (Out×WSt)),(some true).bind f=f true from λ_=>rfl,vC rfl];cases q:fb ω with
   | none=>rw[q]at t;exact t.elim
   | some p=>
    rw[q]at t;obtain⟨o,w⟩:=p;cases o with
    | nx=>exact q7I I μ J stop turn n w t.1 (by have:=t.2;omega)
    | ct=>exact q7I I μ J stop turn n w t.1 (by have:=t.2;omega)
    | bk=>exact⟨w,rfl,t⟩
    | rt r=>exact t.elim
theorem qgy{n:Nat}(I:WSt->Prop)(μ:WSt->Nat)(J:WSt->Prop)(stop:∀ω,I ω->fc ω=some false->J ω)(turn:∀ω,I ω->∃k,fc ω=some k/\(k=true->stepW I μ (μ ω) J (fb ω))){ω:WSt}(h:I ω)(z:μ ω<n):∃ω',sWh n fc fb ω=some (.nx,ω')/\J ω':=q7I I μ J stop turn n ω h z
end
section
variable{X:Cx}{pos:Pos}{o:vX}{apos cpos:Pos}{i:Nat}
end
noncomputable abbrev FM:=WSt->Option (D×WSt)
def SimM(K:zA)(t:TE)(f:FM):Prop:=∀G0 H0 G ω σ H d ω'(Q:VK),Own K G0 H0 G ω σ H->f ω=some (d,ω') ->
 (∀v G' H',Own K G0 H0 G' ω' σ H'->Yz G G'->Rep K G' d v->Q v H')->t σ H Q
def XM(X:Cx)(e:vX)(f:FM):Prop:=∃t,PE X e t/\SimM X.K t f
section
variable{X:Cx}{pos:Pos}{o e:vX}{apos cpos pos':Pos}{i:Nat}{fd:FD}{f:FM}
noncomputable def zBs(i:Nat)(f:FM):FS:=λω=>(f ω).map λp=>(.nx,p.2.set i (some (.sh p.1)))
theorem qfb{x:Str}(hN:X.N.Nodup)(hi:X.N[i]?=some x)(hx:Loc X.env.scope x)(he:XM X e f)(hs:vz e (some (.Name x pos')) pos.line X.env=pure false:=by rfl)(hf:X.fn x=true\/X.env.scope.names.lookup x=some .local:=by first|exact .inl rfl|exact .inr rfl|assumption):
  XS X (.Assign [.Name x pos'] e pos) (zBs i f):=by
 obtain⟨t,h1,h2⟩:=he;refine⟨_,q05 hN hi hx h1 hs hf,λG0 H0 G ω σ H out ω' E o e k=>?_⟩;unfold zBs at e;cases q:f ω with
 | none=>rw[q]at e;cases e
 | some p=>
  obtain⟨d,ω1⟩:=p;rw[q]at e;cases e;exact h2 G0 H0 G ω σ H d ω1 _ o q λv G1 H1 o1 g1 r1=>k G1 _ H1 (o1.setSh r1) g1
end
section
variable{X:Cx}{a b c:vX}{pos:Pos}{fa fb fc:FD}{op op':sM}{p p':Int->Int->Bool}
end
noncomputable def zCx(x:Int):List Int->List Int
 | []=>[x]
 | y::r=>if x<=y then x::y::r else y::zCx x r
noncomputable def Y7(ns:List Int):List Int:=ns.foldr zCx []
theorem q4o{x:Int}:∀{l:List Int},(zCx x l).Perm (x::l)
 | []=>.refl _
 | y::r=>by
  unfold zCx
  by_cases h:x<=y
  ·rw[vC h]
  ·rw[vF h];exact(q4o.cons y).trans (.swap x y r)
theorem qI:∀{l:List Int},(Y7 l).Perm l
 | []=>.refl _
 | y::r=>q4o.trans ((qI (l:=r)).cons y)
theorem q9o{x:Int}:∀{l:List Int},l.Pairwise (· <= ·)->(zCx x l).Pairwise (· <= ·)
 | [],_=>List.pairwise_singleton _ _
 | y::r,h=>by
  obtain⟨h1,h2⟩:=zZ.mp h;unfold zCx
  by_cases z:x<=y
  ·rw[vC z]
   refine zZ.mpr ⟨λa ha=>?_,h⟩;cases ha with
   | head=>exact z
   | tail _ ha=>exact yT z (h1 a ha)
  ·rw[vF z]
   refine zZ.mpr ⟨λa ha=>?_,q9o h2⟩;cases (q4o.mem_iff.mp ha:a∈x::r)with
   | head=>omega
   | tail _ ha=>exact h1 a ha
theorem q2s:∀{l:List Int},(Y7 l).Pairwise (· <= ·)
 | []=>.nil
 | y::r=>q9o (q2s (l:=r))
theorem q2i:∀{l m:List Int},l.Pairwise (· <= ·)->m.Pairwise (· <= ·)->l.Perm m->l=m
 | [],m,_,_,p=>(List.Perm.nil_eq p)
 | a::l,m,h,h',p=>by
  cases m with
  | nil=>exact vL p.length_eq (by simp)
  | cons b m=>
   obtain⟨h1,h2⟩:=zZ.mp h;obtain⟨h3,h4⟩:=zZ.mp h';have hab:a=b:=by
    have x1:a∈b::m:=p.mem_iff.mp (.head _);have x2:b∈a::l:=p.mem_iff.mpr (.head _);cases x1 with
    | head=>rfl
    | tail _ x1=>
     cases x2 with
     | head=>rfl
     | tail _ x2=>have:=h3 a x1;have:=h1 b x2;omega
   subst hab;rw[q2i h2 h4 p.cons_inv]
theorem q6N(l:List Int):(Y7 l).length=l.length:=qI.length_eq
theorem qdJ{l m:List Int}:Y7 l=Y7 m↔l.Perm m :=
 ⟨λh=>qI.symm.trans (h▸qI),λh=>q2i q2s q2s ((qI.trans h).trans qI.symm)⟩
section
variable{X:Cx}
end
end Hk
namespace Hk
open PySem PySem.Spec PyProof.Rows
theorem zB0:tS (.type "list_reverseiterator") "__len__" = pure none:=by rw[uV,uA];kernel_rfl
theorem zCq:tS (.type "list_reverseiterator") "__length_hint__" = pure (some (.builtin "list_reverseiterator.__length_hint__")):=by rw[uV,uA];kernel_rfl
section
variable{prog:vS}{w:vZ}{A:vb}{E:vB->vG->Prop}{s:vG}
theorem qdQ{r:vJ}{Q:Bool->vG->Prop}(hT:s.TypeIs (.ref r) "list_reverseiterator")(h:Q false s):vN (model prog w) A (Builtin.List.listLengthHint (.ref r)) Q E s:=by
 unfold Builtin.List.listLengthHint;refine vA (uw hT zB0 ?_);show vN _ A (specialOf (Value.ref r) (Str.ofString "__length_hint__") >>= _) _ _ _;refine vA (uw hT zCq ?_);generalize hid:("list_reverseiterator.__length_hint__" : String)=id0
 wp_delta
 rw[show splitId id0=some ("list_reverseiterator", "__length_hint__")from by subst hid;decide +kernel];subst hid;refine vA (uC (T := "list_reverseiterator") (b:=true) hT (by rw[uk];kernel_rfl) ?_);refine vc (λhab=>vL hab (by decide)) (λ_=>?_);refine vc (λ_=>?_) (λhab=>vL ⋯ hab);refine vc (λhab=>vL hab ⋯) (λ_=>?_);exact vH h
theorem qb3{R:sC->vG->Prop}{S I l:vJ}{items:Array vB}{res:vB}{c₀:Nat}(hh:A.handled=none)(hn:items.size<=sizeLine)(hSI:S≠I)(hSl:S≠l)(hne:l≠I)(hit:s.heap.IsRevIter I l ((items.size:Int)-1))(hl:s.heap.IsList l items)(hS:zCe s.heap S #[] c₀)(hR:∀(h':vn)(tk:Nat)(c:Nat),(∀b o,b≠S->b≠I->s.heap.get? b=some o->h'.get? b=some o)->zCe h' S items.reverse c->R (.ok (.ret res)) { s with heap:=h',toks:=tk }):
  vN (model prog w) A.in1 (Builtin.List.listExtendWith (.ref S) (.ref I) res)
   (λfin s'=>match fin with|.done f=>R (.ok f) s'|.again c'=>c'.quiet=true/\uh (model prog w) A c' R s') (λe s'=>R (.error e) s') s:=by
 have W:=Walks.listRev (prog:=prog) (w:=w) (A:=A.in1) hh I l hne items;have hT:=hit.typeIs;have hSf:S∉[I,l]:=by simp[hSI,hSl]
 unfold Builtin.List.listExtendWith;refine vA (uj (T := "list_reverseiterator") hT ?_);rw[show Builtin.List.listSameRef (.ref S) (.ref I)=false by simp[Builtin.List.listSameRef,hSI],show (Value.type "list_reverseiterator" == Value.type "list")=false by decide,show (Value.type "list_reverseiterator" == Value.type "tuple")=false by decide];refine vc (λhab=>vL hab (by decide)) (λ_=>?_);refine vA (wpAny_pyIter_revIter hit ?_);refine vA (vh (qdQ hT ?_));refine vc (λhab=>vL hab (by decide)) (λ_=>?_);have st:0<=items.size/\s.heap.IsRevIter I l ((items.size:Int)-1-((0:Nat):Int))/\s.heap.IsList l items:=⟨yH _,by simpa using hit,hl⟩;refine vH ⟨ud PySem.F.plain_extend_loop _,tW W.toS hn S hSf res items.size 0 _ #[] c₀ rfl (yH _) st hS (ItemsOf.nil _) λs' acc' c' hm hS' hacc=>?_⟩;rw[Moved.eq_with hm];have e:acc'=items.reverse:=by
  apply Array.ext_getElem?;intro j;rcases zz j items.size with z|z
  ·have hz:j<acc'.size:=by rw[hacc.1];exact z
   have q:acc'[j]?=some acc'[j]:=yC hz;rw[q,Array.getElem?_reverse z];exact(hacc.2 j _ q).symm
  ·rw[yo (by rw[hacc.1];exact z),yo (by rw[Array.size_reverse];exact z)]
 subst e;exact hR s'.heap s'.toks c' (λb o b1 b2 e=>hm.heap b o (by simp[b1,b2]) e) hS'
theorem qdI{l:vJ}{items:Array vB}{Q:vB->vG->Prop}(hh:A.handled=none)(hn:items.size<=sizeLine)(hl:s.heap.IsList l items)(hQ:∀(h':vn)(tk:Nat)(S:vJ)(c:Nat),s.heap.objs.size<=S->(∀b o,s.heap.get? b=some o->h'.get? b=some o)->zCe h' S items.reverse c->Q (.ref S) { s with heap:=h',toks:=tk }):
  vN (model prog w) A (call (.type "list") [.ref s.heap.objs.size]) Q E { s with heap:=s.heap.push (revObj l ((items.size:Int)-1)) }:=by
 have hll:l<s.heap.objs.size:=by obtain⟨_,e,_⟩:=hl;exact zM e
 have gI:(s.heap.push (revObj l ((items.size:Int)-1))).get? s.heap.objs.size=some (revObj l ((items.size:Int)-1)):=zQ _ rfl;have k1:∀b o,s.heap.get? b=some o->(s.heap.push (revObj l ((items.size:Int)-1))).get? b=some o:=λb o e=>zF _ e;generalize hI:s.heap.objs.size=I at *;generalize hp:s.heap.push (revObj l ((items.size:Int)-1))=h1 at *;have hI1:I<h1.objs.size:=zM gI;have hS:(h1.push { cls:=.type "list", data:=.seq #[] }).get? h1.objs.size=some { cls:=.type "list", data:=.seq #[] }:=zQ _ rfl;refine callType_codes (s:={ s with heap:=h1 }) (Q₁:=λobj s₁=>obj=.ref h1.objs.size/\s₁={ s with heap:=h1.push { cls:=.type "list", data:=.seq #[] } }) PySem.F.called_list (PySem.F.typeCall_list_1 _) PySem.F.entry_list_init
  (code_list_new _ ⟨rfl,rfl⟩) λobj s₁ z=>?_
 obtain⟨rfl,rfl⟩:=z;refine⟨⟨_,hS,rfl⟩,PySem.F.args_list_init_2 _ _,?_⟩;generalize hS0:h1.objs.size=S at *;show vN _ _ (do let old <- Builtin.List.listItems (.ref S);Builtin.List.listUpdate (.ref S) (λ_=>#[]);letGo old.toList.reverse;Builtin.List.listExtendWith (.ref S) (.ref I) .none) _ _ _;apply vA;unfold Builtin.List.listItems;refine vA (v6 hS rfl (vH ?_));show vN _ _ (updateSeq S (λ_=>#[]) >>= λ_=>letGo (#[]:Array vB).toList.reverse >>= λ_=>Builtin.List.listExtendWith (.ref S) (.ref I) .none) _ _ _;refine vA (ux hS rfl ?_);have hS2:=get?_update_seq hS (λ_=>(#[]:Array vB));have oth:∀b o,b≠S->h1.get? b=some o->((h1.push { cls:=.type "list", data:=.seq #[] }).update S (Obj.mapSeq (λ_=>(#[]:Array vB)))).get? b=some o :=
  λb o hb e=>(ye _ _ (Ne.symm hb)).trans (zF _ e)
 refine vA (tY ?_);have n1:S≠I:=by simp only[vJ]at *;omega
 have n2:S≠l:=by simp only[vJ]at *;omega
 have n3:l≠I:=by simp only[vJ]at *;omega
 refine qb3 (A:=A.in1) (items:=items) (I:=I) (l:=l) hh hn n1 n2 n3 ⟨_,oth _ _ (Ne.symm n1) gI,rfl,rfl⟩ (hl.at λo e=>oth l o (Ne.symm n2) (k1 l o e)) hS2 λh' tk c kp e=>?_;refine⟨rfl,hQ h' tk S c (by simp only[vJ]at *;omega) (λb o z=>?_) e⟩;have hb:b<I:=hI▸zM z;exact kp b o (by simp only[vJ]at *;omega) (by simp only[vJ]at *;omega) (oth b o (by simp only[vJ]at *;omega) (k1 b o z))
end
open L2
def rLR:List V->Hp->VK->Prop:=λvs H Q=>∃p xs,vs=[.ref p]/\H p=some (.lst xs)/\∀S,H S=none->Q (.ref S) (upd H S (.lst xs.reverse))
section
variable{X:Cx}
theorem qbn{a:vX}{t:TA}{p1 p2 q1 q2:Pos}(hg1:Gl X "list")(hm1:X.mg "list" = none)(hg2:Gl X "reversed")(hm2:X.mg "reversed" = none)(ha:PA X [a] t)(hc:X.calm=true)(he1:vK [a] X.env=(false,eval a X.env)::vK [] X.env)(hpl1:(v3 q2 (vK [] X.env)).any (·.1)=false)(he2:vK [.Call (.Name "reversed" p2) [a] [] q2] X.env=(false,eval (.Call (.Name "reversed" p2) [a] [] q2) X.env)::vK [] X.env)(hpl2:(v3 q1 (vK [] X.env)).any (·.1)=false):
  PE X (.Call (.Name "list" p1) [.Call (.Name "reversed" p2) [a] [] q2] [] q1) (tCB rLR t):=by
 intro pins s σ H Q I h;refine uS (q23 I hg1 hm1 q1V ?_ (by decide) (by decide));refine PyProof.Rows.callWith_type1 ?_ he2 hpl2;rw[he2];show vN _ _ (spliced ((false,eval _ X.env)::v3 q1 (vK [] X.env))) _ _ s;refine Calls.spliced_cons ?_;refine uS (q23 I hg2 hm2 PyProof.Rows.boot_reversed ?_ (by decide) (by decide));refine PyProof.Rows.callWith_type1 (thn (ha q2 pins s σ H _ I h) λus s1 ⟨vs,H1,I1,r1,z1⟩=>?_) he1 hpl1;obtain⟨p,xs,rfl,hp,k⟩:=z1;obtain⟨u,rfl,e1⟩:=vals1 r1;cases e1;obtain⟨its,n,rv,g1,sz⟩:=I1.lst hp;have il:s1.heap.IsList p its.toArray:=⟨_,g1,rfl,n,rfl⟩;refine call_reversed_list il (Calls.spliced_nil ?_);refine qdI (I1.ok.hd hc) (by rw[zN,<- rv.length];exact sz) il λh2 tk S c b1 b2 b3=>?_;refine⟨.ref S,_,I1.laid (t':=tk) b2 b1 (show Y6 X.prog X.w _ h2 S (.lst xs.reverse)from ⟨by rw[List.length_reverse];exact sz,its.reverse,c,rv.reverse,by rw[b3];simp⟩),rfl,k S (I1.hok.fresh b1)⟩
end
end Hk
namespace L2
open PySem PySem.Spec PyProof.Rows
theorem Inv.turnedL{X:Cx}{pins:List (vJ×Obj)}{σ:List (Option V)}{H:Hp}{s:vG}{h':vn}{t':Nat}{fp:List vJ}(I:Inv X pins σ H s)(k:∀b o,b∉fp->s.heap.get? b=some o->h'.get? b=some o)(hf:∀b∈fp,zBX X pins H b):
  Inv X pins σ H { s with heap:=h',toks:=t' }:=by
 have nit:∀b u,H b=some u->b∉fp:=λb u e z=>by have:=(hf b z).1;rw[e]at this;cases this
 refine I.step (g':=s.gens) (d':=s.drawn) (ch:=fp) (λb hb=>?_) (λb o _ _ hc e _=>k b o hc e) (λb o _ _ hc e _=>⟨o.slots,k b o hc e⟩) (λ_ _ _ _ n=>n)
  (λb o hc e=>⟨o,k b o hc e⟩) (λ_ _ e=>e) (λ_ _ _ e=>e) (λb ps e=>⟨#[],by rw[e];simp⟩) (λm hm=>?_) (λb u e=>?_) I.bare
 ·obtain⟨f0,f1,f2,f3,f4,f5⟩:=hf b hb
  exact⟨f3,f1,f4,f5⟩
 ·obtain⟨o,es,ep,ho,r⟩:=hm
  exact⟨o,es,ep,k _ o (λz=>(hf _ z).2.1 rfl) ho,r⟩
 ·refine(I.hok b u e).stay (λc v hc q=>k c v ?_ q) (λ_ q=>q) λ_ _ q=>q
  rcases hc with z|z
  ·rw[z];exact nit b u e
  ·exact nit c _ z
noncomputable def Itz(K:zA)(a b:vJ):It :=
 ⟨λi H=>∃xs ys x y,SqL K H a xs/\SqL K H b ys/\xs[i]?=some x/\ys[i]?=some y,
  λi H x H'=>∃t x1 y1,H t=none/\x=.ref t/\H'=upd H t (.tup [x1,y1])/\∀xs ys,SqL K H a xs->SqL K H b ys->xs[i]?=some x1/\ys[i]?=some y1,
  λi H=>∃xs ys,SqL K H a xs/\SqL K H b ys/\(xs[i]?=none\/ys[i]?=none)⟩
noncomputable def iZip(K:zA)(ta:TA):TI:=λσ H R=>ta σ H λvs H1=>∃a b xs ys,vs=[.ref a,.ref b]/\SqL K H1 a xs/\SqL K H1 b ys/\R (Itz K a b) H1
end L2
namespace Hk
open PySem L2
noncomputable def zAz:List D->List D->List D
 | a::as,b::bs=>.tup [a,b]::zAz as bs
 | _,_=>[]
theorem q4Y:∀(as bs:List D),(zAz as bs).length=min as.length bs.length
 | a::as,b::bs=>by show (zAz as bs).length+1=_;rw[q4Y as bs,zD,zD];omega
 | [],bs=>by cases bs <;> simp[zAz]
 | a::as,[]=>by simp[zAz]
theorem q8l:∀(as bs:List D)(i:Nat)(d:D),(zAz as bs)[i]?=some d->∃a b,as[i]?=some a/\bs[i]?=some b/\d=.tup [a,b]
 | a::as,b::bs,0,d,h=>by cases h;exact⟨a,b,rfl,rfl,rfl⟩
 | a::as,b::bs,i+1,d,h=>q8l as bs i d h
 | [],bs,i,d,h=>by cases bs <;> cases h
 | a::as,[],i,d,h=>by cases h
theorem qdL{K:zA}{G:Hp}{a b:vJ}{ds es:List D}{vs us:List V}(h1:G a=some (.lst vs))(h2:Yp K G ds vs)(h3:G b=some (.lst us))(h4:Yp K G es us):IterOf K (Itz K a b) G (zAz ds es):=by
 have l1:=h2.len;have l2:=h4.len;refine⟨λH i s hi=>?_,λG2 H i x H' d s0 s1 hd hy=>?_,λH s=>⟨vs,us,SqL.of (s _ _ h1),SqL.of (s _ _ h3),?_⟩⟩
 ·rw[q4Y]at hi
  exact⟨vs,us,vs[i]'∅,us[i]'∅,SqL.of (s _ _ h1),SqL.of (s _ _ h3),zE _,zE _⟩
 ·obtain⟨t,x1,y1,ht,rfl,rfl,y⟩:=hy
  obtain⟨e1,e2⟩:=y vs us (SqL.of (s1 _ _ (s0 _ _ h1))) (SqL.of (s1 _ _ (s0 _ _ h3)));obtain⟨p,q,f1,f2,rfl⟩:=q8l ds es i d hd;obtain⟨v,q1,q2⟩:=h2.get f1;obtain⟨u,q3,q4⟩:=h4.get f2;rw[e1]at q1;cases q1;rw[e2]at q3;cases q3;have x2:=Ext.lay s1 ht (.tup [x1,y1]);exact⟨_,x2,⟨t,_,rfl,qe,Yp.cons (q2.mono (s0.trans x2.gg)) (Yp.cons (q4.mono (s0.trans x2.gg)) Yp.nil)⟩⟩
 ·rw[q4Y]
  rcases Nat.le_total ds.length es.length with h|h
  ·exact .inl (ze ∅)
  ·exact .inr (ze ∅)
noncomputable def iZp(g:FA):FI:=λω=>(g ω).bind λds=>match ds with
 | [.lst a,.lst b]=>some (zAz a b)
 | _=>none
section
open PySem.Spec PyProof.Rows
variable{X:Cx}
end
end Hk
namespace Hk
open PySem L2 PyProof.Rows
section
variable{X:Cx}{pos:Pos}{o e:vX}{apos cpos:Pos}{i:Nat}{fd:FD}
end
end Hk
namespace Hk
open PySem L2
section
variable{X:Cx}{o c:vX}{body:List vx}{pos ipos npos:Pos}{i j:Nat}{fc:FT}{fb:FS}
end
noncomputable def dropW(o:Option R)(ω:WSt):Option (Out×WSt):=o.map λ_=>(.nx,ω)
noncomputable def zipI(o:Option (List D)):Option (List D):=o.bind λds=>match ds with
 | [.lst a,.lst b]=>some (zAz a b)
 | _=>none
section
variable{ω:WSt}{fe:FE}{fd:FD}{fa:FA}{r:R}{ds as bs:List D}{i j:Nat}{f:FS}{ft:FT}{m:List D->List D}
theorem q6A:zBV fe ω=dropW (fe ω) ω:=rfl
theorem e_wd:dropW (some r) ω=some (.nx,ω):=rfl
theorem q7G:iZp fa ω=zipI (fa ω):=rfl
theorem e_wz:zipI (some [.lst as,.lst bs])=some (zAz as bs):=rfl
end
end Hk
namespace L2
open PySem PySem.Spec PyProof.Rows
section
variable{κ:Type}[DecidableEq κ]
noncomputable def We(kvs:List (κ×V))(k:κ):Option V:=(kvs.find? λkv=>decide (kv.1=k)).map (·.2)
noncomputable def putK(kvs:List (κ×V))(k:κ)(v:V):List (κ×V) :=
 if (kvs.any λkv=>decide (kv.1=k))=true then kvs.map (λkv=>if kv.1=k then (kv.1,v)else kv)else kvs++[(k,v)]
theorem q3I{p:κ×V}{r:List (κ×V)}{k:κ}(e:p.1=k):We (p::r) k=some p.2:=by simp[We,xb,e]
theorem q3r{p:κ×V}{r:List (κ×V)}{k:κ}(e:¬p.1=k):We (p::r) k=We r k:=by simp[We,xb,e]
theorem q5m(k:κ):∀kvs:List (κ×V),(kvs.any λkv=>decide (kv.1=k))=(We kvs k).isSome
 | []=>rfl
 | p::r=>by
  rw[xu]
  by_cases e:p.1=k
  ·simp only[q3I e,vQ e,ZC,Option.isSome_some]
  ·rw[q3r e,vW e,wk];exact q5m k r
theorem q3a(kvs:List (κ×V))(k:κ)(v:V):(putK kvs k v).length<=kvs.length+1:=by
 unfold putK
 split
 ·rw[zB];omega
 ·rw[zC,zD,yR];omega
theorem qdp{kvs:List (κ×V)}{k:κ}(v:V)(h:We kvs k=none):putK kvs k v=kvs++[(k,v)]:=by
 unfold putK;rw[q5m,h];exact vF (by decide)
theorem zA4.isSome_eq{o:Option V}{u:Option vB}(r:zA4 o u):o.isSome=u.isSome:=by
 cases o with
 | none=>cases u with
  | none=>rfl
  | some _=>exact(show False from r).elim
 | some _=>cases u with
  | none=>exact(show False from r).elim
  | some _=>rfl
theorem zA4.getD{o:Option V}{u:Option vB}{d:V}{d':vB}(r:zA4 o u)(rd:RelV d d'):RelV (o.getD d) (u.getD d'):=by
 cases o with
 | none=>cases u with
  | none=>exact rd
  | some _=>exact(show False from r).elim
 | some _=>cases u with
  | none=>exact(show False from r).elim
  | some _=>exact r
theorem KV.val{kvs:List (κ×V)}{vs:List (κ×vB)}(r:KV kvs vs)(k:κ):zA4 (We kvs k) (tj vs k):=by
 unfold KV at r
 induction r with
 | nil=>exact True.intro
 | @cons p q ps qs h t ih=>
  obtain⟨h1,h2⟩:=h
  by_cases e:p.1=k
  ·have e':q.1=k:=h1.symm.trans e
   have b:tj (q::qs) k=some q.2:=by simp[tj,xb,e']
   rw[q3I e,b];exact h2
  ·have e':¬q.1=k:=λz=>e (h1.trans z)
   have b:tj (q::qs) k=tj qs k:=by simp[tj,xb,e']
   rw[q3r e,b];exact ih
theorem KV.any{kvs:List (κ×V)}{vs:List (κ×vB)}(r:KV kvs vs)(k:κ):(kvs.any λkv=>decide (kv.1=k))=vs.any λkv=>decide (kv.1=k):=by
 unfold KV at r
 induction r with
 | nil=>rfl
 | cons h t ih=>rw[xu,xu,ih,h.1]
theorem KV.repl{kvs:List (κ×V)}{vs:List (κ×vB)}(r:KV kvs vs)(k:κ){y:V}{u:vB}(ry:RelV y u):
  KV (kvs.map λkv=>if kv.1=k then (kv.1,y)else kv) (vs.map λkv=>if kv.1=k then (kv.1,u)else kv):=by
 unfold KV at r ⊢
 induction r with
 | nil=>exact .nil
 | @cons p q ps qs h t ih=>
  rw[zX,zX];refine .cons ?_ ih;obtain⟨h1,h2⟩:=h
  by_cases e:p.1=k
  ·rw[vC e,vC (h1.symm.trans e)];exact⟨h1,ry⟩
  ·rw[vF e,vF (λz=>e (h1.trans z))];exact⟨h1,h2⟩
theorem KV.put{kvs:List (κ×V)}{vs:List (κ×vB)}(r:KV kvs vs)(k:κ){y:V}{u:vB}(ry:RelV y u):KV (putK kvs k y) (stored vs k u):=by
 unfold putK stored;rw[r.any k]
 by_cases e:(vs.any λkv=>decide (kv.1=k))=true
 ·rw[vC e,vC e];exact r.repl k ry
 ·rw[vF e,vF e];exact Paired.snoc r ⟨rfl,ry⟩
theorem KV.keys{kvs:List (κ×V)}{vs:List (κ×vB)}(r:KV kvs vs):kvs.map (·.1)=vs.map (·.1):=by
 unfold KV at r
 induction r with
 | nil=>rfl
 | cons h t ih=>rw[zX,zX,ih,h.1]
theorem KV.length{kvs:List (κ×V)}{vs:List (κ×vB)}(r:KV kvs vs):kvs.length=vs.length:=Paired.length r
end
theorem q3A{P:vS}{w:vZ}{k:Key}{u:vB}(r:RelV (kV k) u):(Yx P w).is k u=true:=by
 cases k with
 | inl i=>obtain⟨t,e⟩:=(show ∃t,u=Value.int i t from r);subst e;exact q99 P w i t
 | inr x=>obtain⟨t,e⟩:=(show ∃t,u=Value.str x t from r);subst e;exact q9j P w x t
theorem q6O{P:vS}{w:vZ}:∀{ks:List Key}{us:List vB},Y2 (ks.map kV) us->ItemsAre (Yx P w) ks us
 | [],_,r=>by rw[yw]at r;cases r;exact .nil
 | k::ks,_,r=>by
  rw[zX]at r;cases r with
  | cons h t=>exact .cons (q3A h) (q6O t)
abbrev KT(H:Hp):List (List Key×V)->List (List Key×vJ×vB)->Prop:=sL λp q=>p.1=q.1/\H q.2.1=some (.tup (p.1.map kV))/\RelV p.2 q.2.2
theorem KT.val{H:Hp}{kvs:List (List Key×V)}{xs:List (List Key×vJ×vB)}(r:KT H kvs xs)(k:List Key):zA4 (We kvs k) ((sS xs k).map (·.2)):=by
 induction r with
 | nil=>exact True.intro
 | @cons p q ps qs h t ih=>
  obtain⟨h1,_,h2⟩:=h
  by_cases e:p.1=k
  ·have e':q.1=k:=h1.symm.trans e
   have b:sS (q::qs) k=some q.2:=by simp[sS,xb,e']
   rw[q3I e,b];exact h2
  ·have e':¬q.1=k:=λz=>e (h1.trans z)
   have b:sS (q::qs) k=sS qs k:=by simp[sS,xb,e']
   rw[q3r e,b];exact ih
theorem KT.repl{H:Hp}{kvs:List (List Key×V)}{xs:List (List Key×vJ×vB)}(r:KT H kvs xs)(k:List Key){y:V}{u:vB}(ry:RelV y u):
  KT H (kvs.map λkv=>if kv.1=k then (kv.1,y)else kv) (xs.map (putAt k u)):=by
 induction r with
 | nil=>exact .nil
 | @cons p q ps qs h t ih=>
  rw[zX,zX];refine .cons ?_ ih;obtain⟨h1,h2,h3⟩:=h;unfold putAt
  by_cases e:p.1=k
  ·rw[vC e,vC (h1.symm.trans e)];exact⟨h1,h2,ry⟩
  ·rw[vF e,vF (λz=>e (h1.trans z))];exact⟨h1,h2,h3⟩
theorem KT.put{H:Hp}{kvs:List (List Key×V)}{xs:List (List Key×vJ×vB)}(r:KT H kvs xs)(k:List Key){b:vJ}{y:V}{u:vB}(hb:H b=some (.tup (k.map kV)))(ry:RelV y u):
  KT H (putK kvs k y) (storedH xs k b u):=by
 have e:(kvs.any λkv=>decide (kv.1=k))=(sS xs k).isSome:=by
  rw[q5m,(r.val k).isSome_eq,Z3]
 unfold putK storedH;rw[e]
 by_cases q:(sS xs k).isSome=true
 ·rw[vC q,vC q];exact r.repl k ry
 ·rw[vF q,vF q];exact Paired.snoc r ⟨rfl,hb,ry⟩
theorem KT.keeps{H H':Hp}{kvs:List (List Key×V)}{xs:List (List Key×vJ×vB)}(r:KT H kvs xs)(ht:∀b ys,H b=some (.tup ys)->H' b=some (.tup ys)):KT H' kvs xs :=
 Paired.mapP r λ_ _ z=>⟨z.1,ht _ _ z.2.1,z.2.2⟩
section
variable{P:vS}{w:vZ}{H:Hp}{h:vn}{a:vJ}
theorem qe5{u:HO}(ok:HOk P w H h)(e:Rd H a u):Y6 P w H h a u:=e.ok ok
theorem q3q{kvs:List (Key×V)}(ok:HOk P w H h)(e:Rd H a (.dK kvs)):kvs.length<=sizeLine/\(a==uK)=false/\∃vs,KV kvs vs/\h.DictOf (Yx P w) a vs :=
 show Y6 P w H h a (.dK kvs)from qe5 ok e
theorem qbl{kvs:List (Key×V)}(ok:HOk P w H h)(e:H a=some (.dK kvs)):kvs.length<=sizeLine/\(a==uK)=false/\∃vs,KV kvs vs/\h.DictOf (Yx P w) a vs:=q3q ok (.inl e)
theorem q4c{ks:List Key}(ok:HOk P w H h)(e:H a=some (.tup (ks.map kV))):(tL (Yx P w)).is h ks a:=by
 obtain⟨_,its,r,o,h1,h2,n,h3⟩:=(show Y6 P w H h a (.tup (ks.map kV))from ok a _ e);exact⟨o,its.toArray,n,h1,h2,h3,by simpa using q6O r⟩
theorem q4C{kvs:List (List Key×V)}(ok:HOk P w H h)(e:Rd H a (.dT kvs)):kvs.length<=sizeLine/\(a==uK)=false /\
  ∃xs,KT H kvs xs/\h.DictOfH (tL (Yx P w)) a xs:=by
 obtain⟨z,y,xs,r,o,es,ep,h1,h2,h3,h4,h5⟩:=(show Y6 P w H h a (.dT kvs)from qe5 ok e);refine⟨z,y,xs,r,o,es,ep,h1,h2,h3,h4,λx hx=>?_,h5⟩;have all:∀{l:List (List Key×V)}{m:List (List Key×vJ×vB)},KT H l m->∀x∈m,(tL (Yx P w)).is h x.1 x.2.1:=by
  intro l m q
  induction q with
  | nil=>intro x hx;exact nomatch hx
  | @cons p q ps qs hq t ih=>
   intro x hx;rcases zG.mp hx with e|hx
   ·subst e
    exact q4c ok (by rw[<- hq.1];exact hq.2.1)
   ·exact ih x hx
 exact all r x hx
theorem qgS{kvs:List (List Key×V)}(ok:HOk P w H h)(e:H a=some (.dT kvs)):kvs.length<=sizeLine/\(a==uK)=false /\
  ∃xs,KT H kvs xs/\h.DictOfH (tL (Yx P w)) a xs:=q4C ok (.inl e)
end
def zAB(H:Hp)(a:vJ)(y:V)(r:Option V):Prop :=
 (∃kvs k,Rd H a (.dK kvs)/\y=kV k/\r=We kvs k)\/∃kvs k b,Rd H a (.dT kvs)/\y=.ref b/\H b=some (.tup (k.map kV))/\r=We kvs k
def zCa(H:Hp)(a:vJ)(y v:V)(H':Hp):Prop :=
 (∃kvs k,H a=some (.dK kvs)/\y=kV k/\kvs.length<sizeLine/\H'=upd H a (.dK (putK kvs k v))) \/
 ∃kvs k b,H a=some (.dT kvs)/\y=.ref b/\H b=some (.tup (k.map kV))/\kvs.length<sizeLine/\H'=upd H a (.dT (putK kvs k v))
theorem zAB.k{H:Hp}{a:vJ}{kvs:List (Key×V)}{k:Key}(e:H a=some (.dK kvs)):zAB H a (kV k) (We kvs k):=.inl ⟨kvs,k,.inl e,rfl,rfl⟩
theorem zCa.k{H:Hp}{a:vJ}{kvs:List (Key×V)}{k:Key}{v:V}(e:H a=some (.dK kvs))(hl:kvs.length<sizeLine):zCa H a (kV k) v (upd H a (.dK (putK kvs k v))):=.inl ⟨kvs,k,e,rfl,hl,rfl⟩
section
variable{X:Cx}{pins:List (vJ×Obj)}{σ:St}{H:Hp}{s:vG}{a:vJ}{y v:V}{u r:vB}{o:Option V}{A:vb}{E:vB->vG->Prop}
theorem Inv.big(I:Inv X pins σ H s):uK<s.heap.objs.size:=by
 have h:vY<s.heap.objs.size:=(I.mod.glob.keeps I.bk).lt;exact Zx (by decide) h
theorem qbR{Q:vB->vG->Prop}(hu:A.units+1<uc)(I:Inv X pins σ H s)(g:zAB H a y (some v))(ry:RelV y u)(h:∀w' s',Inv X pins σ H s'->RelV v w'->Q w' s'):
  vN (model X.prog X.w) A (uz (.ref a) u) Q E s:=by
 rcases g with⟨kvs,k,e,ey,l⟩|⟨kvs,k,b,e,ey,eb,l⟩
 ·subst ey
  obtain⟨z,hd,vs,rel,dd⟩:=q3q I.hok e;obtain⟨w',hw,rw'⟩:=zA4.some_of (v:=v) (o:=tj vs k) (by rw[l];exact rel.val k);exact wpAny_getItem_of (q3A ry) dd.mapOf hw (h w' _ (I.tok _) rw')
 ·subst ey
  cases (show u=Value.ref b from ry);obtain⟨z,hd,xs,rel,dd⟩:=q4C I.hok e;obtain⟨w',hw,rw'⟩:=zA4.some_of (v:=v) (o:=(sS xs k).map (·.2)) (by rw[l];exact rel.val k);obtain⟨p,hp,hp2⟩:=wE.mp hw;refine wpAny_getItem_heap (ue hu) (q4c I.hok eb) dd hp ?_;rw[hp2];exact h w' _ (I.tok _) rw'
theorem qfc{Q:vB->vG->Prop}(hu:A.units+1<uc)(I:Inv X pins σ H s)(g:zAB H a y o)(ry:RelV y u)(h:∀s',Inv X pins σ H s'->Q (.bool (!o.isSome)) s'):
  vN (model X.prog X.w) A (uE .NotIn u (.ref a)) Q E s:=by
 rcases g with⟨kvs,k,e,ey,l⟩|⟨kvs,k,b,e,ey,eb,l⟩
 ·subst ey
  obtain⟨z,hd,vs,rel,dd⟩:=q3q I.hok e;refine wpAny_notIn_of (q3A ry) hd dd.mapOf ?_;rw[<- (rel.val k).isSome_eq,<- l];exact h _ (I.tok _)
 ·subst ey
  cases (show u=Value.ref b from ry);obtain⟨z,hd,xs,rel,dd⟩:=q4C I.hok e;refine wpAny_notIn_heap (ue hu) (q4c I.hok eb) hd dd ?_;have q:=(rel.val k).isSome_eq;rw[Z3]at q;rw[<- q,<- l];exact h _ (I.tok _)
theorem q4I{h':vn}{t':Nat}{ob:HO}(I:Inv X pins σ H s)(mu:Mut (H a))(hs:xP a s.heap h')(he:∃q,h'.get? a=some q)(new:Y6 X.prog X.w (upd H a ob) h' a ob):
  Inv X pins σ (upd H a ob) { s with heap:=h',toks:=t' } :=
 I.write (x:=a) (e:=a) mu (.inl rfl) (λb q hb z=>(hs.2 b hb).trans z) he new
theorem q8U{P:vS}{w:vZ}{H':Hp}{h':vn}{kvs:List (Key×V)}{vs:List (Key×vB)}(z:kvs.length<=sizeLine)(hd:(a==uK)=false)(rel:KV kvs vs)(dd:h'.DictOf (Yx P w) a vs):
  Y6 P w H' h' a (.dK kvs):=⟨z,hd,vs,rel,dd⟩
theorem qbV{H':Hp}{Q:Unit->vG->Prop}(hu:A.units+1<uc)(I:Inv X pins σ H s)(g:zCa H a y v H')(ry:RelV y u)(rv:RelV v r)(h:∀s',Inv X pins σ H' s'->Q () s'):
  vN (model X.prog X.w) A (sU (.ref a) u r) Q E s:=by
 rcases g with⟨kvs,k,e,ey,l,eH⟩|⟨kvs,k,b,e,ey,eb,l,eH⟩
 ·subst ey eH
  obtain⟨z,hd,vs,rel,dd⟩:=qbl I.hok e;have hz:vs.length<=sizeLine:=by rw[<- rel.length];exact z
  have hl:(putK kvs k v).length<=sizeLine:=by have:=q3a kvs k v;omega
  refine wpAny_setItem_pairs (hsz:=hz) (q3A ry) dd λh' dd' hs=>h _ ?_;have he:∃q,h'.get? a=some q:=let ⟨q,_,_,hq,_⟩:=dd';⟨q,hq⟩
  exact q4I I (by rw[e];exact True.intro) hs he (q8U hl hd (rel.put k rv) dd')
 ·subst ey eH
  cases (show u=Value.ref b from ry);obtain⟨z,hd,xs,rel,dd⟩:=qgS I.hok e;have hz:xs.length<=sizeLine:=by rw[<- Paired.length rel];exact z
  have hl:(putK kvs k v).length<=sizeLine:=by have:=q3a kvs k v;omega
  refine wpAny_setItem_heap (hsz:=hz) (ue hu) (q4c I.hok eb) dd λh' dd' hs=>h _ ?_;obtain⟨q,es,ep,hq,h2,h3,h4,_,h5⟩:=dd';refine q4I I (by rw[e];exact True.intro) hs ⟨q,hq⟩ ⟨hl,hd,_,(rel.put k eb rv).keeps λc ys ec=>?_,q,es,ep,hq,h2,h3,h4,h5⟩;rw[qd (qgP ec e (λz=>nomatch z))];exact ec
end
section
variable{X:Cx}{pins:List (vJ×Obj)}{σ:St}{H:Hp}{s:vG}{a:vJ}{kvs:List (Key×V)}{k:Key}{u:vB}{A:vb}{E:vB->vG->Prop}
end
def NoSl(i:vX):Prop:=∀ov iv,subscripted i false ov iv=operate [ov,iv] (uz ov iv)
theorem qex{prog:vS}{w:vZ}{A:vb}{E:vB->vG->Prop}{s:vG}{env:Env}{value slice:vX}{pos:Pos}{T id:String}{Q:vB->vG->Prop}(hl:tS (.type T) "__getitem__" = pure (some (.builtin id)))(hs:NoSl slice)(h:vN (model prog w) A (eval value env) (λo s₁=>vN (model prog w) A (eval slice env) (λi s₂=>s₂.TypeIs o T/\vN (model prog w) A (uz o i) Q E s₂) E s₁) E s):
  vN (model prog w) A (eval (.Subscript value slice pos) env) Q E s:=by
 refine Subscript_ (vq h (λo s₁ h₁=>vq h₁ (λi s₂ h₂=>?_) λ_ _ x=>x) λ_ _ x=>x);obtain⟨hT,h₂⟩:=h₂;unfold tu;refine vA ?_;rw[getitemInPython_of_ne hT.not_modules];refine vA (uw hT hl ?_);have fin:vN (model prog w) A (subscripted slice false o i) (λr s₃=>vN (model prog w) A (letTemporaryGo value o r >>= λ_=>pure r) Q E s₃) E s₂:=by
  rw[hs o i];exact wpAny_operating (vq h₂ (λr s₃ h₃=>vA (wpAny_letTemporaryGo (vH h₃))) λ_ _ x=>x)
 first
  | exact vH (vA fin)
  | exact vA (vH (vA fin))
  | exact vA fin
theorem q9a{X:Cx}{pins:List (vJ×Obj)}{σ:St}{H:Hp}{s:vG}{a:vJ}{y:V}{o:Option V}(I:Inv X pins σ H s)(g:zAB H a y o):s.TypeIs (.ref a) "dict" := by
 rcases g with⟨kvs,k,e,_,_⟩|⟨kvs,k,b,e,_,_,_⟩
 ·obtain⟨_,_,vs,_,dd⟩:=q3q I.hok e
  exact dd.typeIs
 ·obtain⟨_,_,xs,_,dd⟩:=q4C I.hok e
  exact dd.typeIs
noncomputable def zCQ(td ty:TE):TE:=λσ H Q=>td σ H λx H1=>ty σ H1 λy H2=>∃a v,x=.ref a/\zAB H2 a y (some v)/\Q v H2
noncomputable def tDIn(ty td:TE):TE:=λσ H Q=>ty σ H λy H1=>td σ H1 λx H2=>∃a o,x=.ref a/\zAB H2 a y o/\Q (.bl o.isSome) H2
noncomputable def zBP(ty td:TE):TE:=λσ H Q=>ty σ H λy H1=>td σ H1 λx H2=>∃a o,x=.ref a/\zAB H2 a y o/\Q (.bl (!o.isSome)) H2
noncomputable def sDPut(td ty tv:TE):TS:=λD σ H=>tv σ H λv H1=>td σ H1 λx H2=>ty σ H2 λy H3=>∃a H4,x=.ref a/\zCa H3 a y v H4/\D.nx σ H4
section
variable{X:Cx}{o i e value:vX}{pos pos' tpos:Pos}{td ty tv:TE}
theorem q4D(hu:X.A.units+1<uc)(ho:PE X o td)(hi:PE X i ty)(hs:NoSl i):PE X (.Subscript o i pos) (zCQ td ty):=by
 intro pins s σ H Q I h;refine qex PySem.F.slot_dict_getitem.lookup hs (thn (ho pins s σ H _ I h) λu s1 ⟨x,H1,I1,rx,q1⟩=>thn (hi pins s1 σ H1 _ I1 q1) λiv s2 ⟨y,H2,I2,ry,a,v,ex,g,q2⟩=>?_);subst ex;obtain rfl:u=Value.ref a:=rx;exact⟨q9a I2 g,qbR hu I2 g ry λw' s3 I3 rw'=>⟨v,H2,I3,rw',q2⟩⟩
theorem qcY(hu:X.A.units+1<uc)(hi:PE X i ty)(ho:PE X o td):PC X .NotIn i o (zBP ty td):=by
 intro pins s σ H Q I h;refine thn (hi pins s σ H _ I h) λiv s1 ⟨y,H1,I1,ry,q1⟩=>thn (ho pins s1 σ H1 _ I1 q1) λu s2 ⟨x,H2,I2,rx,a,ov,ex,g,q2⟩=>?_;subst ex;obtain rfl:u=Value.ref a:=rx;exact qfc hu I2 g ry λs3 I3=>⟨.bl (!ov.isSome),H2,I3,rfl,q2⟩
theorem q9m(hu:X.A.units+1<uc)(ho:PE X o td)(hi:PE X i ty)(hv:PE X value tv)(hs:vz value (some (.Subscript o i pos')) pos.line X.env=pure false):
  PS X (.Assign [.Subscript o i pos'] value pos) (sDPut td ty tv):=by
 intro pins s σ H D I h;refine wpAny_Assign_Subscript (thn (hv pins s σ H _ I h) λr s1 ⟨v,H1,I1,rv,q1⟩=>thn (ho pins s1 σ H1 _ I1 q1) λu s2 ⟨x,H2,I2,rx,q2⟩=>thn (hi pins s2 σ H2 _ I2 q2) λiv s3 ⟨y,H3,I3,ry,a,H4,ex,g,q3⟩=>?_) hs;subst ex;obtain rfl:u=Value.ref a:=rx;exact qbV hu I3 g ry rv λs4 I4=>⟨σ,H4,I4,q3⟩
end
theorem q81{P:vS}{w:vZ}{H:Hp}(h:vn)(hb:uK<h.objs.size):Y6 P w H (h.push { cls:=.type "dict", data:=.dict #[] }) h.objs.size (.dK []) :=
 ⟨yH _,beq_eq_false_iff_ne.mpr (Ne.symm (zg hb)),[],.nil,Heap.DictOf.new h⟩
noncomputable def tDNewK:TE:=λ_ H Q=>∀p,H p=none->Q (.ref p) (upd H p (.dK []))
section
variable{X:Cx}{pos:Pos}
theorem q8n:PE X (.Dict [] [] pos) tDNewK:=λpins s σ H Q I h=>
 wpAny_Dict_empty ⟨.ref s.heap.objs.size,_,I.laid (a:=s.heap.objs.size) (o:=.dK []) (t':=s.toks) (λ_ _ q=>zF _ q) (zK _) (q81 s.heap I.big),rfl,h _ (I.hok.fresh (zK _))⟩
end
def zBd:List (TE×TE)->St->Hp->(List (V×V)->Hp->Prop)->Prop
 | [],_,H,Q=>Q [] H
 | (tk,tv)::r,σ,H,Q=>tk σ H λx H1=>tv σ H1 λy H2=>zBd r σ H2 λps H3=>Q ((x,y)::ps) H3
abbrev VV:List (V×V)->List (vB×vB)->Prop:=sL λp q=>RelV p.1 q.1/\RelV p.2 q.2
def PPs(X:Cx)(pos:Pos)(keys:List (Option vX))(values:List vX)(trs:List (TE×TE)):Prop :=
 ∀(pins:List (vJ×Obj))(s:vG)(σ:St)(H:Hp)(Q:List (V×V)->Hp->Prop),Inv X pins σ H s->zBd trs σ H Q ->
  vN (model X.prog X.w) X.A (evalPairs (pairTrees keys values X.env pos)) (λvs s'=>∃ps H',Inv X pins σ H' s'/\VV ps vs/\Q ps H') X.xe s
theorem qfr{X:Cx}{pos:Pos}:PPs X pos [] [] []:=λpins s σ H Q I h=>pairTrees_nil_walk ⟨[],H,I,.nil,h⟩
theorem qdD{X:Cx}{pos:Pos}{k v:vX}{ks:List (Option vX)}{vs:List vX}{tk tv:TE}{trs:List (TE×TE)}(hk:PE X k tk)(hv:PE X v tv)(hr:PPs X pos ks vs trs):
  PPs X pos (some k::ks) (v::vs) ((tk,tv)::trs):=λpins s σ H Q I h=>
 pairTrees_cons_walk (thn (hk pins s σ H _ I h) λu s1 ⟨x,H1,I1,rx,q1⟩=>thn (hv pins s1 σ H1 _ I1 q1) λw2 s2 ⟨y,H2,I2,ry,q2⟩=>
  thn (hr pins s2 σ H2 _ I2 q2) λws s3 ⟨ps,H3,I3,rel,q3⟩=>⟨(x,y)::ps,H3,I3,.cons ⟨rx,ry⟩ rel,q3⟩)
noncomputable def Wv(kvs more:List (Key×V)):List (Key×V):=more.foldl (λacc kv=>putK acc kv.1 kv.2) kvs
theorem KV.merge:∀{more:List (Key×V)}{rs:List (Key×vB)}{kvs:List (Key×V)}{vs:List (Key×vB)},KV more rs->KV kvs vs->KV (Wv kvs more) (merged vs rs):=by
 intro more rs kvs vs r;unfold KV at r
 induction r generalizing kvs vs with
 | nil=>intro q;exact q
 | @cons p q ps qs h t ih=>
  intro r0;have e:KV (putK kvs p.1 p.2) (stored vs q.1 q.2):=by
   have:=r0.put p.1 h.2;rw[<- h.1];exact this
  exact ih e
theorem q3K:∀(more kvs:List (Key×V)),(Wv kvs more).length<=kvs.length+more.length
 | [],kvs=>by show kvs.length<=kvs.length+0;omega
 | p::r,kvs=>by
  have h1:=q3K r (putK kvs p.1 p.2);have h2:=q3a kvs p.1 p.2;show (Wv (putK kvs p.1 p.2) r).length<=_;rw[zD];omega
theorem q5G{P:vS}{w:vZ}:∀{kvs:List (Key×V)}{ws:List (vB×vB)},VV (kvs.map λkv=>(kV kv.1,kv.2)) ws->∃rs,Carries (Yx P w) ws rs/\KV kvs rs
 | [],_,r=>by rw[yw]at r;cases r;exact⟨[],True.intro,.nil⟩
 | p::kvs,_,r=>by
  rw[zX]at r;cases r with
  | @cons a b as bs h t=>
   obtain⟨rs,c,q⟩:=q5G (P:=P) (w:=w) t;obtain⟨b1,b2⟩:=b;exact⟨(p.1,b2)::rs,⟨q3A h.1,rfl,c⟩,.cons ⟨rfl,h.2⟩ q⟩
noncomputable def tDisp(trs:List (TE×TE)):TE:=λσ H Q=>∀p,H p=none->zBd trs σ (upd H p (.dK [])) λps H2=>H2 p=some (.dK [])/\∃kvs:List (Key×V),ps=kvs.map (λkv=>(kV kv.1,kv.2))/\kvs.length<=15/\Q (.ref p) (upd H2 p (.dK (Wv [] kvs)))
theorem qeE{X:Cx}{pos:Pos}{keys:List (Option vX)}{values:List vX}{trs:List (TE×TE)}(h:PPs X pos keys values trs)(hall:keys.all (·.isSome)=true)(hl:keys.length=values.length)(h0:keys≠[])(h15:keys.length<=15):PE X (.Dict keys values pos) (tDisp trs):=by
 intro pins s σ H Q I q;have hn:=I.hok.fresh (zK s.heap.objs.size);have I1:=I.laid (a:=s.heap.objs.size) (o:=.dK []) (h':=s.heap.push { cls:=.type "dict", data:=.dict #[] }) (t':=s.toks) (λ_ _ q=>zF _ q) (zK _) (q81 s.heap I.big);refine wpAny_Dict_walk (knd:=Yx X.prog X.w) hall hl h0 h15 (thn (h pins _ σ _ _ I1 (q _ hn)) λws s2 ⟨ps,H2,I2,rel,e,kvs,ep,lk,q2⟩=>?_);subst ep;obtain⟨rs,c,rk⟩:=q5G (P:=X.prog) (w:=X.w) rel;obtain⟨z,hd,vs0,r0,dd⟩:=qbl I2.hok e;cases r0;refine⟨rs,c,dd,λh' dd' hs=>⟨.ref s.heap.objs.size,_,?_,rfl,q2⟩⟩;have hz:(Wv [] kvs).length<=sizeLine:=by
  have h1:=q3K kvs [];rw[yR]at h1;rw[vp];omega
 have he:∃q,h'.get? s.heap.objs.size=some q:=let ⟨q,_,_,hq,_⟩:=dd';⟨q,hq⟩
 exact q4I I2 (by rw[e];exact True.intro) hs he (q8U hz hd (rk.merge .nil) dd')
structure M2 (X:Cx) (o:vX) (m:Str) (apos:Pos) (e f:vX) (cpos:Pos):Prop where
 base:uI o m X.env (eval o X.env)=eval o X.env
 few:((v3 cpos (vK [e,f] X.env)).all (λx=>!x.1)&&(u6 cpos (uY [] X.env)).all (λx=>x.1.isSome)
  && decide (([e,f]:List vX).length+([]:List uP).length+(if ([]:List uP).isEmpty then 0 else 1)<30))=true
 line:(apos.endLine==cpos.line)=true
 trees:v3 cpos (vK [e,f] X.env)=[(false,eval e X.env),(false,eval f X.env)]
def IsD(H:Hp)(a:vJ):Prop:=(∃kvs,Rd H a (.dK kvs))\/∃kvs,Rd H a (.dT kvs)
theorem qcQ{X:Cx}{pins:List (vJ×Obj)}{σ:St}{H:Hp}{s:vG}{a:vJ}(I:Inv X pins σ H s)(d:IsD H a):
  s.TypeIs (.ref a) "dict" /\ (∀b,Value.ref a=.ref b->∃ob,s.heap.get? b=some ob/\ob.dict=none)/\(a==uK)=false:=by
 rcases d with⟨kvs,e⟩|⟨kvs,e⟩
 ·obtain⟨_,hd,vs,_,dd⟩:=q3q I.hok e
  refine⟨dd.typeIs,λb q=>?_,hd⟩;cases q;obtain⟨ob,_,_,h1,h2,_⟩:=dd;exact⟨ob,h1,h2.2.1⟩
 ·obtain⟨_,hd,xs,_,dd⟩:=q4C I.hok e
  refine⟨dd.typeIs,λb q=>?_,hd⟩;cases q;obtain⟨ob,_,_,h1,h2,_⟩:=dd;exact⟨ob,h1,h2.2.1⟩
section
variable{X:Cx}{pins:List (vJ×Obj)}{σ:St}{H:Hp}{s:vG}{a:vJ}{y d:V}{u r:vB}{o:Option V}{A:vb}{E:vB->vG->Prop}
theorem qgD{Q:vB->vG->Prop}(hu:A.units+1<uc)(I:Inv X pins σ H s)(g:zAB H a y o)(ry:RelV y u)(rd:RelV d r)(h:∀w' s',Inv X pins σ H s'->RelV (o.getD d) w'->Q w' s'):
  vN (model X.prog X.w) A (call (.builtin "dict.get") [.ref a,u,r]) Q E s:=by
 rcases g with⟨kvs,k,e,ey,l⟩|⟨kvs,k,b,e,ey,eb,l⟩
 ·subst ey
  obtain⟨z,hd,vs,rel,dd⟩:=q3q I.hok e;refine sK PySem.F.slot_dict_get dd.typeIs PySem.F.entry_dict_get (PySem.F.args_dict_get_3 _ _ _) (meets_dict_get_default (Yx X.prog X.w) a (q3A ry) hd r) ⟨_,dd.mapOf,h _ _ (I.tok _) ?_⟩;rw[l];exact(rel.val k).getD rd
 ·subst ey
  cases (show u=Value.ref b from ry);obtain⟨z,hd,xs,rel,dd⟩:=q4C I.hok e;refine sK PySem.F.slot_dict_get dd.typeIs PySem.F.entry_dict_get (PySem.F.args_dict_get_3 _ _ _) (meetsH_dict_get_default (tL (Yx X.prog X.w)) a b hd r) ⟨ue hu,k,xs,q4c I.hok eb,dd,h _ _ (I.tok _) ?_⟩;rw[l];exact(rel.val k).getD rd
end
noncomputable def zBg(td ty tx:TE):TE:=λσ H Q=>td σ H λx H1=>∃a,x=.ref a/\IsD H1 a/\ty σ H1 λy H2=>tx σ H2 λz H3=>∃o,zAB H3 a y o/\Q (o.getD z) H3
section
variable{X:Cx}{o e f:vX}{apos cpos:Pos}{td ty tx:TE}
theorem q8s(hu:X.A.units+1<uc)(ho:PE X o td)(he:PE X e ty)(hf:PE X f tx)(m:M2 X o "get" apos e f cpos):PE X (.Call (.Attribute o "get" apos) [e,f] [] cpos) (zBg td ty tx):=by
 intro pins s σ H Q I h;refine wpAny_Call_method m.base m.few m.line PySem.F.plainAttrs_dict PySem.F.slot_dict_get PySem.F.type_dict_get (thn (ho pins s σ H _ I h) λu s1 ⟨x,H1,I1,rx,a,ex,d,q1⟩=>?_);subst ex;obtain rfl:u=Value.ref a:=rx;obtain⟨t1,t2,_⟩:=qcQ I1 d;refine⟨t1,t2,?_⟩;rw[m.trees];refine Calls.callWith_builtin rfl (Calls.evalArgs_plain (Calls.spliced_cons (thn (he pins s1 σ H1 _ I1 q1) λiv s2 ⟨y,H2,I2,ry,q2⟩=>
  Calls.spliced_cons (thn (hf pins s2 σ H2 _ I2 q2) λfv s3 ⟨z,H3,I3,rz,ov,g,q3⟩=>Calls.spliced_nil ?_))))
 exact qgD hu I3 g ry rz λw' s4 I4 rw'=>⟨_,H3,I4,rw',q3⟩
end
section
variable{X:Cx}{pins:List (vJ×Obj)}{σ:St}{H:Hp}{s:vG}{a:vJ}{kvs:List (Key×V)}{A:vb}{E:vB->vG->Prop}
end
section
variable{X:Cx}{pins:List (vJ×Obj)}{σ:St}{H:Hp}{s:vG}{a:vJ}{y:V}{u:vB}{A:vb}{E:vB->vG->Prop}
end
end L2
namespace Hk
open PySem L2
noncomputable def Y4{α:Type}:List Int->List α->Int->Option α
 | k'::ks,x::xs,k=>if k'=k then some x else Y4 ks xs k
 | _,_,_=>none
noncomputable def repA{α:Type}:List Int->List α->Int->α->List α
 | k'::ks,x::xs,k,y=>(if k'=k then y else x)::repA ks xs k y
 | _,xs,_,_=>xs
noncomputable def WY(ks:List Int)(k:Int):List Int:=if k∈ks then ks else ks++[k]
noncomputable def putA{α:Type}(ks:List Int)(xs:List α)(k:Int)(y:α):List α:=if k∈ks then repA ks xs k y else xs++[y]
theorem q7L{α:Type}:∀(ks:List Int)(xs:List α)(k:Int)(y:α),(repA ks xs k y).length=xs.length
 | [],xs,_,_=>rfl
 | _::_,[],_,_=>rfl
 | k'::ks,x::xs,k,y=>by show (repA ks xs k y).length+1=xs.length+1;rw[q7L ks xs k y]
theorem qew{α:Type}{ks:List Int}{xs:List α}(k:Int)(y:α)(h:ks.length=xs.length):(WY ks k).length=(putA ks xs k y).length:=by
 unfold WY putA
 by_cases z:k∈ks
 ·rw[vC z,vC z,q7L];exact h
 ·rw[vF z,vF z,zC,zC,h];rfl
theorem q0b:∀{ks:List Int}{vs:List V},ks.length=vs.length->∀k,We (kvsOf ks vs) (Sum.inl k)=Y4 ks vs k
 | [],[],_,k=>rfl
 | [],_::_,h,_=>by simp at h
 | _::_,[],h,_=>by simp at h
 | k'::ks,v::vs,h,k=>by
  show We ((Sum.inl k',v)::kvsOf ks vs) (Sum.inl k)=if k'=k then some v else Y4 ks vs k
  by_cases z:k'=k
  ·rw[vC z,q3I (p:=((Sum.inl k':Key),v)) (by rw[z])]
  ·rw[vF z,q3r (p:=((Sum.inl k':Key),v)) (λe=>z (Sum.inl.inj e))]
   exact q0b ⇑h k
theorem q2T:∀{ks:List Int}{vs:List V},ks.length=vs.length->(kvsOf ks vs).length=ks.length
 | [],[],_=>rfl
 | [],_::_,h=>by simp at h
 | _::_,[],h=>by simp at h
 | k'::ks,v::vs,h=>by show (kvsOf ks vs).length+1=_;rw[q2T ⇑h];rfl
theorem q5E:∀{ks:List Int}{vs:List V},ks.length=vs.length->(kvsOf ks vs).map (·.1)=ks.map (Sum.inl:Int->Key)
 | [],[],_=>rfl
 | [],_::_,h=>by simp at h
 | _::_,[],h=>by simp at h
 | k'::ks,v::vs,h=>by show (Sum.inl k':Key)::(kvsOf ks vs).map (·.1)=_;rw[q5E ⇑h];rfl
theorem q6M:∀{ks:List Int}{vs:List V},ks.length=vs.length->∀k,(kvsOf ks vs).any (λkv=>decide (kv.1=(Sum.inl k:Key)))=decide (k∈ks)
 | [],[],_,_=>rfl
 | [],_::_,h,_=>by simp at h
 | _::_,[],h,_=>by simp at h
 | k'::ks,v::vs,h,k=>by
  show (decide ((Sum.inl k':Key)=Sum.inl k) || (kvsOf ks vs).any _)=_;rw[q6M ⇑h k];have e:decide ((Sum.inl k':Key)=Sum.inl k)=decide (k'=k):=by
   by_cases z:k'=k
   ·rw[z];simp
   ·rw[vW z,vW (λe=>z (Sum.inl.inj e))]
  rw[e];simp only[zG]
  by_cases z:k'=k
  ·simp[z]
  ·have:¬k=k':=λy=>z y.symm
   simp[z,this]
theorem q7e:∀{ks:List Int}{vs:List V},ks.length=vs.length->∀(k:Int)(v:V),(kvsOf ks vs).map (λkv=>if kv.1=(Sum.inl k:Key)then (kv.1,v)else kv)=kvsOf ks (repA ks vs k v)
 | [],[],_,_,_=>rfl
 | [],_::_,h,_,_=>by simp at h
 | _::_,[],h,_,_=>by simp at h
 | k'::ks,u::vs,h,k,v=>by
  show (if (Sum.inl k':Key)=Sum.inl k then ((Sum.inl k':Key),v)else (Sum.inl k',u))::(kvsOf ks vs).map _=(Sum.inl k',if k'=k then v else u)::kvsOf ks (repA ks vs k v);rw[q7e ⇑h k v]
  by_cases z:k'=k
  ·rw[vC (by rw[z]),vC z]
  ·rw[vF (λe=>z (Sum.inl.inj e)),vF z]
theorem q5u:∀{ks:List Int}{vs:List V},ks.length=vs.length->∀(k:Int)(v:V),kvsOf ks vs++[(Sum.inl k,v)]=kvsOf (ks++[k]) (vs++[v])
 | [],[],_,_,_=>rfl
 | [],_::_,h,_,_=>by simp at h
 | _::_,[],h,_,_=>by simp at h
 | k'::ks,u::vs,h,k,v=>by show _::(kvsOf ks vs++[(Sum.inl k,v)])=_;rw[q5u ⇑h k v];rfl
theorem q41{ks:List Int}{vs:List V}(h:ks.length=vs.length)(k:Int)(v:V):putK (kvsOf ks vs) (Sum.inl k) v=kvsOf (WY ks k) (putA ks vs k v):=by
 unfold putK WY putA;rw[q6M h]
 by_cases z:k∈ks
 ·rw[vC (vQ z),vC z,vC z];exact q7e h k v
 ·rw[vF (by rw[vW z];decide),vF z,vF z];exact q5u h k v
section
variable{K:zA}{G:Hp}
theorem Yp.val:∀{ks:List Int}{ds:List D}{vs:List V}{k:Int}{d:D},Yp K G ds vs->Y4 ks ds k=some d->∃v,Y4 ks vs k=some v/\Rep K G d v
 | [],_,_,_,_,_,e=>by cases e
 | _::_,[],_,_,_,_,e=>by cases e
 | k'::ks,d'::ds,_,k,d,⟨v,r,h1,h2,h3⟩,e=>by
  subst h1;have e:(if k'=k then some d' else Y4 ks ds k)=some d:=e;show ∃u,(if k'=k then some v else Y4 ks r k)=some u/\_
  by_cases z:k'=k
  ·rw[vC z]at e ⊢;cases e;exact⟨v,rfl,h2⟩
  ·rw[vF z]at e ⊢;exact Yp.val h3 e
theorem Yp.isVal:∀{ks:List Int}{ds:List D}{vs:List V}(k:Int),Yp K G ds vs->(Y4 ks vs k).isSome=(Y4 ks ds k).isSome
 | [],_,_,_,_=>rfl
 | _::_,[],_,_,h=>by cases (show _=[]from h);rfl
 | k'::ks,d'::ds,_,k,⟨v,r,h1,h2,h3⟩=>by
  subst h1;show (if k'=k then some v else Y4 ks r k).isSome=(if k'=k then some d' else Y4 ks ds k).isSome
  by_cases z:k'=k
  ·rw[vC z,vC z];rfl
  ·rw[vF z,vF z];exact Yp.isVal k h3
theorem Yp.repA:∀{ks:List Int}{ds:List D}{vs:List V}(k:Int){d:D}{v:V},Yp K G ds vs->Rep K G d v->Yp K G (Hk.repA ks ds k d) (Hk.repA ks vs k v)
 | [],_,_,_,_,_,h,_=>h
 | _::_,[],_,_,_,_,h,_=>by cases (show _=[]from h);rfl
 | k'::ks,d'::ds,_,k,d,v,⟨u,r,h1,h2,h3⟩,hv=>by
  subst h1;refine⟨_,_,rfl,?_,Yp.repA k h3 hv⟩
  by_cases z:k'=k
  ·rw[vC z,vC z];exact hv
  ·rw[vF z,vF z];exact h2
theorem Yp.putA{ks:List Int}{ds:List D}{vs:List V}(k:Int){d:D}{v:V}(h:Yp K G ds vs)(hv:Rep K G d v):Yp K G (Hk.putA ks ds k d) (Hk.putA ks vs k v):=by
 unfold Hk.putA
 by_cases z:k∈ks
 ·rw[vC z,vC z];exact h.repA k hv
 ·rw[vF z,vF z];exact h.app (Yp.cons hv Yp.nil)
end
noncomputable def Wi:Option (Option W)->Option (List Int×List D)
 | some (some (.od ks ds))=>some (ks,ds)
 | some ↥(.dic ks ds)=>some (ks,ds)
 | _=>none
theorem qa6{H H':Hp}{p:vJ}{u:HO}(e:Yz H H')(h:Rd H p u):Rd H' p u:=by
 rcases h with h|⟨o,h⟩
 ·exact .inl (e _ _ h)
 ·exact .inr ⟨o,e _ _ h⟩
theorem qa5{H:Hp}{a:vJ}{kvs:List (Key×V)}{k:Key}(e:Rd H a (.dK kvs)):zAB H a (kV k) (We kvs k):=.inl ⟨kvs,k,e,rfl,rfl⟩
theorem Own.dic{K:zA}{G0:Hp}{H0:Fr}{G:Hp}{ω:WSt}{σ:St}{H:Hp}{i:Nat}{ks:List Int}{ds:List D}(o:Own K G0 H0 G ω σ H)(h:Wi ω[i]?=some (ks,ds)):
  ∃p vs,σ[i]?=some (some (.ref p))/\Rd H p (.dK (kvsOf ks vs))/\ks.length=ds.length/\Yp K G ds vs:=by
 unfold Wi at h
 split at h
 ·rename_i q
  cases h;obtain⟨p,vs,h1,h2,_,_,h5,h6,_⟩:=o.od i _ _ q;exact⟨p,vs,h1,.inl h2,h5,h6⟩
 ·rename_i q
  cases h;obtain⟨v,h1,p,vs,rfl,⟨ob,h2⟩,h3,h4⟩:=o.sh i _ q;exact⟨p,vs,h1,.inr ⟨ob,o.gh _ _ h2⟩,h3,h4⟩
 ·cases h
section
variable{X:Cx}{o k e:vX}{pos pos' dpos:Pos}{i:Nat}{fk fv:FD}
theorem hu1(hu:X.A.units+64<uc):X.A.units+1<uc:=∅
noncomputable def zCj(i:Nat)(fk fv:FD):FS:=λω=>(fv ω).bind λd=>(fk ω).bind λc=>match c,ω[i]? with
 | .int k,some (some (.od ks ds))=>if ks.length<1000000 then some (.nx,ω.set i (some (.od (WY ks k) (putA ks ds k d))))else none
 | _,_=>none
theorem qeC(hu:X.A.units+64<uc)(ho:PE X o (XL i))(hk:XD X k fk)(hv:XD X e fv)(hs:vz e (some (.Subscript o k pos')) pos.line X.env=pure false:=by rfl):XS X (.Assign [.Subscript o k pos'] e pos) (zCj i fk fv):=by
 obtain⟨tk,h1,h2⟩:=hk;obtain⟨tv,h3,h4⟩:=hv;refine⟨_,q9m (hu1 hu) ho h1 h3 hs,λG0 H0 G ω σ H out ω' E ow e kk=>?_⟩;obtain⟨d,q1,e⟩:=bnd e;obtain⟨c,q2,e⟩:=bnd e;refine h4 G0 H0 G ω σ H d _ ow q1 λv G1 H1 x1 y1=>?_;cases c with
 | int k=>
  split at e
  ·rename_i _ _ _ k' ks ds ek q3
   cases ek
   by_cases z:ks.length<1000000
   ·rw[vC z]at e
    cases e;have o1:=ow.keep x1;obtain⟨p,vs,r1,r2,r3,r4,r5,r6,r7⟩:=o1.od i ks ds q3;refine⟨.ref p,r1,h2 G0 H0 G1 ω σ H1 _ _ o1 q2 λu G2 H2 x2 y2=>?_⟩;cases (show u=.int k from y2);have o2:=o1.keep x2;have hl:ks.length=vs.length:=by rw[r5];exact r6.len
    refine⟨p,_,rfl,zCa.k (k:=Sum.inl k) (x2.hh _ _ r2) (by rw[q2T hl,vp];omega),?_⟩;rw[q41 hl];exact kk G2 σ _ (o2.mutD q3 r1 (x2.hh _ _ r2) (x2.new p r3 (by rw[r2];exact λz=>by cases z)) r4 (qew k d r5) ((r6.mono x2.gg).putA k (y1.mono x2.gg))) (x1.gg.trans x2.gg)
   ·rw[vF z]at e;cases e
  ·cases e
 | _=>cases e
noncomputable def zCV(i:Nat)(fk:FD):FE:=λω=>(Wi ω[i]?).bind λp=>(fk ω).bind λc=>match c with
 | .int k=>(Y4 p.1 p.2 k).map R.sh
 | _=>none
theorem qeU(hu:X.A.units+64<uc)(ho:PE X o (XL i))(hk:XD X k fk)(hs:NoSl k:=by intro _ _;rfl):XE X (.Subscript o k pos) (zCV i fk):=by
 obtain⟨tk,h1,h2⟩:=hk;refine⟨_,q4D (hu1 hu) ho h1 hs,λG0 H0 G ω σ H r Q ow e kk=>?_⟩;obtain⟨⟨ks,ds⟩,q1,e⟩:=bnd e;obtain⟨c,q2,e⟩:=bnd e;obtain⟨p,vs,r1,r2,r3,r4⟩:=ow.dic q1;refine⟨.ref p,r1,h2 G0 H0 G ω σ H c _ ow q2 λu G1 H1 x1 y1=>?_⟩;cases c with
 | int k=>
  cases (show u=.int k from y1);obtain⟨d,q3,e⟩:=mpd e;subst e;obtain⟨v,z1,z2⟩:=r4.val q3;have hl:ks.length=vs.length:=by rw[r3];exact r4.len
  have g:=qa5 (k:=(Sum.inl k:Key)) (qa6 x1.hh r2);rw[q0b hl,z1]at g;exact⟨p,v,rfl,g,kk v G1 H1 x1 (z2.mono x1.gg)⟩
 | _=>cases e
noncomputable def zBn(neg:Bool)(i:Nat)(fk:FD):FT:=λω=>(fk ω).bind λc=>(Wi ω[i]?).bind λp=>match c with
 | .int k=>some (if neg then !(Y4 p.1 p.2 k).isSome else (Y4 p.1 p.2 k).isSome)
 | _=>none
theorem qf4{tk:TE}{neg:Bool}(h2:zBY X.K tk fk):zBM X.K (tB (if neg then zBP tk (XL i)else L2.tDIn tk (XL i))) (zBn neg i fk):=by
 intro G0 H0 G ω σ H b Q ow e kk;obtain⟨c,q2,e⟩:=bnd e;obtain⟨⟨ks,ds⟩,q1,e⟩:=bnd e;cases c with
 | int k=>
  have fin:∀(u:V)G1 H1,Ext G H G1 H1->u=.int k->∃p vs,σ[i]?=some (some (.ref p))/\zAB H1 p u (Y4 ks vs k)/\(Y4 ks vs k).isSome=(Y4 ks ds k).isSome:=λu G1 H1 x1 hu=>by
   subst hu;obtain⟨p,vs,r1,r2,r3,r4⟩:=ow.dic q1;have hl:ks.length=vs.length:=by rw[r3];exact r4.len
   have g:=qa5 (k:=(Sum.inl k:Key)) (qa6 x1.hh r2);rw[q0b hl]at g;exact⟨p,vs,r1,g,Yp.isVal k r4⟩
  cases neg with
  | true=>
   refine h2 G0 H0 G ω σ H _ _ ow q2 λu G1 H1 x1 y1=>?_;obtain⟨p,vs,r1,g,hs⟩:=fin u G1 H1 x1 y1;refine⟨.ref p,r1,p,_,rfl,g,_,rfl,?_⟩;cases e;rw[hs];exact kk G1 H1 x1
  | false=>
   refine h2 G0 H0 G ω σ H _ _ ow q2 λu G1 H1 x1 y1=>?_;obtain⟨p,vs,r1,g,hs⟩:=fin u G1 H1 x1 y1;refine⟨.ref p,r1,p,_,rfl,g,_,rfl,?_⟩;cases e;rw[hs];exact kk G1 H1 x1
 | _=>cases e
theorem qbK(hu:X.A.units+64<uc)(hk:XD X k fk)(ho:PE X o (XL i))(hb:v5 .NotIn o=false:=by rfl):XT X (.Compare k [.NotIn] [o] pos) (zBn true i fk):=by
 obtain⟨tk,h1,h2⟩:=hk;exact⟨_,qgH (qcY (hu1 hu) h1 ho) hb,qf4 (neg:=true) h2⟩
end
section
variable{X:Cx}{o k e:vX}{pos pos' dpos:Pos}{i:Nat}{fk fv:FD}
noncomputable def zBU(i:Nat)(fk fv:FD):FS:=λω=>(fk ω).bind λc=>(fv ω).bind λd=>match c with
 | .int k=>some (.nx,ω.set i (some (.od [k] [d])))
 | _=>none
theorem qdw{x:Str}(hN:X.N.Nodup)(hi:X.N[i]?=some x)(hx:Loc X.env.scope x)(hk:XD X k fk)(hv:XD X e fv)(hs:vz (.Dict [some k] [e] dpos) (some (.Name x pos')) pos.line X.env=pure false:=by rfl)(hf:X.fn x=true\/X.env.scope.names.lookup x=some .local:=by first|exact .inl rfl|exact .inr rfl|assumption):
  XS X (.Assign [.Name x pos'] (.Dict [some k] [e] dpos) pos) (zBU i fk fv):=by
 obtain⟨tk,h1,h2⟩:=hk;obtain⟨tv,h3,h4⟩:=hv;refine⟨_,q05 hN hi hx (qeE (qdD h1 h3 qfr) rfl rfl (by simp) (by show 1<=15;decide)) hs hf,λG0 H0 G ω σ H out ω' E ow e kk=>?_⟩;obtain⟨c,q1,e⟩:=bnd e;obtain⟨d,q2,e⟩:=bnd e;cases c with
 | int k=>
  cases e;intro p hp;have x0:=Ext.hide ow.gh hp (.dK []);have o1:=ow.keep x0;refine h2 G0 H0 G ω σ _ _ _ o1 q1 λu G1 H1 x1 y1=>?_;cases (show u=.int k from y1);have o2:=o1.keep x1;refine h4 G0 H0 G1 ω σ H1 d _ o2 q2 λv G2 H2 x2 y2=>?_;have o3:=o2.keep x2;have hp2:H2 p=some (.dK []):=x2.hh _ _ (x1.hh _ _ qe);have gp1:G1 p=none:=x1.new p (ow.gh.free hp) (by rw[qe];exact λz=>by cases z);have gp2:G2 p=none:=x2.new p gp1 (by rw[x1.hh _ _ qe];exact λz=>by cases z);have h0p:H0 p=none:=ow.ext.hh.free hp;refine⟨hp2,[(Sum.inl k,v)],rfl,by show 1<=15;decide,?_⟩;have em:Wv [] [((Sum.inl k:Key),v)]=kvsOf [k] [v]:=by
   show putK [] (Sum.inl k:Key) v=_;unfold putK;rw[vF (by simp)];rfl
  rw[em];have ext4:Ext G0 H0.hp G2 (upd H2 p (.dK (kvsOf [k] [v]))):=⟨o3.ext.gg,Yv o3.ext.gh gp2 _,Yv o3.ext.hh h0p _,o3.ext.new⟩;have np:∀(j:Nat)ds',ω[j]?=some (some (.ow ds'))->∀l vs,σ[j]?=some (some (.ref l))->H2 l=some (.lst vs)->l≠p:=λj ds' hj l vs _ h z=>by rw[z,hp2]at h;cases h
  have npd:∀(j:Nat)ks' es,ω[j]?=some (some (.od ks' es))->σ[j]?≠some (some (.ref p)):=λj ks' es hj z=>by
   obtain⟨q,us,w1,w2,_⟩:=ow.od j ks' es hj;rw[w1]at z;cases z;rw[hp]at w2;cases w2
  have o4:Own X.K G0 H0 G2 ω σ (upd H2 p (.dK (kvsOf [k] [v]))):=by
   refine⟨ext4,o3.len,o3.sh,λj ds' hj=>?_,o3.nd,λj ks' es hj=>?_,o3.pw.upd (o3.pw.ne_ob λvs z=>by rw[hp2]at z;cases z)⟩
   ·obtain⟨l,vs,w1,w2,w3,w4,w5⟩:=o3.ow j ds' hj
    exact⟨l,vs,w1,by rw[qd (np j ds' hj l vs w1 w2)];exact w2,w3,w4,w5⟩
   ·obtain⟨q,us,w1,w2,w3,w4,w5,w6,w7⟩:=o3.od j ks' es hj
    have nq:q≠p:=λz=>npd j ks' es hj (by rw[<- z];exact w1);exact⟨q,us,w1,by rw[qd nq];exact w2,w3,w4,w5,w6,w7⟩
  exact kk G2 _ _ (o4.setOd (ks:=[k]) (ds:=[d]) (vs:=[v]) qe gp2 h0p rfl (Yp.cons y2 Yp.nil) npd) (x1.gg.trans x2.gg)
 | _=>cases e
end
section
open PySem.Spec PyProof.Rows PySem.W
theorem q9K:∀(vs:List vB)(ns:List Int),vs.length=ns.length->(∀(j:Nat)v n,vs[j]?=some v->ns[j]?=some n->∃t,v=.int n t)->uG vs ns
 | [],[],_,_=>.nil
 | [],_::_,h,_=>by simp at h
 | _::_,[],h,_=>by simp at h
 | v::vs,n::ns,h,f=>by
  obtain⟨t,rfl⟩:=f 0 v n rfl rfl;exact .cons _ _ (q9K vs ns ⇑h λj a b e1 e2=>f (j+1) a b ⇑e1 ⇑e2)
variable{prog:vS}{w:vZ}{A:vb}{E:vB->vG->Prop}{s:vG}
theorem q9i{a:vJ}{kvs:List (Key×vB)}{ns:List Int}{Q:vB->vG->Prop}(hh:A.handled=none)(lo:(a==uK)=false)(dd:s.heap.DictOf (Yx prog w) a kvs)(hk:kvs.map (·.1)=ns.map (Sum.inl:Int->Key))(h64:ns.length<64)(h:∀(h1 h':vn)(tk:Nat)(vs:List vB)(ys:List Int)(n:Nat),(∀b o,s.heap.get? b=some o->h1.get? b=some o)->(∀b o,h1.get? b=some o->h'.get? b=some o)->h'.get? h1.objs.size=some (uW "list" vs.toArray n)->uG vs ys->ys.Perm ns->ys.Pairwise (· <= ·)->Q (.ref h1.objs.size) { s with heap:=h',toks:=tk }):
  vN (model prog w) A (call (.builtin "sorted") [.ref a]) Q E s:=by
 obtain⟨ep,hat⟩:=dd.dictAt;have hkl:kvs.length=ns.length:=by have:=uL xh hk;simpa using this
 refine Calls.call_function_entry sP sH sI (sJ _) ?_;unfold Builtin.«sorted»;refine vA (m:=checkCount "sorted" 1 1 _) (vH ?_);refine vA (kdu_collect (A:=A.in1) (kdl_dict (knd:=Yx prog w) (kvs:=kvs) (ep:=ep) lo) hh hat (by rw[hkl];exact yK (yZ h64) (by decide)) λh1 tk acc hk1 hacc=>?_);have y1:uG acc.toList ns:=by
  refine q9K _ _ (by rw[zO,hacc.1,hkl]) λj v n e1 e2=>?_;obtain⟨k,x,hx,hi⟩:=hacc.2 j v (by rw[<- zn];exact e1);have e3:(kvs.map (·.1))[j]?=some k:=by rw[zV,hx];rfl
  rw[hk,zV,e2]at e3;cases e3;rcases qD (k:=(Sum.inl n:Key)) hi with⟨i,t,e4,rfl⟩|⟨x,t,e4,_⟩
  ·cases e4;exact⟨t,rfl⟩
  ·cases e4
 have hlen:acc.toList.length=ns.length:=IntsAre.length y1;refine vA (tI ?_ (yK (by rw[hlen];exact yZ h64) (by decide)));generalize acc.toList=vs at y1 hlen;have hoL:(h1.push (uW "list" vs.toArray 0)).get? h1.objs.size=some (uW "list" vs.toArray 0):=zQ _ rfl;refine vA (vh (ve slot_list_sort ⟨_,hoL,rfl⟩ entry_list_sort (list_sort_tree hoL y1 (by rw[hlen];exact h64) λout ns' a1 a2 a3=>⟨_,rfl,?_⟩) (tX _)));obtain⟨n,hn⟩:=sortedHeap_at (vs:=vs) (out:=out) hoL;refine vH ⟨_,rfl,h h1 _ tk out.toList ns' n hk1 (λb o e1=>?_) ?_ a1 a2 a3⟩
 ·rw[sortedHeap_old (zg (zM e1)) (by rw[yX];exact yP (zM e1))]
  exact zF _ e1
 ·rw[wP];exact hn
end
def rSortD:List V->Hp->VK->Prop:=λxs H Q=>∃p kvs ns,xs=[.ref p]/\Rd H p (.dK kvs)/\kvs.map (·.1)=ns.map (Sum.inl:Int->Key)/\ns.length<64/\∀l,H l=none->Q (.ref l) (upd H l (.lst ((Y7 ns).map V.int)))
section
variable{X:Cx}{o:vX}{i:Nat}
theorem qbs(hc:X.calm=true):Xu X (.builtin "sorted") rSortD:=by
 intro pins s σ H xs us Q I r h;obtain⟨p,kvs,ns,rfl,hp,hk,hz,q⟩:=h;obtain⟨u,rfl,rx⟩:=vals1 r;cases rx;obtain⟨_,lo,vs,rel,dd⟩:=q3q I.hok hp;refine q9i (I.ok.hd hc) lo dd (by rw[<- rel.keys];exact hk) hz λh1 h' tk us ys n k1 k2 g1 a1 a2 a3=>?_;have en:ys=Y7 ns:=q2i a3 q2s (a2.trans qI.symm);subst en;have I1:Inv X pins σ H { s with heap:=h1,toks:=tk }:=I.kept k1;have hsl:(Y7 ns).length<=sizeLine:=by rw[q6N];exact yK (yZ hz) (by decide)
 have I2:=I1.laid (a:=h1.objs.size) (o:=.lst ((Y7 ns).map V.int)) (t':=tk) (h':=h') k2 (zK _)
  (show Y6 X.prog X.w _ h' _ (.lst _)from ⟨by rw[zB];exact hsl,us,n,q22 a1,g1⟩)
 exact⟨.ref _,_,I2,rfl,q _ (I1.hok.fresh (zK _))⟩
noncomputable def zBh(i:Nat):FE:=λω=>(Wi ω[i]?).bind λp=>if p.1.length<64 then some (.fr ((Y7 p.1).map D.int))else none
theorem qdo{p q:Pos}(hc:X.calm=true)(hg:Gl X "sorted")(hm:X.mg "sorted" = none)(ho:PE X o (XL i))(he:vK [o] X.env=(false,eval o X.env)::vK [] X.env:=by rfl)(hpl:(v3 q (vK [] X.env)).any (·.1)=false:=by rfl):XE X (.Call (.Name "sorted" p) [o] [] q) (zBh i):=by
 refine⟨_,q2r (qbs hc) hg hm q45 (qv ho qt he) (by decide) (by decide) he hpl,λG0 H0 G ω σ H r Q ow e k=>?_⟩;obtain⟨⟨ks,ds⟩,q1,e⟩:=bnd e;obtain⟨p,vs,r1,r2,r3,r4⟩:=ow.dic q1
 by_cases hz:ks.length<64
 ·have e:(if ks.length<64 then some (R.fr ((Y7 ks).map D.int))else none)=some r:=e
  rw[vC hz]at e;cases e;refine⟨.ref p,r1,p,_,ks,rfl,r2,q5E (by rw[r3];exact r4.len),hz,λl hl=>?_⟩;have x2:=Ext.hide ow.gh hl (.lst ((Y7 ks).map V.int));exact k _ G _ x2 ⟨l,_,rfl,hl,ow.gh.free hl,qe,Yp.ints _⟩
 ·have e:(if ks.length<64 then some (R.fr ((Y7 ks).map D.int))else none)=some r:=e
  rw[vF hz]at e;cases e
noncomputable def zBq(i:Nat):FM:=λω=>match ω[i]? with
 | some (some (.ow ds))=>(ds[ds.length-1]?).map λd=>(d,ω.set i (some (.ow ds.dropLast)))
 | _=>none
theorem Yp.dropLast{K:zA}{H:Hp}{ds:List D}{vs:List V}(h:Yp K H ds vs):Yp K H ds.dropLast vs.dropLast:=by
 rw[ZM,ZM,h.len];exact h.take _
theorem qep{apos cpos:Pos}(ho:PE X o (XL i))(hbase:uI o "pop" X.env (eval o X.env)=eval o X.env:=by rfl)(hline:(apos.endLine==cpos.line)=true:=by rfl):
  XM X (.Call (.Attribute o "pop" apos) [] [] cpos) (zBq i):=by
 refine⟨_,q7H PySem.F.plainAttrs_list PySem.F.slot_list_pop PySem.F.type_list_pop q8C ho hbase hline,λG0 H0 G ω σ H d ω' Q ow e k=>?_⟩;unfold zBq at e
 split at e
 ·rename_i ds q2
  obtain⟨d1,hd,e⟩:=mpd e;cases e;obtain⟨l,vs,r1,r2,r3,r4,r5⟩:=ow.ow i ds q2;obtain⟨y,hy,ry⟩:=r5.get hd;refine⟨.ref l,r1,.inl ⟨rfl,vs,SqL.of r2⟩,l,vs,y,rfl,rfl,r2,by rw[<- r5.len];exact hy,k y G _ (ow.mut q2 r1 r2 r3 r4 r5.dropLast) (Yz.refl _) ry⟩
 ·cases e
end
noncomputable def Wd:List Int->List (List Int)->Int->Int->List (List Int)
 | k::ks,x::xs,a,b=>if k=a then (x++[b])::xs else x::Wd ks xs a b
 | _,xs,_,_=>xs
theorem q4X:∀(ks:List Int)(xs:List (List Int))(a b:Int),(Wd ks xs a b).length=xs.length
 | [],_,_,_=>rfl
 | _::_,[],_,_=>rfl
 | k::ks,x::xs,a,b=>by
  unfold Wd
  by_cases z:k=a
  ·rw[vC z];rfl
  ·rw[vF z,zD,zD,q4X ks xs a b]
structure Tab (G H0 H:Hp) (p:vJ) (ks:List Int) (ls:List vJ) (xss:List (List Int)):Prop where
 dict:H p=some (.dK (kvsOf ks (ls.map V.ref)))
 gp:G p=none
 hp:H0 p=none
 len:ks.length=ls.length
 len2:ls.length=xss.length
 lst:∀(j:Nat)l xs,ls[j]?=some l->xss[j]?=some xs->H l=some (.lst (xs.map V.int))
 gl:∀l∈ls,G l=none/\H0 l=none
 nd:ls.Nodup
theorem Tab.inn{G H0 H:Hp}{p:vJ}{ks:List Int}{ls:List vJ}{xss:List (List Int)}(T:Tab G H0 H p ks ls xss){l:vJ}(h:l∈ls):∃xs:List Int,H l=some (.lst (xs.map V.int)):=by
 obtain⟨j,hj,rfl⟩:=zy.mp h;have hj2:j<xss.length:=by rw[<- T.len2];exact hj
 exact⟨xss[j],T.lst j _ _ (zE hj) (zE hj2)⟩
theorem Tab.pl{G H0 H:Hp}{p:vJ}{ks:List Int}{ls:List vJ}{xss:List (List Int)}(T:Tab G H0 H p ks ls xss):p∉ls:=λh=>by
 obtain⟨xs,e⟩:=T.inn h;rw[T.dict]at e;cases e
theorem Tab.keep{G G' H0 H H':Hp}{p:vJ}{ks:List Int}{ls:List vJ}{xss:List (List Int)}(T:Tab G H0 H p ks ls xss)(x:Ext G H G' H'):Tab G' H0 H' p ks ls xss :=
 ⟨x.hh _ _ T.dict,x.new p T.gp (by rw[T.dict];exact λz=>by cases z),T.hp,T.len,T.len2,λj l xs h1 h2=>x.hh _ _ (T.lst j l xs h1 h2),λl h=>by
  obtain⟨xs,e⟩:=T.inn h;exact⟨x.new l (T.gl l h).1 (by rw[e];exact λz=>by cases z),(T.gl l h).2⟩,T.nd⟩
theorem qcm:∀{ks:List Int}{ls:List vJ}{a:Int},ks.length=ls.length->a∈ks->∃(j:Nat) (l:vJ),ks[j]?=some a/\ls[j]?=some l/\Y4 ks (ls.map V.ref) a=some (.ref l)/\∀(xss:List (List Int))(b:Int),xss.length=ls.length->∃xs,xss[j]?=some xs/\Wd ks xss a b=xss.set j (xs++[b])
 | [],_,_,_,h=>by simp at h
 | _::_,[],_,h,_=>by simp at h
 | k::ks,l::ls,a,h,ha=>by
  by_cases z:k=a
  ·refine⟨0,l,by rw[z];rfl,rfl,vC z,λxss b hx=>?_⟩
   cases xss with
   | nil=>simp at hx
   | cons x xs=>exact⟨x,rfl,vC z⟩
  ·have ha':a∈ks:=(zG.mp ha).resolve_left λe=>z e.symm
   obtain⟨j,l',e1,e2,e3,e4⟩:=qcm (ks:=ks) (ls:=ls) ⇑h ha';refine⟨j+1,l',e1,e2,?_,λxss b hx=>?_⟩
   ·show (if k=a then _ else _)=_
    rw[vF z];exact e3
   ·cases xss with
    | nil=>simp at hx
    | cons x xs=>
     obtain⟨y,h1,h2⟩:=e4 xs b ⇑hx;refine⟨y,h1,?_⟩;show (if k=a then _ else x::Wd ks xs a b)=_;rw[vF z,h2];rfl
theorem Tab.app{G H0 H:Hp}{p:vJ}{ks:List Int}{ls:List vJ}{xss:List (List Int)}(T:Tab G H0 H p ks ls xss){a:Int}(b:Int)(ha:a∈ks):
  ∃(l:vJ) (xs:List Int),l∈ls/\xs∈xss/\Y4 ks (ls.map V.ref) a=some (.ref l)/\zAB H p (.int a) (some (.ref l))/\H l=some (.lst (xs.map V.int))/\Tab G H0 (upd H l (.lst ((xs++[b]).map V.int))) p ks ls (Wd ks xss a b):=by
 obtain⟨j,l,e1,e2,e3,e4⟩:=qcm T.len ha;obtain⟨xs,e5,e6⟩:=e4 xss b T.len2.symm;have hl:l∈ls:=yS e2;have hlp:p≠l:=λz=>T.pl (z▸hl);have g:=zAB.k (k:=(Sum.inl a:Key)) T.dict;rw[q0b (by rw[zB];exact T.len),e3]at g;refine⟨l,xs,hl,yS e5,e3,g,T.lst j l xs e2 e5,?_⟩;rw[e6];refine⟨by rw[qd hlp];exact T.dict,T.gp,T.hp,T.len,by rw[yA];exact T.len2,λi m ys h1 h2=>?_,T.gl,T.nd⟩;rcases qc h2 with⟨rfl,_,rfl⟩|⟨ne,h3⟩
 ·rw[e2]at h1
  cases h1;exact qe
 ·have hm:m≠l:=λz=>by
   subst z;obtain⟨i1,i2⟩:=zf.mp h1;obtain⟨j1,j2⟩:=zf.mp e2;exact ne ((wJ T.nd).mp (j2.trans i2.symm))
  rw[qd hm];exact T.lst i m ys h1 h3
theorem Own.free{K:zA}{G0:Hp}{H0:Fr}{G:Hp}{ω:WSt}{σ:St}{H:Hp}{q:vJ}{ob:HO}(o:Own K G0 H0 G ω σ H)(no:X3 ω)(hG:G q=none)(h0:H0 q=none):Own K G0 H0 G ω σ (upd H q ob) :=
 ⟨⟨o.ext.gg,Yv o.ext.gh hG _,Yv o.ext.hh h0 _,o.ext.new⟩,o.len,o.sh,λi ds h=>vL h (no.ow i ds),o.nd,λi ks ds h=>vL h (no.od i ks ds),Xp.no no.pw⟩
theorem Tab.put{G H0 H:Hp}{p:vJ}{ks:List Int}{ls:List vJ}{xss:List (List Int)}(T:Tab G H0 H p ks ls xss){k:Int}{l:vJ}(hk:k∉ks)(hl:H l=none)(sg:Yz G H)(s0:Yz H0 H)(hz:ks.length<1000000):
  ∃H4,zCa (upd H l (.lst [])) p (.int k) (.ref l) H4/\H4=upd (upd H l (.lst [])) p (.dK (kvsOf (ks++[k]) ((ls++[l]).map V.ref)))/\Tab G H0 H4 p (ks++[k]) (ls++[l]) (xss++[[]]):=by
 have hpl:p≠l:=λz=>by rw[<- z,T.dict]at hl;cases hl
 have hlen:ks.length=(ls.map V.ref).length:=by rw[zB];exact T.len
 have e:putK (kvsOf ks (ls.map V.ref)) (Sum.inl k) (.ref l)=kvsOf (ks++[k]) ((ls++[l]).map V.ref):=by
  rw[q41 hlen];unfold WY putA;rw[vF hk,vF hk,zY];rfl
 have d:=zCa.k (H:=upd H l (.lst [])) (a:=p) (kvs:=kvsOf ks (ls.map V.ref)) (k:=(Sum.inl k:Key)) (v:=.ref l) (by rw[qd hpl];exact T.dict) (by rw[q2T hlen,vp];omega);rw[e]at d;refine⟨_,d,rfl,qe,T.gp,T.hp,by rw[zC,zC,T.len];rfl,by rw[zC,zC,T.len2];rfl,λj m xs h1 h2=>?_,λm hm=>?_,?_⟩
 ·rcases zz j ls.length with z|z
  ·rw[zo z]at h1
   rw[zo (by rw[<- T.len2];exact z)]at h2;have e1:=T.lst j m xs h1 h2;have n1:m≠p:=λy=>T.pl (y▸yS h1);have n2:m≠l:=λy=>by rw[y,hl]at e1;cases e1
   rw[qd n1,qd n2];exact e1
  ·rw[zh z]at h1
   rw[zh (by rw[<- T.len2];exact z),<- T.len2]at h2;cases hj:j-ls.length with
   | zero=>
    rw[hj]at h1 h2;cases h1;cases h2;rw[qd (Ne.symm hpl)];exact qe
   | succ n=>rw[hj]at h1;cases h1
 ·rcases zT.mp hm with h|h
  ·exact T.gl m h
  ·cases za.mp h;exact⟨sg.free hl,s0.free hl⟩
 ·rw[wg]
  refine⟨T.nd,by simp,λa ha b hb z=>?_⟩;cases za.mp hb;obtain⟨xs,e1⟩:=T.inn ha;rw[z,hl]at e1;cases e1
noncomputable def pairsOf:List D->Option (List (Int×Int))
 | []=>some []
 | .tup [.int a,.int b]::r=>(pairsOf r).map λl=>(a,b)::l
 | _=>none
noncomputable def pairD2(e:Int×Int):D:=.tup [.int e.1,.int e.2]
theorem q3B:∀{ds:List D}{es:List (Int×Int)},pairsOf ds=some es->ds=es.map pairD2
 | [],_,h=>by cases h;rfl
 | d::r,es,h=>by
  unfold pairsOf at h
  split at h
  ·rename_i e;cases e
  ·rename_i e
   cases e;obtain⟨l,h1,h2⟩:=mpd h;subst h2;rw[q3B h1];rfl
  ·cases h
theorem q3b:∀es:List (Int×Int),pairsOf (es.map pairD2)=some es
 | []=>rfl
 | e::r=>by show (pairsOf (r.map pairD2)).map _=_;rw[q3b r];rfl
noncomputable def WC(ks:List Int)(xss:List (List Int))(e:Int×Int):List (List Int):=Wd ks (Wd ks xss e.1 e.2) e.2 e.1
noncomputable def nbT(ts:List Int)(es:List (Int×Int)):List (List Int):=es.foldl (WC ts) (ts.map λ_=>[])
noncomputable def nbM(a b:List D):Option D:=(intsOf a).bind λts=>(pairsOf b).bind λes=>if ts.Nodup/\(∀e∈es,e.1∈ts/\e.2∈ts)/\ts.length<=1000/\es.length<=1000 then some (.dic ts ((nbT ts es).map λxs=>.lst (xs.map D.int)))else none
noncomputable def sNb:FS:=λω=>match ω with
 | [↥(.lst a),↥(.lst b),none,none,none]=>(nbM a b).map λd=>(.rt (.sh d),ω)
 | _=>none
theorem zCX{a b:D}{x:Option D}:X3 [↥a,↥b,none,none,x.map W.sh]:=by
 intro i w e
 match i,e with
 | 0,e=>cases e;exact⟨_,rfl⟩
 | 1,e=>cases e;exact⟨_,rfl⟩
 | 2,e=>cases e
 | 3,e=>cases e
 | 4,e=>
  cases x with
  | none=>cases e
  | some d=>cases e;exact⟨d,rfl⟩
 | i+5,e=>simp at e
theorem Own.other{K:zA}{G0:Hp}{H0:Fr}{G:Hp}{ω:WSt}{σ:St}{H:Hp}{i:Nat}{v:Option V}(o:Own K G0 H0 G ω σ H)(no:X3 ω)(hi:∀w,ω[i]?≠some (some w)):Own K G0 H0 G ω (σ.set i v) H :=
 ⟨o.ext,by rw[yA];exact o.len,λj d h=>by
  obtain⟨u,h1,h2⟩:=o.sh j d h;exact⟨u,by rw[zJ (λz=>hi _ (z▸h))];exact h1,h2⟩,λi ds h=>vL h (no.ow i ds),λi j ds es l h=>vL h (no.ow i ds),λi ks ds h=>vL h (no.od i ks ds),Xp.no no.pw⟩
theorem q3k(n:Nat):∀(ks:List Int)(xss:List (List Int))(a b:Int),(∀x∈xss,x.length<=n)->∀x∈Wd ks xss a b,x.length<=n+1
 | [],xss,_,_,h,x,hx=>wG (h x hx)
 | _::_,[],_,_,h,x,hx=>by cases hx
 | k::ks,y::xss,a,b,h,x,hx=>by
  unfold Wd at hx
  by_cases z:k=a
  ·rw[vC z]at hx
   rcases zG.mp hx with rfl|hx
   ·have:=h y zI
    rw[zC,zk];omega
   ·exact wG (h x (zH _ hx))
  ·rw[vF z]at hx
   rcases zG.mp hx with rfl|hx
   ·exact wG (h _ zI)
   ·exact q3k n ks xss a b (λx h'=>h x (zH _ h')) x hx
theorem Tab.told{K:zA}{G0 G:Hp}{H0:Fr}{H:Hp}{ω:WSt}{σ:St}{p:vJ}{ks:List Int}{ls:List vJ}{xss:List (List Int)}(T:Tab G H0 H p ks ls xss)(o:Own K G0 H0 G ω σ H)(no:X3 ω)(ob:Obj):
  ∃G',Yz G G'/\Own K G0 H0 G' ω σ (upd H p (.frz ob (.dK (kvsOf ks (ls.map V.ref)))))/\Rep K G' (.dic ks (xss.map λxs=>.lst (xs.map D.int))) (.ref p):=by
 obtain⟨H',hH⟩:∃H':Hp,H'=upd H p (.frz ob (.dK (kvsOf ks (ls.map V.ref)))):=⟨_,rfl⟩;rw[<- hH];have hp':H' p=some (.frz ob (.dK (kvsOf ks (ls.map V.ref)))):=by rw[hH];exact qe
 have hn':∀b,b≠p->H' b=H b:=λb h=>by rw[hH];exact qd h
 let G':Hp:=λb=>if b=p\/b∈ls then H' b else G b
 have hin:∀b,(b=p\/b∈ls)->G' b=H' b:=λb h=>vC h;have hout:∀b,¬(b=p\/b∈ls)->G' b=G b:=λb h=>vF h;have gn:∀b,(b=p\/b∈ls)->G b=none/\H0 b=none:=λb h=>by
  rcases h with rfl|h
  ·exact⟨T.gp,T.hp⟩
  ·exact T.gl b h
 have gg:Yz G G':=λb u z=>by
  by_cases y:b=p\/b∈ls
  ·rw[(gn b y).1]at z;cases z
  ·rw[hout b y];exact z
 have gh:Yz G' H':=λb u z=>by
  by_cases y:b=p\/b∈ls
  ·rw[hin b y]at z;exact z
  ·rw[hout b y]at z;rw[hn' b λw=>y (.inl w)];exact o.gh b u z
 have hh:Yz H0.hp H':=λb u z=>by
  rw[hn' b λw=>by rw[w,T.hp]at z;cases z];exact o.ext.hh b u z
 refine⟨G',gg,⟨⟨o.ext.gg.trans gg,gh,hh,λb z1 z2=>?_⟩,o.len,λi d h=>?_,λi ds h=>vL h (no.ow i ds),o.nd,λi ks ds h=>vL h (no.od i ks ds),Xp.no no.pw⟩,p,ls.map V.ref,rfl,⟨ob,by rw[hin p (.inl rfl)];exact hp'⟩,by rw[zB,<- T.len2];exact T.len,?_⟩
 ·by_cases y:b=p\/b∈ls
  ·exact vL (gn b y).2 z2
  ·rw[hout b y];exact o.ext.new b z1 z2
 ·obtain⟨v,h1,h2⟩:=o.sh i d h
  exact⟨v,h1,h2.mono gg⟩
 ·refine q7a (by rw[zB];exact T.len2.symm) λj d t h1 h2=>?_
  rw[zV]at h1;cases q:xss[j]? with
  | none=>rw[q]at h1;cases h1
  | some xs=>
   rw[q]at h1;cases h1;have hl:=T.lst j t xs h2 q;exact⟨t,_,rfl,by rw[hin t (.inr (yS h2)),hn' t λw=>by rw[w,T.dict]at hl;cases hl];exact hl,Yp.ints xs⟩
theorem qbJ{K:zA}{ta tb:TE}{g0 g1:FD}(k2:zBY K ta g0)(k4:zBY K tb g1){G0:Hp}{H0:Fr}{G:Hp}{ω:WSt}{σ:St}{H:Hp}{p:vJ}{ks:List Int}{ls:List vJ}{xss:List (List Int)}{a b:Int}{Q:VK}(o:Own K G0 H0 G ω σ H)(no:X3 ω)(hσ:σ[2]?=some (some (.ref p)))(T:Tab G H0 H p ks ls xss)(h0:g0 ω=some (.int a))(h1:g1 ω=some (.int b))(ha:a∈ks)(hz:∀xs∈xss,xs.length<1000000)(h:∀G' H',Own K G0 H0 G' ω σ H'->Yz G G'->Tab G' H0 H' p ks ls (Wd ks xss a b)->Q .non H'):tBM K "list" Xy (zCQ (XL 2) ta) (Ww tb zAr) σ H Q:=by
 refine⟨.ref p,hσ,k2 G0 H0 G ω σ H _ _ o h0 λu G1 H1 x1 y1=>?_⟩;cases (show u=.int a from y1);have o1:=o.keep x1;have T1:=T.keep x1;obtain⟨l,xs,m1,m2,m3,m4,m5,_⟩:=T1.app b ha;refine⟨p,.ref l,rfl,m4,.inl ⟨rfl,_,SqL.of m5⟩,k4 G0 H0 G1 ω σ H1 _ _ o1 h1 λu G2 H2 x2 y2=>?_⟩;cases (show u=.int b from y2);have o2:=o1.keep x2;have T2:=T1.keep x2;obtain⟨l',xs',n1,n2,n3,n4,n5,n6⟩:=T2.app b ha;rw[m3]at n3;cases n3;refine⟨l,_,.int b,rfl,rfl,n5,by rw[zB,vp];have:=hz xs' n2;omega,?_⟩;rw[show xs'.map V.int++[V.int b]=(xs'++[b]).map V.int by rw[zY];rfl];exact h G2 _ (o2.free no (T2.gl l n1).1 (T2.gl l n1).2) (x1.gg.trans x2.gg) n6
theorem qbM{a b:vX}{p:Pos}{n:Str}{env:Env}(m:Sem vB):uI (.Subscript a b p) n env m=m:=rfl
section
variable{X:Cx}
theorem qga{x2 x3 x4:Str}{o0 o1 o2 o3 o4 o4b e0 e1 e0b e1b e0':vX}{q1 q2 q3 q4 q5 q6 q7 q8 q9 q10 q11 q12 q13 q14 q15 a1 a2 c1 c2:Pos}{g0 g1:FD}(hu:X.A.units+64<uc)(hp:tM (model X.prog X.w) X.A X.env X.xe)(hc:X.calm=true)(hN:X.N.Nodup)(i2:X.N[2]?=some x2)(i3:X.N[3]?=some x3)(i4:X.N[4]?=some x4)(l2:Loc X.env.scope x2)(l3:Loc X.env.scope x3)(l4:Loc X.env.scope x4)(f2:X.fn x2=true\/X.env.scope.names.lookup x2=some .local)(f3:X.fn x3=true\/X.env.scope.names.lookup x3=some .local)(f4:X.fn x4=true\/X.env.scope.names.lookup x4=some .local)(h0:PE X o0 (XL 0))(h1:PE X o1 (XL 1))(h2:PE X o2 (XL 2))(h2':PE X o4 (XL 2))(h2b:PE X o4b (XL 2))(h3:PE X o3 (XL 3))(h5:PE X e0' (XL 2))(ha:XD X e0 g0)(hb:XD X e1 g1)(hab:XD X e0b g0)(hbb:XD X e1b g1)(hg0:∀(ω:WSt)e,ω[4]?=some (some (.sh (pairD2 e)))->g0 ω=some (.int e.1))(hg1:∀(ω:WSt)e,ω[4]?=some (some (.sh (pairD2 e)))->g1 ω=some (.int e.2))(s1:vz (.Dict [] [] q1) (some (.Name x2 q2)) q3.line X.env=pure false:=by rfl)(s2:vz (.List [] q4) (some (.Subscript o2 o3 q5)) q6.line X.env=pure false:=by rfl)(n0:NoSl e0:=by intro _ _;rfl)(n1:NoSl e1b:=by intro _ _;rfl)(w1:((v3 c1 (vK [e1] X.env)).all (λx=>!x.1)&&(u6 c1 (uY [] X.env)).all (λx=>x.1.isSome)&&decide (([e1]:List vX).length+([]:List uP).length+(if ([]:List uP).isEmpty then 0 else 1)<30))=true:=by rfl)(w2:((v3 c2 (vK [e0b] X.env)).all (λx=>!x.1)&&(u6 c2 (uY [] X.env)).all (λx=>x.1.isSome)&&decide (([e0b]:List vX).length+([]:List uP).length+(if ([]:List uP).isEmpty then 0 else 1)<30))=true:=by rfl)(z1:(a1.endLine==c1.line)=true:=by rfl)(z2:(a2.endLine==c2.line)=true:=by rfl)(t1:vK [e1] X.env=(false,eval e1 X.env)::vK [] X.env:=by rfl)(t2:vK [e0b] X.env=(false,eval e0b X.env)::vK [] X.env:=by rfl)(p1:(v3 c1 (vK [] X.env)).any (·.1)=false:=by rfl)(p2:(v3 c2 (vK [] X.env)).any (·.1)=false:=by rfl)(v1:vz (.Call (.Attribute (.Subscript o4 e0 q7) "append" a1) [e1] [] c1) none q9.line X.env=pure false:=by rfl)(v2:vz (.Call (.Attribute (.Subscript o4b e1b q8) "append" a2) [e0b] [] c2) none q10.line X.env=pure false:=by rfl)(y1:∀x,v4 o0 X.env x=pure x:=by intro _;rfl)(y2:∀x,v4 o1 X.env x=pure x:=by intro _;rfl):
  XSs X [.Assign [.Name x2 q2] (.Dict [] [] q1) q3,.For (.Name x3 q11) o0 [.Assign [.Subscript o2 o3 q5] (.List [] q4) q6] [] q12,
   .For (.Name x4 q13) o1 [.Expr (.Call (.Attribute (.Subscript o4 e0 q7) "append" a1) [e1] [] c1) q9,.Expr (.Call (.Attribute (.Subscript o4b e1b q8) "append" a2) [e0b] [] c2) q10] [] q14,.Return (some e0') q15] sNb:=by
 obtain⟨ta,k1,k2⟩:=ha;obtain⟨tb,k3,k4⟩:=hb;obtain⟨ta',k1',k2'⟩:=hab;obtain⟨tb',k3',k4'⟩:=hbb;have hu:=hu1 hu;refine⟨_,qy (q05 hN i2 l2 q8n s1 f2) (qy (q5D hp hc (q60 h0) (q3d hN i3 l3 f3) (q0F (q9m hu h2 h3 (q2l qt) s2)) y1)
  (qy (q5D hp hc (q60 h1) (q3d hN i4 l4 f4) (qy (q0E (q2P PySem.F.plainAttrs_list PySem.F.slot_list_append PySem.F.type_list_append q0r (q4D hu h2' k1 n0) (qv k3 qt t1) (qbM _) w1 z1 t1 p1) v1)
   (q0F (q0E (q2P PySem.F.plainAttrs_list PySem.F.slot_list_append PySem.F.type_list_append q0r (q4D hu h2b k3' n1) (qv k1' qt t2) (qbM _) w2 z2 t2 p2) v2))) y2) (q5L 2 (q0F (q4l h5))))),λG0 H0 G ω σ H out ω' E ow e kk=>?_⟩
 unfold sNb at e
 split at e
 case h_2=>cases e
 case h_1 _ a b=>
 obtain⟨d,e2,e3⟩:=mpd e;clear e;cases e3;obtain⟨ts,e4,e5⟩:=bnd e2;obtain⟨es,e6,e7⟩:=bnd e5;clear e2 e5
 by_cases cond:ts.Nodup/\(∀e∈es,e.1∈ts/\e.2∈ts)/\ts.length<=1000/\es.length<=1000
 case neg=>rw[vF cond]at e7;cases e7
 rw[vC cond]at e7;cases e7;obtain⟨cd1,cd2,cd3,cd4⟩:=cond;have ha':=q1h e4;have hb':=q3B e6;subst ha' hb';clear e4 e6;have no:X3 [some (W.sh (.lst (ts.map D.int))),↥(.lst (es.map pairD2)),none,none,none]:=zCX (x:=none);have hlen:σ.length=5:=ow.len.symm;obtain⟨v0,r0,A0,vs0,rfl,r1,r2⟩:=ow.sh 0 _ rfl;obtain⟨v1,r3,A1,vs1,rfl,r4,r5⟩:=ow.sh 1 _ rfl;have hvs0:=r2.of_ints;subst hvs0;intro p hpn;have o1:Own X.K G0 H0 G [some (W.sh (.lst (ts.map D.int))),↥(.lst (es.map pairD2)),none,none,none] (σ.set 2 (some (.ref p))) (upd H p (.dK [])):=(ow.free no (ow.gh.free hpn) (ow.ext.hh.free hpn)).other no λw z=>by cases z
 have T0:Tab G H0 (upd H p (.dK [])) p (ts.take 0) [] ((ts.take 0).map λ_=>[]):=⟨qe,ow.gh.free hpn,ow.ext.hh.free hpn,rfl,rfl,λj l xs h=>(by simp at h),λl h=>(by cases h),ZP⟩;refine⟨.ref A0,by rw[zJ (by decide)];exact r0,A0,rfl,⟨_,SqL.of (o1.gh _ _ r1)⟩,λn m σ2 H2=>∃ls,Own X.K G0 H0 G [some (W.sh (.lst (ts.map D.int))),↥(.lst (es.map pairD2)),none,none,none] σ2 H2/\σ2[2]?=some (some (.ref p))/\Tab G H0 H2 p (ts.take n) ls ((ts.take n).map λ_=>[])/\n<=ts.length/\m=ts.length-n,
  ⟨_,[],o1,yL (by rw[hlen];decide),T0,yH _,rfl⟩,?_⟩
 rintro n m σ2 H2 ⟨ls,o2,s22,T2,hn,rfl⟩
 by_cases hlt:n<ts.length
 ·have hq:=o2.gh _ _ r1
  refine .inr ⟨⟨_,.int ts[n],SqL.of hq,by rw[zV,zE hlt];rfl⟩,λσ3 H3=>∃ls,Own X.K G0 H0 G [some (W.sh (.lst (ts.map D.int))),↥(.lst (es.map pairD2)),none,none,none] σ3 H3/\σ3[2]?=some (some (.ref p))/\Tab G H0 H3 p (ts.take (n+1)) ls ((ts.take (n+1)).map λ_=>[]),
   λσ3 H3 ⟨ls,b1,b2,b3⟩=>⟨ts.length-(n+1),∅,ls,b1,b2,b3,hlt,rfl⟩,λy H3 hy=>?_⟩
  obtain⟨rfl,hy⟩:=hy;have hy:=hy _ (SqL.of hq);rw[zV,zE hlt]at hy;cases hy;have hl2:σ2.length=5:=o2.len.symm;refine⟨by show 0<=sizeLine;exact yH _,λl hl=>?_⟩;refine⟨.ref p,by rw[zJ (by decide)];exact s22,.int ts[n],yL (by rw[hl2];decide),?_⟩;have nk:ts[n]∉ts.take n:=λz=>by
   obtain⟨j,hj,ej⟩:=zy.mp z;rw[xA]at ej;have hj':j<n:=by rw[zv]at hj;omega
   have:=(wJ cd1).mp ej;omega
  obtain⟨H4,d1,d2,T4⟩:=T2.put nk hl o2.gh o2.ext.hh (by rw[zv];omega);refine⟨p,H4,rfl,d1,ls++[l],?_,by rw[zJ (by decide)];exact s22,?_⟩
  ·subst d2
   exact((o2.free no (o2.gh.free hl) (o2.ext.hh.free hl)).free no T2.gp T2.hp).other no λw z=>by cases z
  ·rw[(wm hlt).symm,zY]
   exact T4
 ·have en:n=ts.length:=∅
  subst en;rw[wK]at T2;refine .inl ⟨⟨_,SqL.of (o2.gh _ _ r1),by rw[zB];exact zK _⟩,?_⟩;obtain⟨v1',r3',A1',vs1',rfl,r4',r5'⟩:=o2.sh 1 _ rfl;have hl5:es.length=vs1'.length:=by have:=r5'.len;rw[zB]at this;exact this
  refine⟨.ref A1',r3',A1',rfl,⟨_,SqL.of (o2.gh _ _ r4')⟩,λn m σ3 H3=>∃G3 x4,Own X.K G0 H0 G3 [some (W.sh (.lst (ts.map D.int))),↥(.lst (es.map pairD2)),none,none,x4.map W.sh] σ3 H3/\Yz G G3/\σ3[2]?=some (some (.ref p))/\Tab G3 H0 H3 p ts ls ((es.take n).foldl (WC ts) (ts.map λ_=>[])) /\
   (∀xs∈(es.take n).foldl (WC ts) (ts.map λ_=>[]),xs.length<=2*n)/\n<=es.length/\m=es.length-n,
   ⟨_,G,none,o2,Yz.refl _,s22,T2,λxs hx=>by obtain⟨_,_,rfl⟩:=ya.mp hx;exact zK _,yH _,rfl⟩,?_⟩
  rintro n m σ3 H3 ⟨G3,x4,o3,g3,s32,T3,b3,hn3,rfl⟩
  by_cases hlt3:n<es.length
  ·have hq3:=o3.gh _ _ (g3 _ _ r4')
   have hlv:n<vs1'.length:=by rw[<- hl5];exact hlt3
   refine .inr ⟨⟨_,vs1'[n],SqL.of hq3,zE hlv⟩,λσ4 H4=>∃G4 x4,Own X.K G0 H0 G4 [some (W.sh (.lst (ts.map D.int))),↥(.lst (es.map pairD2)),none,none,x4.map W.sh] σ4 H4/\Yz G G4/\σ4[2]?=some (some (.ref p))/\Tab G4 H0 H4 p ts ls ((es.take (n+1)).foldl (WC ts) (ts.map λ_=>[])) /\
    (∀xs∈(es.take (n+1)).foldl (WC ts) (ts.map λ_=>[]),xs.length<=2*(n+1)),
    λσ4 H4 ⟨G4,x4,b1,b2,b4,b5,b6⟩=>⟨es.length-(n+1),∅,G4,x4,b1,b2,b4,b5,b6,hlt3,rfl⟩,λy H4 hy=>?_⟩
   obtain⟨rfl,hy⟩:=hy;have hy:=hy _ (SqL.of hq3);rw[zE hlv]at hy;cases hy;have hd:(es.map pairD2)[n]?=some (pairD2 es[n]):=by rw[zV,zE hlt3];rfl
   obtain⟨v,hv1,hv2⟩:=r5'.get hd;rw[zE hlv]at hv1;cases hv1;have hl3:σ3.length=5:=o3.len.symm;have o4:Own X.K G0 H0 G3 [some (W.sh (.lst (ts.map D.int))),↥(.lst (es.map pairD2)),none,none,↥(pairD2 es[n])] (σ3.set 4 (some vs1'[n])) H4:=o3.setSh (i:=4) (hv2.mono g3);have no4:X3 [some (W.sh (.lst (ts.map D.int))),↥(.lst (es.map pairD2)),none,none,↥(pairD2 es[n])]:=zCX (x:=some (pairD2 es[n]));have s42:(σ3.set 4 (some vs1'[n]))[2]?=some (some (.ref p)):=by rw[zJ (by decide)];exact s32
   obtain⟨in1,in2⟩:=cd2 es[n] (yu hlt3);refine qbJ k2 k4 o4 no4 s42 T3 (hg0 _ es[n] rfl) (hg1 _ es[n] rfl) in1 (λxs hx=>by have:=b3 xs hx;omega) λG5 H5 o5 g5 T5=>?_;have b5:=q3k (2*n) ts _ es[n].1 es[n].2 b3;refine qbJ k4' k2' o5 no4 s42 T5 (hg1 _ es[n] rfl) (hg0 _ es[n] rfl) in2 (λxs hx=>by have:=b5 xs hx;omega) λG6 H6 o6 g6 T6=>?_;have b6:=q3k (2*n+1) ts _ es[n].2 es[n].1 b5;have et:es.take (n+1)=es.take n++[es[n]]:=(wm hlt3).symm;refine⟨G6,some (pairD2 es[n]),o6,(g3.trans g5).trans g6,s42,?_,?_⟩
   ·rw[et,Z4];exact T6
   ·rw[et,Z4]
    intro xs hx;have:=b6 xs hx;omega
  ·have en3:n=es.length:=∅
   subst en3;rw[wK]at T3;refine .inl ⟨⟨_,SqL.of (o3.gh _ _ (g3 _ _ r4')),by rw[hl5];exact zK _⟩,?_⟩;have no3:X3 [some (W.sh (.lst (ts.map D.int))),↥(.lst (es.map pairD2)),none,none,x4.map W.sh]:=zCX;refine⟨p,_,s32,T3.dict,λob=>?_⟩;obtain⟨G',g',o',rp⟩:=T3.told o3 no3 ob;generalize upd H3 p (.frz ob _)=H4 at o' ⊢;refine⟨.ref p,s32,?_⟩;have oF:Own X.K G0 H0 G' [some (W.sh (.lst (ts.map D.int))),↥(.lst (es.map pairD2)),none,none,none] σ3 H4:=by
    refine⟨o'.ext,o'.len,λi d h=>?_,λi ds h=>vL h (no.ow i ds),λi j ds es l h=>vL h (no.ow i ds),λi ks ds h=>vL h (no.od i ks ds),Xp.no no.pw⟩
    match i,h with
    | 0,h=>exact o'.sh 0 d h
    | 1,h=>exact o'.sh 1 d h
    | 2,h=>cases h
    | 3,h=>cases h
    | 4,h=>cases h
    | i+5,h=>simp at h
   exact kk G' σ3 H4 oF (g3.trans g') (.ref p) rp
end
theorem qfL{ω:WSt}{e:Int×Int}(h:ω[4]?=some ↥(pairD2 e)):dOf (Yo oIx (vOf (Yj 4)) (fC (.int 0))) ω=some (.int e.1):=by
 unfold dOf Yo vOf Yj fC;rw[h];rfl
theorem qfB{ω:WSt}{e:Int×Int}(h:ω[4]?=some ↥(pairD2 e)):dOf (Yo oIx (vOf (Yj 4)) (fC (.int 1))) ω=some (.int e.2):=by
 unfold dOf Yo vOf Yj fC;rw[h];rfl
noncomputable def zCL(i:Nat)(ω:WSt)(c d:Option D):Option (Out×WSt):=c.bind λc=>d.bind λd=>match c with
 | .int k=>some (.nx,ω.set i (some (.od [k] [d])))
 | _=>none
noncomputable def dsetS(i:Nat)(ω:WSt)(v c:Option D)(w:Option (Option W)):Option (Out×WSt):=v.bind λd=>c.bind λc=>match c,w with
 | .int k,some (some (.od ks ds))=>if ks.length<1000000 then some (.nx,ω.set i (some (.od (WY ks k) (putA ks ds k d))))else none
 | _,_=>none
noncomputable def dgetR(o:Option (List Int×List D))(c:Option D):Option R:=o.bind λp=>c.bind λc=>match c with
 | .int k=>(Y4 p.1 p.2 k).map R.sh
 | _=>none
noncomputable def dhasT(neg:Bool)(c:Option D)(o:Option (List Int×List D)):Option Bool:=c.bind λc=>o.bind λp=>match c with
 | .int k=>some (if neg then !(Y4 p.1 p.2 k).isSome else (Y4 p.1 p.2 k).isSome)
 | _=>none
noncomputable def zCD(o:Option (List Int×List D)):Option R:=o.bind λp=>if p.1.length<64 then some (.fr ((Y7 p.1).map D.int))else none
noncomputable def pop0(i:Nat)(ω:WSt)(w:Option (Option W)):Option (D×WSt):=match w with
 | some (some (.ow ds))=>(ds[ds.length-1]?).map λd=>(d,ω.set i (some (.ow ds.dropLast)))
 | _=>none
noncomputable def zCg(j i:Nat)(ω:WSt)(w:Option (Option W)):Option (Out×WSt):=(pop0 i ω w).map λp=>(.nx,p.2.set j (some (.sh p.1)))
section
variable{ω:WSt}{fk fv:FD}{i j:Nat}{ks:List Int}{ds:List D}{k:Int}{d:D}{neg:Bool}
theorem q5Y:zBU i fk fv ω=zCL i ω (fk ω) (fv ω):=rfl
theorem qaw:zCL i ω (some (.int k)) (some d)=some (.nx,ω.set i (some (.od [k] [d]))):=rfl
theorem q7M:zCj i fk fv ω=dsetS i ω (fv ω) (fk ω) ω[i]?:=rfl
theorem q8H:zCV i fk ω=dgetR (Wi ω[i]?) (fk ω):=rfl
theorem qay:dgetR (some (ks,ds)) (some (.int k))=(Y4 ks ds k).map R.sh:=rfl
theorem qbz:Wi (some (some (.od ks ds)))=some (ks,ds):=rfl
theorem qbp:Wi (some ↥(.dic ks ds))=some (ks,ds):=rfl
theorem q90:zBn neg i fk ω=dhasT neg (fk ω) (Wi ω[i]?):=rfl
theorem qaS:dhasT true (some (.int k)) (some (ks,ds))=some (!(Y4 ks ds k).isSome):=rfl
theorem q6d:zBh i ω=zCD (Wi ω[i]?):=rfl
theorem q6x:zBs j (zBq i) ω=zCg j i ω ω[i]?:=rfl
end
theorem qeM{i:Nat}{ω:WSt}{ks:List Int}{ds:List D}{k:Int}{d:D}(h:ks.length<1000000):dsetS i ω (some d) (some (.int k)) (some (some (.od ks ds)))=some (.nx,ω.set i (some (.od (WY ks k) (putA ks ds k d)))):=vC h
theorem qdS{ks:List Int}{ds:List D}(h:ks.length<64):zCD (some (ks,ds))=some (.fr ((Y7 ks).map D.int)):=vC h
theorem qff{j i:Nat}{ω:WSt}{ds:List D}{d:D}:zCg j i ω (some (some (.ow (ds++[d]))))=some (.nx,(ω.set i (some (.ow ds))).set j ↥d):=by
 unfold zCg pop0;have e1:(ds++[d])[(ds++[d]).length-1]?=some d:=by
  rw[zC,zk,xK,zh (zK _),Z0];rfl
 have e2:(ds++[d]).dropLast=ds:=by simp
 show YT _ (((ds++[d])[(ds++[d]).length-1]?).map _)=_;rw[e1,e2];rfl
section
variable{X:Cx}{o k e:vX}{pos pos':Pos}{i:Nat}{fk fv:FD}
noncomputable def zCf(i:Nat)(fk fv:FD):FS:=λω=>(fv ω).bind λd=>(fk ω).bind λc=>match c,ω[i]? with
 | .int k,some (some (.ow ds))=>(ixN ds.length k).map λj=>(.nx,ω.set i (some (.ow (ds.set j d))))
 | _,_=>none
theorem Yp.set{K:zA}{H:Hp}:∀{ds:List D}{vs:List V}(n:Nat){d:D}{v:V},Yp K H ds vs->Rep K H d v->Yp K H (ds.set n d) (vs.set n v)
 | [],_,_,_,_,h,_=>by cases (show _=_ from h);rfl
 | _::_,_,0,_,_,⟨v,r,h1,h2,h3⟩,hv=>by rw[h1];exact⟨_,_,rfl,hv,h3⟩
 | _::_,_,n+1,_,_,⟨v,r,h1,h2,h3⟩,hv=>by rw[h1];exact⟨v,_,rfl,h2,Yp.set n h3 hv⟩
theorem qfq(ho:PE X o (XL i))(hk:XD X k fk)(hv:XD X e fv)(hs:tq [.Subscript o k pos'] e pos.line X.env=pure false:=by rfl)(hw:tt [.Subscript o k pos'] e X.env=pure none:=by rfl)(h1':(uM [.Subscript o k pos'] X.env).map (·.2)=[assign (.Subscript o k pos') X.env]:=by rfl)(ha:∀v,assign (.Subscript o k pos') X.env v=(do
   let ov <- holding [v] (eval o X.env)
   let iv <- holding [v,ov] (eval k X.env)
   sV pos'
   holding [v,ov,iv] (sU ov iv v)
   release [v,ov,iv] []):=by intro _;rfl):XS X (.Assign [.Subscript o k pos'] e pos) (zCf i fk fv):=by
 obtain⟨tk,h1,h2⟩:=hk;obtain⟨tv,h3,h4⟩:=hv;refine⟨_,qcu h3 (qcW ho h1 q8Z ha) hs hw h1',λG0 H0 G ω σ H out ω' E ow e kk=>?_⟩;obtain⟨d,q1,e⟩:=bnd e;obtain⟨c,q2,e⟩:=bnd e;refine h4 G0 H0 G ω σ H d _ ow q1 λv G1 H1 x1 y1=>?_;cases c with
 | int m=>
  split at e
  ·rename_i _ _ _ m' ds ek q3
   cases ek;obtain⟨j,hj,e⟩:=mpd e;cases e;have o1:=ow.keep x1;obtain⟨l,vs,r1,r2,r3,r4,r5⟩:=o1.ow i ds q3;refine⟨.ref l,r1,h2 G0 H0 G1 ω σ H1 _ _ o1 q2 λu G2 H2 x2 y2=>?_⟩;cases (show u=.int m from y2);have o2:=o1.keep x2;refine⟨l,vs,m,j,rfl,rfl,x2.hh _ _ r2,by rw[<- r5.len];exact hj,?_⟩;exact kk G2 σ _ (o2.mut q3 r1 (x2.hh _ _ r2) (x2.new l r3 (by rw[r2];exact λz=>by cases z)) r4 ((r5.mono x2.gg).set j (y1.mono x2.gg))) (x1.gg.trans x2.gg)
  ·cases e
 | _=>cases e
end
section
variable{X:Cx}{e:vX}{pos pos':Pos}{i:Nat}{fe:FD}
end
section
open PySem.Spec PyProof.Rows
variable{X:Cx}
noncomputable def mx3(i j k:Int):Int:=if k>(if j>i then j else i)then k else if j>i then j else i
end
end Hk
namespace L2
open PySem PySem.Spec PyProof.Rows
end L2
namespace Hk
open PySem L2
noncomputable def lsetS(i:Nat)(ω:WSt)(v c:Option D)(w:Option (Option W)):Option (Out×WSt):=v.bind λd=>c.bind λc=>match c,w with
 | .int k,some (some (.ow ds))=>(ixN ds.length k).map λj=>(.nx,ω.set i (some (.ow (ds.set j d))))
 | _,_=>none
section
variable{ω:WSt}{fk fv:FD}{fa:FA}{i j:Nat}{ds:List D}{a b c:Int}{d:D}{g:Int->Int->Int}
theorem q7F:zCf i fk fv ω=lsetS i ω (fv ω) (fk ω) ω[i]?:=rfl
end
theorem qfg{i:Nat}{ω:WSt}{ds:List D}{d:D}{k:Int}(h0:0<=k)(h1:k<ds.length):lsetS i ω (some d) (some (.int k)) (some (some (.ow ds)))=some (.nx,ω.set i (some (.ow (ds.set k.toNat d)))):=by
 show (ixN ds.length k).map _=_;have e:ixN ds.length k=some k.toNat:=by unfold ixN;rw[vC h0,vC h1]
 rw[e];rfl
end Hk
namespace L2
open PySem PySem.Spec PyProof.Rows
noncomputable def Ite(K:zA)(a:vJ):It :=
 ⟨λi H=>∃xs x,SqL K H a xs/\xs[i]?=some x,
  λi H x H'=>∃t x1,H t=none/\x=.ref t/\H'=upd H t (.tup [.int i,x1])/\∀xs,SqL K H a xs->xs[i]?=some x1,
  λi H=>∃xs,SqL K H a xs/\xs[i]?=none⟩
theorem qco{P:vS}{w:vZ}{K:zA}{elts:List vX}{kx}{tpos:Pos}(a e it:vJ)(hne:e≠it)(hae:a≠e)(hai:a≠it):
  Turn P w K (.Tuple elts kx tpos) (Ite K a) [e,it] e (λi h=>(∃old,IsEnum h e it (i:Int) old)/\h.IsListIter it a i) where
 mem:=by simp
 obj:=λi h st c hc=>by
  obtain⟨⟨old,s1⟩,⟨o4,e4,c4,d4⟩⟩:=st;simp only[zG,zj,or_false]at hc;rcases hc with rfl|rfl
  ·exact⟨_,s1,λv y=>by cases (show Data.fields _=Data.cell v from y)⟩
  ·exact⟨_,e4,λv y=>by rw[d4]at y;cases y⟩
 keep:=λi h h' st k=>by
  obtain⟨⟨old,s1⟩,s4⟩:=st;exact⟨⟨old,k _ (by simp) _ s1⟩,s4.at λo e=>k _ (by simp) o e⟩
 item:=by
  intro X hP hw hK hc i pins s σ H E I hf st hg;subst hP hw hK;obtain⟨xs,x,hq,hx⟩:=hg;obtain⟨its,rv,p,hz⟩:=I.list hq;obtain⟨u,hu,ru⟩:=rv.get hx;obtain⟨⟨old,s1⟩,s4⟩:=st;have ex:∀c∈[e,it],∃o,s.heap.get? c=some o:=λc hc=>by
   simp only[zG,zj,or_false]at hc;rcases hc with rfl|rfl
   ·exact⟨_,s1⟩
   ·obtain⟨o,e,_⟩:=s4;exact⟨o,e⟩
  have nt:∀c∈[e,it],c≠s.heap.objs.size:=λc hc=>by
   obtain⟨o,e⟩:=ex c hc;exact zg (zM e)
  refine wpAny_pyNext_enum_item s1 s4 p.isList (x:=u) (by simpa using hu) hne λh' a1 a2 a3 a4 hk=>?_;have hn:H s.heap.objs.size=none:=I.hok.fresh (zK _);have I1:Inv X pins σ (upd H s.heap.objs.size (.tup [.int i,x])) { s with heap:=s.heap.push { cls:=.type "tuple", data:=.seq #[.int i s.toks,u] },toks:=s.toks+1 } :=
   I.laid (λb o e=>zF _ e) (zK _) (show Y6 X.prog X.w _ _ _ (.tup [.int i,x])from ⟨by show 2<=sizeLine;decide,[.int i s.toks,u],.cons ⟨_,rfl⟩ (.cons ru .nil),⟨_,zQ _ rfl,rfl,_,rfl⟩⟩)
  have hf':∀c∈[e,it],zBX X pins (upd H s.heap.objs.size (.tup [.int i,x])) c:=λc hc=>by
   obtain⟨f0,f⟩:=hf c hc;exact⟨by rw[qd (nt c hc)];exact f0,f⟩
  have I2:Inv X pins σ (upd H s.heap.objs.size (.tup [.int i,x])) { s with heap:=h',toks:=s.toks+1 }:=I1.turnedL (λb o hb e=>by
   simp only[zG,zj,or_false,not_or]at hb
   by_cases q:b=s.heap.objs.size
   ·subst q
    rw[zQ _ rfl]at e;cases e;exact a3
   ·have e':s.heap.get? b=some o:=by
     rcases zz b s.heap.objs.size with l|l
     ·obtain⟨z1,z2⟩:=xz.mp e
      refine xz.mpr ⟨?_,z2⟩;rw[<- z1];show s.heap.objs[b]?=(s.heap.objs.push _)[b]?;rw[ZV,vF q]
     ·have:=zM e
      rw[yX]at this;exact vL (by simp only[vJ]at *;omega) q
    exact hk b o hb.1 hb.2 e') hf'
  refine⟨_,rfl,wpAny_letOwnedTupleGo_enum a1 λh2 b1 sb=>?_⟩;have I3:Inv X pins σ (upd H s.heap.objs.size (.tup [.int i,x])) { s with heap:=h2,toks:=s.toks+1 }:=I2.turnedL (λb o hb e=>(sb.2 b (λq=>hb (by simp[q]))).trans e) hf';have hi:((i+1:Nat):Int)=(i:Int)+1:=by push_cast;rfl
  refine⟨.ref s.heap.objs.size,_,I3,rfl,⟨_,x,hn,rfl,rfl,λxs' q1=>by rw[I.list_inj q1 hq];exact hx⟩,⟨⟨u,by rw[hi];exact b1⟩,a2.extBut sb.extBut (Ne.symm hne)⟩,λc hc=>(hf' c hc).1⟩
 done:=by
  intro X hP hw hK hc i pins s σ H E I hf st hg;subst hP hw hK;obtain⟨xs,hq,hx⟩:=hg;obtain⟨its,rv,p,hz⟩:=I.list hq;obtain⟨⟨old,s1⟩,s4⟩:=st;have l1:=rv.length;refine wpAny_pyNext_enum_end (I.ok.hd hc) s1 s4 p.isList ?_ λh' hk=>⟨rfl,I.turnedL (t':=s.toks) (λb o hb e=>?_) hf⟩
  ·rw[xn]at hx;simp;omega
  ·simp only[zG,zj,or_false,not_or]at hb
   exact hk b o hb.2 e
 self:=λ_ _ _ _ _ st h=>by
  obtain⟨⟨old,s1⟩,s4⟩:=st;exact wpAny_pyIter_enum s1 h
noncomputable def iEnum(K:zA)(ta:TA):TI:=λσ H R=>ta σ H λvs H1=>∃a xs,vs=[.ref a]/\SqL K H1 a xs/\R (Ite K a) H1
theorem qa4{X:Cx}{a:vX}{ta:TA}{p pos tpos:Pos}{elts:List vX}{kx}(hg:Gl X "enumerate")(hm:X.mg "enumerate" = none)(ha:PA X [a] ta)(hs:vK [a] X.env=[(false,eval a X.env)]:=by rfl):
  PI X (.Tuple elts kx tpos) (.Call (.Name "enumerate" p) [a] [] pos) (iEnum X.K ta):=by
 intro pins s σ H R I h;refine Call_ (q23 I hg hm PyProof.Rows.boot_enumerate (PyProof.Rows.callWith_type1 (thn (ha pos pins s σ H _ I h) λus s1 ⟨vs,H1,I1,r1,q1⟩=>?_) hs rfl));obtain⟨l,xs,e,hq,q⟩:=q1;subst e;cases r1 with
 | cons r rr=>
  cases rr;cases r;obtain⟨its,rv,p1,hz⟩:=I1.list hq;have hlt:l<s1.heap.objs.size:=by obtain⟨_,_,e,_⟩:=p1;exact zM e
  refine call_enumerate_list p1.isList λh' a1 a2 a3 hk=>?_;refine wpAny_pyIter_enum a1 ?_;refine⟨s1.heap.objs.size+1,[s1.heap.objs.size+1,s1.heap.objs.size],_,_,H1,rfl,I1.kept (t':=s1.toks) hk,qco l _ _ (Nat.succ_ne_self _) (zg (yP hlt)) (zg hlt),⟨⟨_,a1⟩,a2⟩,λc hc=>?_,q⟩;have hle:s1.heap.objs.size<=c:=by
   simp only[zG,zj,or_false]at hc;simp only[vJ]at *;omega
  exact I1.fpOk hle (I1.hok.fresh hle)
end L2
namespace Hk
open PySem L2
noncomputable def WN:Nat->List D->List D
 | i,a::as=>.tup [.int i,a]::WN (i+1) as
 | _,[]=>[]
theorem q3U:∀(i:Nat)(as:List D),(WN i as).length=as.length
 | i,a::as=>by show (WN (i+1) as).length+1=_;rw[q3U];rfl
 | i,[]=>rfl
theorem q7d:∀(k:Nat)(as:List D)(i:Nat)(d:D),(WN k as)[i]?=some d->∃a,as[i]?=some a/\d=.tup [.int ((k+i:Nat):Int),a]
 | k,a::as,0,d,h=>by cases h;exact⟨a,rfl,rfl⟩
 | k,a::as,i+1,d,h=>by
  obtain⟨b,h1,h2⟩:=q7d (k+1) as i d h;exact⟨b,h1,by rw[h2];congr 4;omega⟩
 | k,[],i,d,h=>by cases h
theorem qbY{K:zA}{G:Hp}{a:vJ}{ds:List D}{vs:List V}(h1:G a=some (.lst vs))(h2:Yp K G ds vs):IterOf K (Ite K a) G (WN 0 ds):=by
 have l1:=h2.len;refine⟨λH i s hi=>?_,λG2 H i x H' d s0 s1 hd hy=>?_,λH s=>⟨vs,SqL.of (s _ _ h1),?_⟩⟩
 ·rw[q3U]at hi
  exact⟨vs,vs[i]'∅,SqL.of (s _ _ h1),zE _⟩
 ·obtain⟨t,x1,ht,rfl,rfl,y⟩:=hy
  have e1:=y vs (SqL.of (s1 _ _ (s0 _ _ h1)));obtain⟨p,f1,rfl⟩:=q7d 0 ds i d hd;obtain⟨v,q1,q2⟩:=h2.get f1;rw[e1]at q1;cases q1;have x2:=Ext.lay s1 ht (.tup [.int i,x1]);exact⟨_,x2,⟨t,_,rfl,qe,Yp.cons (by show (.int i:V)=.int ((0+i:Nat):Int);rw[yj]) (Yp.cons (q2.mono (s0.trans x2.gg)) Yp.nil)⟩⟩
 ·rw[q3U];exact ze ∅
noncomputable def iEn(g:FA):FI:=λω=>(g ω).bind λds=>match ds with
 | [.lst a]=>some (WN 0 a)
 | _=>none
theorem q9y{X:Cx}{a:vX}{g:FA}{p pos tpos:Pos}{elts:List vX}{kx}(hg:Gl X "enumerate")(hm:X.mg "enumerate" = none)(ha:XA X [a] g)(hs:vK [a] X.env=[(false,eval a X.env)]:=by rfl):
  XI X (.Tuple elts kx tpos) (.Call (.Name "enumerate" p) [a] [] pos) (iEn g):=by
 obtain⟨⟨t,h1,h2⟩,_⟩:=ha;refine⟨_,qa4 hg hm h1 hs,λG0 H0 G ω σ H ds R o e k=>?_⟩;obtain⟨vs,q,e⟩:=bnd e;refine h2 G0 H0 G ω σ H vs _ o q λus G1 H1 x1 y1=>?_
 match vs,e with
 | [.lst as],e=>
  cases e;obtain⟨v1,r1,rfl,z1,z2⟩:=y1;cases (show r1=[]from z2);obtain⟨a1,ws1,rfl,f1,f2⟩:=z1;exact⟨a1,ws1,rfl,SqL.of (x1.gh _ _ f1),k _ G1 H1 x1 (qbY f1 f2)⟩
noncomputable def enI(o:Option (List D)):Option (List D):=o.bind λds=>match ds with
 | [.lst a]=>some (WN 0 a)
 | _=>none
theorem qaN{fa:FA}{ω:WSt}:iEn fa ω=enI (fa ω):=rfl
theorem qas{ds:List D}:enI (some [.lst ds])=some (WN 0 ds):=rfl
section
open PyProof.Rows PySem.Spec
variable{prog:vS}{w:vZ}{A:vb}{E:vB->vG->Prop}{s:vG}{l:vJ}{xs:Array (Int×Tok)}
theorem q4R{Q:vB->vG->Prop}(hl:s.heap.IsTuple l (ua xs))(h:∀s₂:vG,s₂={ s with heap:=s.heap.push { cls:=.type "tuple_iterator", data:=.fields #[.ref l,.int 0 0] } } ->
   (s₂.heap.IsTupleIter s.heap.objs.size l 0/\s₂.heap.IsTuple l (ua xs))->(∀b∈[s.heap.objs.size,l],b<s₂.heap.objs.size)->l≠s.heap.objs.size->Q (.ref s.heap.objs.size) s₂) :
  vN (model prog w) A (t7 (.ref l)) Q E s:=by
 have hlt:l<s.heap.objs.size:=by obtain⟨_,e,_⟩:=hl;exact zM e
 refine t9 hl (h _ rfl ⟨⟨_,zQ _ rfl,rfl,rfl⟩,hl.at λo e=>zF _ e⟩ (λb hb=>?_) (zg hlt));show b<(s.heap.push _).objs.size;rw[yX];rcases zG.mp hb with rfl|hb
 ·exact yW _
 ·rcases zG.mp hb with rfl|hb
  ·exact yP hlt
  ·cases hb
theorem q80{h':vn}(hk:∀b o,b∉[s.heap.objs.size]->(s.heap.push { cls:=.type "tuple_iterator", data:=.fields #[.ref l,.int 0 0] }).get? b=some o->h'.get? b=some o):
  ∀b o,s.heap.get? b=some o->h'.get? b=some o:=λb o e=>by
 refine hk b o (λhm=>?_) (zF _ e);rcases zG.mp hm with e1|hm
 ·exact vL (e1▸zM e) (xG _)
 ·cases hm
theorem qbf{Q:vB->vG->Prop}(hh:A.handled=none)(hl:s.heap.IsTuple l (ua xs))(hne:0<xs.size)(h:∀v h' tk,(ua xs)[argBest (λi j=>decide (tO xs i>tO xs j)) (xs.size-1)]?=some v->(∀b o,s.heap.get? b=some o->h'.get? b=some o)->Q v { s with heap:=h',toks:=tk }):
  vN (model prog w) A (call (.builtin "max") [.ref l]) Q E s:=by
 refine call_max_walk (q4R hl λs₂ e st hfp hlI=>?_);subst e;refine⟨_,_,_,_,_,_,_,rfl,Walks.tuple (A:=A.in1) hh _ l hlI (ua xs),st,hfp,by simpa [ua]using hne,CmpOf.ints_gt (tO xs) (λ_ _=>tZ),λv h' tk hP hk=>?_⟩;exact h v h' tk (by simpa [ua]using hP) (q80 hk)
theorem qaC{Q:vB->vG->Prop}(hh:A.handled=none)(hl:s.heap.IsTuple l (ua xs))(hne:0<xs.size)(h:∀v h' tk,(ua xs)[argBest (λi j=>decide (tO xs i<tO xs j)) (xs.size-1)]?=some v->(∀b o,s.heap.get? b=some o->h'.get? b=some o)->Q v { s with heap:=h',toks:=tk }):
  vN (model prog w) A (call (.builtin "min") [.ref l]) Q E s:=by
 refine call_min_walk (q4R hl λs₂ e st hfp hlI=>?_);subst e;refine⟨_,_,_,_,_,_,_,rfl,Walks.tuple (A:=A.in1) hh _ l hlI (ua xs),st,hfp,by simpa [ua]using hne,CmpOf.ints_lt (tO xs) (λ_ _=>tZ),λv h' tk hP hk=>?_⟩;exact h v h' tk (by simpa [ua]using hP) (q80 hk)
end
def rMaxT(K:zA):List V->Hp->VK->Prop:=λxs H Q=>∃(p:vJ) (ns:List Int),xs=[.ref p]/\SqT K H p (ns.map V.int)/\ns≠[]/\Q (.int (zAt ns)) H
def rMinT(K:zA):List V->Hp->VK->Prop:=λxs H Q=>∃(p:vJ) (ns:List Int),xs=[.ref p]/\SqT K H p (ns.map V.int)/\ns≠[]/\Q (.int (zAZ ns)) H
section
variable{X:Cx}
open PyProof.Rows PySem.Spec
theorem q7i(hc:X.calm=true):Xu X (.builtin "max") (rMaxT X.K):=by
 intro pins s σ H xs us Q I r h;obtain⟨p,ns,rfl,hp,hne,q⟩:=h;obtain⟨u,rfl,rx⟩:=vals1 r;cases rx;obtain⟨its,rv,e,hz⟩:=I.tuple hp;have hi:=q1k rv;obtain⟨ys,ey⟩:=hi.allInts.items;have hns:ns=ys.toList.map (·.1):=by rw[<- hi.numsOf,<- nums_intItems,<- ey]
 have hl:s.heap.IsTuple p its.toArray:=e;rw[ey]at hl;have hsz:0<ys.size:=by
  have h3:=ZW.mpr hne;rw[hns,zB,zO]at h3;exact h3
 refine qbf (I.ok.hd hc) hl hsz λv h' tk hv hk=>?_;obtain⟨t,rfl⟩:=tZ hv;obtain⟨h1,h2⟩:=argBest_gt (tO ys) (ys.size-1);have em:tO ys (argBest (λi j=>decide (tO ys i>tO ys j)) (ys.size-1))=zAt ns:=by
  obtain⟨m1,m2⟩:=q9x hne;apply YL
  ·apply m2
   rw[hns,sn];exact getD_mem (by rw[zB,zO];omega)
  ·rw[hns]at m1
   obtain⟨j,hj,ej⟩:=mem_getD m1;rw[zB,zO]at hj;rw[<- hns]at ej;rw[<- ej,hns,<- sn];exact h2 j ∅
 rw[em];exact⟨.int _,H,I.kept (t':=tk) hk,⟨_,rfl⟩,q⟩
theorem q6L(hc:X.calm=true):Xu X (.builtin "min") (rMinT X.K):=by
 intro pins s σ H xs us Q I r h;obtain⟨p,ns,rfl,hp,hne,q⟩:=h;obtain⟨u,rfl,rx⟩:=vals1 r;cases rx;obtain⟨its,rv,e,hz⟩:=I.tuple hp;have hi:=q1k rv;obtain⟨ys,ey⟩:=hi.allInts.items;have hns:ns=ys.toList.map (·.1):=by rw[<- hi.numsOf,<- nums_intItems,<- ey]
 have hl:s.heap.IsTuple p its.toArray:=e;rw[ey]at hl;have hsz:0<ys.size:=by
  have h3:=ZW.mpr hne;rw[hns,zB,zO]at h3;exact h3
 refine qaC (I.ok.hd hc) hl hsz λv h' tk hv hk=>?_;obtain⟨t,rfl⟩:=tZ hv;obtain⟨h1,h2⟩:=argBest_lt (tO ys) (ys.size-1);have em:tO ys (argBest (λi j=>decide (tO ys i<tO ys j)) (ys.size-1))=zAZ ns:=by
  obtain⟨m1,m2⟩:=q9v hne;apply YL
  ·rw[hns]at m1
   obtain⟨j,hj,ej⟩:=mem_getD m1;rw[zB,zO]at hj;rw[<- hns]at ej;rw[<- ej,hns,<- sn];exact h2 j ∅
  ·apply m2
   rw[hns,sn];exact getD_mem (by rw[zB,zO];omega)
 rw[em];exact⟨.int _,H,I.kept (t':=tk) hk,⟨_,rfl⟩,q⟩
noncomputable def zA5:List D->Option R
 | [.tup ds]=>(intsOf ds).bind λns=>if ns=[]then none else ↥(.int (zAt ns))
 | _=>none
noncomputable def zA3:List D->Option R
 | [.tup ds]=>(intsOf ds).bind λns=>if ns=[]then none else ↥(.int (zAZ ns))
 | _=>none
theorem q9J{K:zA}:Wj K (rMaxT K) zA5:=by
 intro G H ds vs d Q s e hv k
 match ds,e with
 | [.tup ds],e=>
  obtain⟨ns,e1,e2⟩:=bnd (show (intsOf ds).bind _=some d from e);have hds:=q1h e1;subst hds
  by_cases hz:ns=[]
  ·rw[vC hz]at e2;cases e2
  ·rw[vF hz]at e2
   cases e2;obtain⟨v,rfl,h⟩:=hv.one;rcases h with⟨p,us,rfl,h1,h2⟩|⟨ds',l,vs,e3,_⟩
   ·exact⟨p,ns,rfl,by rw[<- h2.of_ints];exact SqT.of (s _ _ h1),hz,k _ G H (Ext.refl s) rfl⟩
   ·cases e3
theorem q9U{K:zA}:Wj K (rMinT K) zA3:=by
 intro G H ds vs d Q s e hv k
 match ds,e with
 | [.tup ds],e=>
  obtain⟨ns,e1,e2⟩:=bnd (show (intsOf ds).bind _=some d from e);have hds:=q1h e1;subst hds
  by_cases hz:ns=[]
  ·rw[vC hz]at e2;cases e2
  ·rw[vF hz]at e2
   cases e2;obtain⟨v,rfl,h⟩:=hv.one;rcases h with⟨p,us,rfl,h1,h2⟩|⟨ds',l,vs,e3,_⟩
   ·exact⟨p,ns,rfl,by rw[<- h2.of_ints];exact SqT.of (s _ _ h1),hz,k _ G H (Ext.refl s) rfl⟩
   ·cases e3
theorem qac{ns:List Int}(h:ns≠[]):zA5 [.tup (ns.map D.int)]=↥(.int (zAt ns)):=by
 show (intsOf (ns.map D.int)).bind _=_;rw[q0y];exact vF h
theorem q9w{ns:List Int}(h:ns≠[]):zA3 [.tup (ns.map D.int)]=↥(.int (zAZ ns)):=by
 show (intsOf (ns.map D.int)).bind _=_;rw[q0y];exact vF h
end
end Hk
namespace Hk
open PySem PySem.Spec PyProof.Rows L2
section
variable{prog:vS}{w:vZ}{A:vb}{E:vB->vG->Prop}{s:vG}
theorem q8o{z TI TO:vJ}{f0 f1:vB}{Q:Bool->vG->Prop}(hz:XZ s.heap z TI TO f0 f1)(hf:f0=.none\/∃t:vJ,f0=v8 t/\s.heap.get? t=none)(k:Q true s):
  vN (model prog w) A (Builtin.SmallTypes.ownedTupleIsFree (.ref z)) Q E s:=by
 unfold Builtin.SmallTypes.ownedTupleIsFree;rcases hf with rfl|⟨t,rfl,ht⟩
 ·exact vA (vt hz rfl (x:=.none) rfl (vH k))
 ·refine vA (vt hz rfl (x:=v8 t) rfl ?_)
  show vN _ _ (sQ ((t:Int)).toNat >>= _) _ _ _;rw[yE];refine vA (q8p ?_);rw[ht];exact vH k
theorem qbF{z TI TO i1 i2 l1 l2:vJ}{k1 k2:Nat}{xs ys:Array vB}{x y a b f0 f1:vB}{Q:Option vB->vG->Prop}(Z:tE z TI TO i1 i2 l1 l2)(hz:XZ s.heap z TI TO f0 f1)(hf:f0=.none\/∃t:vJ,f0=v8 t/\s.heap.get? t=none)(hTI:uN s.heap TI (.ref i1) (.ref i2))(hTO:uN s.heap TO a b)(h1:s.heap.IsListIter i1 l1 k1)(h2:s.heap.IsListIter i2 l2 k2)(hl1:s.heap.IsList l1 xs)(hl2:s.heap.IsList l2 ys)(hx:xs[k1]?=some x)(hy:ys[k2]?=some y)(hQ:∀g,XZ g z TI TO (v8 s.heap.objs.size) (.bool false)->uN g TO x y->g.IsListIter i1 l1 (k1+1)->g.IsListIter i2 l2 (k2+1)->uN g s.heap.objs.size x y ->
   (∀c o,c≠z->c≠TO->c≠i1->c≠i2->s.heap.get? c=some o->g.get? c=some o)->Q (some (.ref s.heap.objs.size)) { s with heap:=g }) :
  vN (model prog w) A (uH (.ref z)) Q E s:=by
 have tz:s.TypeIs (.ref z) "zip" := ⟨_,hz,rfl⟩;unfold uH;refine vA (uJ (wpAny_callSpecial?_slot (name:=Str.ofString "__next__") tz PySem.F.slot_zip_next (ve PySem.F.slot_zip_next tz PySem.F.entry_zip_next ?_ (PySem.F.args_zip_next_1 _))));show vN _ _ (field (.ref z) 2 >>= _) _ _ _;refine vA (vt hz rfl (x:=.bool false) rfl ?_);show vN _ _ (field (.ref z) 3 >>= _) _ _ _;refine vA (vt hz rfl (x:=.ref TI) rfl ?_);refine vA (v6 hTI rfl ?_);show vN _ _ (Builtin.SmallTypes.ownedTupleIsFree (.ref z) >>= _) _ _ _;refine vA (q8o hz hf ?_);simp only[if_true];refine vA (uB (vA (vt hz rfl (x:=.ref TO) rfl ?_)));refine vA (vg hz (by simp) λg1 z1 b1=>?_);replace z1:XZ g1 z TI TO .ellipsis f1:=z1;refine vA ?_;simp only[ww,YM,xw,wX];refine vA (vA (tK ?_));show vN _ _ (Builtin.SmallTypes.nextOf (.ref i1) >>= _) _ _ _;refine vA (v9 (h1.extBut b1.extBut Z.i1z) (hl1.extBut b1.extBut Z.l1z) hx λg2 it1 b2=>vH ?_);have o2:uN g2 TO a b:=b2.extBut _ _ Z.TOi1 (b1.extBut _ _ Z.TOz hTO);refine vA (v6 o2 rfl (vA (ut o2 λg3 o3 b3=>?_)));replace o3:uN g3 TO x b:=o3;refine vA (tY (vH (vA (vA (tK ?_)))));show vN _ _ (Builtin.SmallTypes.nextOf (.ref i2) >>= _) _ _ _;have h2':=((h2.extBut b1.extBut Z.i2z).extBut b2.extBut Z.i12.symm).extBut b3.extBut Z.TOi2.symm;have hl2':=((hl2.extBut b1.extBut Z.l2z).extBut b2.extBut Z.l2i1).extBut b3.extBut Z.l2TO;refine vA (v9 h2' hl2' hy λg4 it2 b4=>vH ?_);have o4:uN g4 TO x b:=b4.extBut _ _ Z.TOi2 o3;refine vA (v6 o4 rfl (vA (ut o4 λg5 o5 b5=>?_)));replace o5:uN g5 TO x y:=o5;refine vA (tY (vH (vH ?_)));refine vA (v6 o5 rfl (vA (tD ?_)));have sz:g5.objs.size=s.heap.objs.size:=by rw[b5.1,b4.1,b3.1,b2.1,b1.1]
 have z5:XZ g5 z TI TO .ellipsis f1:=b5.extBut _ _ Z.TOz.symm (b4.extBut _ _ Z.i2z.symm (b3.extBut _ _ Z.TOz.symm (b2.extBut _ _ Z.i1z.symm z1)));have k5:∀c o,c≠z->c≠TO->c≠i1->c≠i2->s.heap.get? c=some o->g5.get? c=some o:=λc o n1 n2 n3 n4 e=>b5.extBut _ _ n2 (b4.extBut _ _ n4 (b3.extBut _ _ n2 (b2.extBut _ _ n3 (b1.extBut _ _ n1 e))));have j1:g5.IsListIter i1 l1 (k1+1):=((it1.extBut b3.extBut Z.TOi1.symm).extBut b4.extBut Z.i12).extBut b5.extBut Z.TOi1.symm;have j2:g5.IsListIter i2 l2 (k2+1):=it2.extBut b5.extBut Z.TOi2.symm;have zl:z<g5.objs.size:=zM z5;show vN _ _ (Builtin.SmallTypes.ownedTupleHandOut (.ref z) (.ref g5.objs.size) >>= _) _ _ _;refine vA ?_;unfold Builtin.SmallTypes.ownedTupleHandOut;have z6:XZ (g5.push { cls:=.type "tuple", data:=.seq #[x,y] }) z TI TO .ellipsis f1:=zF _ z5;refine vA (vg z6 (by simp) λg7 z7 b7=>?_);replace z7:XZ g7 z TI TO (v8 g5.objs.size) f1:=z7;refine vg z7 (by simp) λg8 z8 b8=>?_;replace z8:XZ g8 z TI TO (v8 g5.objs.size) (.bool false):=z8;have up:∀c o,c≠z->g5.get? c=some o->g8.get? c=some o:=λc o n e=>b8.extBut _ _ n (b7.extBut _ _ n (zF _ e));have t8:uN g8 g5.objs.size x y:=b8.extBut _ _ (wD zl) (b7.extBut _ _ (wD zl) (zQ _ rfl));rw[sz]at z8 t8;refine vH ⟨_,rfl,vH ?_⟩;show Q (some (.ref g5.objs.size)) _;rw[sz];exact hQ g8 z8 (up _ _ Z.TOz o5) (j1.at λo e=>up _ o Z.i1z e) (j2.at λo e=>up _ o Z.i2z e) t8 λc o n1 n2 n3 n4 e=>up c o n1 (k5 c o n1 n2 n3 n4 e)
theorem qd7{z TI TO i1 i2 l1 l2:vJ}{k1 k2:Nat}{xs ys:Array vB}{a b f0 f1:vB}{Q:Option vB->vG->Prop}(hh:A.handled=none)(Z:tE z TI TO i1 i2 l1 l2)(hz:XZ s.heap z TI TO f0 f1)(hf:f0=.none\/∃t:vJ,f0=v8 t/\s.heap.get? t=none)(hTI:uN s.heap TI (.ref i1) (.ref i2))(hTO:uN s.heap TO a b)(h1:s.heap.IsListIter i1 l1 k1)(h2:s.heap.IsListIter i2 l2 k2)(hl1:s.heap.IsList l1 xs)(hl2:s.heap.IsList l2 ys)(hend:xs[k1]?=none\/ys[k2]?=none)(hQ:∀g,(∀c o,c≠z->c≠TO->c≠i1->c≠i2->s.heap.get? c=some o->g.get? c=some o)->Q none { s with heap:=g }):
  vN (model prog w) A (uH (.ref z)) Q E s:=by
 have tz:s.TypeIs (.ref z) "zip" := ⟨_,hz,rfl⟩;unfold uH;refine vA (uJ (wpAny_callSpecial?_slot (name:=Str.ofString "__next__") tz PySem.F.slot_zip_next (ve PySem.F.slot_zip_next tz PySem.F.entry_zip_next ?_ (PySem.F.args_zip_next_1 _))));show vN _ _ (field (.ref z) 2 >>= _) _ _ _;refine vA (vt hz rfl (x:=.bool false) rfl ?_);show vN _ _ (field (.ref z) 3 >>= _) _ _ _;refine vA (vt hz rfl (x:=.ref TI) rfl ?_);refine vA (v6 hTI rfl ?_);show vN _ _ (Builtin.SmallTypes.ownedTupleIsFree (.ref z) >>= _) _ _ _;refine vA (q8o hz hf ?_);simp only[if_true];refine vA (uB (vA (vt hz rfl (x:=.ref TO) rfl ?_)));refine vA (vg hz (by simp) λg1 z1 b1=>?_);replace z1:XZ g1 z TI TO .ellipsis f1:=z1;refine vA ?_;simp only[ww,YM,xw,wX];refine vA (vA (tK ?_));show vN _ _ (Builtin.SmallTypes.nextOf (.ref i1) >>= _) _ _ _;cases hx:xs[k1]? with
 | none=>
  refine vA (uX hh (h1.extBut b1.extBut Z.i1z) (hl1.extBut b1.extBut Z.l1z) hx λg2 e b2 he=>?_);obtain⟨oe,q1,q2⟩:=he;have z2:XZ g2 z TI TO .ellipsis f1:=b2 _ _ Z.i1z.symm z1;have ne:e≠z:=λv=>by subst v;rw[z2]at q1;cases q1;simp at q2
  refine vg z2 (by simp) λg3 _ b3=>?_;refine vA (uC (T := "StopIteration") (b:=true) ⟨oe,b3.extBut _ _ ne q1,q2⟩ uZ ?_);exact vH (hQ _ λc o n1 _ n3 _ v=>b3.extBut _ _ n1 (b2 _ _ n3 (b1.extBut _ _ n1 v)))
 | some x=>
  have hy:ys[k2]?=none:=by rcases hend with h|h;rw[hx]at h;cases h;exact h
  refine vA (v9 (h1.extBut b1.extBut Z.i1z) (hl1.extBut b1.extBut Z.l1z) hx λg2 it1 b2=>vH ?_);have o2:uN g2 TO a b:=b2.extBut _ _ Z.TOi1 (b1.extBut _ _ Z.TOz hTO);refine vA (v6 o2 rfl (vA (ut o2 λg3 o3 b3=>?_)));refine vA (tY (vH (vA (vA (tK ?_)))));show vN _ _ (Builtin.SmallTypes.nextOf (.ref i2) >>= _) _ _ _;have h2':=((h2.extBut b1.extBut Z.i2z).extBut b2.extBut Z.i12.symm).extBut b3.extBut Z.TOi2.symm;have hl2':=((hl2.extBut b1.extBut Z.l2z).extBut b2.extBut Z.l2i1).extBut b3.extBut Z.l2TO;refine vA (uX hh h2' hl2' hy λg4 e b4 he=>?_);obtain⟨oe,q1,q2⟩:=he;have z4:XZ g4 z TI TO .ellipsis f1:=b4 _ _ Z.i2z.symm (b3.extBut _ _ Z.TOz.symm (b2.extBut _ _ Z.i1z.symm z1));have ne:e≠z:=λv=>by subst v;rw[z4]at q1;cases q1;simp at q2
  refine vg z4 (by simp) λg5 _ b5=>?_;refine vA (uC (T := "StopIteration") (b:=true) ⟨oe,b5.extBut _ _ ne q1,q2⟩ uZ ?_);exact vH (hQ _ λc o n1 n2 n3 n4 v=>b5.extBut _ _ n1 (b4 _ _ n4 (b3.extBut _ _ n2 (b2.extBut _ _ n3 (b1.extBut _ _ n1 v)))))
theorem qbU{z TI TO i1 i2 l1 l2:vJ}{k1 k2:Nat}{xs ys:Array vB}{x y a b f0 f1:vB}{Q:Option vB->vG->Prop}(Z:tE z TI TO i1 i2 l1 l2)(hz:XZ s.heap z TI TO f0 f1)(hf:f0=.none\/∃t:vJ,f0=v8 t)(hTI:uN s.heap TI (.ref i1) (.ref i2))(hTO:uN s.heap TO a b)(h1:s.heap.IsListIter i1 l1 k1)(h2:s.heap.IsListIter i2 l2 k2)(hl1:s.heap.IsList l1 xs)(hl2:s.heap.IsList l2 ys)(hx:xs[k1]?=some x)(hy:ys[k2]?=some y)(hQ:∀(g:vn)(t:vJ)(f1':vB),XZ g z TI TO (v8 t) f1'->(∃a b,uN g TO a b)->g.IsListIter i1 l1 (k1+1)->g.IsListIter i2 l2 (k2+1)->uN g s.heap.objs.size x y ->
   (∀c o,c≠z->c≠TO->c≠i1->c≠i2->s.heap.get? c=some o->g.get? c=some o)->Q (some (.ref s.heap.objs.size)) { s with heap:=g }) :
  vN (model prog w) A (uH (.ref z)) Q E s:=by
 have dead:(f0=.none\/∃t:vJ,f0=v8 t/\s.heap.get? t=none)->vN (model prog w) A (uH (.ref z)) Q E s:=λhd=>
  qbF Z hz hd hTI hTO h1 h2 hl1 hl2 hx hy λg a1 a2 a3 a4 a5 a6=>hQ g _ _ a1 ⟨_,_,a2⟩ a3 a4 a5 a6
 rcases hf with hf|⟨t,rfl⟩
 ·exact dead (.inl hf)
 ·cases ht:s.heap.get? t with
  | none=>exact dead (.inr ⟨t,rfl,ht⟩)
  | some ot=>exact qcL Z hz ht hTI h1 h2 hl1 hl2 hx hy λg f1' a1 a2 a3 a4 a5=>hQ g t f1' a1 ⟨a,b,a5 _ _ Z.TOz Z.TOi1 Z.TOi2 hTO⟩ a2 a3 a4 λc o n1 _ n3 n4 e=>a5 c o n1 n3 n4 e
theorem qdE{z TI TO i1 i2 l1 l2:vJ}{k1 k2:Nat}{xs ys:Array vB}{a b f0 f1:vB}{Q:Option vB->vG->Prop}(hh:A.handled=none)(Z:tE z TI TO i1 i2 l1 l2)(hz:XZ s.heap z TI TO f0 f1)(hf:f0=.none\/∃t:vJ,f0=v8 t)(hTI:uN s.heap TI (.ref i1) (.ref i2))(hTO:uN s.heap TO a b)(h1:s.heap.IsListIter i1 l1 k1)(h2:s.heap.IsListIter i2 l2 k2)(hl1:s.heap.IsList l1 xs)(hl2:s.heap.IsList l2 ys)(hend:xs[k1]?=none\/ys[k2]?=none)(hQ:∀g,(∀c o,c≠z->c≠TO->c≠i1->c≠i2->s.heap.get? c=some o->g.get? c=some o)->Q none { s with heap:=g }):
  vN (model prog w) A (uH (.ref z)) Q E s:=by
 have dead:(f0=.none\/∃t:vJ,f0=v8 t/\s.heap.get? t=none)->vN (model prog w) A (uH (.ref z)) Q E s:=λhd=>qd7 hh Z hz hd hTI hTO h1 h2 hl1 hl2 hend hQ;rcases hf with hf|⟨t,rfl⟩
 ·exact dead (.inl hf)
 ·cases ht:s.heap.get? t with
  | none=>exact dead (.inr ⟨t,rfl,ht⟩)
  | some ot=>exact qdx hh Z hz ht hTI h1 h2 hl1 hl2 hend λg k=>hQ g λc o n1 _ n3 n4 e=>k c o n1 n3 n4 e
theorem qbS{z TI TO:vJ}{f0 f1:vB}{Q:vB->vG->Prop}(hz:XZ s.heap z TI TO f0 f1)(h:Q (.ref z) s):vN (model prog w) A (t7 (.ref z)) Q E s:=by
 have tz:s.TypeIs (.ref z) "zip" := ⟨_,hz,rfl⟩;refine tG tz PySem.F.slot_zip_iter (ve PySem.F.slot_zip_iter tz PySem.F.entry_zip_iter ?_ (PySem.F.args_zip_iter_1 _));show vN _ _ (ret (.ref z)) _ _ s;exact vH ⟨_,rfl, "zip", _,tz,PySem.F.slot_zip_next.lookup,h⟩
end
end Hk
namespace L2
open PySem PySem.Spec PyProof.Rows Hk
theorem qbP{P:vS}{w:vZ}{K:zA}{y:Str}{tpos:Pos}(a b z TI TO i1 i2:vJ)(D:tE z TI TO i1 i2 a b):
  Turn P w K (.Name y tpos) (Itz K a b) [z,TI,TO,i1,i2] z (λi h=>(∃f0 f1,XZ h z TI TO f0 f1/\(f0=.none\/∃t:vJ,f0=v8 t))/\uN h TI (.ref i1) (.ref i2)/\(∃x y,uN h TO x y)/\h.IsListIter i1 a i/\h.IsListIter i2 b i) where
 mem:=by simp
 obj:=λi h st c hc=>by
  obtain⟨⟨_,_,s1,_⟩,s2,⟨_,_,s3⟩,⟨o4,e4,c4,d4⟩,⟨o5,e5,c5,d5⟩⟩:=st;simp only[zG,zj,or_false]at hc;rcases hc with rfl|rfl|rfl|rfl|rfl
  ·exact⟨_,s1,λv y=>by cases (show Data.fields _=Data.cell v from y)⟩
  ·exact⟨_,s2,λv y=>by cases (show Data.seq _ _=Data.cell v from y)⟩
  ·exact⟨_,s3,λv y=>by cases (show Data.seq _ _=Data.cell v from y)⟩
  ·exact⟨_,e4,λv y=>by rw[d4]at y;cases y⟩
  ·exact⟨_,e5,λv y=>by rw[d5]at y;cases y⟩
 keep:=λi h h' st k=>by
  obtain⟨⟨f0,f1,s1,hf⟩,s2,⟨x,y,s3⟩,s4,s5⟩:=st;exact⟨⟨f0,f1,k _ (by simp) _ s1,hf⟩,k _ (by simp) _ s2,⟨x,y,k _ (by simp) _ s3⟩,s4.at λo e=>k _ (by simp) o e,s5.at λo e=>k _ (by simp) o e⟩
 item:=by
  intro X hP hw hK hc i pins s σ H E I hf st hg;subst hP hw hK;obtain⟨xs,ys,x,y,hq1,hq2,hx,hy⟩:=hg;obtain⟨its1,rv1,p1,hz1⟩:=I.list hq1;obtain⟨its2,rv2,p2,hz2⟩:=I.list hq2;obtain⟨u1,hu1,ru1⟩:=rv1.get hx;obtain⟨u2,hu2,ru2⟩:=rv2.get hy;obtain⟨⟨f0,f1,s1,hf0⟩,s2,⟨_,_,s3⟩,s4,s5⟩:=st;have ex:∀c∈[z,TI,TO,i1,i2],∃o,s.heap.get? c=some o:=λc hc=>by
   simp only[zG,zj,or_false]at hc;rcases hc with rfl|rfl|rfl|rfl|rfl
   ·exact⟨_,s1⟩
   ·exact⟨_,s2⟩
   ·exact⟨_,s3⟩
   ·obtain⟨o,e,_⟩:=s4;exact⟨o,e⟩
   ·obtain⟨o,e,_⟩:=s5;exact⟨o,e⟩
  have nt:∀c∈[z,TI,TO,i1,i2],c≠s.heap.objs.size:=λc hc=>by
   obtain⟨o,e⟩:=ex c hc;exact zg (zM e)
  refine qbU D s1 hf0 s2 s3 s4 s5 p1.isList p2.isList (x:=u1) (y:=u2) (by simpa using hu1) (by simpa using hu2) λh' t' f1' a1 a2 a3 a4 a5 hk=>?_;have hn:H s.heap.objs.size=none:=I.hok.fresh (zK _);have I1:Inv X pins σ (upd H s.heap.objs.size (.tup [x,y])) { s with heap:=s.heap.push { cls:=.type "tuple", data:=.seq #[u1,u2] },toks:=s.toks } :=
   I.laid (λb o e=>zF _ e) (zK _) (show Y6 X.prog X.w _ _ _ (.tup [x,y])from ⟨by show 2<=sizeLine;decide,[u1,u2],.cons ru1 (.cons ru2 .nil),⟨_,zQ _ rfl,rfl,_,rfl⟩⟩)
  have hf':∀c∈[z,TI,TO,i1,i2],zBX X pins (upd H s.heap.objs.size (.tup [x,y])) c:=λc hc=>by
   obtain⟨q0,q⟩:=hf c hc;exact⟨by rw[qd (nt c hc)];exact q0,q⟩
  have I2:Inv X pins σ (upd H s.heap.objs.size (.tup [x,y])) { s with heap:=h',toks:=s.toks }:=I1.turnedL (λb o hb e=>by
   simp only[zG,zj,or_false,not_or]at hb
   by_cases q:b=s.heap.objs.size
   ·subst q
    rw[zQ _ rfl]at e;cases e;exact a5
   ·have e':s.heap.get? b=some o:=by
     rcases zz b s.heap.objs.size with l|l
     ·obtain⟨z1,z2⟩:=xz.mp e
      refine xz.mpr ⟨?_,z2⟩;rw[<- z1];show s.heap.objs[b]?=(s.heap.objs.push _)[b]?;rw[ZV,vF q]
     ·have:=zM e
      rw[yX]at this;exact vL (by simp only[vJ]at *;omega) q
    exact hk b o hb.1 hb.2.2.1 hb.2.2.2.1 hb.2.2.2.2 e') hf'
  refine⟨_,rfl,vH ?_⟩;exact⟨.ref s.heap.objs.size,_,I2,rfl,⟨_,x,y,hn,rfl,rfl,λxs' ys' q1 q2=>⟨by rw[I.list_inj q1 hq1];exact hx,by rw[I.list_inj q2 hq2];exact hy⟩⟩,⟨⟨_,_,a1,.inr ⟨_,rfl⟩⟩,hk _ _ D.TIz D.TITO D.TIi1 D.TIi2 s2,a2,a3,a4⟩,λc hc=>(hf' c hc).1⟩
 done:=by
  intro X hP hw hK hc i pins s σ H E I hf st hg;subst hP hw hK;obtain⟨xs,ys,hq1,hq2,hx⟩:=hg;obtain⟨its1,rv1,p1,hz1⟩:=I.list hq1;obtain⟨its2,rv2,p2,hz2⟩:=I.list hq2;obtain⟨⟨f0,f1,s1,hf0⟩,s2,⟨_,_,s3⟩,s4,s5⟩:=st;have l1:=rv1.length;have l2:=rv2.length;refine qdE (I.ok.hd hc) D s1 hf0 s2 s3 s4 s5 p1.isList p2.isList ?_ λh' hk=>⟨rfl,I.turnedL (t':=s.toks) (λb o hb e=>?_) hf⟩
  ·rcases hx with hx|hx
   ·exact .inl (by rw[xn]at hx;simp;omega)
   ·exact .inr (by rw[xn]at hx;simp;omega)
  ·simp only[zG,zj,or_false,not_or]at hb
   exact hk b o hb.1 hb.2.2.1 hb.2.2.2.1 hb.2.2.2.2 e
 self:=λ_ _ _ _ _ st h=>by
  obtain⟨⟨f0,f1,s1,hf⟩,_⟩:=st;exact qbS s1 h
theorem qeZ{X:Cx}{a b:vX}{ta:TA}{p pos tpos:Pos}{y:Str}(hg:Gl X "zip")(hm:X.mg "zip" = none)(ha:PA X [a,b] ta)(hs:vK [a,b] X.env=[(false,eval a X.env),(false,eval b X.env)]:=by rfl)(hs2:vK [b] X.env=[(false,eval b X.env)]:=by rfl):
  PI X (.Name y tpos) (.Call (.Name "zip" p) [a,b] [] pos) (iZip X.K ta):=by
 intro pins s σ H R I h;refine Call_ (q23 I hg hm PyProof.Rows.boot_zip (PyProof.Rows.callWith_type1 (thn (ha pos pins s σ H _ I h) λus s1 ⟨vs,H1,I1,r1,q1⟩=>?_) (by rw[hs,hs2]) (by rw[hs2];rfl)));obtain⟨l1,l2,xs,ys,e,hq1,hq2,q⟩:=q1;subst e;cases r1 with
 | cons r rr=>
  cases rr with
  | cons r' rr=>
   cases rr;cases r;cases r';obtain⟨its1,rv1,p1,hz1⟩:=I1.list hq1;obtain⟨its2,rv2,p2,hz2⟩:=I1.list hq2;have e1:l1<s1.heap.objs.size:=by obtain⟨_,_,e,_⟩:=p1;exact zM e
   have e2:l2<s1.heap.objs.size:=by obtain⟨_,_,e,_⟩:=p2;exact zM e
   refine call_zip_2 p1.isList p2.isList λh' a1 a2 a3 a4 a5 a6 hk=>?_;refine wpAny_pyIter_zip a1 ?_;have D:tE (s1.heap.objs.size+4) (s1.heap.objs.size+2) (s1.heap.objs.size+3) s1.heap.objs.size (s1.heap.objs.size+1) l1 l2:=by
    generalize s1.heap.objs.size=n at *
    constructor <;> (intro q;simp only[vJ]at *;omega)
   refine⟨s1.heap.objs.size+4,[s1.heap.objs.size+4,s1.heap.objs.size+2,s1.heap.objs.size+3,s1.heap.objs.size,s1.heap.objs.size+1],_,_,H1,rfl,I1.kept (t':=s1.toks) hk,qbP l1 l2 _ _ _ _ _ D,⟨⟨_,_,a1,.inl rfl⟩,a2,⟨_,_,a3⟩,a4,a5⟩,λc hc=>?_,q⟩;have hle:s1.heap.objs.size<=c:=by
    simp only[zG,zj,or_false]at hc;simp only[vJ]at *;omega
   exact I1.fpOk hle (I1.hok.fresh hle)
end L2
namespace Hk
open PySem L2
theorem qeq{X:Cx}{a b:vX}{g:FA}{p pos tpos:Pos}{y:Str}(hg:Gl X "zip")(hm:X.mg "zip" = none)(ha:XA X [a,b] g)(hs:vK [a,b] X.env=[(false,eval a X.env),(false,eval b X.env)]:=by rfl)(hs2:vK [b] X.env=[(false,eval b X.env)]:=by rfl):
  XI X (.Name y tpos) (.Call (.Name "zip" p) [a,b] [] pos) (iZp g):=by
 obtain⟨⟨t,h1,h2⟩,_⟩:=ha;refine⟨_,qeZ hg hm h1 hs hs2,λG0 H0 G ω σ H ds R o e k=>?_⟩;obtain⟨vs,q,e⟩:=bnd e;refine h2 G0 H0 G ω σ H vs _ o q λus G1 H1 x1 y1=>?_
 match vs,e with
 | [.lst as,.lst bs],e=>
  cases e;obtain⟨v1,r1,rfl,z1,z2⟩:=y1;obtain⟨v2,r2,rfl,z3,z4⟩:=z2;cases (show r2=[]from z4);obtain⟨a1,ws1,rfl,f1,f2⟩:=z1;obtain⟨a2,ws2,rfl,f3,f4⟩:=z3;exact⟨a1,a2,ws1,ws2,rfl,SqL.of (x1.gh _ _ f1),SqL.of (x1.gh _ _ f3),k _ G1 H1 x1 (qdL f1 f2 f3 f4)⟩
end Hk
namespace L2
open PySem PySem.Spec PyProof.Rows
end L2
namespace Hk
open PySem L2
noncomputable def zCi:Option (Option W)->Option (List D)
 | some ↥(.dic ks _)=>some (ks.map D.int)
 | _=>none
noncomputable def iDk(i:Nat):FI:=λω=>zCi ω[i]?
end Hk
namespace L2
open PySem PySem.Spec PyProof.Rows
section
variable{X:Cx}{pins:List (vJ×Obj)}{σ:St}{H:Hp}{s:vG}{a:vJ}{A:vb}{E:vB->vG->Prop}{kvs:List (Key×V)}{k:Key}{u r:vB}{z:V}
theorem qdU{Q:vB->vG->Prop}(I:Inv X pins σ H s)(e:H a=some (.dK kvs))(hz:kvs.length<sizeLine)(ry:RelV (kV k) u)(rz:RelV z r)(h1:∀v w' s',We kvs k=some v->Inv X pins σ H s'->RelV v w'->Q w' s')(h2:We kvs k=none->∀s',Inv X pins σ (upd H a (.dK (putK kvs k z))) s'->Q r s'):
  vN (model X.prog X.w) A (call (.builtin "dict.setdefault") [.ref a,u,r]) Q E s:=by
 obtain⟨zl,hd,vs,rel,dd⟩:=qbl I.hok e;have rv:=rel.val k;refine sK PySem.F.slot_dict_setdefault dd.typeIs PySem.F.entry_dict_setdefault (PySem.F.args_dict_setdefault_3 _ _ _) (kt_meets_setdefault (Yx X.prog X.w) a (q3A ry) hd r)
  ⟨vs,dd,by rw[<- rel.length];exact zl,λv hv=>?_,λhn h' dd' hs=>?_⟩
 ·rw[hv]at rv
  cases q:We kvs k with
  | none=>rw[q]at rv;exact rv.elim
  | some v0=>rw[q]at rv;exact h1 v0 v _ q (I.tok _) rv
 ·rw[hn]at rv
  cases q:We kvs k with
  | some v0=>rw[q]at rv;exact rv.elim
  | none=>
   refine h2 q _ ?_;have he:∃q,h'.get? a=some q:=let ⟨q,_,_,hq,_⟩:=dd';⟨q,hq⟩
   have hl:(putK kvs k z).length<=sizeLine:=by rw[qdp z q,zC,zk];exact hz
   exact q4I I (by rw[e];exact True.intro) hs he (q8U hl hd (rel.put k rz) dd')
end
noncomputable def tDSd(td ty tx:TE):TE:=λσ H Q=>td σ H λx H1=>∃a,x=.ref a/\IsD H1 a/\ty σ H1 λy H2=>tx σ H2 λz H3=>∃kvs k,H3 a=some (.dK kvs)/\y=kV k/\kvs.length<sizeLine /\
 (∀v,We kvs k=some v->Q v H3)/\(We kvs k=none->Q z (upd H3 a (.dK (putK kvs k z))))
theorem qfJ{X:Cx}{o e f:vX}{apos cpos:Pos}{td ty tx:TE}(ho:PE X o td)(he:PE X e ty)(hf:PE X f tx)(m:M2 X o "setdefault" apos e f cpos):PE X (.Call (.Attribute o "setdefault" apos) [e,f] [] cpos) (tDSd td ty tx):=by
 intro pins s σ H Q I h;refine wpAny_Call_method m.base m.few m.line PySem.F.plainAttrs_dict PySem.F.slot_dict_setdefault PySem.F.type_dict_setdefault (thn (ho pins s σ H _ I h) λu s1 ⟨x,H1,I1,rx,a,ex,d,q1⟩=>?_);subst ex;obtain rfl:u=Value.ref a:=rx;obtain⟨t1,t2,_⟩:=qcQ I1 d;refine⟨t1,t2,?_⟩;rw[m.trees];refine Calls.callWith_builtin rfl (Calls.evalArgs_plain (Calls.spliced_cons (thn (he pins s1 σ H1 _ I1 q1) λiv s2 ⟨y,H2,I2,ry,q2⟩=>
  Calls.spliced_cons (thn (hf pins s2 σ H2 _ I2 q2) λfv s3 ⟨z,H3,I3,rz,kvs,k,ea,ey,hz,g1,g2⟩=>Calls.spliced_nil ?_))))
 subst ey;exact qdU I3 ea hz ry rz (λv w' s4 hv I4 rw'=>⟨v,H3,I4,rw',g1 v hv⟩) λhn s4 I4=>⟨z,_,I4,rz,g2 hn⟩
end L2
namespace Hk
open PySem L2
theorem q0G{α:Type}:∀{ks:List Int}{xs:List α}{k:Int},ks.length=xs.length->(Y4 ks xs k).isSome=decide (k∈ks)
 | [],[],k,_=>by simp[Y4]
 | [],_::_,_,h=>by simp at h
 | _::_,[],_,h=>by simp at h
 | k'::ks,x::xs,k,h=>by
  show (if k'=k then some x else Y4 ks xs k).isSome=_
  by_cases z:k'=k
  ·rw[vC z,vQ (by rw[z];exact zI)];rfl
  ·rw[vF z,q0G ⇑h]
   have:(k∈k'::ks)↔k∈ks:=⟨λm=>(zG.mp m).resolve_left λe=>z e.symm,zH _⟩;rw[decide_eq_decide.mpr this]
theorem q6S{α:Type}{v:α}:∀{ks:List Int}{xs:List α}{k:Int},ks.length=xs.length->k∉ks->Y4 (ks++[k]) (xs++[v]) k=some v
 | [],[],k,_,_=>vC rfl
 | [],_::_,_,h,_=>by simp at h
 | _::_,[],_,h,_=>by simp at h
 | k'::ks,x::xs,k,h,hk=>by
  show (if k'=k then some x else Y4 (ks++[k]) (xs++[v]) k)=some v;rw[vF (λz=>hk (by rw[z];exact zI))];exact q6S ⇑h λm=>hk (zH _ m)
noncomputable def Xh(st:List Int×List (List Int))(n:Int)(a:Int):List Int×List (List Int) :=
 if a∈st.1 then (st.1,Wd st.1 st.2 a n)else (st.1++[a],Wd (st.1++[a]) (st.2++[[]]) a n)
noncomputable def byS(as:List (Int×Int)):Nat->List Int×List (List Int)
 | 0=>([],[])
 | n+1=>match as[n]? with
  | some a=>Xh (byS as n) n a.1
  | none=>byS as n
noncomputable def spT(K:zA):Sp:=λvs H Q _=>∃(G:Hp) (as:List (Int×Int)),Yz G H/\Yp K G [.lst (as.map pairD2)] vs/\as.length<=9000 /\
 ∀G' p ls H',Ext G H G' H'->Tab G' H H' p (byS as as.length).1 ls (byS as as.length).2->Q (.ref p) H'
theorem qej(as:List (Int×Int)):∀n:Nat,(byS as n).1.length<=n/\∀xs∈(byS as n).2,xs.length<=n
 | 0=>⟨zK _,λxs h=>by cases h⟩
 | n+1=>by
  obtain⟨h1,h2⟩:=qej as n;unfold byS;cases q:as[n]? with
  | none=>exact⟨by show (byS as n).1.length<=_;omega,λxs hx=>by have:=h2 xs hx;omega⟩
  | some a=>
   show (Xh (byS as n) n a.1).1.length<=_/\∀xs∈(Xh (byS as n) n a.1).2,_;unfold Xh
   split
   ·exact⟨by show (byS as n).1.length<=_;omega,q3k n _ _ _ _ h2⟩
   ·refine⟨by show ((byS as n).1++[a.1]).length<=_;rw[zC,zk];omega,q3k n _ _ _ _ λxs hx=>?_⟩
    rcases zT.mp hx with y|y
    ·exact h2 xs y
    ·cases za.mp y;exact yH _
section
variable{K:zA}{G0:Hp}{H0:Fr}{G:Hp}{ω:WSt}{σ:St}{H:Hp}
end
theorem noOw4{d0 d2 d3:Option D}:X3 [d0.map W.sh,none,d2.map W.sh,d3.map W.sh]:=by
 intro i w h
 match i,h with
 | 0,h=>cases d0 <;> cases h;exact⟨_,rfl⟩
 | 1,h=>cases h
 | 2,h=>cases d2 <;> cases h;exact⟨_,rfl⟩
 | 3,h=>cases d3 <;> cases h;exact⟨_,rfl⟩
 | i+4,h=>simp at h
section
variable{X:Cx}
theorem qeI{ta:TE}{g0:FD}(k2:zBY X.K ta g0){G0:Hp}{H0:Fr}{G:Hp}{ω:WSt}{σ:St}{H:Hp}{p:vJ}{ks:List Int}{ls:List vJ}{xss:List (List Int)}{a n:Int}{Q:VK}(o:Own X.K G0 H0 G ω σ H)(no:X3 ω)(s1:σ[1]?=some (some (.ref p)))(s2:σ[2]?=some (some (.int n)))(T:Tab G H0 H p ks ls xss)(h0:g0 ω=some (.int a))(hk:ks.length<1000000)(hz:∀xs∈xss,xs.length<1000000)(h:∀G' H' ls',Own X.K G0 H0 G' ω σ H'->Yz G G'->Tab G' H0 H' p (Xh (ks,xss) n a).1 ls' (Xh (ks,xss) n a).2->Q .non H'):
  tBM X.K "list" Xy (tDSd (XL 1) ta (zCv zAr)) (Ww (XL 2) zAr) σ H Q:=by
 have hlen:ks.length=(ls.map V.ref).length:=by rw[zB];exact T.len
 refine⟨.ref p,s1,p,rfl,.inl ⟨_,.inl T.dict⟩,k2 G0 H0 G ω σ H _ _ o h0 λu G1 H1 x1 y1=>?_⟩;cases (show u=.int a from y1);have o1:=o.keep x1;have T1:=T.keep x1;refine⟨by show 0<=sizeLine;exact yH _,λq hq=>?_⟩;have hpq:p≠q:=λz=>by rw[<- z,T1.dict]at hq;cases hq
 have x2:=Ext.hide o1.gh hq (.lst []);have o2:=o1.keep x2;have T2:=T1.keep x2;have vv:We (kvsOf ks (ls.map V.ref)) (Sum.inl a:Key)=Y4 ks (ls.map V.ref) a:=q0b hlen a;refine⟨kvsOf ks (ls.map V.ref),Sum.inl a,T2.dict,rfl,by rw[q2T hlen,vp];omega,λv hv=>?_,λhn=>?_⟩
 ·
  have ha:a∈ks:=by
   have:=q0G (ks:=ks) (xs:=ls.map V.ref) (k:=a) hlen;rw[vv]at hv;rw[hv]at this;exact of_decide_eq_true this.symm
  obtain⟨l,xs,n1,n2,n3,n4,n5,n6⟩:=T2.app n ha;rw[vv,n3]at hv;cases hv;refine⟨.inl ⟨rfl,_,SqL.of n5⟩,.int n,s2,l,_,.int n,rfl,rfl,n5,by rw[zB,vp];have:=hz xs n2;omega,?_⟩;rw[show xs.map V.int++[V.int n]=(xs++[n]).map V.int by rw[zY];rfl];refine h G1 _ ls (o2.free no (T2.gl l n1).1 (T2.gl l n1).2) x1.gg ?_;unfold Xh;rw[vC ha];exact n6
 ·have ha:a∉ks:=λha=>by
   have:=q0G (ks:=ks) (xs:=ls.map V.ref) (k:=a) hlen;rw[vv]at hn;rw[hn,vQ ha]at this;cases this
  obtain⟨H4,_,e4,T4⟩:=T1.put (l:=q) ha hq o1.gh o1.ext.hh hk;have ep:putK (kvsOf ks (ls.map V.ref)) (Sum.inl a) (.ref q)=kvsOf (ks++[a]) ((ls++[q]).map V.ref):=by
   rw[q41 hlen];unfold WY putA;rw[vF ha,vF ha,zY];rfl
  rw[ep,<- e4];have gp:=T1.gp;have gq:G1 q=none:=o1.gh.free hq;have h0q:H0 q=none:=o1.ext.hh.free hq;have o4:Own X.K G0 H0 G1 ω σ H4:=by rw[e4];exact o2.free no T1.gp T1.hp
  obtain⟨l,xs,n1,n2,n3,n4,n5,n6⟩:=T4.app n (a:=a) (by simp);have hq4:H4 q=some (.lst []):=by rw[e4,qd (Ne.symm hpq)];exact qe
  have lq:l=q:=by
   have:Y4 (ks++[a]) ((ls++[q]).map V.ref) a=some (.ref q):=by
    rw[zY];exact q6S hlen ha
   rw[this]at n3;cases n3;rfl
  subst lq;rw[hq4]at n5;have xe:xs=[]:=by
   cases xs with
   | nil=>rfl
   | cons y ys=>cases n5
  subst xe;refine⟨.inl ⟨rfl,_,SqL.of hq4⟩,.int n,s2,l,_,.int n,rfl,rfl,hq4,by show 0<sizeLine;rw[vp];omega,?_⟩;refine h G1 _ (ls++[l]) (o4.free no gq h0q) x1.gg ?_;unfold Xh;rw[vF ha];exact n6
theorem qeN{x1 x2 x3:Str}{o0 o1 e0 e1 e2:vX}{q1 q2 q3 q4 q5 q6 q9 q12 q15 a1 a2 c1 c2 ep ec tp:Pos}{kx}{g0:FD}(hp:tM (model X.prog X.w) X.A X.env X.xe)(hc:X.calm=true)(hN:X.N.Nodup)(i1:X.N[1]?=some x1)(i2:X.N[2]?=some x2)(i3:X.N[3]?=some x3)(l1:Loc X.env.scope x1)(l2:Loc X.env.scope x2)(l3:Loc X.env.scope x3)(f1:X.fn x1=true\/X.env.scope.names.lookup x1=some .local)(f2:X.fn x2=true\/X.env.scope.names.lookup x2=some .local)(f3:X.fn x3=true\/X.env.scope.names.lookup x3=some .local)(hge:Gl X "enumerate")(hme:X.mg "enumerate" = none)(h0:PE X o0 (XL 0))(h1:PE X o1 (XL 1))(h2:PE X e1 (XL 2))(h3:PE X e2 (XL 1))(ha:XD X e0 g0)(hg0:∀(ω:WSt)e,ω[3]?=some (some (.sh (pairD2 e)))->g0 ω=some (.int e.1))(hl:X.N.length=4)(m2:M2 X o1 "setdefault" a1 e0 (.List [] q4) c1)(s1:vz (.Dict [] [] q1) (some (.Name x1 q2)) q3.line X.env=pure false)(sE:vK [o0] X.env=[(false,eval o0 X.env)])(ab:uI (.Call (.Attribute o1 "setdefault" a1) [e0,.List [] q4] [] c1) "append" X.env (eval (.Call (.Attribute o1 "setdefault" a1) [e0,.List [] q4] [] c1) X.env)=eval (.Call (.Attribute o1 "setdefault" a1) [e0,.List [] q4] [] c1) X.env)(w1:((v3 c2 (vK [e1] X.env)).all (λx=>!x.1)&&(u6 c2 (uY [] X.env)).all (λx=>x.1.isSome)&&decide (([e1]:List vX).length+([]:List uP).length+(if ([]:List uP).isEmpty then 0 else 1)<30))=true)(z1:(a2.endLine==c2.line)=true)(t1:vK [e1] X.env=(false,eval e1 X.env)::vK [] X.env)(p1:(v3 c2 (vK [] X.env)).any (·.1)=false)(v1:vz (.Call (.Attribute (.Call (.Attribute o1 "setdefault" a1) [e0,.List [] q4] [] c1) "append" a2) [e1] [] c2) none q9.line X.env=pure false)(pg:∀t,PGs X [.Name x2 q5,.Name x3 q6] t->PG X (.Tuple [.Name x2 q5,.Name x3 q6] kx tp) (gTup X.K 2 t))(y1:∀x,v4 (.Call (.Name "enumerate" ep) [o0] [] ec) X.env x=pure x){vs:List V}{H:Hp}{Q:VK}{E:XK}(sp:spT X.K vs H Q E):
  ∃t,PSs X [.Assign [.Name x1 q2] (.Dict [] [] q1) q3,.For (.Tuple [.Name x2 q5,.Name x3 q6] kx tp) (.Call (.Name "enumerate" ep) [o0] [] ec) [.Expr (.Call (.Attribute (.Call (.Attribute o1 "setdefault" a1) [e0,.List [] q4] [] c1) "append" a2) [e1] [] c2) q9] [] q12,.Return (some e2) q15] t /\
   t { nx:=λ_ H'=>Q .non H',rt:=Q } (L2.start X.N vs) H:=by
 obtain⟨ta,k1,k2⟩:=ha;refine⟨_,qy (q05 hN i1 l1 q8n s1 f1) (qy (q5D hp hc (qa4 hge hme (qv h0 qt sE) sE) (pg _ (q53 (q3d hN i2 l2 f2) (q53 (q3d hN i3 l3 f3) q9C)))
  (q0F (q0E (q2P PySem.F.plainAttrs_list PySem.F.slot_list_append PySem.F.type_list_append q0r (qfJ h1 k1 (q2l qt) m2) (qv h2 qt t1) ab w1 z1 t1 p1) v1)) y1) (q0F (q4l h3))),?_⟩
 obtain⟨G,as,sg,rp,hlen,fin⟩:=sp;obtain⟨v0,rfl,A0,vs0,rfl,r1,r2⟩:=rp.one;have hl0:as.length=vs0.length:=by have:=r2.len;rw[zB]at this;exact this
 have hst:L2.start X.N [V.ref A0]=[some (.ref A0),none,none,none]:=by
  unfold L2.start;rw[hl];rfl
 rw[hst];intro p hp0;have no0:X3 [some (W.sh (.lst (as.map pairD2))),none,none,none]:=noOw4 (d0:=some (.lst (as.map pairD2))) (d2:=none) (d3:=none);have o0:Own X.K G (fr H) G [some (W.sh (.lst (as.map pairD2))),none,none,none] [some (.ref A0),none,none,none] H:=by
  refine⟨Ext.refl sg,rfl,λi d h=>?_,λi ds h=>vL h (no0.ow i ds),λi j ds es l h=>vL h (no0.ow i ds),λi ks ds h=>vL h (no0.od i ks ds),Xp.no no0.pw⟩
  match i,h with
  | 0,h=>cases h;exact⟨_,rfl,A0,vs0,rfl,r1,r2⟩
  | 1,h=>cases h
  | 2,h=>cases h
  | 3,h=>cases h
  | i+4,h=>simp at h
 have o1:Own X.K G (fr H) G [some (W.sh (.lst (as.map pairD2))),none,none,none] [some (.ref A0),some (.ref p),none,none] (upd H p (.dK [])):=(o0.free no0 (sg.free hp0) hp0).other (i:=1) no0 λw z=>by cases z
 have T0:Tab G H (upd H p (.dK [])) p (byS as 0).1 [] (byS as 0).2:=⟨qe,sg.free hp0,hp0,rfl,rfl,λj l xs h=>(by simp at h),λl h=>(by cases h),ZP⟩;refine⟨.ref A0,rfl,A0,vs0,rfl,SqL.of (o1.gh _ _ r1),λi m σ' H'=>∃(G':Hp) (ls:List vJ) (y2 y3:Option D),Own X.K G (fr H) G' [some (W.sh (.lst (as.map pairD2))),none,y2.map W.sh,y3.map W.sh] σ' H'/\Yz G G'/\σ'[1]?=some (some (.ref p))/\Tab G' H H' p (byS as i).1 ls (byS as i).2/\i<=as.length/\m=as.length-i,
  ⟨_,G,[],none,none,o1,Yz.refl _,rfl,T0,yH _,rfl⟩,?_⟩
 rintro i m σ' H' ⟨G',ls,y2,y3,o2,g2,s12,T2,hi,rfl⟩;have hq:=o2.gh _ _ (g2 _ _ r1)
 by_cases hlt:i<as.length
 ·refine .inr ⟨⟨vs0,vs0[i]'∅,SqL.of hq,zE _⟩,λσ3 H3=>∃(G':Hp) (ls:List vJ) (y2 y3:Option D),Own X.K G (fr H) G' [some (W.sh (.lst (as.map pairD2))),none,y2.map W.sh,y3.map W.sh] σ3 H3/\Yz G G'/\σ3[1]?=some (some (.ref p))/\Tab G' H H3 p (byS as (i+1)).1 ls (byS as (i+1)).2,
   λσ3 H3 ⟨G3,ls3,z2,z3,b1,b2,b3,b4⟩=>⟨as.length-(i+1),∅,G3,ls3,z2,z3,b1,b2,b3,b4,hlt,rfl⟩,λx H3 hy=>?_⟩
  obtain⟨t,w1',ht,rfl,rfl,hy⟩:=hy;have hy:=hy _ (SqL.of hq);have x3:=Ext.hide o2.gh ht (.tup [.int i,w1']);have o3:=o2.keep x3;have T3:=T2.keep x3;refine⟨t,_,rfl,SqT.of qe,rfl,.int i,_,rfl,?_⟩;refine⟨w1',_,rfl,rfl,?_⟩;obtain⟨u,e1,e2⟩:=r2.get (i:=i) (d:=pairD2 as[i]) (by rw[zV,zE hlt];rfl);rw[hy]at e1;cases e1;have o4:=(o3.setSh (i:=2) (d:=.int i) (v:=.int i) rfl).setSh (i:=3) (d:=pairD2 as[i]) (v:=w1') (e2.mono g2);have o4':Own X.K G (fr H) G' [some (W.sh (.lst (as.map pairD2))),none,(some (D.int i)).map W.sh,(some (pairD2 as[i])).map W.sh] ((σ'.set 2 (some (.int i))).set 3 (some w1')) (upd H' t (.tup [.int i,w1'])):=o4;have hl4:σ'.length=4:=o2.len.symm;have bd:=qej as i;refine qeI k2 o4' (noOw4 (d0:=some (.lst (as.map pairD2))) (d2:=some _) (d3:=some _)) (by rw[zJ (by decide),zJ (by decide)];exact s12) (by rw[zJ (by decide)];exact yL (by rw[hl4];decide)) T3 (hg0 _ as[i] rfl) ∅ (λxs hx=>by have:=bd.2 xs hx;omega) λG5 H5 ls5 o5 g5 T5=>?_;have eb:byS as (i+1)=Xh (byS as i) i as[i].1:=by
   show (match as[i]? with|some a=>Xh (byS as i) i a.1|none=>byS as i)=_;rw[zE hlt]
  refine⟨G5,ls5,_,_,o5,g2.trans g5,by rw[zJ (by decide),zJ (by decide)];exact s12,?_⟩;rw[eb];exact T5
 ·have en:i=as.length:=∅
  subst en;refine .inl ⟨⟨vs0,SqL.of hq,ze ∅⟩,.ref p,s12,fin G' p ls H' ?_ T2⟩;exact⟨g2,o2.ext.gh,o2.ext.hh,o2.ext.new⟩
end
noncomputable def X5:List Int->List (List Int)->Int->List (List Int)
 | k::ks,x::xs,a=>if k=a then x.dropLast::xs else x::X5 ks xs a
 | _,xs,_=>xs
noncomputable def Xm(ks:List Int)(xss:List (List Int))(h:Int):List Int:=(Y4 ks xss h).getD []
theorem q6G:∀{ks:List Int}{ls:List vJ}{a:Int},ks.length=ls.length->a∈ks->∃(j:Nat) (l:vJ),ls[j]?=some l/\Y4 ks (ls.map V.ref) a=some (.ref l)/\∀(xss:List (List Int)),xss.length=ls.length->∃xs,xss[j]?=some xs/\Y4 ks xss a=some xs/\X5 ks xss a=xss.set j xs.dropLast
 | [],_,_,_,h=>by simp at h
 | _::_,[],_,h,_=>by simp at h
 | k::ks,l::ls,a,h,ha=>by
  by_cases z:k=a
  ·refine⟨0,l,rfl,vC z,λxss hx=>?_⟩
   cases xss with
   | nil=>simp at hx
   | cons x xs=>exact⟨x,rfl,vC z,vC z⟩
  ·have ha':a∈ks:=(zG.mp ha).resolve_left λe=>z e.symm
   obtain⟨j,l',e2,e3,e4⟩:=q6G (ks:=ks) (ls:=ls) ⇑h ha';refine⟨j+1,l',e2,?_,λxss hx=>?_⟩
   ·show (if k=a then _ else _)=_
    rw[vF z];exact e3
   ·cases xss with
    | nil=>simp at hx
    | cons x xs=>
     obtain⟨y,h1,h2,h3⟩:=e4 xs ⇑hx;refine⟨y,h1,?_,?_⟩
     ·show (if k=a then _ else _)=_
      rw[vF z];exact h2
     ·show (if k=a then _ else x::X5 ks xs a)=_
      rw[vF z,h3];rfl
theorem Tab.pop{G H0 H:Hp}{p:vJ}{ks:List Int}{ls:List vJ}{xss:List (List Int)}(T:Tab G H0 H p ks ls xss){a:Int}(ha:a∈ks):
  ∃(l:vJ) (xs:List Int),l∈ls/\Y4 ks xss a=some xs/\zAB H p (.int a) (some (.ref l))/\H l=some (.lst (xs.map V.int))/\Tab G H0 (upd H l (.lst (xs.dropLast.map V.int))) p ks ls (X5 ks xss a):=by
 obtain⟨j,l,e2,e3,e4⟩:=q6G T.len ha;obtain⟨xs,e5,e7,e6⟩:=e4 xss T.len2.symm;have hl:l∈ls:=yS e2;have hlp:p≠l:=λz=>T.pl (z▸hl);have g:=zAB.k (k:=(Sum.inl a:Key)) T.dict;rw[q0b (by rw[zB];exact T.len),e3]at g;refine⟨l,xs,hl,e7,g,T.lst j l xs e2 e5,?_⟩;rw[e6];refine⟨by rw[qd hlp];exact T.dict,T.gp,T.hp,T.len,by rw[yA];exact T.len2,λi m ys h1 h2=>?_,T.gl,T.nd⟩;rcases qc h2 with⟨rfl,_,rfl⟩|⟨ne,h3⟩
 ·rw[e2]at h1
  cases h1;exact qe
 ·have hm:m≠l:=λz=>by
   subst z;obtain⟨i1,i2⟩:=zf.mp h1;obtain⟨j1,j2⟩:=zf.mp e2;exact ne ((wJ T.nd).mp (j2.trans i2.symm))
  rw[qd hm];exact T.lst i m ys h1 h3
theorem Tab.beside{G H0 H:Hp}{p q:vJ}{ob:HO}{ks:List Int}{ls:List vJ}{xss:List (List Int)}(T:Tab G H0 H p ks ls xss)(h1:q≠p)(h2:q∉ls):Tab G H0 (upd H q ob) p ks ls xss :=
 ⟨by rw[qd (Ne.symm h1)];exact T.dict,T.gp,T.hp,T.len,T.len2,λj l xs e1 e2=>by
  have hn:l≠q:=λz=>h2 (by rw[<- z];exact yS e1);rw[qd hn];exact T.lst j l xs e1 e2,T.gl,T.nd⟩
noncomputable def Xv(as:List (Int×Int))(ks:List Int):Nat->List (List Int)->List Int->List Int->Int->Option (List Int)
 | 0,_,_,_,_=>none
 | n+1,xss,T,B,h=>match (Xm ks xss h).getLast? with
  | some k=>if 0<=k/\k<as.length/\T.length<1000000 then Xv as ks n (X5 ks xss h) (T++[k]) B (as.getD k.toNat (0,0)).2 else none
  | none=>match T.getLast? with
   | some k=>if 0<=k/\k<as.length/\B.length<1000000 then Xv as ks n xss T.dropLast (B++[k]) (as.getD k.toNat (0,0)).1 else none
   | none=>some B.reverse
structure RfS (K:zA) (G0:Hp) (H0:Fr) (G:Hp) (s:Int) (as:List (Int×Int)) (p t b:vJ) (ks:List Int) (ls:List vJ) (xss:List (List Int)) (T B:List Int) (h:Int) (y:Option D) (σ:St) (H:Hp):Prop where
 o:Own K G0 H0 G [some (W.sh (.int s)),↥(.lst (as.map pairD2)),none,none,none,↥(.int h),y.map W.sh] σ H
 s2:σ[2]?=some (some (.ref p))
 s3:σ[3]?=some (some (.ref t))
 s4:σ[4]?=some (some (.ref b))
 s5:σ[5]?=some (some (.int h))
 tab:Tab G H0 H p ks ls xss
 ht:H t=some (.lst (T.map V.int))
 gt:G t=none
 ht0:H0 t=none
 hb:H b=some (.lst (B.map V.int))
 gb:G b=none
 hb0:H0 b=none
 tb:t≠b
 tl:t∉ls
 bl:b∉ls
theorem noOw7{d0 d1 d5 d6:Option D}:X3 [d0.map W.sh,d1.map W.sh,none,none,none,d5.map W.sh,d6.map W.sh]:=by
 intro i w h
 match i,h with
 | 0,h=>cases d0 <;> cases h;exact⟨_,rfl⟩
 | 1,h=>cases d1 <;> cases h;exact⟨_,rfl⟩
 | 2,h=>cases h
 | 3,h=>cases h
 | 4,h=>cases h
 | 5,h=>cases d5 <;> cases h;exact⟨_,rfl⟩
 | 6,h=>cases d6 <;> cases h;exact⟨_,rfl⟩
 | i+7,h=>simp at h
section
variable{K:zA}{G0:Hp}{H0:Fr}{G:Hp}{s:Int}{as:List (Int×Int)}{p t b:vJ}{ks:List Int}{ls:List vJ}{xss:List (List Int)}{T B:List Int}{h:Int}{y:Option D}{σ:St}{H:Hp}
theorem RfS.no(S:RfS K G0 H0 G s as p t b ks ls xss T B h y σ H):X3 [some (W.sh (.int s)),↥(.lst (as.map pairD2)),none,none,none,↥(.int h),y.map W.sh] :=
 noOw7 (d0:=some (.int s)) (d1:=some (.lst (as.map pairD2))) (d5:=some (.int h)) (d6:=y)
theorem RfS.keep{G' H':Hp}(S:RfS K G0 H0 G s as p t b ks ls xss T B h y σ H)(x:Ext G H G' H'):RfS K G0 H0 G' s as p t b ks ls xss T B h y σ H' :=
 ⟨S.o.keep x,S.s2,S.s3,S.s4,S.s5,S.tab.keep x,x.hh _ _ S.ht,x.new t S.gt (by rw[S.ht];exact λz=>by cases z),S.ht0,x.hh _ _ S.hb,x.new b S.gb (by rw[S.hb];exact λz=>by cases z),S.hb0,S.tb,S.tl,S.bl⟩
theorem RfS.tp(S:RfS K G0 H0 G s as p t b ks ls xss T B h y σ H):t≠p/\b≠p:=by
 have h1:=S.ht;have h2:=S.hb;have h3:=S.tab.dict;refine⟨λz=>?_,λz=>?_⟩
 ·rw[z,h3]at h1;cases h1
 ·rw[z,h3]at h2;cases h2
theorem RfS.setT{T':List Int}(S:RfS K G0 H0 G s as p t b ks ls xss T B h y σ H):RfS K G0 H0 G s as p t b ks ls xss T' B h y σ (upd H t (.lst (T'.map V.int))) :=
 ⟨S.o.free S.no S.gt S.ht0,S.s2,S.s3,S.s4,S.s5,S.tab.beside S.tp.1 S.tl,qe,S.gt,S.ht0,by rw[qd (Ne.symm S.tb)];exact S.hb,S.gb,S.hb0,S.tb,S.tl,S.bl⟩
theorem RfS.setB{B':List Int}(S:RfS K G0 H0 G s as p t b ks ls xss T B h y σ H):RfS K G0 H0 G s as p t b ks ls xss T B' h y σ (upd H b (.lst (B'.map V.int))) :=
 ⟨S.o.free S.no S.gb S.hb0,S.s2,S.s3,S.s4,S.s5,S.tab.beside S.tp.2 S.bl,by rw[qd S.tb];exact S.ht,S.gt,S.ht0,qe,S.gb,S.hb0,S.tb,S.tl,S.bl⟩
theorem RfS.len(S:RfS K G0 H0 G s as p t b ks ls xss T B h y σ H):σ.length=7:=S.o.len.symm
theorem RfS.setN(S:RfS K G0 H0 G s as p t b ks ls xss T B h y σ H)(k:Int):RfS K G0 H0 G s as p t b ks ls xss T B h (some (.int k)) (σ.set 6 (some (.int k))) H :=
 ⟨S.o.setSh (i:=6) (d:=.int k) (v:=.int k) rfl,by rw[zJ (by decide)];exact S.s2,by rw[zJ (by decide)];exact S.s3,by rw[zJ (by decide)];exact S.s4,by rw[zJ (by decide)];exact S.s5,S.tab,S.ht,S.gt,S.ht0,S.hb,S.gb,S.hb0,S.tb,S.tl,S.bl⟩
theorem RfS.setH(S:RfS K G0 H0 G s as p t b ks ls xss T B h y σ H)(k:Int):RfS K G0 H0 G s as p t b ks ls xss T B k y (σ.set 5 (some (.int k))) H :=
 ⟨S.o.setSh (i:=5) (d:=.int k) (v:=.int k) rfl,by rw[zJ (by decide)];exact S.s2,by rw[zJ (by decide)];exact S.s3,by rw[zJ (by decide)];exact S.s4,yL (by rw[S.len];decide),S.tab,S.ht,S.gt,S.ht0,S.hb,S.gb,S.hb0,S.tb,S.tl,S.bl⟩
theorem RfS.popW(S:RfS K G0 H0 G s as p t b ks ls xss T B h y σ H){l:vJ}{H':HO}(hl:l∈ls){xss':List (List Int)}(T':Tab G H0 (upd H l H') p ks ls xss'):RfS K G0 H0 G s as p t b ks ls xss' T B h y σ (upd H l H') :=
 have n1:t≠l:=λz=>S.tl (by rw[z];exact hl);have n2:b≠l:=λz=>S.bl (by rw[z];exact hl)
 ⟨S.o.free S.no (S.tab.gl l hl).1 (S.tab.gl l hl).2,S.s2,S.s3,S.s4,S.s5,T',by rw[qd n1];exact S.ht,S.gt,S.ht0,by rw[qd n2];exact S.hb,S.gb,S.hb0,S.tb,S.tl,S.bl⟩
theorem qbW(S:RfS K G0 H0 G s as p t b ks ls xss T B h y σ H){Q:Bool->Hp->Prop}(q:∀H',RfS K G0 H0 G s as p t b ks ls xss T B h y σ H'->Q (!(Xm ks xss h).isEmpty) H'):
  (zBg (XL 2) (XL 5) (zCv zAr)) σ H λx H'=>∃k,TruV K x H' k/\Q k H':=by
 refine⟨.ref p,S.s2,p,rfl,.inl ⟨_,.inl S.tab.dict⟩,.int h,S.s5,by show 0<=sizeLine;exact yH _,λr hr=>?_⟩;have S1:=S.keep (Ext.hide S.o.gh hr (.lst []));have hlen:ks.length=(ls.map V.ref).length:=by rw[zB];exact S.tab.len
 have g:=zAB.k (k:=(Sum.inl h:Key)) S1.tab.dict;rw[q0b hlen]at g;refine⟨_,g,?_⟩
 by_cases hk:h∈ks
 ·obtain⟨l,xs,e1,e2,e3,e4,_⟩:=S1.tab.pop hk
  have ev:Y4 ks (ls.map V.ref) h=some (.ref l):=by
   obtain⟨j,l',f2,f3,f4⟩:=q6G S.tab.len hk;obtain⟨xs',f5,f7,f6⟩:=f4 xss S.tab.len2.symm;have g2:=zAB.k (k:=(Sum.inl h:Key)) S1.tab.dict;rw[q0b hlen,f3]at g2;rcases e3 with⟨kvs,k,d1,d2,d3⟩|⟨kvs,k,b,d1,d2,_⟩
   ·rcases d1 with d1|⟨ob,d1⟩
    ·rw[S1.tab.dict]at d1
     cases d1;cases k with
     | inl i=>cases d2;rw[q0b hlen]at d3;exact d3.symm
     | inr x=>cases d2
    ·rw[S1.tab.dict]at d1;cases d1
   ·cases d2
  rw[ev];refine⟨!xs.isEmpty,?_,?_⟩
  ·refine .inl ⟨_,SqL.of e4,?_⟩
   rw[List.isEmpty_map]
  ·have:Xm ks xss h=xs:=by unfold Xm;rw[e2];rfl
   rw[<- this];exact q _ S1
 ·have ev:Y4 ks (ls.map V.ref) h=none:=by
   have:=q0G (ks:=ks) (xs:=ls.map V.ref) (k:=h) hlen;rw[vW hk]at this;cases z:Y4 ks (ls.map V.ref) h with
   | none=>rfl
   | some v=>rw[z]at this;cases this
  have ev2:Xm ks xss h=[]:=by
   have:=q0G (ks:=ks) (xs:=xss) (k:=h) (by rw[S.tab.len];exact S.tab.len2);rw[vW hk]at this;unfold Xm;cases z:Y4 ks xss h with
   | none=>rfl
   | some v=>rw[z]at this;cases this
  rw[ev];refine⟨false,?_,by have:=q _ S1;rw[ev2]at this;exact this⟩;exact .inl ⟨_,SqL.of qe,rfl⟩
end
noncomputable def trT(K:zA)(t:TE):TT:=λσ H Q=>t σ H λx H'=>∃k,TruV K x H' k/\Q k H'
noncomputable def zCh:TE:=zBg (XL 2) (XL 5) (zCv zAr)
noncomputable def zBN(K:zA)(td:TE):TS:=zA9 (zAj (tBM0 K "list" rPop (zCQ (XL 2) (XL 5))) (X2 6)) (zA9 (zBJ (tBM K "list" Xy (XL 3) (Ww (XL 6) zAr))) (zAj td (X2 5)))
noncomputable def zBK(K:zA)(td:TE):TS:=zA9 (zAj (tBM0 K "list" rPop (XL 3)) (X2 6)) (zA9 (zBJ (tBM K "list" Xy (XL 4) (Ww (XL 6) zAr))) (zAj td (X2 5)))
section
variable{K:zA}{G0:Hp}{H0:Fr}{G:Hp}{s:Int}{as:List (Int×Int)}{p t b:vJ}{ks:List Int}{ls:List vJ}{xss:List (List Int)}{T B:List Int}{h:Int}{y:Option D}{σ:St}{H:Hp}
theorem q6T{xs:List Int}{k:Int}(e:xs.getLast?=some k):(xs.map V.int)[(xs.map V.int).length-1]?=some (.int k)/\(xs.map V.int).dropLast=xs.dropLast.map V.int:=by
 rw[List.getLast?_eq_getElem?]at e;refine⟨by rw[zB,zV,e];rfl,by rw[List.map_dropLast]⟩
theorem RfS.s6(S:RfS K G0 H0 G s as p t b ks ls xss T B h y σ H)(k:Int):(σ.set 6 (some (.int k)))[6]?=some (some (.int k)):=yL (by rw[S.len];decide)
theorem qfu{td:TE}{f:FD}(hd:zBY K td f)(hf:∀(ω:WSt)(k:Int),ω[1]?=some ↥(.lst (as.map pairD2))->ω[6]?=some ↥(.int k)->0<=k->k<as.length->f ω=some (.int (as.getD k.toNat (0,0)).2))(S:RfS K G0 H0 G s as p t b ks ls xss T B h y σ H){k:Int}(e:(Xm ks xss h).getLast?=some k)(k0:0<=k)(k1:k<as.length)(hT:T.length<1000000){D0:Ends}(q:∀G' σ' H',RfS K G0 H0 G' s as p t b ks ls (X5 ks xss h) (T++[k]) B (as.getD k.toNat (0,0)).2 (some (.int k)) σ' H'->D0.nx σ' H'):zBN K td D0 σ H:=by
 have hk:h∈ks:=by
  have:=q0G (ks:=ks) (xs:=xss) (k:=h) (by rw[S.tab.len];exact S.tab.len2);unfold Xm at e;cases z:Y4 ks xss h with
  | none=>rw[z]at e;cases e
  | some v=>rw[z]at this;exact of_decide_eq_true this.symm
 obtain⟨l,xs,e1,e2,e3,e4,e5⟩:=S.tab.pop hk;have ex:xs.getLast?=some k:=by unfold Xm at e;rw[e2]at e;exact e
 obtain⟨m1,m2⟩:=q6T ex;refine⟨.ref p,S.s2,.int h,S.s5,p,.ref l,rfl,e3,.inl ⟨rfl,_,SqL.of e4⟩,l,_,.int k,rfl,rfl,e4,m1,?_⟩;rw[m2];have S1:=(S.popW e1 e5).setN k;show zA9 (zBJ (tBM K "list" Xy (XL 3) (Ww (XL 6) zAr))) (zAj td (X2 5)) D0 (σ.set 6 (some (.int k))) _;refine⟨.ref t,S1.s3,.inl ⟨rfl,_,SqL.of S1.ht⟩,.int k,S.s6 k,t,_,.int k,rfl,rfl,S1.ht,by rw[zB,vp];omega,?_⟩;rw[show T.map V.int++[V.int k]=(T++[k]).map V.int by rw[zY];rfl];have S2:=S1.setT (T':=T++[k]);show td _ _ _;refine hd G0 H0 G _ _ _ _ _ S2.o (hf _ k rfl rfl k0 k1) λu G1 H1 x1 y1=>?_;cases (show u=.int _ from y1);exact q G1 _ H1 ((S2.keep x1).setH _)
theorem qfn{td:TE}{f:FD}(hd:zBY K td f)(hf:∀(ω:WSt)(k:Int),ω[1]?=some ↥(.lst (as.map pairD2))->ω[6]?=some ↥(.int k)->0<=k->k<as.length->f ω=some (.int (as.getD k.toNat (0,0)).1))(S:RfS K G0 H0 G s as p t b ks ls xss T B h y σ H){k:Int}(e:T.getLast?=some k)(k0:0<=k)(k1:k<as.length)(hB:B.length<1000000){D0:Ends}(q:∀G' σ' H',RfS K G0 H0 G' s as p t b ks ls xss T.dropLast (B++[k]) (as.getD k.toNat (0,0)).1 (some (.int k)) σ' H'->D0.nx σ' H'):zBK K td D0 σ H:=by
 obtain⟨m1,m2⟩:=q6T e;refine⟨.ref t,S.s3,.inl ⟨rfl,_,SqL.of S.ht⟩,t,_,.int k,rfl,rfl,S.ht,m1,?_⟩;rw[m2];have S1:=(S.setT (T':=T.dropLast)).setN k;show zA9 (zBJ (tBM K "list" Xy (XL 4) (Ww (XL 6) zAr))) (zAj td (X2 5)) D0 (σ.set 6 (some (.int k))) _;refine⟨.ref b,S1.s4,.inl ⟨rfl,_,SqL.of S1.hb⟩,.int k,S.s6 k,b,_,.int k,rfl,rfl,S1.hb,by rw[zB,vp];omega,?_⟩;rw[show B.map V.int++[V.int k]=(B++[k]).map V.int by rw[zY];rfl];have S2:=S1.setB (B':=B++[k]);show td _ _ _;refine hd G0 H0 G _ _ _ _ _ S2.o (hf _ k rfl rfl k0 k1) λu G1 H1 x1 y1=>?_;cases (show u=.int _ from y1);exact q G1 _ H1 ((S2.keep x1).setH _)
end
noncomputable def tRF(K:zA)(E:XK)(td1 td0:TE):TS :=
 zA9 (zAj (zCU (spT K) [] E (Ww (XL 1) zAr)) (X2 2)) (zA9 (zAj (zCv zAr) (X2 3)) (zA9 (zAj (zCv zAr) (X2 4)) (zA9 (zAj (XL 0) (X2 5))
  (zA9 (zBO (tOr (trT K (XL 3)) (trT K zCh)) (tIfS (trT K zCh) (zBN K td1) (zBK K td0))) (tRet (tCB rLR (Ww (XL 4) zAr)))))))
noncomputable def Wn(s:Int)(as:List (Int×Int)):Option (List Int):=if as.length<=9000 then Xv as (byS as as.length).1 100000 (byS as as.length).2 [] [] s else none
noncomputable def mRF:List D->Option O
 | [.int s,.lst ds]=>(pairsOf ds).bind λas=>(Wn s as).map λrow=>.fr (row.map D.int)
 | _=>none
theorem qh8{K:zA}{E E':XK}{td1 td0:TE}{f1 f0:FD}(h1:zBY K td1 f1)(h0:zBY K td0 f0)(hf1:∀(as:List (Int×Int))(ω:WSt)(k:Int),ω[1]?=some ↥(.lst (as.map pairD2))->ω[6]?=some ↥(.int k)->0<=k->k<as.length->f1 ω=some (.int (as.getD k.toNat (0,0)).2))(hf0:∀(as:List (Int×Int))(ω:WSt)(k:Int),ω[1]?=some ↥(.lst (as.map pairD2))->ω[6]?=some ↥(.int k)->0<=k->k<as.length->f0 ω=some (.int (as.getD k.toNat (0,0)).1)){N:List Str}(hN:N.length=7){vs:List V}{H:Hp}{Q:VK}(sp:spD K 2 mRF vs H Q E'):tRF K E td1 td0 { nx:=λ_ H'=>Q .non H',rt:=Q } (L2.start N vs) H:=by
 obtain⟨G,ds,r,e,hl,sg,rp,fin⟩:=sp
 match ds,e with
 | [.int s,.lst ds],e=>
  obtain⟨as,ea,e⟩:=bnd e;obtain⟨row,er,e⟩:=mpd e;subst e;have hds:=q3B ea;subst hds;clear ea;unfold Wn at er
  by_cases hlen:as.length<=9000
  case neg=>rw[vF hlen]at er;cases er
  rw[vC hlen]at er;obtain⟨v0,v1,rfl,r0,r1⟩:=rp.two;cases (show v0=.int s from r0);have hst:L2.start N [V.int s,v1]=[some (.int s),some v1,none,none,none,none,none]:=by
   unfold L2.start;rw[hN];rfl
  rw[hst];have no0:X3 [some (W.sh (.int s)),↥(.lst (as.map pairD2)),none,none,none,none,none]:=noOw7 (d0:=some (.int s)) (d1:=some (.lst (as.map pairD2))) (d5:=none) (d6:=none);have o0:Own K G (fr H) G [some (W.sh (.int s)),↥(.lst (as.map pairD2)),none,none,none,none,none] [some (.int s),some v1,none,none,none,none,none] H:=by
   refine⟨Ext.refl sg,rfl,λi d h=>?_,λi ds h=>vL h (no0.ow i ds),λi j ds es l h=>vL h (no0.ow i ds),λi ks ds h=>vL h (no0.od i ks ds),Xp.no no0.pw⟩
   match i,h with
   | 0,h=>cases h;exact⟨_,rfl,rfl⟩
   | 1,h=>cases h;exact⟨_,rfl,r1⟩
   | 2,h=>cases h
   | 3,h=>cases h
   | 4,h=>cases h
   | 5,h=>cases h
   | 6,h=>cases h
   | i+7,h=>simp at h
  refine⟨v1,rfl,G,as,sg,Yp.cons r1 Yp.nil,hlen,λG1 p ls H1 x1 T1=>?_⟩;have o1:=(o0.keep x1).other (i:=2) (v:=some (.ref p)) no0 λw z=>by cases z
  refine⟨by show 0<=sizeLine;exact yH _,λt ht=>?_⟩;have x2:=Ext.hide o1.gh ht (.lst []);have o2:=(o1.keep x2).other (i:=3) (v:=some (.ref t)) no0 λw z=>by cases z
  have T2:=T1.keep x2;refine⟨by show 0<=sizeLine;exact yH _,λb hb=>?_⟩;have x3:=Ext.hide o2.gh hb (.lst []);have o3:=(o2.keep x3).other (i:=4) (v:=some (.ref b)) no0 λw z=>by cases z
  have T3:=T2.keep x3;have tb:t≠b:=λz=>by rw[<- z,qe]at hb;cases hb
  have tl:t∉ls:=λz=>by
   obtain⟨xs,w⟩:=T1.inn z;rw[ht]at w;cases w
  have bl:b∉ls:=λz=>by
   obtain⟨xs,w⟩:=T2.inn z;rw[hb]at w;cases w
  have o4:=o3.setSh (i:=5) (d:=.int s) (v:=.int s) rfl;have S0:RfS K G (fr H) G1 s as p t b (byS as as.length).1 ls (byS as as.length).2 [] [] s none [some (.int s),some v1,some (.ref p),some (.ref t),some (.ref b),some (.int s),none] (upd (upd H1 t (.lst [])) b (.lst [])) :=
   ⟨o4,rfl,rfl,rfl,rfl,T3,by rw[qd tb];exact qe,o1.gh.free ht,o1.ext.hh.free ht,qe,o2.gh.free hb,o2.ext.hh.free hb,tb,tl,bl⟩
  refine⟨.int s,rfl,?_⟩;generalize (byS as as.length).1=ks at S0 er;generalize (byS as as.length).2=xss at S0 er;refine⟨λm σ' H'=>∃G' xss T B h y,RfS K G (fr H) G' s as p t b ks ls xss T B h y σ' H'/\Xv as ks m xss T B h=some row,⟨100000,G1,xss,[],[],s,none,S0,er⟩,?_⟩;rintro m σ' H' ⟨G',xss,T,B,h,y,S,run⟩;cases m with
  | zero=>cases run
  | succ n=>
   have body:∀Hx,RfS K G (fr H) G' s as p t b ks ls xss T B h y σ' Hx->(T≠[]\/Xm ks xss h≠[])->∀D0:Ends,∃NN:St->Hp->Prop,(∀σ2 H2,NN σ2 H2->∃m',m'<n+1/\∃G' xss T B h y,RfS K G (fr H) G' s as p t b ks ls xss T B h y σ2 H2/\Xv as ks m' xss T B h=some row)/\tIfS (trT K zCh) (zBN K td1) (zBK K td0) { D0 with nx:=NN,ct:=NN,bk:=D0.nx } σ' Hx:=by
    intro Hx Sx hne D0;refine⟨λσ2 H2=>∃G' xss T B h y,RfS K G (fr H) G' s as p t b ks ls xss T B h y σ2 H2/\Xv as ks n xss T B h=some row,λσ2 H2 z=>⟨n,yW n,z⟩,?_⟩;refine qbW Sx λHy Sy=>?_;unfold Xv at run;cases eg:(Xm ks xss h).getLast? with
    | some k=>
     rw[eg]at run;have run:(if 0<=k/\k<as.length/\T.length<1000000 then Xv as ks n (X5 ks xss h) (T++[k]) B (as.getD k.toNat (0,0)).2 else none)=some row:=run;have hne:(Xm ks xss h).isEmpty=false:=by
      cases z:Xm ks xss h with
      | nil=>rw[z]at eg;cases eg
      | cons a r=>rfl
     rw[hne];show (if (!false)=true then _ else _);rw[vC (show (!false)=true from rfl)]
     by_cases c:0<=k/\k<as.length/\T.length<1000000
     ·rw[vC c]at run
      exact qfu h1 (hf1 as) Sy eg c.1 c.2.1 c.2.2 λG2 σ2 H2 S2=>⟨G2,_,_,_,_,_,S2,run⟩
     ·rw[vF c]at run;cases run
    | none=>
     rw[eg]at run;have hem:Xm ks xss h=[]:=xo.mp eg;rw[hem];show (if (!true)=true then _ else _);rw[vF (by decide)];cases et:T.getLast? with
     | none=>exact vL (xo.mp et) (hne.resolve_right λz=>z hem)
     | some k=>
      have run:(match T.getLast? with
       | some k=>if 0<=k/\k<as.length/\B.length<1000000 then Xv as ks n xss T.dropLast (B++[k]) (as.getD k.toNat (0,0)).1 else none
       | none=>some B.reverse)=some row:=run
      rw[et]at run;have run:(if 0<=k/\k<as.length/\B.length<1000000 then Xv as ks n xss T.dropLast (B++[k]) (as.getD k.toNat (0,0)).1 else none)=some row:=run
      by_cases c:0<=k/\k<as.length/\B.length<1000000
      ·rw[vC c]at run
       exact qfn h0 (hf0 as) Sy et c.1 c.2.1 c.2.2 λG2 σ2 H2 S2=>⟨G2,_,_,_,_,_,S2,run⟩
      ·rw[vF c]at run;cases run
   refine⟨.ref t,S.s3,!(T.map V.int).isEmpty,.inl ⟨_,SqL.of S.ht,rfl⟩,?_⟩;cases T with
   | cons a r=>
    show (if (!false)=true then _ else _);rw[vC (show (!false)=true from rfl)];show (if true=true then _ else _);rw[vC rfl];exact body H' S (.inl (by simp)) _
   | nil=>
    show (if (!true)=true then _ else _);rw[vF (by decide)];refine qbW S λHx Sx=>?_;cases eg:Xm ks xss h with
    | cons a r=>
     show (if (!false)=true then _ else _);rw[vC (show (!false)=true from rfl)];exact body Hx Sx (.inr (by rw[eg];simp)) _
    | nil=>
     show (if (!true)=true then _ else _);rw[vF (by decide)];have rw0:row=B.reverse:=by
      unfold Xv at run;rw[eg]at run;have run:some B.reverse=some row:=run;exact(zc run).symm
     subst rw0;refine⟨.ref b,Sx.s4,b,_,rfl,Sx.hb,λSa hS=>?_⟩;have x9:=Ext.hide Sx.o.gh hS (.lst (B.map V.int).reverse);have o9:=Sx.o.keep x9;refine fin (.ref Sa) G' _ o9.ext ⟨Sa,_,rfl,Sx.o.ext.hh.free hS,Sx.o.gh.free hS,qe,?_⟩;rw[<- YE];exact Yp.ints _
theorem qge{ω:WSt}{e:Int×Int}(h:ω[3]?=some ↥(pairD2 e)):dOf (Yo oIx (vOf (Yj 3)) (fC (.int 0))) ω=some (.int e.1):=by
 unfold dOf Yo vOf Yj fC;rw[h];rfl
theorem q7w{as:List (Int×Int)}{k:Int}(k0:0<=k)(k1:k<as.length):atI (as.map pairD2) k=some (pairD2 (as.getD k.toNat (0,0))):=by
 rw[q0p k0 (by rw[zB];exact k1)];have hk:k.toNat<as.length:=∅
 rw[xY,zU,zE hk];rfl
theorem qfN{as:List (Int×Int)}{ω:WSt}{k:Int}(h1:ω[1]?=some ↥(.lst (as.map pairD2)))(h6:ω[6]?=some ↥(.int k))(k0:0<=k)(k1:k<as.length):
  dOf (Yo oIx (vOf (Yo oIx (vOf (Yj 1)) (vOf (Yj 6)))) (fC (.int 1))) ω=some (.int (as.getD k.toNat (0,0)).2):=by
 have e:=q7w (as:=as) k0 k1;show dR (op2 oIx (vR (op2 oIx (vR (zCF ω[1]?)) (vR (zCF ω[6]?)))) (some (.int 1)))=_;rw[h1,h6];show dR (op2 oIx (vR ((atI (as.map pairD2) k).map R.sh)) (some (.int 1)))=_;rw[e];rfl
theorem qfC{as:List (Int×Int)}{ω:WSt}{k:Int}(h1:ω[1]?=some ↥(.lst (as.map pairD2)))(h6:ω[6]?=some ↥(.int k))(k0:0<=k)(k1:k<as.length):
  dOf (Yo oIx (vOf (Yo oIx (vOf (Yj 1)) (vOf (Yj 6)))) (fC (.int 0))) ω=some (.int (as.getD k.toNat (0,0)).1):=by
 have e:=q7w (as:=as) k0 k1;show dR (op2 oIx (vR (op2 oIx (vR (zCF ω[1]?)) (vR (zCF ω[6]?)))) (some (.int 0)))=_;rw[h1,h6];show dR (op2 oIx (vR ((atI (as.map pairD2) k).map R.sh)) (some (.int 0)))=_;rw[e];rfl
theorem qfI{X:Cx}{e1 e0:vX}{E E':XK}{f1 f0:FD}(h1:XD X e1 f1)(h0:XD X e0 f0)(hf1:∀(as:List (Int×Int))(ω:WSt)(k:Int),ω[1]?=some ↥(.lst (as.map pairD2))->ω[6]?=some ↥(.int k)->0<=k->k<as.length->f1 ω=some (.int (as.getD k.toNat (0,0)).2))(hf0:∀(as:List (Int×Int))(ω:WSt)(k:Int),ω[1]?=some ↥(.lst (as.map pairD2))->ω[6]?=some ↥(.int k)->0<=k->k<as.length->f0 ω=some (.int (as.getD k.toNat (0,0)).1)){N:List Str}(hN:N.length=7){vs:List V}{H:Hp}{Q:VK}(sp:spD X.K 2 mRF vs H Q E'){sts:List vx}(hb:∀{td1 td0:TE},PE X e1 td1->PE X e0 td0->PSs X sts (tRF X.K E td1 td0)):
  ∃t,PSs X sts t/\t { nx:=λ_ H'=>Q .non H',rt:=Q } (L2.start N vs) H:=by
 obtain⟨td1,p1,q1⟩:=h1;obtain⟨td0,p0,q0⟩:=h0;exact⟨_,hb p1 p0,qh8 q1 q0 hf1 hf0 hN sp⟩
abbrev Cal(P:vS)(w:vZ)(K:zA)(mg:Str->Option vB)(base:vn)(k:Nat)(f:vJ)(d:vP)(x:Str)(ps:List Str)(n:Nat)(m:List D->Option O):Prop :=
 FnOk P w K mg base CX0 k f d ps (spD K n m)/\mg x=some (.ref f)/\xI K (.ref f)=true/\Binds K d ps []
section
variable{X:Cx}{x:Str}{pos:Pos}
theorem xc{e:vX}{es:List vX}{k k0:Nat}{f:vJ}{fd:vP}{ps:List Str}{m:List D->Option O}{p:Pos}{g:FA}(c:Cal X.prog X.w X.K X.mg X.base k f fd x ps (e::es).length m)(hr:Room k0 X.A)(ha:XA X (e::es) g)(hk:k<=k0:=by decide)(hg:Gl X x:=by exact rfl)(hdb:(x==("__debug__" : Str))=false:=by decide)(he:vK (e::es) X.env=(false,eval e X.env)::vK es X.env:=by rfl)(hpl:(v3 pos (vK es X.env)).any (·.1)=false:=by rfl):
  XE X (.Call (.Name x p) (e::es) [] pos) (Yr m g):=zCl c.1 (hr.mono hk) hg c.2.1 c.2.2.1 c.2.2.2 zB2 ha hdb he hpl
theorem vE(i:Nat)(hN:X.N[i]?=some x:=by rfl)(hv:Vis X.env.scope x:=by first|exact Or.inl rfl|exact Or.inr (Or.inl rfl)|exact Or.inr (Or.inr rfl))(hd:(x==("__debug__" : Str))=false:=by decide)(hcd:(x==("__classdict__" : Str))=false:=by decide):XE X (.Name x pos) (Yj i):=zBH i (pv i hN hv hd hcd)
theorem vV(i:Nat)(hN:X.N[i]?=some x:=by rfl)(hv:Vis X.env.scope x:=by first|exact Or.inl rfl|exact Or.inr (Or.inl rfl)|exact Or.inr (Or.inr rfl))(hd:(x==("__debug__" : Str))=false:=by decide)(hcd:(x==("__classdict__" : Str))=false:=by decide):XV X (.Name x pos) (vOf (Yj i)):=XE.toV (zBH i (pv i hN hv hd hcd))
theorem vD(i:Nat)(hN:X.N[i]?=some x:=by rfl)(hv:Vis X.env.scope x:=by first|exact Or.inl rfl|exact Or.inr (Or.inl rfl)|exact Or.inr (Or.inr rfl))(hd:(x==("__debug__" : Str))=false:=by decide)(hcd:(x==("__classdict__" : Str))=false:=by decide):XD X (.Name x pos) (dOf (Yj i)):=XE.toD (zBH i (pv i hN hv hd hcd))
end
def Fd(K:zA)(x:Str)(st:vx)(f:vJ):Prop:=yM K vY x=some (some (.ref f))/\∃fd,Fun K x x st f fd
section
variable{P:vS}{w:vZ}{K:zA}{mg:Str->Option vB}{base h:vn}{x:Str}{st:vx}{f:vJ}{fd:vP}
theorem qh2{oc:vB}{od an:Option vJ}{osl:Array (Option vB)}{kV doc pm cdv ct:vB}(a:yM K vY x=some (some (.ref f)))(l:K.lookup f=some ⟨oc,od,.func (xQ x x (X1 st) (Xf st) (Yk st) .none kV doc pm an cdv ct),osl⟩)(c:wV K cdv x=true)(k:xI K (.ref f)=true):Fd K x st f:=⟨a,_,qgx l c k⟩
theorem qj(P:vS)(w:vZ)(base:vn)(X:K.In h)(G:h.Ns vY mg){x:Str}{st:vx}{f:vJ}{fd:vP}{k n:Nat}{ps:List Str}{m:List D->Option O}(D:Fd K x st f)(F:Fun K x x st f fd)(o:FnOk P w K mg base CX0 k f fd ps (spD K n m))(b:∀(kV doc pm:vB)(an:Option vJ)(cdv ct:vB)(us:List vB),us.length=ps.length->bindArgs (xQ x x (X1 st) (Xf st) (Yk st) .none kV doc pm an cdv ct) ⟨us,[]⟩=pure (ps.zip us)):Cal P w K mg base k f fd x ps n m :=
 ⟨o,xv X G D.1,F.kp,F.binds b⟩
end
noncomputable def zBz(i:Nat)(f:FD):FS:=λω=>(f ω).bind λd=>match ω[i]? with
 | some (some (.pw ds))=>if ds.length<1000000 then some (.nx,ω.set i (some (.pw (ds++[d]))))else none
 | _=>none
noncomputable def zBS(i:Nat)(fk fv:FD):FS:=λω=>(fv ω).bind λd=>(fk ω).bind λc=>match c,ω[i]? with
 | .int k,some (some (.pw ds))=>(ixN ds.length k).map λj=>(.nx,ω.set i (some (.pw (ds.set j d))))
 | _,_=>none
section
variable{X:Cx}{o e k:vX}{pos pos' apos cpos:Pos}{i:Nat}{fd fk fv:FD}
theorem q9D(ho:PE X o (XL i))(he:XD X e fd)(hbase:uI o "append" X.env (eval o X.env)=eval o X.env:=by rfl)(hfew:((v3 cpos (vK [e] X.env)).all (λx=>!x.1)&&(u6 cpos (uY [] X.env)).all (λx=>x.1.isSome)
   && decide (([e]:List vX).length+([]:List uP).length+(if ([]:List uP).isEmpty then 0 else 1)<30))=true:=by rfl)
  (hline:(apos.endLine==cpos.line)=true:=by rfl) (hs:vK [e] X.env=(false,eval e X.env)::vK [] X.env:=by rfl) (hplain:(v3 cpos (vK [] X.env)).any (·.1)=false:=by rfl)
  (hsw:vz (.Call (.Attribute o "append" apos) [e] [] cpos) none pos.line X.env=pure false:=by rfl) :
  XS X (.Expr (.Call (.Attribute o "append" apos) [e] [] cpos) pos) (zBz i fd):=by
 obtain⟨t,h1,h2⟩:=he;refine⟨_,q0E (q2P PySem.F.plainAttrs_list PySem.F.slot_list_append PySem.F.type_list_append q0r ho (qv h1 qt hs) hbase hfew hline hs hplain) hsw,λG0 H0 G ω σ H out ω' E ow e k=>?_⟩;obtain⟨d,q,e⟩:=bnd e
 split at e
 ·rename_i ds q2
  by_cases z:ds.length<1000000
  ·rw[vC z]at e
   cases e;obtain⟨vs,r1,r2,r3,r4,r5,r6⟩:=ow.pw i ds q2;refine⟨.ref _,r1,.inl ⟨rfl,vs,SqL.of r2⟩,h2 G0 H0 G ω σ H d _ ow q λv G1 H1 x1 y1=>?_⟩;have o1:=ow.keep x1;have hz:vs.length<sizeLine:=by rw[<- r5.len,vp];omega
   refine⟨_,vs,v,rfl,rfl,x1.hh _ _ r2,hz,?_⟩;exact k G1 σ _ (o1.mutP q2 ((r5.mono x1.gg).app (Yp.cons y1 Yp.nil))) x1.gg
  ·rw[vF z]at e;cases e
 ·cases e
theorem qdt(ho:PE X o (XL i))(hk:XD X k fk)(hv:XD X e fv)(hs:tq [.Subscript o k pos'] e pos.line X.env=pure false:=by rfl)(hw:tt [.Subscript o k pos'] e X.env=pure none:=by rfl)(h1':(uM [.Subscript o k pos'] X.env).map (·.2)=[assign (.Subscript o k pos') X.env]:=by rfl)(ha:∀v,assign (.Subscript o k pos') X.env v=(do
   let ov <- holding [v] (eval o X.env)
   let iv <- holding [v,ov] (eval k X.env)
   sV pos'
   holding [v,ov,iv] (sU ov iv v)
   release [v,ov,iv] []):=by intro _;rfl):XS X (.Assign [.Subscript o k pos'] e pos) (zBS i fk fv):=by
 obtain⟨tk,h1,h2⟩:=hk;obtain⟨tv,h3,h4⟩:=hv;refine⟨_,qcu h3 (qcW ho h1 q8Z ha) hs hw h1',λG0 H0 G ω σ H out ω' E ow e kk=>?_⟩;obtain⟨d,q1,e⟩:=bnd e;obtain⟨c,q2,e⟩:=bnd e;refine h4 G0 H0 G ω σ H d _ ow q1 λv G1 H1 x1 y1=>?_;cases c with
 | int m=>
  split at e
  ·rename_i _ _ _ m' ds ek q3
   cases ek;obtain⟨j,hj,e⟩:=mpd e;cases e;have o1:=ow.keep x1;obtain⟨vs,r1,r2,r3,r4,r5,r6⟩:=o1.pw i ds q3;refine⟨.ref _,r1,h2 G0 H0 G1 ω σ H1 _ _ o1 q2 λu G2 H2 x2 y2=>?_⟩;cases (show u=.int m from y2);have o2:=o1.keep x2;refine⟨_,vs,m,j,rfl,rfl,x2.hh _ _ r2,by rw[<- r5.len];exact hj,?_⟩;exact kk G2 σ _ (o2.mutP q3 ((r5.mono x2.gg).set j (y1.mono x2.gg))) (x1.gg.trans x2.gg)
  ·cases e
 | _=>cases e
end
structure ArgW (K:zA) (G H:Hp) (ws:List W) (vs:List V):Prop where
 len:ws.length=vs.length
 sh:∀(j:Nat)d,ws[j]?=↥d->∃v,vs[j]?=some v/\Rep K G d v
 pw:∀(j:Nat)ds,ws[j]?=some (.pw ds)->∃l us,vs[j]?=some (.ref l)/\H l=some (.lst us)/\G l=none/\Yp K G ds us
 no:∀(j:Nat)w,ws[j]?=some w->(∃d,w=.sh d)\/∃ds,w=.pw ds
structure ArgI (ω:WSt) (σ:St) (is:List (Option Nat)) (ws:List W) (vs:List V):Prop where
 pw:∀(j:Nat)ds,ws[j]?=some (.pw ds)->∃i l,is[j]?=some (some i)/\vs[j]?=some (.ref l)/\σ[i]?=some (some (.ref l))/\(ω[i]?=some (some (.ow ds))\/ω[i]?=some (some (.pw ds)))
 is:∀(j:Nat)i,is[j]?=some (some i)->∃ds,ws[j]?=some (.pw ds)
noncomputable abbrev FW:=WSt->Option (List W)
def SimWA(K:zA)(t:TA)(is:List (Option Nat))(f:FW):Prop:=∀G0 H0 G ω σ H ws(Q:List V->Hp->Prop),Own K G0 H0 G ω σ H->f ω=some ws ->
 (∀vs G' H',Ext G H G' H'->ArgW K G' H' ws vs->ArgI ω σ is ws vs->Q vs H')->t σ H Q
def XWA(X:Cx)(es:List vX)(is:List (Option Nat))(f:FW):Prop:=(∃t,PA X es t/\SimWA X.K t is f)/\∀ω ws,f ω=some ws->ws.length=es.length
noncomputable def zCI:FW:=λ_=>some []
noncomputable def wSh(f:FD)(g:FW):FW:=λω=>(f ω).bind λd=>(g ω).map λws=>.sh d::ws
noncomputable def pwOf(w:Option (Option W)):Option (List D):=match w with
 | some (some (.ow ds))=>some ds
 | some (some (.pw ds))=>some ds
 | _=>none
noncomputable def wPw(i:Nat)(g:FW):FW:=λω=>(pwOf ω[i]?).bind λds=>(g ω).map λws=>.pw ds::ws
theorem qcS{w:Option (Option W)}{ds:List D}(h:pwOf w=some ds):w=some (some (.ow ds))\/w=some (some (.pw ds)):=by
 unfold pwOf at h
 split at h
 ·cases h;exact .inl rfl
 ·cases h;exact .inr rfl
 ·cases h
section
variable{X:Cx}{e:vX}{es:List vX}{is:List (Option Nat)}{g:FW}
theorem q2k:XWA X [] [] zCI:=⟨⟨_,qt,λG0 H0 G ω σ H ds Q o e k=>by
 cases e;exact k [] G H (Ext.refl o.gh) ⟨rfl,λj d h=>by simp at h,λj d h=>by simp at h,λj w h=>by simp at h⟩ ⟨λj d h=>by simp at h,λj d h=>by simp at h⟩⟩,λω ds e=>by cases e;rfl⟩
theorem qW{f:FD}(h:XD X e f)(hr:XWA X es is g)(hs:vK (e::es) X.env=(false,eval e X.env)::vK es X.env:=by rfl):XWA X (e::es) (none::is) (wSh f g):=by
 obtain⟨t,h1,h2⟩:=h;obtain⟨⟨u,h3,h4⟩,h5⟩:=hr;refine⟨⟨_,qv h1 h3 hs,λG0 H0 G ω σ H ds Q o e k=>?_⟩,λω ds e=>?_⟩
 ·obtain⟨d,q,e⟩:=bnd e
  obtain⟨r,q2,e⟩:=mpd e;subst e;refine h2 G0 H0 G ω σ H d _ o q λv G1 H1 x1 y1=>?_;refine h4 G0 H0 G1 ω σ H1 r _ (o.keep x1) q2 λvs G2 H2 x2 a2 i2=>?_;refine k _ G2 H2 (x1.trans x2) ⟨by rw[zD,zD,a2.len],λj d' hj=>?_,λj ds hj=>?_,λj w hj=>?_⟩ ⟨λj ds hj=>?_,λj i hj=>?_⟩
  ·cases j with
   | zero=>simp at hj;subst hj;exact⟨v,rfl,y1.mono x2.gg⟩
   | succ j=>exact a2.sh j d' ⇑hj
  ·cases j with
   | zero=>simp at hj
   | succ j=>exact a2.pw j ds ⇑hj
  ·cases j with
   | zero=>simp at hj;subst hj;exact .inl ⟨_,rfl⟩
   | succ j=>exact a2.no j w ⇑hj
  ·cases j with
   | zero=>simp at hj
   | succ j=>exact i2.pw j ds ⇑hj
  ·cases j with
   | zero=>simp at hj
   | succ j=>exact i2.is j i ⇑hj
 ·obtain⟨d,q,e⟩:=bnd e
  obtain⟨r,q2,e⟩:=mpd e;subst e;rw[zD,zD,h5 ω r q2]
theorem q1B{i:Nat}(h:PE X e (XL i))(hr:XWA X es is g)(hs:vK (e::es) X.env=(false,eval e X.env)::vK es X.env:=by rfl):XWA X (e::es) (some i::is) (wPw i g):=by
 obtain⟨⟨u,h3,h4⟩,h5⟩:=hr;refine⟨⟨_,qv h h3 hs,λG0 H0 G ω σ H ds Q o e k=>?_⟩,λω ds e=>?_⟩
 ·obtain⟨d,q,e⟩:=bnd e
  obtain⟨r,q2,e⟩:=mpd e;subst e;have hw:=qcS q;obtain⟨l,us,r1,r2,r3,r4⟩:∃l us,σ[i]?=some (some (.ref l))/\H l=some (.lst us)/\G l=none/\Yp X.K G d us:=by
   rcases hw with hw|hw
   ·obtain⟨l,vs,z1,z2,z3,z4,z5⟩:=o.ow i d hw
    exact⟨l,vs,z1,z2,z3,z5⟩
   ·obtain⟨vs,z1,z2,z3,z4,z5,_⟩:=o.pw i d hw
    exact⟨_,vs,z1,z2,z3,z5⟩
  refine⟨.ref l,r1,?_⟩;refine h4 G0 H0 G ω σ H r _ o q2 λvs G2 H2 x2 a2 i2=>?_;refine k _ G2 H2 x2 ⟨by rw[zD,zD,a2.len],λj d' hj=>?_,λj ds hj=>?_,λj w hj=>?_⟩ ⟨λj ds hj=>?_,λj i' hj=>?_⟩
  ·cases j with
   | zero=>simp at hj
   | succ j=>exact a2.sh j d' ⇑hj
  ·cases j with
   | zero=>simp at hj;subst hj;exact⟨l,us,rfl,x2.hh _ _ r2,x2.new l r3 (by rw[r2];exact λz=>by cases z),r4.mono x2.gg⟩
   | succ j=>exact a2.pw j ds ⇑hj
  ·cases j with
   | zero=>simp at hj;subst hj;exact .inr ⟨_,rfl⟩
   | succ j=>exact a2.no j w ⇑hj
  ·cases j with
   | zero=>simp at hj;subst hj;exact⟨i,l,rfl,rfl,r1,hw⟩
   | succ j=>exact i2.pw j ds ⇑hj
  ·cases j with
   | zero=>exact⟨d,rfl⟩
   | succ j=>exact i2.is j i' ⇑hj
 ·obtain⟨d,q,e⟩:=bnd e
  obtain⟨r,q2,e⟩:=mpd e;subst e;rw[zD,zD,h5 ω r q2]
end
def Pn(ws:List W)(vs:List V)(b:vJ):Prop:=∃(j:Nat) (ds:List D),ws[j]?=some (.pw ds)/\vs[j]?=some (.ref b)
open Classical in
noncomputable def WK(P:vJ->Prop)(H:Hp):Hp:=λb=>if P b then none else H b
theorem q9L{P:vJ->Prop}{H:Hp}{b:vJ}(h:P b):WK P H b=none:=vC h
theorem q1M{P:vJ->Prop}{H:Hp}{b:vJ}(h:¬P b):WK P H b=H b:=vF h
theorem qd3{P:vJ->Prop}{H:Hp}:Yz (WK P H) H:=λb u z=>by
 by_cases h:P b
 ·rw[q9L h]at z;cases z
 ·rw[q1M h]at z;exact z
def NdW(ws:List W)(vs:List V):Prop:=∀(j k:Nat)ds es l,ws[j]?=some (.pw ds)->ws[k]?=some (.pw es)->vs[j]?=some (.ref l)->vs[k]?=some (.ref l)->j=k
noncomputable def spW(K:zA)(n:Nat)(m:List W->Option (D×WSt)):Sp:=λvs H Q _=>∃G ws d ω',m ws=some (d,ω')/\ws.length=n/\Yz G H/\ArgW K G H ws vs/\NdW ws vs /\
 ∀v G' H',Ext G (WK (Pn ws vs) H) G' H'->(∀(j:Nat)ds ds' l,ws[j]?=some (.pw ds)->vs[j]?=some (.ref l)->ω'[j]?=some (some (.pw ds'))->∃us,H' l=some (.lst us)/\G' l=none/\Yp K G' ds' us)->Rep K G' d v->Q v H'
noncomputable def Xw(n:Nat)(ws:List W):WSt:=ws.map some++zb (n-ws.length) none
noncomputable def mirW(n:Nat)(body:FS)(ws:List W):Option (D×WSt):=match body (Xw n ws)with
 | some (.rt (.sh d),ω')=>some (d,ω')
 | some (.nx,ω')=>some (.non,ω')
 | _=>none
theorem qH{n:Nat}{ws:List W}{i:Nat}{w:W}(e:(Xw n ws)[i]?=some (some w)):ws[i]?=some w:=by
 unfold Xw at e;rcases zz i ws.length with y|y
 ·rw[zo ⇑y,zV]at e
  cases q:ws[i]? with
  | none=>rw[q]at e;cases e
  | some d'=>rw[q]at e;cases e;rfl
 ·rw[zh ⇑y,yb]at e
  split at e <;> cases e
theorem q7b{N:List Str}{vs:List V}{i:Nat}{v:V}(h:vs[i]?=some v):(L2.start N vs)[i]?=some (some v):=by
 unfold L2.start;have hl:i<vs.length:=(zf.mp h).1;rw[zo ⇑hl,zV,h];rfl
noncomputable def refOf(v:Option V):vJ:=match v with
 | some (.ref l)=>l
 | _=>0
theorem fnW{P:vS}{w:vZ}{K:zA}{mg:Str->Option vB}{base:vn}{x qual:Str}{st:vx}{f:vJ}{fd:vP}{N ps:List Str}{k:Nat}{body:FS}(F:Fun K x qual st f fd)(S:FnScope N ps (Yk st))(hb:∀(cdv:vB)(A:vb)(outer:List Env)(s:vG)(H:Hp)(E:XK),Room k (A.deeper (PyProof.Rows.envOfC qual (Yk st) s.heap.objs.size f cdv))->XSs (zBA CX0 P w K mg base N qual (Yk st) f cdv A outer s H E).nox (Xf st) body):
  FnOk P w K mg base CX0 (k+1) f fd ps (spW K ps.length (mirW N.length body)):=by
 refine F.ok S (λvs H Q E h=>?_) (λcdv A outer s H vs Q E hr h=>?_)
 ·obtain⟨G,ws,d,ω',_,h2,_,h4,_⟩:=h
  rw[<- h4.len];exact h2
 ·obtain⟨G,ws,d,ω',h1,h2,h3,h4,hnd,h5⟩:=h
  obtain⟨t,p1,p2⟩:=hb cdv A outer s H E hr;refine⟨t,p1,?_⟩;unfold mirW at h1;have hl:=h4.len;have hpl:ps.length<=N.length:=by have:=uL xh S.pre;rw[zv]at this;omega
  have o0:Own K G ⟨WK (Pn ws vs) H,λi=>refOf vs[i]?⟩ G (Xw N.length ws) (L2.start N vs) H:=by
   refine⟨⟨Yz.refl _,h3,qd3,λb z _=>z⟩,?_,λi d e=>?_,λi es e=>?_,λi j es fs l e=>?_,λi ks es e=>?_,λi ds e=>?_⟩
   ·unfold Xw L2.start
    simp only[zC,zB,yD];omega
   ·obtain⟨v,e1,e2⟩:=h4.sh i d (qH e)
    exact⟨v,q7b e1,e2⟩
   ·rcases h4.no i _ (qH e)with⟨_,z⟩|⟨_,z⟩ <;> cases z
   ·rcases h4.no i _ (qH e)with⟨_,z⟩|⟨_,z⟩ <;> cases z
   ·rcases h4.no i _ (qH e)with⟨_,z⟩|⟨_,z⟩ <;> cases z
   ·obtain⟨l,us,e1,e2,e3,e4⟩:=h4.pw i ds (qH e)
    have er:(⟨WK (Pn ws vs) H,λi=>refOf vs[i]?⟩:Fr).pin i=l:=by show refOf vs[i]?=l;rw[e1];rfl
    rw[er];refine⟨us,q7b e1,e2,e3,q9L ⟨i,ds,qH e,e1⟩,e4,λj es hj y=>?_,λj es hj=>?_⟩
    ·obtain⟨l',us',f1,_⟩:=h4.pw j es (qH hj)
     have er':(⟨WK (Pn ws vs) H,λi=>refOf vs[i]?⟩:Fr).pin j=l':=by show refOf vs[j]?=l';rw[f1];rfl
     rw[er']at y;exact hnd j i es ds l (qH hj) (qH e) (by rw[<- y];exact f1) e1
    ·rcases h4.no j _ (qH hj)with⟨_,z⟩|⟨_,z⟩ <;> cases z
  have fin:∀G' σ' H' v,Own K G ⟨WK (Pn ws vs) H,λi=>refOf vs[i]?⟩ G' ω' σ' H'->Rep K G' d v->Q v H':=λG' σ' H' v o' y=>by
   refine h5 v G' H' o'.ext (λj ds ds' l a1 a2 a3=>?_) y;obtain⟨us,_,b2,b3,_,b5,_⟩:=o'.pw j ds' a3;have er:refOf vs[j]?=l:=by rw[a2];rfl
   refine⟨us,?_,?_,b5⟩
   ·rw[<- er];exact b2
   ·rw[<- er];exact b3
  cases q:body (Xw N.length ws)with
  | none=>rw[q]at h1;cases h1
  | some p=>
   obtain⟨out,ω1⟩:=p;rw[q]at h1;refine p2 G _ G _ _ H out ω1 _ o0 q λG' σ' H' o' s'=>?_;cases out with
   | nx=>cases h1;exact fin G' σ' H' _ o' rfl
   | bk=>cases h1
   | ct=>cases h1
   | rt r'=>
    cases r' with
    | sh d'=>cases h1;exact λv y=>fin G' σ' H' v o' y
    | fr ds=>cases h1
noncomputable def zAO(c:Option (List D))(w:Option W):Option W:=match c,w with
 | some ds,some (.ow _)=>some (.ow ds)
 | some ds,some (.pw _)=>some (.pw ds)
 | _,w=>w
noncomputable def X8(I:Nat->Option (List D))(ω:WSt):WSt:=ω.mapIdx λi w=>zAO (I i) w
theorem q08{I:Nat->Option (List D)}{ω:WSt}{i:Nat}{w:Option W}(h:(X8 I ω)[i]?=some w):∃u,ω[i]?=some u/\zAO (I i) u=w:=by
 unfold X8 at h;rw[List.getElem?_mapIdx]at h;exact mpd h
theorem q3Y{w:Option W}:zAO none w=w:=by unfold zAO;split <;> first|rfl|(rename_i h;cases h)
theorem qez{c:Option (List D)}{u:Option W}{d:D}(h:zAO c u=↥d):u=↥d:=by
 unfold zAO at h;split at h <;> first|exact h|cases h
theorem qa9{c:Option (List D)}{u:Option W}{ks:List Int}{ds:List D}(h:zAO c u=some (.od ks ds)):u=some (.od ks ds):=by
 unfold zAO at h;split at h <;> first|exact h|cases h
theorem q4G{c:Option (List D)}{u:Option W}{ds:List D}(h:zAO c u=some (.ow ds)):(c=some ds/\∃es,u=some (.ow es))\/(c=none/\u=some (.ow ds)):=by
 cases c with
 | none=>rw[q3Y]at h;exact .inr ⟨rfl,h⟩
 | some es=>
  unfold zAO at h
  split at h
  ·rename_i hc;cases hc;cases h;exact .inl ⟨rfl,_,rfl⟩
  ·cases h
  ·rename_i z1 z2;subst h;exact vL rfl (z1 _ _ rfl)
theorem q6p{c:Option (List D)}{u:Option W}{ds:List D}(h:zAO c u=some (.pw ds)):(c=some ds/\∃es,u=some (.pw es))\/(c=none/\u=some (.pw ds)):=by
 cases c with
 | none=>rw[q3Y]at h;exact .inr ⟨rfl,h⟩
 | some es=>
  unfold zAO at h
  split at h
  ·cases h
  ·rename_i hc;cases hc;cases h;exact .inl ⟨rfl,_,rfl⟩
  ·rename_i z1 z2;subst h;exact vL rfl (z2 _ _ rfl)
section
variable{K:zA}{G0:Hp}{F:Fr}{G G' H H':Hp}{ω:WSt}{σ:St}{I:Nat->Option (List D)}{P:vJ->Prop}
theorem Own.at(o:Own K G0 F G ω σ H){i:Nat}{es:List D}(h:ω[i]?=some (some (.ow es))\/ω[i]?=some (some (.pw es))):∃l vs,σ[i]?=some (some (.ref l))/\H l=some (.lst vs)/\G l=none/\F.hp l=none:=by
 rcases h with h|h
 ·obtain⟨l,vs,z1,z2,z3,z4,z5⟩:=o.ow i es h
  exact⟨l,vs,z1,z2,z3,z4⟩
 ·obtain⟨vs,z1,z2,z3,z4,z5,_⟩:=o.pw i es h
  exact⟨_,vs,z1,z2,z3,z4⟩
theorem Own.apart(o:Own K G0 F G ω σ H){i j:Nat}{es fs:List D}{l:vJ}(h:ω[i]?=some (some (.ow es))\/ω[i]?=some (some (.pw es)))(h':ω[j]?=some (some (.ow fs))\/ω[j]?=some (some (.pw fs)))(s:σ[i]?=some (some (.ref l)))(s':σ[j]?=some (some (.ref l))):i=j:=by
 rcases h with h|h
 ·rcases h' with h'|h'
  ·exact o.nd i j es fs l h h' s s'
  ·obtain⟨vs,z1,z2,z3,z4,z5,z6,z7⟩:=o.pw j fs h'
   rw[s']at z1;cases z1;exact vL s (z7 i es h)
 ·rcases h' with h'|h'
  ·obtain⟨vs,z1,z2,z3,z4,z5,z6,z7⟩:=o.pw i es h
   rw[s]at z1;cases z1;exact vL s' (z7 j fs h')
  ·obtain⟨vs,z1,z2,z3,z4,z5,z6,z7⟩:=o.pw i es h
   obtain⟨vs',y1,_⟩:=o.pw j fs h';rw[s]at z1;rw[s']at y1;have e1:l=F.pin i:=by cases z1;rfl
   have e2:l=F.pin j:=by cases y1;rfl
   exact(z6 j fs h' (e2.symm.trans e1)).symm
theorem Own.back(o:Own K G0 F G ω σ H)(hI:∀(i:Nat)ds,I i=some ds->∃es,ω[i]?=some (some (.ow es))\/ω[i]?=some (some (.pw es)))(hP:∀b,P b->∃i ds,I i=some ds/\σ[i]?=some (some (.ref b)))(x:Ext G (WK P H) G' H')(hn:∀(i:Nat)ds l,I i=some ds->σ[i]?=some (some (.ref l))->∃us,H' l=some (.lst us)/\G' l=none/\Yp K G' ds us):Own K G0 F G' (X8 I ω) σ H':=by
 have nP:∀{i:Nat}{es:List D}{l:vJ},I i=none->(ω[i]?=some (some (.ow es))\/ω[i]?=some (some (.pw es)))->σ[i]?=some (some (.ref l))->¬P l:=λ{i es l} h1 h2 h3 z=>by
  obtain⟨j,ds,a1,a2⟩:=hP l z;obtain⟨fs,a3⟩:=hI j ds a1;have:=o.apart h2 a3 h3 a2;subst this;rw[h1]at a1;cases a1
 have Pl:∀{b:vJ},P b->∃vs,H b=some (.lst vs)/\F.hp b=none:=λ{b} z=>by
  obtain⟨j,ds,a1,a2⟩:=hP b z;obtain⟨fs,a3⟩:=hI j ds a1;obtain⟨l,vs,b1,b2,b3,b4⟩:=o.at a3;rw[a2]at b1;cases b1;exact⟨vs,b2,b4⟩
 refine⟨⟨o.ext.gg.trans x.gg,x.gh,λb u z=>?_,λb z1 z2=>?_⟩,?_,λi d h=>?_,λi ds h=>?_,λi j ds es l h h' s s'=>?_,λi ks ds h=>?_,λi ds h=>?_⟩
 ·refine x.hh b u ?_
  rw[q1M λp=>by obtain⟨_,_,e⟩:=Pl p;rw[e]at z;cases z];exact o.ext.hh b u z
 ·refine x.new b (o.ext.new b z1 z2) ?_
  rw[q1M λp=>z2 (Pl p).choose_spec.2];exact λe=>z2 (o.ext.hh.free e)
 ·unfold X8;rw[List.length_mapIdx,o.len]
 ·obtain⟨u,e1,e2⟩:=q08 h
  have:=qez e2;subst this;obtain⟨v,a1,a2⟩:=o.sh i d e1;exact⟨v,a1,a2.mono x.gg⟩
 ·obtain⟨u,e1,e2⟩:=q08 h
  rcases q4G e2 with⟨c1,es,rfl⟩|⟨c1,rfl⟩
  ·obtain⟨l,vs,a1,a2,a3,a4,a5⟩:=o.ow i es e1
   obtain⟨us,b1,b2,b3⟩:=hn i ds l c1 a1;exact⟨l,us,a1,b1,b2,a4,b3⟩
  ·obtain⟨l,vs,a1,a2,a3,a4,a5⟩:=o.ow i ds e1
   have np:=nP c1 (.inl e1) a1;have hl:WK P H l=some (.lst vs):=by rw[q1M np];exact a2
   exact⟨l,vs,a1,x.hh _ _ hl,x.new l a3 (by rw[hl];exact λz=>by cases z),a4,a5.mono x.gg⟩
 ·obtain⟨u,e1,e2⟩:=q08 h
  obtain⟨u',e1',e2'⟩:=q08 h';have w:∃es,ω[i]?=some (some (.ow es)):=by rcases q4G e2 with⟨c1,es,rfl⟩|⟨c1,rfl⟩ <;> exact⟨_,e1⟩
  have w':∃es,ω[j]?=some (some (.ow es)):=by rcases q4G e2' with⟨c1,es,rfl⟩|⟨c1,rfl⟩ <;> exact⟨_,e1'⟩
  obtain⟨a,w⟩:=w;obtain⟨b,w'⟩:=w';exact o.nd i j a b l w w' s s'
 ·obtain⟨u,e1,e2⟩:=q08 h
  have:=qa9 e2;subst this;obtain⟨p,vs,a1,a2,a3,a4,a5,a6,a7⟩:=o.od i ks ds e1;have np:¬P p:=λz=>by obtain⟨_,e,_⟩:=Pl z;rw[a2]at e;cases e
  have hl:WK P H p=some (.dK (kvsOf ks vs)):=by rw[q1M np];exact a2
  refine⟨p,vs,a1,x.hh _ _ hl,x.new p a3 (by rw[hl];exact λz=>by cases z),a4,a5,a6.mono x.gg,λj ks' es h' s'=>?_⟩;obtain⟨u',e1',e2'⟩:=q08 h';have:=qa9 e2';subst this;exact a7 j ks' es e1' s'
 ·obtain⟨u,e1,e2⟩:=q08 h
  obtain⟨es,w⟩:∃es,ω[i]?=some (some (.pw es)):=by rcases q6p e2 with⟨c1,es,rfl⟩|⟨c1,rfl⟩ <;> exact⟨_,e1⟩
  obtain⟨vs,a1,a2,a3,a4,a5,a6,a7⟩:=o.pw i es w;have uq:∀(j:Nat)es',(X8 I ω)[j]?=some (some (.pw es'))->F.pin j=F.pin i->j=i:=λj es' h' y=>by
   obtain⟨u',e1',e2'⟩:=q08 h';rcases q6p e2' with⟨c1,fs,rfl⟩|⟨c1,rfl⟩
   ·exact a6 j _ e1' y
   ·exact a6 j _ e1' y
  have ap:∀(j:Nat)es',(X8 I ω)[j]?=some (some (.ow es'))->σ[j]?≠some (some (.ref (F.pin i))):=λj es' h'=>by
   obtain⟨u',e1',e2'⟩:=q08 h';rcases q4G e2' with⟨c1,fs,rfl⟩|⟨c1,rfl⟩
   ·exact a7 j _ e1'
   ·exact a7 j _ e1'
  rcases q6p e2 with⟨c1,fs,rfl⟩|⟨c1,rfl⟩
  ·obtain⟨us,b1,b2,b3⟩:=hn i ds _ c1 a1
   exact⟨us,a1,b1,b2,a4,b3,uq,ap⟩
  ·rw[w]at e1
   cases e1;have np:=nP c1 (.inr w) a1;have hl:WK P H (F.pin i)=some (.lst vs):=by rw[q1M np];exact a2
   exact⟨vs,a1,x.hh _ _ hl,x.new _ a3 (by rw[hl];exact λz=>by cases z),a4,a5.mono x.gg,uq,ap⟩
end
noncomputable def XJ:List (Option Nat)->WSt->Nat->Option (List D)
 | some k::is,some (.pw ds)::r,i=>if i=k then some ds else XJ is r i
 | _::is,_::r,i=>XJ is r i
 | _,_,_=>none
noncomputable def Y8:List (Option Nat)->WSt->Bool
 | some _::is,some (.pw _)::r=>Y8 is r
 | some _::_,_=>false
 | none::is,_::r=>Y8 is r
 | none::is,[]=>Y8 is []
 | [],_=>true
noncomputable def XB:List (Option Nat)->Bool
 | some i::is=>!is.contains (some i)&&XB is
 | none::is=>XB is
 | []=>true
theorem q0c:∀{is:List (Option Nat)}{ω:WSt}{i:Nat}{ds:List D},XJ is ω i=some ds->∃j:Nat,is[j]?=some (some i)/\ω[j]?=some (some (.pw ds))
 | some k::is,some (.pw es)::r,i,ds,h=>by
  unfold XJ at h
  by_cases z:i=k
  ·rw[vC z]at h;cases h;subst z;exact⟨0,rfl,rfl⟩
  ·rw[vF z]at h
   obtain⟨j,a,b⟩:=q0c h;exact⟨j+1,by simpa using a,by simpa using b⟩
 | some k::is,none::r,i,ds,h=>by
  obtain⟨j,a,b⟩:=q0c (is:=is) (ω:=r) (i:=i) (ds:=ds) (by unfold XJ at h;exact h);exact⟨j+1,by simpa using a,by simpa using b⟩
 | some k::is,↥d::r,i,ds,h=>by
  obtain⟨j,a,b⟩:=q0c (is:=is) (ω:=r) (i:=i) (ds:=ds) (by unfold XJ at h;exact h);exact⟨j+1,by simpa using a,by simpa using b⟩
 | some k::is,some (.ow d)::r,i,ds,h=>by
  obtain⟨j,a,b⟩:=q0c (is:=is) (ω:=r) (i:=i) (ds:=ds) (by unfold XJ at h;exact h);exact⟨j+1,by simpa using a,by simpa using b⟩
 | some k::is,some (.od ks d)::r,i,ds,h=>by
  obtain⟨j,a,b⟩:=q0c (is:=is) (ω:=r) (i:=i) (ds:=ds) (by unfold XJ at h;exact h);exact⟨j+1,by simpa using a,by simpa using b⟩
 | none::is,w::r,i,ds,h=>by
  obtain⟨j,a,b⟩:=q0c (is:=is) (ω:=r) (i:=i) (ds:=ds) (by unfold XJ at h;exact h);exact⟨j+1,by simpa using a,by simpa using b⟩
 | [],_,_,_,h=>by unfold XJ at h;cases h
 | some _::_,[],_,_,h=>by unfold XJ at h;cases h
 | none::_,[],_,_,h=>by unfold XJ at h;cases h
theorem q2V:∀{is:List (Option Nat)}{ω:WSt},Y8 is ω=true->XB is=true->∀{j i:Nat},is[j]?=some (some i)->∃ds,XJ is ω i=some ds/\ω[j]?=some (some (.pw ds))
 | some k::is,some (.pw es)::r,hb,hs,j,i,h=>by
  rw[XB,zS]at hs;rw[Y8]at hb;cases j with
  | zero=>
   have:k=i:=by simpa using h
   subst this;exact⟨es,by unfold XJ;rw[vC rfl],rfl⟩
  | succ j=>
   have h':is[j]?=some (some i):=by simpa using h
   obtain⟨ds,a,b⟩:=q2V hb hs.2 h';refine⟨ds,?_,by simpa using b⟩;unfold XJ;rw[vF λz=>?_]
   ·exact a
   ·have:=hs.1
    rw[<- z]at this;have m:some i∈is:=yS h';simp[m]at this
 | none::is,w::r,hb,hs,j,i,h=>by
  rw[XB]at hs;rw[Y8]at hb;cases j with
  | zero=>simp at h
  | succ j=>
   obtain⟨ds,a,b⟩:=q2V hb hs (j:=j) (i:=i) ⇑h;exact⟨ds,by unfold XJ;exact a,by simpa using b⟩
 | none::is,[],hb,hs,j,i,h=>by
  rw[XB]at hs;rw[Y8]at hb;cases j with
  | zero=>simp at h
  | succ j=>
   obtain⟨ds,a,b⟩:=q2V hb hs (j:=j) (i:=i) ⇑h;simp at b
 | [],_,_,_,j,i,h=>by simp at h
 | some _::_,[],hb,_,_,_,_=>by unfold Y8 at hb;cases hb
 | some _::_,none::_,hb,_,_,_,_=>by unfold Y8 at hb;cases hb
 | some _::_,↥_::_,hb,_,_,_,_=>by unfold Y8 at hb;cases hb
 | some _::_,some (.ow _)::_,hb,_,_,_,_=>by unfold Y8 at hb;cases hb
 | some _::_,some (.od _ _)::_,hb,_,_,_,_=>by unfold Y8 at hb;cases hb
theorem q5f:∀{is:List (Option Nat)},XB is=true->∀{j k i:Nat},is[j]?=some (some i)->is[k]?=some (some i)->j=k
 | [],_,j,k,i,h,_=>by simp at h
 | none::is,hs,0,k,i,h,h'=>by simp at h
 | none::is,hs,j+1,0,i,h,h'=>by simp at h'
 | none::is,hs,j+1,k+1,i,h,h'=>by
  rw[XB]at hs;rw[q5f hs (j:=j) (k:=k) (i:=i) ⇑h ⇑h']
 | some a::is,hs,0,0,i,h,h'=>rfl
 | some a::is,hs,0,k+1,i,h,h'=>by
  rw[XB,zS]at hs;have e:a=i:=by simpa using h
  have m:some i∈is:=yS (i:=k) ⇑h';have:=hs.1;rw[e]at this;simp[m]at this
 | some a::is,hs,j+1,0,i,h,h'=>by
  rw[XB,zS]at hs;have e:a=i:=by simpa using h'
  have m:some i∈is:=yS (i:=j) ⇑h;have:=hs.1;rw[e]at this;simp[m]at this
 | some a::is,hs,j+1,k+1,i,h,h'=>by
  rw[XB,zS]at hs;rw[q5f hs.2 (j:=j) (k:=k) (i:=i) ⇑h ⇑h']
noncomputable def zA2(is:List (Option Nat))(m:List W->Option (D×WSt))(g:FW)(ω:WSt):Option (D×WSt):=(g ω).bind λws=>(m ws).bind λp=>if Y8 is p.2=true then some (p.1,X8 (XJ is p.2) ω)else none
noncomputable def zBI(is:List (Option Nat))(m:List W->Option (D×WSt))(g:FW):FS:=λω=>(zA2 is m g ω).map λp=>(.nx,p.2)
noncomputable def zAc(i:Nat)(is:List (Option Nat))(m:List W->Option (D×WSt))(g:FW):FS:=λω=>(zA2 is m g ω).map λp=>(.nx,p.2.set i (some (.sh p.1)))
section
variable{X:Cx}{e:vX}{es:List vX}{is:List (Option Nat)}{g:FW}{m:List W->Option (D×WSt)}{k k0:Nat}{f:vJ}{fd:vP}{ps:List Str}{x:Str}{p pos pos' spos:Pos}
abbrev zCn(P:vS)(w:vZ)(K:zA)(mg:Str->Option vB)(base:vn)(k:Nat)(f:vJ)(d:vP)(x:Str)(ps:List Str)(n:Nat)(m:List W->Option (D×WSt)):Prop :=
 FnOk P w K mg base CX0 k f d ps (spW K n m)/\mg x=some (.ref f)/\xI K (.ref f)=true/\Binds K d ps []
theorem q7f{E:XK}{n:Nat}{t:TA}(hs:XB is=true)(h2:SimWA X.K t is g)(h5:∀ω ws,g ω=some ws->ws.length=n){G0:Hp}{H0:Fr}{G:Hp}{ω:WSt}{σ:St}{H:Hp}{d:D}{ω':WSt}{Q:VK}(o:Own X.K G0 H0 G ω σ H)(ec:zA2 is m g ω=some (d,ω'))(kk:∀v G' H',Own X.K G0 H0 G' ω' σ H'->Yz G G'->Rep X.K G' d v->Q v H'):zCU (spW X.K n m) [] E t σ H Q:=by
 obtain⟨ws,q,ec⟩:=bnd ec;obtain⟨⟨d1,ω1⟩,q2,ec⟩:=bnd ec
 by_cases hb:Y8 is ω1=true
 case neg=>rw[vF hb]at ec;cases ec
 rw[vC hb]at ec;cases ec;refine h2 G0 H0 G ω σ H ws _ o q λvs G1 H1 x1 a1 i1=>?_;have o1:=o.keep x1;refine⟨G1,ws,_,ω1,q2,h5 ω ws q,x1.gh,by rw[yJ];exact a1,?_,λv G2 H2 x2 y2 y3=>kk v G2 H2 ?_ (x1.gg.trans x2.gg) y3⟩
 ·rw[yJ]
  intro j k ds es l hj hk vj vk;obtain⟨ij,lj,b1,b2,b3,b4⟩:=i1.pw j ds hj;obtain⟨ik,lk,c1,c2,c3,c4⟩:=i1.pw k es hk;rw[vj]at b2;cases b2;rw[vk]at c2;cases c2;have:=o.apart b4 c4 b3 c3;subst this;exact q5f hs b1 c1
 ·rw[yJ]at x2 y2
  refine o1.back (P:=Pn ws vs) (λi ds hi=>?_) (λb ⟨j,ds,hj,hv⟩=>?_) x2 λi ds l hi hl=>?_
  ·obtain⟨j,b1,b2⟩:=q0c hi
   obtain⟨es,b3⟩:=i1.is j i b1;obtain⟨i',l,c1,c2,c3,c4⟩:=i1.pw j es b3;rw[b1]at c1;cases c1;exact⟨es,c4⟩
  ·obtain⟨i,l,c1,c2,c3,c4⟩:=i1.pw j ds hj
   rw[hv]at c2;cases c2;obtain⟨es,e1,e2⟩:=q2V hb hs c1;exact⟨i,es,e1,c3⟩
  ·obtain⟨j,b1,b2⟩:=q0c hi
   obtain⟨es,b3⟩:=i1.is j i b1;obtain⟨i',l',c1,c2,c3,c4⟩:=i1.pw j es b3;rw[b1]at c1;cases c1;rw[hl]at c3;cases c3;exact y2 j es ds l b3 c2 b2
theorem qdd(c:zCn X.prog X.w X.K X.mg X.base k f fd x ps (e::es).length m)(hr:Room k0 X.A)(ha:XWA X (e::es) is g)(hs:XB is=true:=by rfl)(hk:k<=k0:=by decide)(hg:Gl X x:=by exact rfl)(hdb:(x==("__debug__" : Str))=false:=by decide)(he:vK (e::es) X.env=(false,eval e X.env)::vK es X.env:=by rfl)(hpl:(v3 pos (vK es X.env)).any (·.1)=false:=by rfl)(hsw:vz (.Call (.Name x p) (e::es) [] pos) none spos.line X.env=pure false:=by rfl):XS X (.Expr (.Call (.Name x p) (e::es) [] pos) spos) (zBI is m g):=by
 obtain⟨⟨t,h1,h2⟩,h5⟩:=ha;refine⟨_,q0E (q4u c.1 (hr.mono hk) hg c.2.1 c.2.2.1 c.2.2.2 .nil zB2 h1 hdb he hpl) hsw,λG0 H0 G ω σ H out ω' E o ec kk=>?_⟩;obtain⟨⟨d,ω1⟩,q,ec⟩:=mpd ec;cases ec;exact q7f hs h2 h5 o q λv G' H' o' s' _=>kk G' σ H' o' s'
theorem q3e{i:Nat}{y:Str}(hN:X.N.Nodup)(hi:X.N[i]?=some y)(hx:Loc X.env.scope y)(c:zCn X.prog X.w X.K X.mg X.base k f fd x ps (e::es).length m)(hr:Room k0 X.A)(ha:XWA X (e::es) is g)(hs:XB is=true:=by rfl)(hk:k<=k0:=by decide)(hg:Gl X x:=by exact rfl)(hdb:(x==("__debug__" : Str))=false:=by decide)(he:vK (e::es) X.env=(false,eval e X.env)::vK es X.env:=by rfl)(hpl:(v3 pos (vK es X.env)).any (·.1)=false:=by rfl)(hsw:vz (.Call (.Name x p) (e::es) [] pos) (some (.Name y pos')) spos.line X.env=pure false:=by rfl)(hf:X.fn y=true\/X.env.scope.names.lookup y=some .local:=by first|exact .inl rfl|exact .inr rfl|assumption):XS X (.Assign [.Name y pos'] (.Call (.Name x p) (e::es) [] pos) spos) (zAc i is m g):=by
 obtain⟨⟨t,h1,h2⟩,h5⟩:=ha;refine⟨_,q05 hN hi hx (q4u c.1 (hr.mono hk) hg c.2.1 c.2.2.1 c.2.2.2 .nil zB2 h1 hdb he hpl) hsw hf,λG0 H0 G ω σ H out ω' E o ec kk=>?_⟩;obtain⟨⟨d,ω1⟩,q,ec⟩:=mpd ec;cases ec;exact q7f hs h2 h5 o q λv G' H' o' s' y'=>kk G' _ H' (o'.setSh y') s'
end
noncomputable def appP(i:Nat)(ω:WSt)(v:Option D)(w:Option (Option W)):Option (Out×WSt):=v.bind λd=>match w with
 | some (some (.pw ds))=>if ds.length<1000000 then some (.nx,ω.set i (some (.pw (ds++[d]))))else none
 | _=>none
noncomputable def lsetP(i:Nat)(ω:WSt)(v c:Option D)(w:Option (Option W)):Option (Out×WSt):=v.bind λd=>c.bind λc=>match c,w with
 | .int k,some (some (.pw ds))=>(ixN ds.length k).map λj=>(.nx,ω.set i (some (.pw (ds.set j d))))
 | _,_=>none
noncomputable def wshR(a:Option D)(b:Option (List W)):Option (List W):=a.bind λd=>b.map λws=>.sh d::ws
noncomputable def wpwR(a:Option (Option W))(b:Option (List W)):Option (List W):=(pwOf a).bind λds=>b.map λws=>.pw ds::ws
noncomputable def cwR(is:List (Option Nat))(m:List W->Option (D×WSt))(ω:WSt)(a:Option (List W)):Option (D×WSt):=a.bind λws=>(m ws).bind λp=>if Y8 is p.2=true then some (p.1,X8 (XJ is p.2) ω)else none
noncomputable def cwB(is:List (Option Nat))(ω:WSt)(a:Option (D×WSt)):Option (D×WSt):=a.bind λp=>if Y8 is p.2=true then some (p.1,X8 (XJ is p.2) ω)else none
noncomputable def dropP(a:Option (D×WSt)):Option (Out×WSt):=a.map λp=>(.nx,p.2)
noncomputable def setPw(i:Nat)(a:Option (D×WSt)):Option (Out×WSt):=a.map λp=>(.nx,p.2.set i (some (.sh p.1)))
noncomputable def outW(a:Option (Out×WSt)):Option (D×WSt):=match a with
 | some (.rt (.sh d),ω')=>some (d,ω')
 | some (.nx,ω')=>some (.non,ω')
 | _=>none
section
variable{i k:Nat}{ω r:WSt}{d:D}{ds es:List D}{fd fk fv:FD}{g:FW}{ws:List W}{is:List (Option Nat)}{m:List W->Option (D×WSt)}{w:Option W}{I:Nat->Option (List D)}{b:FS}{n:Nat}
theorem q7V:zBz i fd ω=appP i ω (fd ω) ω[i]?:=rfl
theorem p_as(h:ds.length<1000000):appP i ω (some d) (some (some (.pw ds)))=some (.nx,ω.set i (some (.pw (ds++[d])))):=vC h
theorem q6t:zBS i fk fv ω=lsetP i ω (fv ω) (fk ω) ω[i]?:=rfl
theorem p_ls{k:Int}(h0:0<=k)(h1:k<ds.length):lsetP i ω (some d) (some (.int k)) (some (some (.pw ds)))=some (.nx,ω.set i (some (.pw (ds.set k.toNat d)))):=by
 show YT _ (ixN ds.length k)=_;have:ixN ds.length k=some k.toNat:=by
  unfold ixN;simp only[h0,h1,YU.mpr h0]
  first|rfl|(simp;omega)
 rw[this];rfl
theorem q6H:zCF (some (some (.pw ds)))=some (.vw ds):=rfl
theorem q87:zCI ω=some []:=rfl
theorem qaU:wSh fd g ω=wshR (fd ω) (g ω):=rfl
theorem qal:wshR (some d) (some ws)=some (.sh d::ws):=rfl
theorem qb9:wPw i g ω=wpwR ω[i]? (g ω):=rfl
theorem q6w:wpwR (some (some (.ow ds))) (some ws)=some (.pw ds::ws):=rfl
theorem q6u:wpwR (some (some (.pw ds))) (some ws)=some (.pw ds::ws):=rfl
theorem e_cw:zA2 is m g ω=cwR is m ω (g ω):=rfl
theorem qak:cwR is m ω (some ws)=cwB is ω (m ws):=rfl
theorem qad:cwB is ω (some (d,r))=if Y8 is r=true then some (d,X8 (XJ is r) ω)else none:=rfl
theorem qaF:zBI is m g ω=dropP (zA2 is m g ω):=rfl
theorem e_dp:dropP (some (d,r))=some (.nx,r):=rfl
theorem qba:zAc i is m g ω=setPw i (zA2 is m g ω):=rfl
theorem e_sp:setPw i (some (d,r))=some (.nx,r.set i ↥d):=rfl
theorem qb5:Y8 (some k::is) (some (.pw ds)::r)=Y8 is r:=rfl
theorem qb0:Y8 (none::is) (w::r)=Y8 is r:=rfl
theorem qbk:Y8 [] r=true:=by cases r <;> rfl
theorem qaY:X8 I (w::r)=zAO (I 0) w::X8 (λi=>I (i+1)) r:=by unfold X8;rw[List.mapIdx_cons]
theorem qb1:X8 I []=[]:=rfl
theorem qaK{j:Nat}:XJ (some k::is) (some (.pw ds)::r) j=if j=k then some ds else XJ is r j:=rfl
theorem qbv{j:Nat}:XJ (none::is) (w::r) j=XJ is r j:=by
 cases w with
 | none=>rfl
 | some w=>cases w <;> rfl
theorem qaG{j:Nat}:XJ [] r j=none:=by cases r <;> rfl
theorem qbc:zAO none w=w:=q3Y
theorem qar:zAO (some ds) (some (.ow es))=some (.ow ds):=rfl
theorem qaD:zAO (some ds) (some (.pw es))=some (.pw ds):=rfl
theorem q7S:mirW n b ws=outW (b (Xw n ws)):=rfl
theorem q5V:outW (some (.rt (.sh d),r))=some (d,r):=rfl
end
end Hk
namespace Hk
open PySem PyProof.Rows
section
variable{prog:vS}{w:vZ}{A:vb}{E:vB->vG->Prop}{s:vG}{a₀:Array vU}
end
section
variable{α β:Type}
end
end Hk
namespace Hk
open PySem PySem.Spec PyProof.Rows L2
section
variable{X:Cx}{pins:List (vJ×Obj)}{σ:L2.St}{H:Hp}{s:vG}
end
section
variable{X:Cx}{pins:List (vJ×Obj)}{σ:L2.St}{G H:Hp}{s:vG}{a kS:vJ}{xs:List V}{vs:List vB}{ds:List D}{kf:D->Int}
noncomputable def apart(pins:List (vJ×Obj))(a kS:vJ)(e1:Nat)(ks:Array vB)(e:Nat):List (vJ×Obj):=pins++[(kS,uW "list" ks e),(a,uW "list" #[] e1)]
end
section
variable{X:Cx}{pins:List (vJ×Obj)}{σ:L2.St}{G H:Hp}{s:vG}{a:vJ}{xs:List V}{vs:List vB}{ds:List D}{kf:D->Int}{k:Nat}{f:vJ}{fd:vP}{ps:List Str}{m:List D->Option O}
end
end Hk
namespace Hk
open PySem L2
section
variable{m:List D->Option O}{f:FD}{ω:WSt}{d:D}{i:Nat}{ks:List Int}{ds:List D}
theorem q8j:iDk i ω=zCi ω[i]?:=rfl
theorem q8G:zCi (some ↥(.dic ks ds))=some (ks.map D.int):=rfl
end
noncomputable def zAy:D->D->Option R
 | .lst xs,.int k=>if (0<=k/\k<=1000)/\xs.length<=1000 then some (.fr (zb k.toNat xs).flatten)else none
 | _,_=>none
theorem Yp.rep{K:zA}{H:Hp}{ds:List D}{vs:List V}(h:Yp K H ds vs):∀n:Nat,Yp K H (zb n ds).flatten (zb n vs).flatten
 | 0=>rfl
 | n+1=>by
  rw[yG,yG,yO,yO];exact h.app (h.rep n)
theorem qeY{K:zA}:OpV K rRep zAy:=by
 intro G H x y d v u Q s e hx hy k
 match x,y,e with
 | .lst xs,.int n,e=>
  unfold zAy at e
  dsimp only at e
  by_cases z:(0<=n/\n<=1000)/\xs.length<=1000
  ·rw[vC z]at e
   cases e;obtain⟨a,vs,rfl,h1,h2⟩:=hx.lst s;cases hy.int;have hz:vs.length*n.toNat<=sizeLine:=by
    rw[<- h2.len];have:=Nat.mul_le_mul z.2 (show n.toNat<=1000 by omega);rw[vp];omega
   refine⟨a,n,vs,rfl,rfl,h1,∅,∅,hz,λp hp=>?_⟩;exact k _ G _ (Ext.hide s hp _) ⟨p,_,rfl,hp,s.free hp,qe,h2.rep _⟩
  ·rw[vF z]at e;cases e
section
variable{X:Cx}{a b:vX}{pos:Pos}{f g:FD}
theorem qc6(ha:XV X a f)(hb:XV X b g):XE X (.BinOp a .Mult b pos) (Yo zAy f g):=q2w qg2 qeY ha hb
end
theorem qc4{ds:List D}{k:Int}(h0:0<=k)(h1:k<=1000)(h2:ds.length<=1000):zAy (.lst ds) (.int k)=some (.fr (zb k.toNat ds).flatten):=vC ⟨⟨h0,h1⟩,h2⟩
end Hk
namespace So
open PySem PyProof.Rows
noncomputable def zCR:Bool->vU->Array vU->Nat->Nat->Nat->StateT vm Sem (Option Nat):=sortPriv% PySem.Builtin.gallop
noncomputable def bey(left:Bool)(k:Int)(arr:Array vU)(i:Nat):Bool:=if left=true then decide (K arr i<k)else !decide (k<K arr i)
section
variable{prog:vS}{w:vZ}{A:vb}{E:vB->vG->Prop}{s:vG}
theorem q7A{arr:Array vU}(h0:IntKeys arr){i:Nat}(hi:i<arr.size):∃p t q,arr[i]?=some p/\p=(Value.int (K arr i) t,q):=by
 have hm:arr[i]∈arr.toList:=by simp
 obtain⟨n,t,hn⟩:=h0 _ hm;have e:arr[i]?=some arr[i]:=getElem?_pos _ i hi;have e2:arr[i]=(Value.int n t,arr[i].2):=Prod.ext hn rfl;refine⟨_,t,arr[i].2,e,?_⟩;unfold K;rw[e,e2];rfl
theorem zAn{st:vm}{a b:Int}{t u:Tok}{p q:vB}{Q:Option Bool->vm->Prop}(hk:kindOf st=v7)(h:Q (some (decide (a<b))) st):wpS (model prog w) A E s (lt' (.int a t,p) (.int b u,q)) Q st:=by
 rw[lt'_eq];refine vM (tH ?_);rw[hk,keyLt'_oneType];refine vM (tP (uJ (oneLt_int ⟨rfl,?_⟩)));exact vO h
theorem Ys{st:vm}{arr:Array vU}{i:Nat}{p:vU}{Q:vU->vm->Prop}(h:arr[i]?=some p)(hq:Q p st):wpS (model prog w) A E s (elem' arr i) Q st:=by
 rw[elem'_eq,h];exact vO hq
theorem Wb{st:vm}{left:Bool}{k:Int}{t:Tok}{q:vB}{arr:Array vU}{i:Nat}{Q:Option Bool->vm->Prop}(h0:IntKeys arr)(hi:i<arr.size)(hk:kindOf st=v7)(h:Q (some (bey left k arr i)) st):
  wpS (model prog w) A E s (do let x <- elem' arr i;if left=true then lt' x (.int k t,q)else do let l <- lt' (.int k t,q) x;pure (YT (λx=>!x) l)) Q st:=by
 obtain⟨p,u,r,e1,rfl⟩:=q7A h0 hi;refine vM (Ys e1 ?_);cases left with
 | true=>exact zAn hk h
 | false=>exact vM (zAn hk (vO h))
theorem Xb{left:Bool}{k:Int}{arr:Array vU}{i j:Nat}(h:K arr i<=K arr j)(hj:bey left k arr j=true):bey left k arr i=true:=by
 unfold bey at *;cases left with
 | true=>simp only[if_true,decide_eq_true_eq]at *;omega
 | false=>simp only[yc,if_false,Z5,decide_eq_false_iff_not]at *;omega
theorem XU{left:Bool}{k:Int}{t:Tok}{q:vB}{arr:Array vU}{base n hint:Nat}{st:vm}{Q:Option Nat->vm->Prop}(h0:IntKeys arr)(hk:kindOf st=v7)(hsz:base+n<=arr.size)(hh:hint<n)(hs:∀i j,i<=j->j<n->K arr (base+i)<=K arr (base+j))(h:∀m,m<=n->(∀i,i<m->bey left k arr (base+i)=true)->(∀i,m<=i->i<n->bey left k arr (base+i)=false)->Q (some m) st):wpS (model prog w) A E s (zCR left (.int k t,q) arr base n hint) Q st:=by
 refine vM (Wb (k:=k) h0 ∅ hk ?_)
 dsimp only
 cases hr:bey left k arr (base+hint)with
 | true=>
  rw[vC rfl];refine vM (uD (vo (I:=λx c st'=>st'=st/\∃lo of,c=(none,lo,of)/\hint+lo<n/\bey left k arr (base+(hint+lo))=true/\lo<of/\x+1<=of) (Q:=λc st'=>st'=st/\∃lo of,c=(none,lo,of)/\hint+lo<n/\bey left k arr (base+(hint+lo))=true/\lo<of/\(of>=n-hint\/bey left k arr (base+(hint+of))=false)) ?_ ?_ ⟨rfl,0,1,rfl,∅,hr,∅,∅⟩) ?_)
  ·rintro x c st' _ hx ⟨rfl,lo,of,rfl,b1,b2,b3,b4⟩
   dsimp only
   by_cases z:of>=n-hint
   ·rw[vC z]
    exact vO ⟨rfl,lo,of,rfl,b1,b2,b3,.inl z⟩
   ·rw[vF z]
    refine vM (Wb (k:=k) h0 ∅ hk ?_)
    dsimp only
    cases hb:bey left k arr (base+(hint+of))with
    | true=>
     rw[vF (by decide)];exact vO ⟨rfl,of,2*of+1,rfl,∅,hb,∅,∅⟩
    | false=>
     rw[vC (by decide)];exact vO ⟨rfl,lo,of,rfl,b1,b2,b3,.inr hb⟩
  ·rintro c st' ⟨rfl,lo,of,rfl,b1,b2,b3,b4⟩
   exact⟨rfl,lo,of,rfl,b1,b2,b3,.inl ∅⟩
  ·rintro c st' ⟨rfl,lo,of,rfl,b1,b2,b3,b4⟩
   dsimp only
   refine vM (uD (Q:=λc st2=>st2=st'/\∃lo hi,c=(none,lo,hi)/\lo<=hi/\hi<=n/\hi-lo<=0/\(∀i,i<lo->bey left k arr (base+i)=true)/\(∀i,hi<=i->i<n->bey left k arr (base+i)=false)) ?_ ?_)
   ·refine vo (I:=λx c st2=>st2=st'/\∃lo hi,c=(none,lo,hi)/\lo<=hi/\hi<=n/\hi-lo<=n-x/\(∀i,i<lo->bey left k arr (base+i)=true)/\(∀i,hi<=i->i<n->bey left k arr (base+i)=false)) ?_ ?_ ?_
    ·rintro x c st2 _ hx ⟨e2,lo,hi,rfl,b1,b2,b3,b4,b5⟩
     subst e2
     dsimp only
     by_cases z:lo>=hi
     ·rw[vC z]
      exact vO ⟨rfl,lo,hi,rfl,∅,b2,∅,b4,b5⟩
     ·rw[vF z]
      refine vM (Wb (k:=k) h0 ∅ hk ?_)
      dsimp only
      cases hb:bey left k arr (base+(lo+(hi-lo)/2))with
      | true=>
       rw[vC rfl];refine vO ⟨rfl,_,_,rfl,∅,b2,∅,λi hi'=>?_,b5⟩;exact Xb (hs _ _ (show i<=lo+(hi-lo)/2 by omega) ∅) hb
      | false=>
       rw[vF (by decide)];refine vO ⟨rfl,_,_,rfl,∅,∅,∅,b4,λi hi' hin=>?_⟩;cases hc:bey left k arr (base+i)with
       | false=>rfl
       | true=>rw[Xb (hs _ _ hi' hin) hc]at hb;cases hb
    ·rintro c st2 ⟨e2,lo,hi,rfl,b1,b2,b3,b4,b5⟩
     exact⟨e2,lo,hi,rfl,b1,b2,∅,b4,b5⟩
    refine⟨rfl,_,_,rfl,∅,∅,∅,λi hi=>?_,λi hi hin=>?_⟩
    ·exact Xb (hs _ _ ∅ b1) b2
    ·rcases b4 with b4|b4
     ·omega
     ·cases hc:bey left k arr (base+i)with
      | false=>rfl
      | true=>rw[Xb (hs (hint+of) i ∅ hin) hc]at b4;cases b4
   ·rintro c st2 ⟨e2,lo,hi,rfl,c1,c2,c3,c4,c5⟩
    subst e2;exact vO (h hi c2 (λi hi'=>c4 i ∅) c5)
 | false=>
  rw[vF (by decide)];refine vM (uD (vo (I:=λx c st'=>st'=st/\∃lo of,c=(none,lo,of)/\lo<=hint/\bey left k arr (base+(hint-lo))=false/\lo<of/\x+1<=of) (Q:=λc st'=>st'=st/\∃lo of,c=(none,lo,of)/\lo<=hint/\bey left k arr (base+(hint-lo))=false/\lo<of/\(of>=hint+1\/bey left k arr (base+(hint-of))=true)) ?_ ?_ ⟨rfl,0,1,rfl,∅,hr,∅,∅⟩) ?_)
  ·rintro x c st' _ hx ⟨rfl,lo,of,rfl,b1,b2,b3,b4⟩
   dsimp only
   by_cases z:of>=hint+1
   ·rw[vC z]
    exact vO ⟨rfl,lo,of,rfl,b1,b2,b3,.inl z⟩
   ·rw[vF z]
    refine vM (Wb (k:=k) h0 ∅ hk ?_)
    dsimp only
    cases hb:bey left k arr (base+(hint-of))with
    | true=>
     rw[vC rfl];exact vO ⟨rfl,lo,of,rfl,b1,b2,b3,.inr hb⟩
    | false=>
     rw[vF (by decide)];exact vO ⟨rfl,of,2*of+1,rfl,∅,hb,∅,∅⟩
  ·rintro c st' ⟨rfl,lo,of,rfl,b1,b2,b3,b4⟩
   exact⟨rfl,lo,of,rfl,b1,b2,b3,.inl ∅⟩
  ·rintro c st' ⟨rfl,lo,of,rfl,b1,b2,b3,b4⟩
   dsimp only
   refine vM (uD (Q:=λc st2=>st2=st'/\∃lo hi,c=(none,lo,hi)/\lo<=hi/\hi<=n/\hi-lo<=0/\(∀i,i<lo->bey left k arr (base+i)=true)/\(∀i,hi<=i->i<n->bey left k arr (base+i)=false)) ?_ ?_)
   ·refine vo (I:=λx c st2=>st2=st'/\∃lo hi,c=(none,lo,hi)/\lo<=hi/\hi<=n/\hi-lo<=n-x/\(∀i,i<lo->bey left k arr (base+i)=true)/\(∀i,hi<=i->i<n->bey left k arr (base+i)=false)) ?_ ?_ ?_
    ·rintro x c st2 _ hx ⟨e2,lo,hi,rfl,b1,b2,b3,b4,b5⟩
     subst e2
     dsimp only
     by_cases z:lo>=hi
     ·rw[vC z]
      exact vO ⟨rfl,lo,hi,rfl,∅,b2,∅,b4,b5⟩
     ·rw[vF z]
      refine vM (Wb (k:=k) h0 ∅ hk ?_)
      dsimp only
      cases hb:bey left k arr (base+(lo+(hi-lo)/2))with
      | true=>
       rw[vC rfl];refine vO ⟨rfl,_,_,rfl,∅,b2,∅,λi hi'=>?_,b5⟩;exact Xb (hs _ _ (show i<=lo+(hi-lo)/2 by omega) ∅) hb
      | false=>
       rw[vF (by decide)];refine vO ⟨rfl,_,_,rfl,∅,∅,∅,b4,λi hi' hin=>?_⟩;cases hc:bey left k arr (base+i)with
       | false=>rfl
       | true=>rw[Xb (hs _ _ hi' hin) hc]at hb;cases hb
    ·rintro c st2 ⟨e2,lo,hi,rfl,b1,b2,b3,b4,b5⟩
     exact⟨e2,lo,hi,rfl,b1,b2,∅,b4,b5⟩
    refine⟨rfl,_,_,rfl,∅,∅,∅,λi hi=>?_,λi hi hin=>?_⟩
    ·rcases b4 with b4|b4
     ·omega
     ·exact Xb (hs _ _ ∅ ∅) b4
    ·cases hc:bey left k arr (base+i)with
     | false=>rfl
     | true=>rw[Xb (hs (hint-lo) i ∅ hin) hc]at b2;cases b2
   ·rintro c st2 ⟨e2,lo,hi,rfl,c1,c2,c3,c4,c5⟩
    subst e2;exact vO (h hi c2 (λi hi'=>c4 i ∅) c5)
end
noncomputable def ke(p:vU):Int:=numOf p.1
abbrev Le(x y:vU):Prop:=ke x<=ke y
abbrev Srt(l:List vU):Prop:=l.Pairwise Le
structure Mg (al bl out:List vU) (i j:Nat):Prop where
 perm:(out++(al.drop i++bl.drop j)).Perm (al++bl)
 srt:Srt out
 lea:∀x∈out,∀y∈al.drop i,Le x y
 leb:∀x∈out,∀y∈bl.drop j,Le x y
structure Done (al bl r:List vU):Prop where
 perm:r.Perm (al++bl)
 srt:Srt r
variable{al bl out:List vU}{i j:Nat}
theorem XN(h:Srt al)(k:Nat):Srt (al.drop k):=h.sublist (Zw k al)
theorem zAi(l:List vU)(i k:Nat):l.drop i=(l.drop i).take k++l.drop (i+k):=by
 rw[<- YV,yU]
theorem Mg.a(m:Mg al bl out i j)(sa:Srt al)(k:Nat)(h:∀x∈(al.drop i).take k,∀y∈bl.drop j,Le x y):Mg al bl (out++(al.drop i).take k) (i+k) j:=by
 have e:=zAi al i k;have sd:Srt ((al.drop i).take k++al.drop (i+k)):=by rw[<- e];exact XN sa i
 obtain⟨s1,s2,s3⟩:=zW.mp sd;have hin:∀y∈(al.drop i).take k,y∈al.drop i:=λy hy=>xT hy;have hout:∀y∈al.drop (i+k),y∈al.drop i:=λy hy=>by rw[e];exact zd _ hy
 refine⟨?_,?_,λx hx y hy=>?_,λx hx y hy=>?_⟩
 ·have:out++(al.drop i).take k++(al.drop (i+k)++bl.drop j)=out++(al.drop i++bl.drop j):=by
   rw[zP,<- zP ((al.drop i).take k),<- e]
  rw[this];exact m.perm
 ·exact zW.mpr ⟨m.srt,s1,λx hx y hy=>m.lea x hx y (hin y hy)⟩
 ·rcases zT.mp hx with hx|hx
  ·exact m.lea x hx y (hout y hy)
  ·exact s3 x hx y hy
 ·rcases zT.mp hx with hx|hx
  ·exact m.leb x hx y hy
  ·exact h x hx y hy
theorem Mg.b(m:Mg al bl out i j)(sb:Srt bl)(k:Nat)(h:∀x∈(bl.drop j).take k,∀y∈al.drop i,Le x y):Mg al bl (out++(bl.drop j).take k) i (j+k):=by
 have e:=zAi bl j k;have sd:Srt ((bl.drop j).take k++bl.drop (j+k)):=by rw[<- e];exact XN sb j
 obtain⟨s1,s2,s3⟩:=zW.mp sd;have hin:∀y∈(bl.drop j).take k,y∈bl.drop j:=λy hy=>xT hy;have hout:∀y∈bl.drop (j+k),y∈bl.drop j:=λy hy=>by rw[e];exact zd _ hy
 refine⟨?_,?_,λx hx y hy=>?_,λx hx y hy=>?_⟩
 ·refine yq ?_ m.perm
  rw[zP];refine yI out ?_;refine yq ?_ (yI (al.drop i) (List.Perm.of_eq e.symm));rw[<- zP,<- zP];exact yp _ yr
 ·exact zW.mpr ⟨m.srt,s1,λx hx y hy=>m.leb x hx y (hin y hy)⟩
 ·rcases zT.mp hx with hx|hx
  ·exact m.lea x hx y hy
  ·exact h x hx y hy
 ·rcases zT.mp hx with hx|hx
  ·exact m.leb x hx y (hout y hy)
  ·exact s3 x hx y hy
theorem Mg.done(m:Mg al bl out i j)(sa:Srt al)(sb:Srt bl)(h:∀x∈al.drop i,∀y∈bl.drop j,Le x y):Done al bl (out++al.drop i++bl.drop j):=by
 refine⟨by rw[zP];exact m.perm,?_⟩;rw[zP];exact zW.mpr ⟨m.srt,zW.mpr ⟨XN sa i,XN sb j,h⟩,λx hx y hy=>(zT.mp hy).elim (m.lea x hx y) (m.leb x hx y)⟩
theorem Mg.last(m:Mg al bl out i j)(sa:Srt al)(sb:Srt bl)(h:∀y∈bl.drop j,∀x∈al.drop i,Le y x):Done al bl (out++bl.drop j++al.drop i):=by
 refine⟨?_,?_⟩
 ·rw[zP]
  exact(yI out yr).trans m.perm
 ·rw[zP]
  exact zW.mpr ⟨m.srt,zW.mpr ⟨XN sb j,XN sa i,h⟩,λx hx y hy=>(zT.mp hy).elim (m.leb x hx y) (m.lea x hx y)⟩
noncomputable def zBt:Array vU->Array vU->StateT vm Sem (Array vU):=sortPriv% PySem.Builtin.mergeLo
structure Kp (st st':vm):Prop where
 kind:kindOf st'=kindOf st
 arr:vT st'=vT st
 pend:va st'=va st
 fail:uR st'=uR st
theorem Kp.refl(st:vm):Kp st st:=⟨rfl,rfl,rfl,rfl⟩
theorem zBC{xs:Array vU}{i:Nat}{p:vU}(h:xs[i]?=some p):K xs i=ke p:=by unfold K ke;rw[h]
theorem drop_one{xs:Array vU}{i:Nat}{p:vU}(h:xs[i]?=some p):xs.toList.drop i=p::xs.toList.drop (i+1):=by
 obtain⟨hi,e⟩:=wY.mp h;rw[xN ⇑hi]
 congr 1
theorem Wq{xs:Array vU}{i:Nat}:(xs.extract i xs.size).toList=xs.toList.drop i:=by
 rw[xR,xp];exact yn (by simp)
theorem zAf{xs:Array vU}{i k:Nat}:(xs.extract i (i+k)).toList=(xs.toList.drop i).take k:=by
 simp[xR,List.extract_eq_drop_take]
theorem WS{l:List vU}(s:Srt l){i:Nat}{p:vU}{t:List vU}(h:l.drop i=p::t):∀y∈l.drop i,Le p y:=by
 have:=XN s i;rw[h]at this ⊢;intro y hy;rcases zG.mp hy with rfl|hy
 ·exact yB _
 ·exact(zZ.mp this).1 y hy
theorem zAk{xs:Array vU}{i:Nat}(h:xs.size<=i):xs.toList.drop i=[]:=List.drop_eq_nil_of_le ⇑h
theorem Mg.b1{a b out:Array vU}{i j:Nat}{p q:vU}(m:Mg a.toList b.toList out.toList i j)(sa:Srt a.toList)(sb:Srt b.toList)(hp:b[j]?=some p)(hq:a[i]?=some q)(h:Le p q):Mg a.toList b.toList (out.push p).toList i (j+1):=by
 have e:=drop_one hp;have:=m.b sb 1 (by
  rw[e];intro x hx y hy;have:x=p:=by simpa using hx
  subst this;exact yT h (WS sa (drop_one hq) y hy))
 rw[e]at this;simpa using this
theorem Mg.a1{a b out:Array vU}{i j:Nat}{p q:vU}(m:Mg a.toList b.toList out.toList i j)(sa:Srt a.toList)(sb:Srt b.toList)(hp:a[i]?=some p)(hq:b[j]?=some q)(h:Le p q):Mg a.toList b.toList (out.push p).toList (i+1) j:=by
 have e:=drop_one hp;have:=m.a sa 1 (by
  rw[e];intro x hx y hy;have:x=p:=by simpa using hx
  subst this;exact yT h (WS sb (drop_one hq) y hy))
 rw[e]at this;simpa using this
theorem Mg.dB{a b out:Array vU}{i j:Nat}(m:Mg a.toList b.toList out.toList i j)(sa:Srt a.toList)(sb:Srt b.toList)(h:b.size<=j):Done a.toList b.toList (out++a.extract i a.size++b.extract j b.size).toList:=by
 have:=m.done sa sb (λx _ y hy=>by rw[zAk h]at hy;cases hy);rw[z9,z9,Wq,Wq];exact this
theorem Mg.dA{a b out:Array vU}{i j:Nat}(m:Mg a.toList b.toList out.toList i j)(sa:Srt a.toList)(sb:Srt b.toList)(h:a.size<=i):Done a.toList b.toList (out++a.extract i a.size++b.extract j b.size).toList:=by
 have:=m.done sa sb (λx hx=>by rw[zAk h]at hx;cases hx);rw[z9,z9,Wq,Wq];exact this
theorem Mg.dL{a b out:Array vU}{i j:Nat}(m:Mg a.toList b.toList out.toList i j)(sa:Srt a.toList)(sb:Srt b.toList)(hl:∀y∈b.toList,∀x∈a.toList.drop (a.size-1),Le y x)(h:i+1=a.size):Done a.toList b.toList (out++b.extract j b.size++a.extract i a.size).toList:=by
 have:=m.last sa sb (λy hy x hx=>hl y (yz hy) x (by rw[show a.size-1=i by omega];exact hx));rw[z9,z9,Wq,Wq];exact this
end So
set_option maxHeartbeats 1000000
namespace So
open PySem PyProof.Rows
section
variable{prog:vS}{w:vZ}{A:vb}{E:vB->vG->Prop}{s:vG}
theorem Y1{xs:Array vU}{i:Nat}(h0:IntKeys xs)(h:i<xs.size):∃t q,xs[i]?=some (Value.int (K xs i) t,q):=by
 obtain⟨p,t,q,e,rfl⟩:=q7A h0 h;exact⟨t,q,e⟩
theorem zBe{xs:Array vU}(hs:Srt xs.toList){i j:Nat}(h1:i<=j)(h2:j<xs.size):K xs i<=K xs j:=by
 have e1:xs[i]?=some xs[i]:=getElem?_pos _ i ∅;have e2:xs[j]?=some xs[j]:=getElem?_pos _ j h2;rw[zBC e1,zBC e2];rcases zz i j with z|z
 ·exact xM.mp hs i j (by simp;omega) ⇑h2 z
 ·have:i=j:=∅
  subst this;exact yB _
noncomputable def zCW:Nat->StateT vm Sem Unit:=sortPriv% PySem.Builtin.setMinGallop
theorem Kp.trans{a b c:vm}(h:Kp a b)(h':Kp b c):Kp a c:=⟨h'.kind.trans h.kind,h'.arr.trans h.arr,h'.pend.trans h.pend,h'.fail.trans h.fail⟩
theorem Xt{g:Nat}{st:vm}{Q:Unit->vm->Prop}(h:∀st',Kp st st'->Q () st'):wpS (model prog w) A E s (zCW g) Q st:=ur (h _ ⟨rfl,rfl,rfl,rfl⟩)
theorem zAv{xs:Array vU}{i k:Nat}{v:Int}(h:∀t,t<k->i+t<xs.size->K xs (i+t)<=v):∀x∈(xs.toList.drop i).take k,ke x<=v:=by
 intro x hx;obtain⟨t,ht,e⟩:=zy.mp hx;rw[xA,xS]at e;rw[zv,yV]at ht;have hl:i+t<xs.size:=by simp at ht;omega
 have e2:xs[i+t]?=some x:=by rw[getElem?_pos xs (i+t) hl,<- e];rfl
 have:=h t ∅ hl;rw[zBC e2]at this;exact this
theorem zAL{k:Int}{xs:Array vU}{i:Nat}:(bey false k xs i=true->K xs i<=k)/\(bey false k xs i=false->k<K xs i):=by
 unfold bey;simp only[yc,if_false,Z5,decide_eq_false_iff_not,Bool.not_eq_false',decide_eq_true_eq];exact⟨λh=>∅,id⟩
theorem zAJ{k:Int}{xs:Array vU}{i:Nat}:(bey true k xs i=true->K xs i<k)/\(bey true k xs i=false->k<=K xs i):=by
 unfold bey;simp only[if_true,decide_eq_true_eq,decide_eq_false_iff_not];exact⟨id,λh=>∅⟩
theorem zAb{a b:Array vU}{st:vm}{Q:Array vU->vm->Prop}(ha:IntKeys a)(hb:IntKeys b)(sa:Srt a.toList)(sb:Srt b.toList)(na:1<=a.size)(nb:1<=b.size)(h1:K b 0<=K a 0)(hl:∀y∈b.toList,∀x∈a.toList.drop (a.size-1),Le y x)(hk:kindOf st=v7)(h:∀r st',Done a.toList b.toList r.toList->Kp st st'->Q r st'):wpS (model prog w) A E s (zBt a b) Q st:=by
 refine vM (tP (uB ⟨rfl,?_⟩));obtain⟨t0,q0,eb0⟩:=Y1 hb (show 0<b.size by omega);obtain⟨u0,r0,ea0⟩:=Y1 ha (show 0<a.size by omega);refine vM (Ys eb0 ?_);have m0:Mg a.toList b.toList (#[]:Array vU).toList 0 0:=⟨by simp,y0,λx hx=>by simp at hx,λx hx=>by simp at hx⟩;have m1:=m0.b1 sa sb eb0 ea0 (show K b 0<=K a 0 from h1);have m1:Mg a.toList b.toList (#[(Value.int (K b 0) t0,q0)]:Array vU).toList 0 1:=m1
 dsimp only
 by_cases z1:b.size=1
 ·rw[vC (by rw[z1];rfl)]
  exact vO (h _ st (m1.dB sa sb ∅) (Kp.refl st))
 rw[vF (by simp;omega)]
 by_cases z2:a.size=1
 ·rw[vC (by rw[z2];rfl)]
  exact vO (h _ st (m1.dL sa sb hl ∅) (Kp.refl st))
 rw[vF (by simp;omega)];refine vM (tH ?_);refine vM (uD (vo
  (I:=λx c st'=>∃o i j g,c=(none,o,i,j,g)/\Mg a.toList b.toList o.toList i j/\i+1<a.size/\j<b.size/\x+1<=i+j/\Kp st st')
  (Q:=λc st'=>∃r z,c=(some r,z)/\Done a.toList b.toList r.toList/\Kp st st') ?_ ?_ ⟨_,_,_,_,rfl,m1,∅,∅,∅,Kp.refl st⟩) ?_)
 ·rintro x c st1 _ hx ⟨o,i,j,g,rfl,m,b1,b2,b3,kp⟩
  dsimp only
  refine vM (uD (vo
   (I:=λy c st'=>∃o' i' j' ac bc,c=(none,o',i',j',ac,bc)/\Mg a.toList b.toList o'.toList i' j'/\i'+1<a.size/\j'<b.size/\i+j+y<=i'+j'/\Kp st st')
   (Q:=λc st'=>(∃r z,c=(some r,z)/\Done a.toList b.toList r.toList/\Kp st st')\/∃o' i' j' ac bc,c=(none,o',i',j',ac,bc)/\Mg a.toList b.toList o'.toList i' j'/\i'+1<a.size/\j'<b.size/\i+j+1<=i'+j'/\Kp st st') ?_ ?_ ⟨_,_,_,_,_,rfl,m,b1,b2,∅,kp⟩) ?_)
  ·rintro y c st2 _ hy ⟨o',i',j',ac,bc,rfl,m',d1,d2,d3,kp'⟩
   dsimp only
   obtain⟨t1,q1,eb⟩:=Y1 hb d2;obtain⟨u1,r1,ea⟩:=Y1 ha (show i'<a.size by omega);have hk':kindOf st2=v7:=kp'.kind.trans hk;refine vM (Ys eb (vM (Ys ea (vM (zAn hk' ?_)))))
   dsimp only
   by_cases hw:K b j'<K a i'
   ·rw[vQ hw,vC rfl]
    have m2:=m'.b1 sa sb eb ea (show K b j'<=K a i' by omega);refine vM (Ys eb ?_)
    by_cases z:j'+1=b.size
    ·rw[vC (by rw[z];exact beq_self_eq_true _)]
     exact vO (.inl ⟨_,_,rfl,m2.dB sa sb ∅,kp'⟩)
    ·rw[vF ⇑z]
     split
     ·exact vO (.inr ⟨_,_,_,_,_,rfl,m2,d1,∅,∅,kp'⟩)
     ·exact vO ⟨_,_,_,_,_,rfl,m2,d1,∅,∅,kp'⟩
   ·rw[vW hw,vF (by decide)]
    have m2:=m'.a1 sa sb ea eb (show K a i'<=K b j' by omega);refine vM (Ys ea ?_)
    by_cases z:i'+1+1=a.size
    ·rw[vC (by rw[z];exact beq_self_eq_true _)]
     exact vO (.inl ⟨_,_,rfl,m2.dL sa sb hl z,kp'⟩)
    ·rw[vF ⇑z]
     split
     ·exact vO (.inr ⟨_,_,_,_,_,rfl,m2,∅,d2,∅,kp'⟩)
     ·exact vO ⟨_,_,_,_,_,rfl,m2,∅,d2,∅,kp'⟩
  ·rintro c st2 ⟨o',i',j',ac,bc,rfl,m',d1,d2,d3,kp'⟩
   omega
  ·rintro c st2 (⟨r,z,rfl,dn,kp'⟩|⟨o',i',j',ac,bc,rfl,m',d1,d2,d3,kp'⟩)
   ·exact vO ⟨r,_,rfl,dn,kp'⟩
   ·dsimp only
    refine vM (tP (uB ⟨rfl,?_⟩));refine vM (uD (vo
     (I:=λy c st'=>∃o2 i2 j2 g2 ac bc,c=(none,o2,i2,j2,g2,ac,bc)/\Mg a.toList b.toList o2.toList i2 j2/\i2+1<a.size/\j2<b.size/\i'+j'+y<=i2+j2/\Kp st st')
     (Q:=λc st'=>(∃r z,c=(some r,z)/\Done a.toList b.toList r.toList/\Kp st st')\/∃o2 i2 j2 g2 ac bc,c=(none,o2,i2,j2,g2,ac,bc)/\Mg a.toList b.toList o2.toList i2 j2/\i2+1<a.size/\j2<b.size/\i'+j'<=i2+j2/\Kp st st') ?_ ?_ ⟨_,_,_,_,_,_,rfl,m',d1,d2,∅,kp'⟩) ?_)
    ·rintro y c st3 _ hy ⟨o2,i2,j2,g2,ac2,bc2,rfl,m2,e1,e2,e3,kp3⟩
     dsimp only
     obtain⟨t2,q2,eb⟩:=Y1 hb e2;obtain⟨u2,r2,ea⟩:=Y1 ha (show i2<a.size by omega);refine' (λ(key:∀gg,(_:Nat->Prop) gg)=>_) _
     rotate_left
     ·by_cases hg:g2>1
      ·rw[vC hg]
       generalize g2-1=gg;exact key gg
      ·rw[vF hg]
       exact key g2
     ·intro gg
      refine vM (Xt λst4 kp4=>?_);replace kp4:=kp3.trans kp4;have hk4:kindOf st4=v7:=kp4.kind.trans hk;refine vM (Ys eb ?_);refine vM (XU (k:=K b j2) ha hk4 ∅ ∅ (λs t h1 h2=>zBe sa ∅ ∅) λk g1 g2 g3=>?_)
      dsimp only
      by_cases hk0:k>0
      case' pos=>
       rw[vC hk0];have mA:=m2.a sa k (λx hx y hy=>yT (zAv (v:=K b j2) (λt h1 h2=>zAL.1 (g2 t h1)) x hx) (WS sb (drop_one eb) y hy));have mA:Mg a.toList b.toList (o2++a.extract i2 (i2+k)).toList (i2+k) j2:=by rw[z9,zAf];exact mA
       by_cases z:i2+k+1=a.size
       ·rw[vC (by rw[z];exact beq_self_eq_true _)]
        exact vO (.inl ⟨_,_,rfl,mA.dL sa sb hl z,kp4⟩)
       rw[vF ⇑z]
       by_cases z':i2+k=a.size
       ·rw[vC (by rw[z'];exact beq_self_eq_true _)]
        exact vO (.inl ⟨_,_,rfl,mA.dA sa sb ∅,kp4⟩)
       rw[vF ⇑z'];have i1:i2+k+1<a.size:=∅
       have hlt:K b j2<=K a (i2+k):=yx (zAL.2 (g3 k (zK _) ∅));have le1:i2<=i2+k:=∅
       generalize o2++a.extract i2 (i2+k)=oA at mA ⊢;generalize i2+k=iA at mA i1 hlt le1 ⊢
      case' neg=>
       rw[vF hk0];have mA:=m2;have i1:i2+1<a.size:=e1;have hlt:K b j2<=K a i2:=yx (zAL.2 (g3 0 ∅ ∅));generalize o2=oA at mA ⊢;generalize hiA:i2=iA at mA i1 hlt ⊢;have le1:i2<=iA:=∅
      all_goals
       obtain⟨u3,r3,eA⟩:=Y1 ha (show iA<a.size by omega);have mB:=mA.b1 sa sb eb eA hlt;refine vM (Ys eb ?_)
       by_cases z3:j2+1=b.size
       ·rw[vC (by rw[z3];exact beq_self_eq_true _)]
        exact vO (.inl ⟨_,_,rfl,mB.dB sa sb ∅,kp4⟩)
       rw[vF ⇑z3];refine vM (Ys eA ?_);refine vM (XU (k:=K a iA) hb hk4 ∅ ∅ (λs t h1 h2=>zBe sb ∅ ∅) λk2 p1 p2 p3=>?_)
       dsimp only
       by_cases hk2:k2>0
       case' pos=>
        rw[vC hk2];have mC:=mB.b sb k2 (λx hx y hy=>yT (zAv (v:=K a iA) (λt h1 h2=>yx (zAJ.1 (p2 t h1))) x hx) (WS sa (drop_one eA) y hy));rw[<- zAf,<- z9]at mC
        by_cases z4:j2+1+k2=b.size
        ·rw[vC (by rw[z4];exact beq_self_eq_true _)]
         exact vO (.inl ⟨_,_,rfl,mC.dB sa sb ∅,kp4⟩)
        rw[vF ⇑z4];have j1:j2+1+k2<b.size:=∅
        have hle:K a iA<=K b (j2+1+k2):=zAJ.2 (p3 k2 (zK _) ∅);have le2:j2+1<=j2+1+k2:=∅
        generalize oA.push (Value.int (K b j2) t2,q2)++b.extract (j2+1) (j2+1+k2)=oB at mC ⊢;generalize j2+1+k2=jB at mC j1 hle le2 ⊢
       case' neg=>
        rw[vF hk2];have mC:=mB;have j1:j2+1<b.size:=∅
        have hle:K a iA<=K b (j2+1):=zAJ.2 (p3 0 ∅ ∅);generalize oA.push (Value.int (K b j2) t2,q2)=oB at mC ⊢;generalize hjB:j2+1=jB at mC j1 hle ⊢;have le2:j2+1<=jB:=∅
       all_goals
        obtain⟨t5,q5,eB⟩:=Y1 hb j1;have mD:=mC.a1 sa sb eA eB hle;refine vM (Ys eA ?_)
        by_cases z5:iA+1+1=a.size
        ·rw[vC (by rw[z5];exact beq_self_eq_true _)]
         exact vO (.inl ⟨_,_,rfl,mD.dL sa sb hl z5,kp4⟩)
        rw[vF ⇑z5]
        by_cases z6:(decide (k<7)&&decide (k2<7))=true
        ·rw[vC z6]
         exact vO (.inr ⟨_,_,_,_,_,_,rfl,mD,∅,j1,∅,kp4⟩)
        ·rw[vF z6]
         exact vO ⟨_,_,_,_,_,_,rfl,mD,∅,j1,∅,kp4⟩
    ·rintro c st3 ⟨o2,i2,j2,g2,ac2,bc2,rfl,m2,e1,e2,e3,kp3⟩
     omega
    ·rintro c st3 (⟨r,z,rfl,dn,kp3⟩|⟨o2,i2,j2,g2,ac2,bc2,rfl,m2,e1,e2,e3,kp3⟩)
     ·exact vO ⟨r,_,rfl,dn,kp3⟩
     ·dsimp only
      refine vM (Xt λst4 kp4=>?_);exact vO ⟨_,_,_,_,rfl,m2,e1,e2,∅,kp3.trans kp4⟩
 ·rintro c st1 ⟨o,i,j,g,rfl,m,b1,b2,b3,kp⟩
  omega
 ·rintro c st1 ⟨r,z,rfl,dn,kp⟩
  exact vO (h r st1 dn kp)
end
end So
set_option maxHeartbeats 1000000
namespace So
open PySem PyProof.Rows
structure Mh (al bl out:List vU) (i j:Nat):Prop where
 perm:(al.take i++(bl.take j++out.reverse)).Perm (al++bl)
 srt:Srt out.reverse
 lea:∀x∈al.take i,∀y∈out,Le x y
 leb:∀x∈bl.take j,∀y∈out,Le x y
theorem XQ{l:List vU}(h:Srt l)(k:Nat):Srt (l.take k):=h.sublist (we k l)
theorem zBD(l:List vU){i k:Nat}(h:k<=i):l.take i=l.take k++(l.take i).drop k:=by
 have:=(yU k (l.take i)).symm;rw[ZQ,YN h]at this;exact this
variable{al bl out:List vU}{i j:Nat}
theorem Mh.a(m:Mh al bl out i j)(sa:Srt al){k:Nat}(hk:k<=i)(h:∀x∈bl.take j,∀y∈(al.take i).drop k,Le x y):Mh al bl (out++((al.take i).drop k).reverse) k j:=by
 have e:=zBD al hk;have sd:Srt (al.take k++(al.take i).drop k):=by rw[<- e];exact XQ sa i
 obtain⟨s1,s2,s3⟩:=zW.mp sd;refine⟨?_,?_,λx hx y hy=>?_,λx hx y hy=>?_⟩
 ·rw[xV,xk]
  refine yq ?_ m.perm;have e2:al.take i++(bl.take j++out.reverse)=al.take k++((al.take i).drop k++(bl.take j++out.reverse)):=by rw[<- zP (al.take k),<- e]
  rw[e2];refine yI _ ?_;rw[<- zP,<- zP];exact yp _ yr
 ·rw[xV,xk]
  exact zW.mpr ⟨s2,m.srt,λx hx y hy=>m.lea x (yz hx) y (yY.mp hy)⟩
 ·rcases zT.mp hy with hy|hy
  ·exact m.lea x (by rw[e];exact zu _ hx) y hy
  ·exact s3 x hx y (yY.mp hy)
 ·rcases zT.mp hy with hy|hy
  ·exact m.leb x hx y hy
  ·exact h x hx y (yY.mp hy)
theorem Mh.b(m:Mh al bl out i j)(sb:Srt bl){k:Nat}(hk:k<=j)(h:∀x∈al.take i,∀y∈(bl.take j).drop k,Le x y):Mh al bl (out++((bl.take j).drop k).reverse) i k:=by
 have e:=zBD bl hk;have sd:Srt (bl.take k++(bl.take j).drop k):=by rw[<- e];exact XQ sb j
 obtain⟨s1,s2,s3⟩:=zW.mp sd;refine⟨?_,?_,λx hx y hy=>?_,λx hx y hy=>?_⟩
 ·rw[xV,xk]
  have e2:bl.take k++((bl.take j).drop k++out.reverse)=bl.take j++out.reverse:=by rw[<- zP (bl.take k),<- e]
  rw[e2];exact m.perm
 ·rw[xV,xk]
  exact zW.mpr ⟨s2,m.srt,λx hx y hy=>m.leb x (yz hx) y (yY.mp hy)⟩
 ·rcases zT.mp hy with hy|hy
  ·exact m.lea x hx y hy
  ·exact h x hx y (yY.mp hy)
 ·rcases zT.mp hy with hy|hy
  ·exact m.leb x (by rw[e];exact zu _ hx) y hy
  ·exact s3 x hx y (yY.mp hy)
theorem Mh.done(m:Mh al bl out i j)(sa:Srt al)(sb:Srt bl)(h:∀x∈al.take i,∀y∈bl.take j,Le x y):Done al bl (al.take i++bl.take j++out.reverse):=by
 refine⟨by rw[zP];exact m.perm,?_⟩;refine zW.mpr ⟨zW.mpr ⟨XQ sa i,XQ sb j,h⟩,m.srt,λx hx y hy=>?_⟩;exact(zT.mp hx).elim (λhx=>m.lea x hx y (yY.mp hy)) (λhx=>m.leb x hx y (yY.mp hy))
theorem Mh.first(m:Mh al bl out i j)(sa:Srt al)(sb:Srt bl)(h:∀y∈bl.take j,∀x∈al.take i,Le y x):Done al bl (bl.take j++al.take i++out.reverse):=by
 refine⟨?_,?_⟩
 ·refine yq ?_ m.perm
  rw[<- zP];exact yp _ yr
 ·refine zW.mpr ⟨zW.mpr ⟨XQ sb j,XQ sa i,h⟩,m.srt,λx hx y hy=>?_⟩
  exact(zT.mp hx).elim (λhx=>m.leb x hx y (yY.mp hy)) (λhx=>m.lea x hx y (yY.mp hy))
theorem q1L{xs:Array vU}{i:Nat}{p:vU}(h:xs[i]?=some p):(xs.toList.take (i+1)).drop i=[p]:=by
 obtain⟨hi,e⟩:=wY.mp h;rw[YW,xN ⇑hi];simp[e]
theorem WU{xs:Array vU}(s:Srt xs.toList){i:Nat}{p:vU}(h:xs[i]?=some p):∀y∈xs.toList.take (i+1),Le y p:=by
 have sd:=XQ s (i+1);have e:=zBD xs.toList (show i<=i+1 by omega);rw[q1L h]at e;rw[e]at sd ⊢;intro y hy;rcases zT.mp hy with hy|hy
 ·exact(zW.mp sd).2.2 y hy p (by simp)
 ·have:y=p:=by simpa using hy
  rw[this];exact yB _
theorem Mh.a1{a b out:Array vU}{i j:Nat}{p q:vU}(m:Mh a.toList b.toList out.toList (i+1) (j+1))(sa:Srt a.toList)(sb:Srt b.toList)(hp:a[i]?=some p)(hq:b[j]?=some q)(h:Le q p):Mh a.toList b.toList (out.push p).toList i (j+1):=by
 have:=m.a sa (k:=i) ∅ (by
  rw[q1L hp];intro x hx y hy;have:y=p:=by simpa using hy
  subst this;exact yT (WU sb hq x hx) h)
 rw[q1L hp]at this;simpa using this
theorem Mh.b1{a b out:Array vU}{i j:Nat}{p q:vU}(m:Mh a.toList b.toList out.toList (i+1) (j+1))(sa:Srt a.toList)(sb:Srt b.toList)(hp:b[j]?=some p)(hq:a[i]?=some q)(h:Le q p):Mh a.toList b.toList (out.push p).toList (i+1) j:=by
 have:=m.b sb (k:=j) ∅ (by
  rw[q1L hp];intro x hx y hy;have:y=p:=by simpa using hy
  subst this;exact yT (WU sa hq x hx) h)
 rw[q1L hp]at this;simpa using this
theorem zBr{xs:Array vU}{i:Nat}:(xs.extract 0 i).toList=xs.toList.take i:=by
 rw[xR,xp];simp
theorem zAW{xs:Array vU}{i k:Nat}:(xs.extract k i).toList=(xs.toList.take i).drop k:=by
 rw[xR,xp,YW]
theorem Mh.d0{a b out:Array vU}{i j:Nat}(m:Mh a.toList b.toList out.toList i j)(sa:Srt a.toList)(sb:Srt b.toList)(h:i=0\/j=0):Done a.toList b.toList (a.extract 0 i++b.extract 0 j++out.reverse).toList:=by
 have:=m.done sa sb (λx hx y hy=>by
  rcases h with rfl|rfl
  ·simp at hx
  ·simp at hy)
 rw[z9,z9,zBr,zBr,xl];exact this
theorem Mh.dF{a b out:Array vU}{i j:Nat}(m:Mh a.toList b.toList out.toList i j)(sa:Srt a.toList)(sb:Srt b.toList)(hf:∀y∈b.toList.take 1,∀x∈a.toList,Le y x)(h:j=1):Done a.toList b.toList (b.extract 0 j++a.extract 0 i++out.reverse).toList:=by
 have:=m.first sa sb (λy hy x hx=>hf y (by rw[h]at hy;exact hy) x (xT hx))
 rw[z9,z9,zBr,zBr,xl];exact this
end So
set_option maxHeartbeats 1000000
namespace So
open PySem PyProof.Rows
noncomputable def zB6:Array vU->Array vU->StateT vm Sem (Array vU):=sortPriv% PySem.Builtin.mergeHi
section
variable{prog:vS}{w:vZ}{A:vb}{E:vB->vG->Prop}{s:vG}
theorem zAs{xs:Array vU}{i k:Nat}{v:Int}(h:∀t,k<=t->t<i->v<=K xs t):∀x∈(xs.toList.take i).drop k,v<=ke x:=by
 intro x hx;obtain⟨t,ht,e⟩:=zy.mp hx;rw[xS,xA]at e;rw[yV,zv]at ht;have hl:k+t<xs.size:=by simp at ht;omega
 have e2:xs[k+t]?=some x:=by rw[getElem?_pos xs (k+t) hl,<- e];rfl
 have:=h (k+t) ∅ ∅;rw[zBC e2]at this;exact this
theorem zAV{a b:Array vU}{st:vm}{Q:Array vU->vm->Prop}(ha:IntKeys a)(hb:IntKeys b)(sa:Srt a.toList)(sb:Srt b.toList)(na:1<=a.size)(nb:1<=b.size)(h1:K b (b.size-1)<=K a (a.size-1))(hf:∀y∈b.toList.take 1,∀x∈a.toList,Le y x)(hk:kindOf st=v7)(h:∀r st',Done a.toList b.toList r.toList->Kp st st'->Q r st'):wpS (model prog w) A E s (zB6 a b) Q st:=by
 refine vM (tP (uB ⟨rfl,?_⟩));obtain⟨t0,q0,ea0⟩:=Y1 ha (show a.size-1<a.size by omega);obtain⟨u0,r0,eb0⟩:=Y1 hb (show b.size-1<b.size by omega);refine vM (Ys ea0 ?_);have m0:Mh a.toList b.toList (#[]:Array vU).toList (a.size-1+1) (b.size-1+1):=by
  rw[show a.size-1+1=a.size by omega,show b.size-1+1=b.size by omega];refine⟨?_,y0,λx _ y hy=>by simp at hy,λx _ y hy=>by simp at hy⟩;rw[yn (by simp),yn (by simp)];simp
 have m1:=m0.a1 sa sb ea0 eb0 (show K b (b.size-1)<=K a (a.size-1)from h1);rw[show b.size-1+1=b.size by omega]at m1;have m1:Mh a.toList b.toList (#[(Value.int (K a (a.size-1)) t0,q0)]:Array vU).toList (a.size-1) b.size:=m1
 dsimp only
 by_cases z1:a.size-1=0
 ·rw[vC (by rw[z1];rfl)]
  exact vO (h _ st (m1.d0 sa sb (.inl z1)) (Kp.refl st))
 rw[vF ⇑z1]
 by_cases z2:b.size=1
 ·rw[vC (by rw[z2];rfl)]
  exact vO (h _ st (m1.dF sa sb hf z2) (Kp.refl st))
 rw[vF ⇑z2];refine vM (tH ?_);refine vM (uD (vo
  (I:=λx c st'=>∃o i j g,c=(none,i,j,o,g)/\Mh a.toList b.toList o.toList i j/\1<=i/\2<=j/\i<=a.size/\j<=b.size/\x+1+i+j<=a.size+b.size/\Kp st st')
  (Q:=λc st'=>∃r z,c=(some r,z)/\Done a.toList b.toList r.toList/\Kp st st') ?_ ?_ ⟨_,_,_,_,rfl,m1,∅,∅,∅,∅,∅,Kp.refl st⟩) ?_)
 ·rintro x c st1 _ hx ⟨o,i,j,g,rfl,m,b1,b2,b3,b4,b5,kp⟩
  dsimp only
  refine vM (uD (vo
   (I:=λy c st'=>∃o' i' j' ac bc,c=(none,i',j',o',ac,bc)/\Mh a.toList b.toList o'.toList i' j'/\1<=i'/\2<=j'/\i'<=a.size/\j'<=b.size/\y+i'+j'<=i+j/\Kp st st')
   (Q:=λc st'=>(∃r z,c=(some r,z)/\Done a.toList b.toList r.toList/\Kp st st')\/∃o' i' j' ac bc,c=(none,i',j',o',ac,bc)/\Mh a.toList b.toList o'.toList i' j'/\1<=i'/\2<=j'/\i'<=a.size/\j'<=b.size/\1+i'+j'<=i+j/\Kp st st') ?_ ?_ ⟨_,_,_,_,_,rfl,m,b1,b2,b3,b4,∅,kp⟩) ?_)
  ·rintro y c st2 _ hy ⟨o',i',j',ac,bc,rfl,m',c1,c2,c3,c4,c5,kp'⟩
   dsimp only
   obtain⟨i',rfl⟩:∃n,i'=n+1:=⟨i'-1,∅⟩;obtain⟨j',rfl⟩:∃n,j'=n+1:=⟨j'-1,∅⟩;simp only[xK];obtain⟨t1,q1,eb⟩:=Y1 hb (show j'<b.size by omega);obtain⟨u1,r1,ea⟩:=Y1 ha (show i'<a.size by omega);have hk':kindOf st2=v7:=kp'.kind.trans hk;refine vM (Ys eb (vM (Ys ea (vM (zAn hk' ?_)))))
   dsimp only
   by_cases hw:K b j'<K a i'
   ·rw[vQ hw,vC rfl]
    have m2:=m'.a1 sa sb ea eb (show K b j'<=K a i' by omega);refine vM (Ys ea ?_)
    by_cases z:i'=0
    ·rw[vC (by rw[z];rfl)]
     exact vO (.inl ⟨_,_,rfl,m2.d0 sa sb (.inl z),kp'⟩)
    ·rw[vF ⇑z]
     split
     ·exact vO (.inr ⟨_,_,_,_,_,rfl,m2,∅,∅,∅,∅,∅,kp'⟩)
     ·exact vO ⟨_,_,_,_,_,rfl,m2,∅,∅,∅,∅,∅,kp'⟩
   ·rw[vW hw,vF (by decide)]
    have m2:=m'.b1 sa sb eb ea (show K a i'<=K b j' by omega);refine vM (Ys eb ?_)
    by_cases z:j'=1
    ·rw[vC (by rw[z];rfl)]
     exact vO (.inl ⟨_,_,rfl,m2.dF sa sb hf z,kp'⟩)
    ·rw[vF ⇑z]
     split
     ·exact vO (.inr ⟨_,_,_,_,_,rfl,m2,∅,∅,∅,∅,∅,kp'⟩)
     ·exact vO ⟨_,_,_,_,_,rfl,m2,∅,∅,∅,∅,∅,kp'⟩
  ·rintro c st2 ⟨o',i',j',ac,bc,rfl,m',c1,c2,c3,c4,c5,kp'⟩
   omega
  ·rintro c st2 (⟨r,z,rfl,dn,kp'⟩|⟨o',i',j',ac,bc,rfl,m',c1,c2,c3,c4,c5,kp'⟩)
   ·exact vO ⟨r,_,rfl,dn,kp'⟩
   ·dsimp only
    refine vM (tP (uB ⟨rfl,?_⟩));refine vM (uD (vo
     (I:=λy c st'=>∃o2 i2 j2 g2 ac bc,c=(none,i2,j2,o2,g2,ac,bc)/\Mh a.toList b.toList o2.toList i2 j2/\1<=i2/\2<=j2/\i2<=a.size/\j2<=b.size/\y+i2+j2<=i'+j'/\Kp st st')
     (Q:=λc st'=>(∃r z,c=(some r,z)/\Done a.toList b.toList r.toList/\Kp st st')\/∃o2 i2 j2 g2 ac bc,c=(none,i2,j2,o2,g2,ac,bc)/\Mh a.toList b.toList o2.toList i2 j2/\1<=i2/\2<=j2/\i2<=a.size/\j2<=b.size/\i2+j2<=i'+j'/\Kp st st') ?_ ?_ ⟨_,_,_,_,_,_,rfl,m',c1,c2,c3,c4,∅,kp'⟩) ?_)
    ·rintro y c st3 _ hy ⟨o2,i2,j2,g2,ac2,bc2,rfl,m2,e1,e2,e3,e4,e5,kp3⟩
     dsimp only
     obtain⟨jB,rfl⟩:∃n,j2=n+1:=⟨j2-1,∅⟩;simp only[xK];obtain⟨t2,q2,eb⟩:=Y1 hb (show jB<b.size by omega);refine' (λ(key:∀gg,(_:Nat->Prop) gg)=>_) _
     rotate_left
     ·by_cases hg:g2>1
      ·rw[vC hg]
       generalize g2-1=gg;exact key gg
      ·rw[vF hg]
       exact key g2
     ·intro gg
      refine vM (Xt λst4 kp4=>?_);replace kp4:=kp3.trans kp4;have hk4:kindOf st4=v7:=kp4.kind.trans hk;refine vM (Ys eb ?_);refine vM (XU (k:=K b jB) ha hk4 ∅ ∅ (λs t h1 h2=>zBe sa ∅ ∅) λk g1 g2 g3=>?_);simp only[yj]at g2 g3
      dsimp only
      by_cases hk0:i2-k>0
      case' pos=>
       rw[vC hk0];have mA:=m2.a sa g1 (λx hx y hy=>yT (WU sb eb x hx) (zAs (v:=K b jB) (λt h1 h2=>yx (zAL.2 (g3 t h1 h2))) y hy));have mA:Mh a.toList b.toList (o2++(a.extract k i2).reverse).toList k (jB+1):=by rw[z9,xl,zAW];exact mA
       by_cases z:k=0
       ·rw[vC (by rw[z];rfl)]
        exact vO (.inl ⟨_,_,rfl,mA.d0 sa sb (.inl z),kp4⟩)
       rw[vF ⇑z];have hle:K a (k-1)<=K b jB:=zAL.1 (g2 (k-1) ∅);have i1:1<=k/\k<=i2:=⟨∅,g1⟩;generalize o2++(a.extract k i2).reverse=oA at mA ⊢;generalize i2-k=kA;generalize k=iA at mA hle i1 ⊢
      case' neg=>
       rw[vF hk0];have mA:=m2;have hle:K a (i2-1)<=K b jB:=zAL.1 (g2 (i2-1) ∅);have i1:1<=i2/\i2<=i2:=⟨e1,zK _⟩;generalize o2=oA at mA ⊢;generalize i2-k=kA;generalize hiA:i2=iA at mA hle ⊢;rw[hiA]at i1;have i1:1<=iA/\iA<=i2:=⟨i1.1,∅⟩
      all_goals
       obtain⟨iB,rfl⟩:∃n,iA=n+1:=⟨iA-1,∅⟩;simp only[xK]at hle ⊢;obtain⟨u3,r3,eA⟩:=Y1 ha (show iB<a.size by omega);have mB:=mA.b1 sa sb eb eA hle;refine vM (Ys eb ?_)
       by_cases z3:jB=1
       ·rw[vC (by rw[z3];rfl)]
        exact vO (.inl ⟨_,_,rfl,mB.dF sa sb hf z3,kp4⟩)
       rw[vF ⇑z3];refine vM (Ys eA ?_);refine vM (XU (k:=K a iB) hb hk4 ∅ ∅ (λs t h1 h2=>zBe sb ∅ ∅) λk2 p1 p2 p3=>?_);simp only[yj]at p2 p3
       dsimp only
       by_cases hk2:jB-k2>0
       case' pos=>
        rw[vC hk2];have mC:=mB.b sb p1 (λx hx y hy=>yT (WU sa eA x hx) (zAs (v:=K a iB) (λt h1 h2=>zAJ.2 (p3 t h1 h2)) y hy));rw[<- zAW,<- xl,<- z9]at mC
        by_cases z4:k2=1
        ·rw[vC (by rw[z4];rfl)]
         exact vO (.inl ⟨_,_,rfl,mC.dF sa sb hf z4,kp4⟩)
        rw[vF ⇑z4]
        by_cases z4':k2=0
        ·rw[vC (by rw[z4'];rfl)]
         exact vO (.inl ⟨_,_,rfl,mC.d0 sa sb (.inr z4'),kp4⟩)
        rw[vF ⇑z4'];have hle2:K b (k2-1)<=K a iB:=yx (zAJ.1 (p2 (k2-1) ∅));have j1:2<=k2/\k2<=jB:=⟨∅,p1⟩;generalize oA.push (Value.int (K b jB) t2,q2)++(b.extract k2 jB).reverse=oB at mC ⊢;generalize jB-k2=kB;generalize k2=jC at mC hle2 j1 ⊢
       case' neg=>
        rw[vF hk2];have mC:=mB;have hle2:K b (jB-1)<=K a iB:=yx (zAJ.1 (p2 (jB-1) ∅));generalize oA.push (Value.int (K b jB) t2,q2)=oB at mC ⊢;generalize jB-k2=kB;generalize hjC:jB=jC at mC hle2 ⊢;have j1:2<=jC/\jC<=jB:=⟨∅,∅⟩
       all_goals
        obtain⟨jD,rfl⟩:∃n,jC=n+1:=⟨jC-1,∅⟩;simp only[xK]at hle2;obtain⟨t5,q5,eB⟩:=Y1 hb (show jD<b.size by omega);have mD:=mC.a1 sa sb eA eB hle2;refine vM (Ys eA ?_)
        by_cases z5:iB=0
        ·rw[vC (by rw[z5];rfl)]
         exact vO (.inl ⟨_,_,rfl,mD.d0 sa sb (.inl z5),kp4⟩)
        rw[vF ⇑z5]
        by_cases z6:(decide (kA<7)&&decide (kB<7))=true
        ·rw[vC z6]
         exact vO (.inr ⟨_,_,_,_,_,_,rfl,mD,∅,∅,∅,∅,∅,kp4⟩)
        ·rw[vF z6]
         exact vO ⟨_,_,_,_,_,_,rfl,mD,∅,∅,∅,∅,∅,kp4⟩
    ·rintro c st3 ⟨o2,i2,j2,g2,ac2,bc2,rfl,m2,e1,e2,e3,e4,e5,kp3⟩
     omega
    ·rintro c st3 (⟨r,z,rfl,dn,kp3⟩|⟨o2,i2,j2,g2,ac2,bc2,rfl,m2,e1,e2,e3,e4,e5,kp3⟩)
     ·exact vO ⟨r,_,rfl,dn,kp3⟩
     ·dsimp only
      refine vM (Xt λst4 kp4=>?_);exact vO ⟨_,_,_,_,rfl,m2,e1,e2,e3,e4,∅,kp3.trans kp4⟩
 ·rintro c st1 ⟨o,i,j,g,rfl,m,b1,b2,b3,b4,b5,kp⟩
  omega
 ·rintro c st1 ⟨r,z,rfl,dn,kp⟩
  exact vO (h r st1 dn kp)
end
end So
set_option maxHeartbeats 1000000
namespace So
open PySem PyProof.Rows
theorem zCS{P:List vU}{x y:vU}{S:List vU}{n:Nat}(h:n=P.length):(P++x::S).set n y=P++y::S:=by
 subst h;rw[List.set_append_right _ _ (zK _),Z0];rfl
theorem zAu(s:Nat):∀(ys:List vU)(n:Nat)(xs:Array vU)(P M S:List vU),xs.toList=P++M++S->P.length=s+n->M.length=ys.length ->
  ((ys.zipIdx n).foldl (λa p=>a.setIfInBounds (s+p.2) p.1) xs).toList=P++ys++S
 | [],n,xs,P,M,S,h,hp,hm=>by
  have:M=[]:=wx.mp hm;subst this;exact h
 | y::ys,n,xs,P,M,S,h,hp,hm=>by
  cases M with
  | nil=>cases hm
  | cons x M=>
   rw[ww,YI];have h2:(xs.setIfInBounds (s+n) y).toList=(P++[y])++M++S:=by
    rw[wZ,h];have:P++x::M++S=P++x::(M++S):=by simp
    rw[this,zCS ∅];simp
   rw[zAu s ys (n+1) _ (P++[y]) M S h2 (by simp;omega) ⇑hm];simp
section
variable{prog:vS}{w:vZ}{A:vb}{E:vB->vG->Prop}{s:vG}
theorem WV{xs ys:Array vU}(h:IntKeys xs)(hs:∀p∈ys.toList,p∈xs.toList):IntKeys ys:=λp hp=>h p (hs p hp)
theorem zBf{X M Y:List vU}(h1:Srt X)(h2:Srt M)(h3:Srt Y)(h12:∀x∈X,∀y∈M,Le x y)(h13:∀x∈X,∀y∈Y,Le x y)(h23:∀x∈M,∀y∈Y,Le x y):Srt (X++M++Y) :=
 zW.mpr ⟨zW.mpr ⟨h1,h2,h12⟩,h3,λx hx y hy=>(zT.mp hx).elim (λhx=>h13 x hx y hy) (λhx=>h23 x hx y hy)⟩
theorem zCY{σ:Type}{M:Model}{x:σ}{Q:PUnit->σ->Prop}{st:σ}(h:Q ⟨⟩ x):wpS M A E s (set x:StateT σ Sem PUnit) Q st:=by
 unfold wpS;rw[StateT.run_set];exact vH ⟨rfl,h⟩
theorem zCT{arr:Array vU}{P X S:List vU}{s0 t:Nat}(hl:arr.toList=P++X++S)(hp:P.length=s0)(ht:t<X.length):arr[s0+t]?=X[t]?:=by
 rw[<- zn,hl,zP,zh ∅,show s0+t-P.length=t by omega,zo ht]
theorem Wl{arr:Array vU}{P X S:List vU}{s0 t:Nat}(hl:arr.toList=P++X++S)(hp:P.length=s0)(ht:t<X.length):K arr (s0+t)=ke X[t]:=by
 have:=zCT hl hp ht;rw[zE ht]at this;exact zBC this
theorem zAA{arr:Array vU}{P X S:List vU}{s0:Nat}(hl:arr.toList=P++X++S)(hp:P.length=s0)(hs:Srt X):∀i j,i<=j->j<X.length->K arr (s0+i)<=K arr (s0+j):=λi j h1 h2=>by
 rw[Wl hl hp ∅,Wl hl hp h2];rcases zz i j with z|z
 ·exact xM.mp hs i j ∅ h2 z
 ·have:i=j:=∅
  subst this;exact yB _
theorem X4{X:List vU}{k:Nat}{x:vU}(h:x∈X.take k):∃t,∃(ht:t<X.length),t<k/\X[t]=x:=by
 obtain⟨t,ht,e⟩:=zy.mp h;rw[zv]at ht;rw[xA]at e;exact⟨t,∅,∅,e⟩
theorem Xx{X:List vU}{k:Nat}{x:vU}(h:x∈X.drop k):∃t,∃(ht:t<X.length),k<=t/\X[t]=x:=by
 obtain⟨t,ht,e⟩:=zy.mp h;rw[yV]at ht;rw[xS]at e;exact⟨k+t,∅,∅,e⟩
theorem zBB{arr:Array vU}{P X S:List vU}{s0 e0:Nat}(hl:arr.toList=P++X++S)(hp:P.length=s0)(he:e0=s0+X.length):(arr.extract s0 e0).toList=X:=by
 rw[zAW,hl,zP];subst he;rw[<- hp,<- zC,<- zP,YX,List.drop_left]
theorem zAa{st:vm}{i sa na pw sb nb pw2:Nat}{P S RA RB:List vU}{Q:Bool->vm->Prop}(h0:IntKeys (vT st))(hk:kindOf st=v7)(hfl:uR st=none)(p1:(va st)[i]?=some (sa,na,pw))(p2:(va st)[i+1]?=some (sb,nb,pw2))(hl:(vT st).toList=P++RA++RB++S)(lP:P.length=sa)(lA:RA.length=na)(lB:RB.length=nb)(hsb:sb=sa+na)(n1:1<=na)(n2:1<=nb)(sA:Srt RA)(sB:Srt RB)(h:∀st' R,kindOf st'=v7->uR st'=none->va st'=((va st).setIfInBounds i (sa,na+nb,pw)).eraseIdxIfInBounds (i+1)->(vT st').toList=P++R++S->R.Perm (RA++RB)->Srt R->Q true st'):wpS (model prog w) A E s (mergeAt' i) Q st:=by
 cases st with
 | mk kd arr pe gl fa=>
 dsimp only[vT,kindOf,va,uR]at h0 hk hfl p1 p2 hl
 refine vM (tH ?_)
 dsimp only
 rw[p1,p2]
 dsimp only
 refine vM (zCY ?_);generalize hst2:SortSt.mk' kd arr ((pe.setIfInBounds i (sa,na+nb,pw)).eraseIdxIfInBounds (i+1)) gl fa=st2;have k2:kindOf st2=v7:=by rw[<- hst2];exact hk
 have f2:uR st2=none:=by rw[<- hst2];exact hfl
 have pd2:va st2=(pe.setIfInBounds i (sa,na+nb,pw)).eraseIdxIfInBounds (i+1):=by rw[<- hst2]
 have ar2:vT st2=arr:=by rw[<- hst2]
 change wpS _ _ _ _ _ _ (SortSt.mk' kd arr ((pe.setIfInBounds i (sa,na+nb,pw)).eraseIdxIfInBounds (i+1)) gl fa)
 rw[hst2];have hlA:arr.toList=P++RA++(RB++S):=by rw[hl];simp
 have hlB:arr.toList=(P++RA)++RB++S:=by rw[hl]
 have lPA:(P++RA).length=sb:=by rw[zC];omega
 have hsz:arr.size=sa+na+nb+S.length:=by
  have:=uL xh hl;simp only[zC,zO]at this;omega
 obtain⟨t0,q0,eb0⟩:=Y1 h0 (show sb<arr.size by omega);have kb0:K arr sb=ke RB[0]:=Wl (t:=0) hlB lPA ∅;refine vM (Ys eb0 ?_);refine vM (XU (k:=K arr sb) h0 k2 ∅ ∅ (λi j h1 h2=>zAA hlA lP sA i j h1 ∅) λk g1 g2 g3=>?_)
 dsimp only
 have a1:∀x∈RA.take k,ke x<=K arr sb:=λx hx=>by
  obtain⟨t,ht,hk',rfl⟩:=X4 hx;rw[<- Wl hlA lP ht];exact zAL.1 (g2 t hk')
 have a2:∀x∈RA.drop k,K arr sb<ke x:=λx hx=>by
  obtain⟨t,ht,hk',rfl⟩:=Xx hx;rw[<- Wl hlA lP ht];exact zAL.2 (g3 t hk' ∅)
 have bb:∀x∈RB,K arr sb<=ke x:=λx hx=>by
  obtain⟨t,ht,rfl⟩:=zy.mp hx;rw[<- Wl hlB lPA ht];exact zAA hlB lPA sB 0 t ∅ ht
 by_cases z1:na-k=0
 ·rw[vC (by rw[z1];rfl)]
  refine vO (h st2 (RA++RB) k2 f2 pd2 (by rw[ar2,hl];simp) (xJ _) (zW.mpr ⟨sA,sB,λx hx y hy=>?_⟩));have e:RA.take k=RA:=yn ∅;exact yT (a1 x (by rw[e];exact hx)) (bb y hy)
 rw[vF ⇑z1];have hla:sa+k+(na-k)-1=sa+(na-1):=∅
 rw[hla];obtain⟨t1,q1,ea1⟩:=Y1 h0 (show sa+(na-1)<arr.size by omega);have ka:K arr (sa+(na-1))=ke RA[na-1]:=Wl hlA lP ∅;refine vM (Ys ea1 ?_);refine vM (XU (k:=K arr (sa+(na-1))) h0 k2 ∅ ∅ (λi j h1 h2=>zAA hlB lPA sB i j h1 ∅) λm c1 c2 c3=>?_)
 dsimp only
 have b1:∀x∈RB.take m,ke x<K arr (sa+(na-1)):=λx hx=>by
  obtain⟨t,ht,hk',rfl⟩:=X4 hx;rw[<- Wl hlB lPA ht];exact zAJ.1 (c2 t hk')
 have b2:∀x∈RB.drop m,K arr (sa+(na-1))<=ke x:=λx hx=>by
  obtain⟨t,ht,hk',rfl⟩:=Xx hx;rw[<- Wl hlB lPA ht];exact zAJ.2 (c3 t hk' ∅)
 have aa:∀x∈RA,ke x<=K arr (sa+(na-1)):=λx hx=>by
  obtain⟨t,ht,rfl⟩:=zy.mp hx;rw[<- Wl hlA lP ht];exact zAA hlA lP sA t (na-1) ∅ ∅
 by_cases z2:m=0
 ·rw[vC (by rw[z2];rfl)]
  refine vO (h st2 (RA++RB) k2 f2 pd2 (by rw[ar2,hl];simp) (xJ _) (zW.mpr ⟨sA,sB,λx hx y hy=>?_⟩));exact yT (aa x hx) (b2 y (by rw[z2];exact hy))
 rw[vF ⇑z2];have eA:RA=RA.take k++RA.drop k:=(yU k RA).symm;have eB:RB=RB.take m++RB.drop m:=(yU m RB).symm;have hx:(arr.extract (sa+k) sb).toList=RA.drop k:=zBB (P:=P++RA.take k) (S:=RB++S) (by rw[hlA,zP P (RA.take k),yU]) (by rw[zC,zv];omega) (by rw[yV];omega);have hy:(arr.extract sb (sb+m)).toList=RB.take m:=zBB (P:=P++RA) (S:=RB.drop m++S) (by rw[hlB,zP (P++RA) (RB.take m),show RB.take m++(RB.drop m++S)=RB++S by rw[<- zP,yU],zP (P++RA)]) lPA (by rw[zv];omega);generalize hX:arr.extract (sa+k) sb=X at hx;generalize hY:arr.extract sb (sb+m)=Y at hy;have lX:X.size=na-k:=by rw[<- zO,hx,yV];omega
 have lY:Y.size=m:=by rw[<- zO,hy,zv];omega
 have iX:IntKeys X:=WV h0 λp hp=>by rw[hx]at hp;rw[hlA];have:=yz hp;simp[this]
 have iY:IntKeys Y:=WV h0 λp hp=>by rw[hy]at hp;rw[hlB];have:=xT hp;simp[this]
 have sX:Srt X.toList:=by rw[hx];exact XN sA k
 have sY:Srt Y.toList:=by rw[hy];exact XQ sB m
 have memX:∀i,i<X.size->∃x∈RA.drop k,K X i=ke x:=λi hi=>by
  have e:X[i]?=some X[i]:=getElem?_pos _ i hi;exact⟨X[i],by rw[<- hx];simp,zBC e⟩
 have memY:∀i,i<Y.size->∃x∈RB.take m,K Y i=ke x:=λi hi=>by
  have e:Y[i]?=some Y[i]:=getElem?_pos _ i hi;exact⟨Y[i],by rw[<- hy];simp,zBC e⟩
 have q1:∀x∈RA.drop k,∀y∈RB.take 1,Le y x:=λx hx y hy=>by
  obtain⟨t,ht,hk',rfl⟩:=X4 hy;have:t=0:=∅
  subst this;have:=a2 x hx;show ke RB[0]<=ke x;rw[<- kb0];omega
 have h1:K Y 0<=K X 0:=by
  obtain⟨x,hx',ex⟩:=memX 0 ∅;have e:Y[0]?=some Y[0]:=getElem?_pos _ 0 ∅;rw[ex,zBC e];refine q1 x hx' _ ?_;have:Y.toList.take 1=RB.take 1:=by rw[hy,ZQ];congr 1;omega
  rw[<- this];have:=drop_one e;rw[YY]at this;rw[this];simp
 have hlast:∀y∈Y.toList,∀x∈X.toList.drop (X.size-1),Le y x:=λy hy' x hx'=>by
  rw[hy]at hy';rw[hx,YV]at hx';obtain⟨t,ht,hk',rfl⟩:=Xx hx';have:t=na-1:=∅
  subst this;have:=b1 y hy';show ke y<=ke RA[na-1];rw[<- ka];omega
 have h1':K Y (Y.size-1)<=K X (X.size-1):=by
  obtain⟨y,hy',ey⟩:=memY (Y.size-1) ∅;have e:X[X.size-1]?=some X[X.size-1]:=getElem?_pos _ _ ∅;rw[ey,zBC e];refine hlast y (by rw[hy];exact hy') _ ?_;rw[drop_one e];simp
 have hfirst:∀y∈Y.toList.take 1,∀x∈X.toList,Le y x:=λy hy' x hx'=>by
  rw[hy,ZQ]at hy';rw[hx]at hx';exact q1 x hx' y (by rw[show min 1 m=1 by omega]at hy';exact hy')
 by_cases z3:na-k<=m
 case' pos=>
  rw[vC z3];refine vM (zAb iX iY sX sY ∅ ∅ h1 hlast k2 λr st3 dn kp=>?_)
 case' neg=>
  rw[vF z3];refine vM (zAV iX iY sX sY ∅ ∅ h1' hfirst k2 λr st3 dn kp=>?_)
 all_goals
  rw[hx,hy]at dn;have f3:uR st3=none:=kp.fail.trans f2;have ar3:vT st3=arr:=kp.arr.trans ar2;have pm:(RA.take k++r.toList++RB.drop m).Perm (RA++RB):=by
   have:RA++RB=RA.take k++(RA.drop k++RB.take m)++RB.drop m:=by
    conv=>lhs;rw[eA,eB]
    simp only[zP]
   rw[this];exact yp _ (yI _ dn.perm)
  have inr:∀x∈r.toList,x∈RA.drop k\/x∈RB.take m:=λx hx'=>zT.mp (dn.perm.mem_iff.mp hx');have sAA:Srt (RA.take k++RA.drop k):=by rw[<- eA];exact sA
  have sBB:Srt (RB.take m++RB.drop m):=by rw[<- eB];exact sB
  have sR:Srt (RA.take k++r.toList++RB.drop m):=zBf (XQ sA k) dn.srt (XN sB m)
   (λx hx' y hy'=>(inr y hy').elim (λhy'=>(zW.mp sAA).2.2 x hx' y hy') (λhy'=>yT (a1 x hx') (bb y (xT hy'))))
   (λx hx' y hy'=>yT (a1 x hx') (bb y (yz hy')))
   (λx hx' y hy'=>(inr x hx').elim (λhx'=>yT (aa x (yz hx')) (b2 y hy')) (λhx'=>(zW.mp sBB).2.2 x hx' y hy'))
  have lr:r.toList.length=(RA.drop k++RB.take m).length:=dn.perm.length_eq;have hput:=zAu (sa+k) r.toList 0 arr (P++RA.take k) (RA.drop k++RB.take m) (RB.drop m++S) (by
   rw[hl]
   conv=>lhs;rw[eA,eB]
   simp only[zP]) (by rw[zC,zv];omega) lr.symm
  refine vM (ur (vM (tH ?_)));have fin:=h (SortSt.mk' (kindOf st3) (w9 (λa x=>a.setIfInBounds (sa+k+x.snd) x.fst) (vT st3) r.toList.zipIdx) (va st3) (gallopOf st3) (uR st3)) (RA.take k++r.toList++RB.drop m) (kp.kind.trans k2) f3 (kp.pend.trans pd2) (by
   show (w9 _ (vT st3) _).toList=_;rw[ar3,hput];simp only[zP]) pm sR
  show wpS _ _ _ _ (pure (uR st3).isNone) _ _;rw[f3];exact vO fin
end
end So
set_option maxHeartbeats 1000000
namespace So
open PySem PyProof.Rows
def SrK(xs:Array vU)(lo k:Nat):Prop:=∀i j,i<=j->j<k->K xs (lo+i)<=K xs (lo+j)
structure Within (lo hi:Nat) (st st':vm):Prop where
 kind:kindOf st'=kindOf st
 pend:va st'=va st
 fail:uR st'=uR st
 perm:(vT st').Perm (vT st)
 out:∀t,(t<lo\/hi<=t)->(vT st')[t]?=(vT st)[t]?
theorem Within.refl(lo hi:Nat)(st:vm):Within lo hi st st:=⟨rfl,rfl,rfl,YO _,λ_ _=>rfl⟩
theorem Within.trans{lo hi:Nat}{a b c:vm}(h:Within lo hi a b)(h':Within lo hi b c):Within lo hi a c:=⟨h'.kind.trans h.kind,h'.pend.trans h.pend,h'.fail.trans h.fail,h'.perm.trans h.perm,λt ht=>(h'.out t ht).trans (h.out t ht)⟩
theorem Within.size{lo hi:Nat}{a b:vm}(h:Within lo hi a b):(vT b).size=(vT a).size:=h.perm.size_eq
theorem Within.ints{lo hi:Nat}{a b:vm}(h:Within lo hi a b)(h0:IntKeys (vT a)):IntKeys (vT b):=λp hp=>h0 p ((xm.mp h.perm).mem_iff.mp hp)
theorem Wm{lo hi:Nat}{st:vm}{ys:Array vU}(hp:ys.Perm (vT st))(ho:∀t,(t<lo\/hi<=t)->ys[t]?=(vT st)[t]?):Within lo hi st (setArr st ys):=⟨rfl,rfl,rfl,hp,ho⟩
section
variable{prog:vS}{w:vZ}{A:vb}{E:vB->vG->Prop}{s:vG}
theorem WF{st:vm}{i j:Nat}{Q:Option Bool->vm->Prop}(h0:IntKeys (vT st))(hk:kindOf st=v7)(hi:i<(vT st).size)(hj:j<(vT st).size)(h:Q (some (decide (K (vT st) i<K (vT st) j))) st):wpS (model prog w) A E s (ltAt' i j) Q st:=by
 obtain⟨t,p,e1⟩:=Y1 h0 hi;obtain⟨u,q,e2⟩:=Y1 h0 hj;exact wpS_ltAt hk e1 e2 h
theorem zAx{st:vm}{lo n ok:Nat}{Q:Bool->vm->Prop}(h0:IntKeys (vT st))(hk:kindOf st=v7)(hn:lo+n<=(vT st).size)(hok:ok<=n)(hs:SrK (vT st) lo ok)(h:∀st',Within lo (lo+n) st st'->SrK (vT st') lo n->Q true st'):wpS (model prog w) A E s (binarySort' lo n ok) Q st:=by
 refine vM (uD (vo
  (I:=λx c st'=>c=(none,())/\Within lo (lo+n) st st'/\SrK (vT st') lo x)
  (Q:=λc st'=>c=(none,())/\Within lo (lo+n) st st'/\SrK (vT st') lo n) ?_ ?_ ⟨rfl,Within.refl _ _ _,?_⟩) ?_)
 ·rintro k c st1 hk1 hkn ⟨rfl,W,S⟩
  have sz:=W.size;have i0:=W.ints h0;have kd:kindOf st1=v7:=W.kind.trans hk
  dsimp only
  refine vM (uD (vo
   (I:=λy c st'=>st'=st1/\∃l r,c=(none,l,r)/\l<=r/\r<=k/\r-l<=k-y/\(∀t,t<l->K (vT st1) (lo+t)<=K (vT st1) (lo+k))/\(∀t,r<=t->t<k->K (vT st1) (lo+k)<K (vT st1) (lo+t)))
   (Q:=λc st'=>st'=st1/\∃l,c=(none,l,l)/\l<=k/\(∀t,t<l->K (vT st1) (lo+t)<=K (vT st1) (lo+k))/\(∀t,l<=t->t<k->K (vT st1) (lo+k)<K (vT st1) (lo+t))) ?_ ?_ ⟨rfl,0,k,rfl,∅,∅,∅,λt ht=>∅,λt h1 h2=>∅⟩) ?_)
  ·rintro y c st2 _ hy ⟨rfl,l,r,rfl,b1,b2,b3,b4,b5⟩
   dsimp only
   by_cases z:l>=r
   ·rw[vC z]
    have:l=r:=∅
    subst this;exact vO ⟨rfl,l,rfl,∅,b4,b5⟩
   ·rw[vF z]
    refine vM (WF i0 kd ∅ ∅ ?_)
    dsimp only
    by_cases hc:K (vT st2) (lo+k)<K (vT st2) (lo+(l+r)/2)
    ·rw[vQ hc,vC rfl]
     refine vO ⟨rfl,_,_,rfl,∅,∅,∅,b4,λt h1 h2=>?_⟩;have:=S ((l+r)/2) t h1 h2;omega
    ·rw[vW hc,vF (by decide)]
     refine vO ⟨rfl,_,_,rfl,∅,∅,∅,λt ht=>?_,b5⟩;have:=S t ((l+r)/2) ∅ ∅;omega
  ·rintro c st2 ⟨rfl,l,r,rfl,b1,b2,b3,b4,b5⟩
   have:l=r:=∅
   subst this;exact⟨rfl,l,rfl,∅,b4,b5⟩
  ·rintro c st2 ⟨rfl,l,rfl,b1,b4,b5⟩
   dsimp only
   refine vM (ur ?_);have hsrc:lo+k<(vT st2).size:=∅
   have hd:lo+k-(lo+l)<=lo+k:=∅
   refine vO ⟨rfl,W.trans (Wm (bubble_perm _ _ _) λt ht=>?_),λi j h1 h2=>?_⟩
   ·show (bubble (vT st2) (lo+k) (lo+k-(lo+l)))[t]?=_
    rw[getElem?_bubble hsrc _ hd,vF ∅,vF ∅]
   ·show K (bubble (vT st2) (lo+k) (lo+k-(lo+l))) (lo+i)<=K (bubble (vT st2) (lo+k) (lo+k-(lo+l))) (lo+j)
    rw[K_bubble hsrc hd,K_bubble hsrc hd];have e:lo+k-(lo+k-(lo+l))=lo+l:=∅
    rw[e]
    by_cases c1:i=l
    ·rw[vC ∅]
     by_cases c2:j=l
     ·rw[vC ∅];exact yB _
     ·rw[vF ∅,vC ∅,show lo+j-1=lo+(j-1) by omega]
      exact yx (b5 (j-1) ∅ ∅)
    ·rw[vF ∅]
     by_cases c3:l<i
     ·rw[vC ∅,vF ∅,vC ∅,show lo+i-1=lo+(i-1) by omega,show lo+j-1=lo+(j-1) by omega]
      exact S (i-1) (j-1) ∅ ∅
     ·rw[vF ∅]
      by_cases c2:j=l
      ·rw[vC ∅];exact b4 i ∅
      ·rw[vF ∅]
       by_cases c4:l<j
       ·rw[vC ∅,show lo+j-1=lo+(j-1) by omega]
        exact S i (j-1) ∅ ∅
       ·rw[vF ∅]
        exact S i j h1 ∅
 ·rintro c st1 ⟨rfl,W,S⟩
  refine⟨rfl,W,λi j h1 h2=>S i j h1 ∅⟩
 ·intro i j h1 h2
  by_cases z:ok=0
  ·have:i=j:=∅
   subst this;exact yB _
  ·exact hs i j h1 ∅
 ·rintro c st1 ⟨rfl,W,S⟩
  exact vO (h st1 W S)
end
end So
set_option maxHeartbeats 2000000
namespace So
open PySem PyProof.Rows
section
variable{prog:vS}{w:vZ}{A:vb}{E:vB->vG->Prop}{s:vG}
theorem W2{st:vm}{lo hi i j:Nat}{Q:Unit->vm->Prop}(hi1:lo<=i)(hj:j<=hi)(hs:hi<=(vT st).size)(h:∀st',Within lo hi st st'->(∀k,K (vT st') k=if i<=k/\k<j then K (vT st) (i+j-1-k)else K (vT st) k)->Q () st'):wpS (model prog w) A E s (reverseSlice' i j) Q st:=by
 rw[reverseSlice'_eq];refine ur (h _ (Wm (mirror_perm _ _ _ _) λt ht=>?_) λk=>K_mirror ∅ k);rw[getElem?_mirror_all ∅,vF ∅]
theorem keepK{xs ys:Array vU}{i j:Nat}(KK:∀k,K ys k=if i<=k/\k<j then K xs (i+j-1-k)else K xs k)(e:∀k,i<=k->k<j->K xs k=K xs (j-1))(k:Nat):K ys k=K xs k:=by
 rw[KK k]
 split
 ·rename_i hh
  rw[e (i+j-1-k) ∅ ∅,e k hh.1 hh.2]
 ·rfl
theorem zCk{st:vm}{lo nrem:Nat}{Q:Option Nat->vm->Prop}(h0:IntKeys (vT st))(hk:kindOf st=v7)(hn:lo+nrem<=(vT st).size)(h1:1<=nrem)(h:∀n st',1<=n->n<=nrem->Within lo (lo+nrem) st st'->SrK (vT st') lo n->Q (some n) st'):wpS (model prog w) A E s (countRun' lo nrem) Q st:=by
 refine vM (uD (vo
  (I:=λx c st'=>st'=st/\c=(none,x)/\x<=nrem/\SrK (vT st) lo x)
  (Q:=λc st'=>st'=st/\∃n,c=(none,n)/\1<=n/\n<=nrem/\SrK (vT st) lo n/\(n<nrem->K (vT st) (lo+n)<K (vT st) (lo+n-1))) ?_ ?_ ⟨rfl,rfl,h1,λi j h2 h3=>by rw[show i=j by omega];exact yB _⟩) ?_)
 ·rintro x c st1 hx1 hx ⟨rfl,rfl,b1,S⟩
  dsimp only
  refine vM (WF h0 hk ∅ ∅ ?_)
  dsimp only
  by_cases hc:K (vT st1) (lo+x)<K (vT st1) (lo+x-1)
  ·rw[vQ hc,vC rfl]
   exact vO ⟨rfl,x,rfl,hx1,b1,S,λ_=>hc⟩
  ·rw[vW hc,vF (by decide)]
   refine vO ⟨rfl,rfl,∅,λi j h2 h3=>?_⟩
   by_cases z:j=x
   ·subst z
    by_cases z2:i=j
    ·rw[z2];exact yB _
    ·have:=S i (j-1) ∅ ∅
     rw[show lo+(j-1)=lo+j-1 by omega]at this;omega
   ·exact S i j h2 ∅
 ·rintro c st1 ⟨rfl,rfl,b1,S⟩
  exact⟨rfl,_,rfl,∅,b1,S,λz=>∅⟩
 ·rintro c st1 ⟨rfl,n,rfl,b1,b2,S,b3⟩
  dsimp only
  by_cases z1:n=nrem
  ·rw[vC (by rw[z1];exact beq_self_eq_true _)]
   exact vO (h n st1 b1 b2 (Within.refl _ _ _) S)
  rw[vF ⇑z1];have b3:=b3 ∅;have start:∃stA,stA=st1:=⟨_,rfl⟩
  by_cases z2:n>1
  case' pos=>
   rw[vC z2];refine vM (WF h0 hk ∅ ∅ ?_)
   dsimp only
   by_cases hc:K (vT st1) lo<K (vT st1) (lo+n-1)
   ·rw[vQ hc,vC rfl]
    exact vO (h n st1 b1 b2 (Within.refl _ _ _) S)
   rw[vW hc,vF (by decide)];refine vM (W2 (lo:=lo) (hi:=lo+nrem) (zK _) ∅ hn λst2 W KK=>?_);have eqs:∀t,t<n->K (vT st1) (lo+t)=K (vT st1) (lo+n-1):=λt ht=>by
    have e1:=S 0 t ∅ ht;have e2:=S t (n-1) ∅ ∅;rw[show lo+(n-1)=lo+n-1 by omega]at e2;rw[Nat.add_zero]at e1;omega
   have same:∀k,K (vT st2) k=K (vT st1) k:=λk=>by
    rw[KK k]
    split
    ·rename_i hh
     have e1:=eqs (lo+(lo+n)-1-k-lo) ∅;have e2:=eqs (k-lo) ∅;rw[show lo+(lo+(lo+n)-1-k-lo)=lo+(lo+n)-1-k by omega]at e1;rw[show lo+(k-lo)=k by omega]at e2;rw[e1,e2]
    ·rfl
   have eqs:∀t,t<n->K (vT st2) (lo+t)=K (vT st2) (lo+n-1):=λt ht=>by rw[same,same];exact eqs t ht
   have b3:K (vT st2) (lo+n)<K (vT st2) (lo+n-1):=by rw[same,same];exact b3
  case' neg=>
   rw[vF z2];have W:Within lo (lo+nrem) st1 st1:=Within.refl _ _ _;have eqs:∀t,t<n->K (vT st1) (lo+t)=K (vT st1) (lo+n-1):=λt ht=>by rw[show lo+t=lo+n-1 by omega]
   generalize hst2:st1=st2 at eqs b3 ⊢;have W:Within lo (lo+nrem) st1 st2:=by rw[<- hst2];exact Within.refl _ _ _
  all_goals
   clear start;refine vM (tP (uB ⟨rfl,?_⟩));refine vM (uD (vo
    (I:=λx c st'=>∃q,c=(none,x,q)/\x<=nrem/\q+1<=x/\Within lo (lo+nrem) st1 st'/\(∀i j,i<=j->j<x->K (vT st') (lo+j)<=K (vT st') (lo+i))/\(∀t,x-1-q<=t->t<x->K (vT st') (lo+t)=K (vT st') (lo+x-1)))
    (Q:=λc st'=>∃m q,c=(none,m,q)/\1<=m/\m<=nrem/\q+1<=m/\Within lo (lo+nrem) st1 st'/\(∀i j,i<=j->j<m->K (vT st') (lo+j)<=K (vT st') (lo+i))/\(∀t,m-1-q<=t->t<m->K (vT st') (lo+t)=K (vT st') (lo+m-1))) ?_ ?_ ⟨0,rfl,∅,∅,W,λi j h2 h3=>?_,λt h2 h3=>by rw[show lo+t=lo+(n+1)-1 by omega]⟩) ?_)
   ·rintro x c st3 hx1 hx ⟨q,rfl,c1,c2,W3,N3,E3⟩
    dsimp only
    have i3:=W3.ints h0;have k3:kindOf st3=v7:=W3.kind.trans hk;have s3:=W3.size;refine vM (WF i3 k3 ∅ ∅ ?_)
    dsimp only
    by_cases hc:K (vT st3) (lo+x)<K (vT st3) (lo+x-1)
    ·rw[vQ hc,vC rfl]
     have N4:∀i j,i<=j->j<x+1->K (vT st3) (lo+j)<=K (vT st3) (lo+i):=λi j h2 h3=>by
      by_cases z:j=x
      ·subst z
       by_cases z2:i=j
       ·rw[z2];exact yB _
       ·have:=N3 i (j-1) ∅ ∅
        rw[show lo+(j-1)=lo+j-1 by omega]at this;omega
      ·exact N3 i j h2 ∅
     by_cases zq:q>0
     ·rw[vC zq]
      refine vM (W2 (lo:=lo) (hi:=lo+nrem) ∅ ∅ ∅ λst4 W4 KK=>?_);have same:=keepK KK (λk h2 h3=>by
       have:=E3 (k-lo) ∅ ∅;rw[show lo+(k-lo)=k by omega]at this;exact this)
      refine vO ⟨0,rfl,∅,∅,W3.trans W4,λi j h2 h3=>by rw[same,same];exact N4 i j h2 h3,λt h2 h3=>by rw[show lo+t=lo+(x+1)-1 by omega]⟩
     ·rw[vF zq]
      exact vO ⟨0,rfl,∅,∅,W3,N4,λt h2 h3=>by rw[show lo+t=lo+(x+1)-1 by omega]⟩
    ·rw[vW hc,vF (by decide)]
     refine vM (WF i3 k3 ∅ ∅ ?_)
     dsimp only
     by_cases hd:K (vT st3) (lo+x-1)<K (vT st3) (lo+x)
     ·rw[vQ hd,vC rfl]
      exact vO ⟨x,q,rfl,∅,c1,c2,W3,N3,E3⟩
     ·rw[vW hd,vF (by decide)]
      have eq:K (vT st3) (lo+x)=K (vT st3) (lo+x-1):=∅
      refine vO ⟨q+1,rfl,∅,∅,W3,λi j h2 h3=>?_,λt h2 h3=>?_⟩
      ·by_cases z:j=x
       ·subst z
        by_cases z2:i=j
        ·rw[z2];exact yB _
        ·have:=N3 i (j-1) ∅ ∅
         rw[show lo+(j-1)=lo+j-1 by omega]at this;omega
       ·exact N3 i j h2 ∅
      ·rw[show lo+(x+1)-1=lo+x by omega,eq]
       by_cases z:t=x
       ·rw[z,eq]
       ·exact E3 t ∅ ∅
   ·rintro c st3 ⟨q,rfl,c1,c2,W3,N3,E3⟩
    exact⟨_,q,rfl,∅,c1,c2,W3,N3,E3⟩
   ·by_cases z:j=n
    ·subst z
     by_cases z2:i=j
     ·rw[z2];exact yB _
     ·have:=eqs i ∅
      omega
    ·have e1:=eqs i ∅
     have e2:=eqs j ∅;omega
   ·rintro c st3 ⟨m,q,rfl,c0,c1,c2,W3,N3,E3⟩
    dsimp only
    have s3:=W3.size;have start:∃stA,stA=st3:=⟨_,rfl⟩
    by_cases zq:q>0
    case' pos=>
     rw[vC zq];refine vM (W2 (lo:=lo) (hi:=lo+nrem) ∅ ∅ ∅ λst4 W4 KK=>?_);have same:=keepK KK (λk h2 h3=>by
      have:=E3 (k-lo) ∅ ∅;rw[show lo+(k-lo)=k by omega]at this;exact this)
     have N4:∀i j,i<=j->j<m->K (vT st4) (lo+j)<=K (vT st4) (lo+i):=λi j h2 h3=>by rw[same,same];exact N3 i j h2 h3
     replace W4:=W3.trans W4
    case' neg=>
     rw[vF zq];have N4:=N3;have W4:=W3;generalize hst4:st3=st4 at N4 W4 ⊢
    all_goals
     have s4:=W4.size;refine vM (W2 (lo:=lo) (hi:=lo+nrem) ∅ ∅ ∅ λst5 W5 KK5=>?_);replace W5:=W4.trans W5;have s5:=W5.size;have i5:=W5.ints h0;have k5:kindOf st5=v7:=W5.kind.trans hk;have S5:SrK (vT st5) lo m:=λi j h2 h3=>by
      rw[KK5 (lo+i),KK5 (lo+j),vC ∅,vC ∅,show lo+(lo+m)-1-(lo+i)=lo+(m-1-i) by omega,show lo+(lo+m)-1-(lo+j)=lo+(m-1-j) by omega];exact N4 (m-1-j) (m-1-i) ∅ ∅
     refine vM (uD (vo
      (I:=λx c st'=>st'=st5/\c=(none,x)/\x<=nrem/\SrK (vT st5) lo x)
      (Q:=λc st'=>st'=st5/\∃n,c=(none,n)/\1<=n/\n<=nrem/\SrK (vT st5) lo n) ?_ ?_ ⟨rfl,rfl,c1,S5⟩) ?_)
     ·rintro x c st6 hx1 hx ⟨rfl,rfl,d1,S6⟩
      dsimp only
      refine vM (WF i5 k5 ∅ ∅ ?_)
      dsimp only
      by_cases hc:K (vT st6) (lo+x)<K (vT st6) (lo+x-1)
      ·rw[vQ hc,vC rfl]
       exact vO ⟨rfl,x,rfl,∅,d1,S6⟩
      ·rw[vW hc,vF (by decide)]
       refine vO ⟨rfl,rfl,∅,λi j h2 h3=>?_⟩
       by_cases z:j=x
       ·subst z
        by_cases z2:i=j
        ·rw[z2];exact yB _
        ·have:=S6 i (j-1) ∅ ∅
         rw[show lo+(j-1)=lo+j-1 by omega]at this;omega
       ·exact S6 i j h2 ∅
     ·rintro c st6 ⟨rfl,rfl,d1,S6⟩
      exact⟨rfl,_,rfl,∅,d1,S6⟩
     ·rintro c st6 ⟨rfl,n',rfl,d0,d1,S6⟩
      exact vO (h n' st6 d0 d1 W5 S6)
end
end So
set_option maxHeartbeats 2000000
namespace So
open PySem PyProof.Rows
def Xn:Nat->List (Nat×Nat×Nat)->List (List vU)->Prop
 | _,[],[]=>True
 | s,p::r,X::Xs=>p.1=s/\p.2.1=X.length/\1<=X.length/\Srt X/\Xn (s+X.length) r Xs
 | _,_,_=>False
theorem W9:∀{s:Nat}{ps:List (Nat×Nat×Nat)}{Xs:List (List vU)},Xn s ps Xs->ps.length=Xs.length
 | _,[],[],_=>rfl
 | _,_::_,_::_,h=>by rw[zD,zD,W9 h.2.2.2.2]
 | _,[],_::_,h=>h.elim
 | _,_::_,[],h=>h.elim
theorem zBZ:∀(i s:Nat)(ps:List (Nat×Nat×Nat))(Xs:List (List vU)),Xn s ps Xs->i+1<ps.length->∃Pre X Y zA8 pw pw2,Xs=Pre++X::Y::zA8/\ps[i]?=some (s+Pre.flatten.length,X.length,pw)/\ps[i+1]?=some (s+Pre.flatten.length+X.length,Y.length,pw2)/\1<=X.length/\1<=Y.length/\Srt X/\Srt Y /\
  ∀R:List vU,R.length=X.length+Y.length->Srt R->Xn s ((ps.set i (s+Pre.flatten.length,X.length+Y.length,pw)).eraseIdx (i+1)) (Pre++R::zA8)
 | 0,s,ps,Xs,h,hl=>by
  match ps,Xs,h,hl with
  | p::q::r,X::Y::Xs,⟨h1,h2,h3,h4,h5,h6,h7,h8,h9⟩,_=>
   refine⟨[],X,Y,Xs,p.2.2,q.2.2,rfl,?_,?_,h3,h7,h4,h8,λR hR sR=>?_⟩
   ·show some p=_
    rw[<- h2];exact uL some (Prod.ext h1 rfl)
   ·show some q=_
    rw[<- h6];exact uL some (Prod.ext h5 rfl)
   ·refine⟨rfl,hR.symm,∅,sR,?_⟩
    rw[hR,<- wN];exact h9
 | i+1,s,ps,Xs,h,hl=>by
  match ps,Xs,h,hl with
  | p::r,X0::Xs,⟨h1,h2,h3,h4,h5⟩,hl=>
   obtain⟨Pre,X,Y,zA8,pw,pw2,e,g1,g2,g3,g4,g5,g6,g7⟩:=zBZ i (s+X0.length) r Xs h5 ⇑hl;refine⟨X0::Pre,X,Y,zA8,pw,pw2,by rw[e];rfl,?_,?_,g3,g4,g5,g6,λR hR sR=>?_⟩
   ·show r[i]?=_
    rw[g1,yO,zC,<- wN]
   ·show r[i+1]?=_
    rw[g2,yO,zC,<- wN s]
   ·have:=g7 R hR sR
    rw[yO,zC,<- wN];exact⟨h1,h2,h3,h4,this⟩
theorem zAG:∀{s:Nat}{ps:List (Nat×Nat×Nat)}{Xs:List (List vU)}{X:List vU}{pw:Nat},Xn s ps Xs->1<=X.length->Srt X->Xn s (ps++[(s+Xs.flatten.length,X.length,pw)]) (Xs++[X])
 | s,[],[],X,pw,_,h1,h2=>⟨rfl,rfl,h1,h2,trivial⟩
 | s,p::r,X0::Xs,X,pw,⟨g1,g2,g3,g4,g5⟩,h1,h2=>by
  refine⟨g1,g2,g3,g4,?_⟩;have:=zAG (pw:=pw) g5 h1 h2;rw[yO,zC,<- wN];exact this
theorem zAe:∀{s:Nat}{ps ps':List (Nat×Nat×Nat)}{Xs:List (List vU)},Xn s ps Xs->ps'.map (λp=>(p.1,p.2.1))=ps.map (λp=>(p.1,p.2.1))->Xn s ps' Xs
 | s,[],[],[],_,_=>trivial
 | s,p::r,p'::r',X::Xs,⟨h1,h2,h3,h4,h5⟩,e=>by
  rw[zX,zX]at e;obtain⟨e1,e2⟩:=List.cons.inj e;obtain⟨f1,f2⟩:=Prod.mk.inj e1;exact⟨f1.trans h1,f2.trans h2,h3,h4,zAe h5 e2⟩
 | s,p::r,[],_,_,e=>by cases e
 | s,[],p::r,_,_,e=>by cases e
 | s,p::r,p'::r',[],h,_=>h.elim
structure IV (a₀:Array vU) (st:vm) (lo:Nat) (S:List vU):Prop where
 kind:kindOf st=v7
 fail:uR st=none
 perm:(vT st).Perm a₀
 runs:∃Xs,(vT st).toList=Xs.flatten++S/\Xn 0 (va st).toList Xs/\Xs.flatten.length=lo
section
variable{prog:vS}{w:vZ}{A:vb}{E:vB->vG->Prop}{s:vG}
theorem IV.ints{a₀:Array vU}{st:vm}{lo:Nat}{S:List vU}(h:IV a₀ st lo S)(h0:IntKeys a₀):IntKeys (vT st):=λp hp=>h0 p ((xm.mp h.perm).mem_iff.mp hp)
theorem WE{a₀:Array vU}{st:vm}{lo i:Nat}{S:List vU}{Q:Bool->vm->Prop}(h0:IntKeys a₀)(V:IV a₀ st lo S)(hi:i+1<(va st).size)(h:∀st',IV a₀ st' lo S->(va st').size+1=(va st).size->Q true st'):wpS (model prog w) A E s (mergeAt' i) Q st:=by
 obtain⟨Xs,e1,e2,e3⟩:=V.runs;obtain⟨Pre,X,Y,zA8,pw,pw2,rfl,g1,g2,g3,g4,g5,g6,g7⟩:=zBZ i 0 _ _ e2 ⇑hi;rw[yj]at g1 g2 g7;rw[zn]at g1 g2;have hl:(vT st).toList=Pre.flatten++X++Y++(zA8.flatten++S):=by
  rw[e1];simp
 refine zAa (V.ints h0) V.kind V.fail g1 g2 hl rfl rfl rfl rfl g3 g4 g5 g6 λst' R k1 k2 k3 k4 k5 k6=>?_;have lR:R.length=X.length+Y.length:=by rw[k5.length_eq,zC]
 refine h st' ⟨k1,k2,?_,Pre++R::zA8,?_,?_,?_⟩ ?_
 ·refine Array.Perm.trans ?_ V.perm
  rw[xm,k4,hl];have:Pre.flatten++X++Y++(zA8.flatten++S)=Pre.flatten++(X++Y)++(zA8.flatten++S):=by simp
  rw[this];exact yp _ (yI _ k5)
 ·rw[k4];simp
 ·rw[k3]
  have:=g7 R lR k6;rw[wH,wZ];exact this
 ·rw[<- e3];simp[lR];omega
 ·rw[k3]
  have hi':i+1<((va st).setIfInBounds i (Pre.flatten.length,X.length+Y.length,pw)).size:=by simpa using hi
  rw[<- zO,wH,List.length_eraseIdx];rw[vC ⇑hi];simp;omega
end
end So
set_option maxHeartbeats 2000000
namespace So
open PySem PyProof.Rows
theorem Wo{α β:Type}{g:α->β}{f:α->α}(h:∀x,g (f x)=g x):∀(l:List α)(i:Nat),(l.modify i f).map g=l.map g
 | [],i=>by simp
 | x::l,0=>by simp[h]
 | x::l,i+1=>by simp[Wo h l i]
theorem zAK:∀{s:Nat}{ps:List (Nat×Nat×Nat)}{Xs:List (List vU)},Xn s ps Xs->Xs.length<=Xs.flatten.length
 | _,[],[],_=>zK _
 | _,_::_,X::Xs,h=>by
  have:=zAK h.2.2.2.2;have:=h.2.2.1;rw[zD,yO,zC];omega
theorem IV.push{a₀:Array vU}{st:vm}{lo m:Nat}{X S:List vU}(V:IV a₀ st lo (X++S))(lX:X.length=m)(h1:1<=m)(sX:Srt X):IV a₀ (setPending st ((va st).push (lo,m,0))) (lo+m) S:=by
 obtain⟨Xs,e1,e2,e3⟩:=V.runs;refine⟨V.kind,V.fail,V.perm,Xs++[X],?_,?_,?_⟩
 ·show (vT st).toList=_
  rw[e1];simp
 ·show Xn 0 ((va st).push (lo,m,0)).toList _
  have:=zAG (pw:=0) e2 (∅:1<=X.length) sX;rw[yj,e3,lX]at this;rw[wf];exact this
 ·rw[List.flatten_append,zC,e3];simp[lX]
theorem IV.pow{a₀:Array vU}{st:vm}{lo i pw:Nat}{S:List vU}(V:IV a₀ st lo S):IV a₀ (setPending st ((va st).modify i λx=>(x.fst,x.2.fst,pw))) lo S:=by
 obtain⟨Xs,e1,e2,e3⟩:=V.runs;refine⟨V.kind,V.fail,V.perm,Xs,e1,?_,e3⟩;show Xn 0 ((va st).modify i λx=>(x.fst,x.2.fst,pw)).toList _;refine zAe e2 ?_;rw[Array.toList_modify];exact Wo (g:=λp:Nat×Nat×Nat=>(p.1,p.2.1)) (f:=λx=>(x.1,x.2.1,pw)) (λ_=>rfl) _ _
theorem Within.wider{lo hi hi':Nat}{a b:vm}(h:Within lo hi a b)(hh:hi<=hi'):Within lo hi' a b:=⟨h.kind,h.pend,h.fail,h.perm,λt ht=>h.out t ∅⟩
section
variable{prog:vS}{w:vZ}{A:vb}{E:vB->vG->Prop}{s:vG}
theorem zAR{a₀:Array vU}{st:vm}{Q:Unit->vm->Prop}(h0:IntKeys a₀)(hB:SBase a₀ st)(h:∀st',(vT st').Perm a₀->uR st'=none->SortedTo (vT st') a₀.size->Q () st'):wpS (model prog w) A E s sortRuns' Q st:=by
 rw[sortRuns'_eq];refine vM (tH ?_);have hsz:=hB.size
 dsimp only
 simp only[hsz];have V0:IV a₀ st 0 (vT st).toList:=⟨hB.kind,hB.failed,hB.perm,[],rfl,by rw[hB.pend];trivial,rfl⟩;refine vM (uD (vo
  (I:=λx c st'=>∃lo S,c=(none,lo)/\IV a₀ st' lo S/\lo<=a₀.size/\(x<=lo\/lo=a₀.size))
  (Q:=λc st'=>c=(none,a₀.size)/\∃S,IV a₀ st' a₀.size S) ?_ ?_ ⟨0,_,rfl,V0,yH _,.inl (zK _)⟩) ?_)
 ·rintro x c st1 _ hx ⟨lo,S,rfl,V,b1,b2⟩
  dsimp only
  have hsz1:(vT st1).size=a₀.size:=V.perm.size_eq
  by_cases z:lo>=a₀.size
  ·rw[vC z]
   have:lo=a₀.size:=∅
   subst this;exact vO ⟨rfl,S,V⟩
  rw[vF z];have i1:=V.ints h0;refine vM (zCk i1 V.kind ∅ ∅ λn st2 n1 n2 W Sr=>?_)
  dsimp only
  have key:∀(m:Nat)(st3:vm),1<=m->m<=a₀.size-lo->Within lo (lo+(a₀.size-lo)) st1 st3->SrK (vT st3) lo m->∃X S',IV a₀ st3 lo (X++S')/\X.length=m/\Srt X:=λm st3 m1 m2 W3 S3=>by
   obtain⟨Xs,e1,e2,e3⟩:=V.runs;have sz3:(vT st3).size=a₀.size:=W3.size.trans hsz1;have tk:(vT st3).toList.take lo=Xs.flatten:=by
    have:(vT st3).toList.take lo=(vT st1).toList.take lo:=by
     apply xB;intro t
     by_cases ht:t<lo
     ·rw[xt ht,xt ht,zn,zn]
      exact W3.out t (.inl ht)
     ·rw[wb ∅,wb ∅]
    rw[this,e1,<- e3,YX]
   refine⟨((vT st3).toList.drop lo).take m,((vT st3).toList.drop lo).drop m,⟨W3.kind.trans V.kind,W3.fail.trans V.fail,W3.perm.trans V.perm,Xs,?_,?_,e3⟩,?_,?_⟩
   ·rw[yU,<- tk,yU]
   ·rw[W3.pend];exact e2
   ·rw[zv,yV,zO];omega
   ·rw[Srt,xM]
    intro i j hi hj hij;rw[zv,yV,zO]at hj;have:=S3 i j ∅ ∅;have q1:(vT st3)[lo+i]?=some (vT st3)[lo+i]:=getElem?_pos _ _ ∅;have q2:(vT st3)[lo+j]?=some (vT st3)[lo+j]:=getElem?_pos _ _ ∅;rw[zBC q1,zBC q2]at this;rw[xA,xA,xS,xS];exact this
  have sz2:=W.size
  by_cases zm:n<sW a₀.size a₀.size 0
  case' pos=>
   rw[vC zm];refine vM (tP (uB ⟨rfl,?_⟩));refine vM (zAx (W.ints i1) (W.kind.trans V.kind) ∅ ∅ Sr λst3 W3 S3=>?_);rw[vF (by decide)];have f1:1<=min (a₀.size-lo) (sW a₀.size a₀.size 0):=∅
   have f2:min (a₀.size-lo) (sW a₀.size a₀.size 0)<=a₀.size-lo:=∅
   have W4:=W.trans (W3.wider (∅:lo+min (a₀.size-lo) (sW a₀.size a₀.size 0)<=lo+(a₀.size-lo)));generalize min (a₀.size-lo) (sW a₀.size a₀.size 0)=m at f1 f2 S3 ⊢;obtain⟨X,S',V3,lX,sX⟩:=key m st3 f1 f2 W4 S3
  case' neg=>
   rw[vF zm];obtain⟨X,S',V3,lX,sX⟩:=key n st2 n1 n2 W Sr;have f1:=n1;have f2:=n2;generalize hm:n=m at lX f1 f2 ⊢;generalize hst3:st2=st3 at V3 ⊢
  all_goals
   refine vM (tH ?_);cases hb:(va st3).back? with
   | none=>
    dsimp only
    exact vM (ur (vO ⟨lo+m,S',rfl,V3.push lX f1 sX,∅,.inl ∅⟩))
   | some p=>
    obtain⟨s1,n1',pp⟩:=p
    dsimp only
    refine vM (uD (vo (I:=λy c st'=>c=(none,())/\IV a₀ st' lo (X++S')) (Q:=λc st'=>c=(none,())/\IV a₀ st' lo (X++S')) ?_ (λ_ _ hh=>hh) ⟨rfl,V3⟩) ?_)
    ·rintro y c st4 _ _ ⟨rfl,V4⟩
     refine vM (tH ?_)
     by_cases zp:(va st4).size>1
     ·rw[vC zp,getElem?_pos (va st4) ((va st4).size-2) ∅]
      generalize (va st4)[(va st4).size-2]=row;obtain⟨r1,r2,r3⟩:=row
      dsimp only
      split
      ·exact vO ⟨rfl,V4⟩
      ·refine vM (WE h0 V4 ∅ λst5 V5 _=>?_)
       rw[vF (by decide)];exact vO ⟨rfl,V5⟩
     ·rw[vF zp]
      exact vO ⟨rfl,V4⟩
    ·rintro c st4 ⟨rfl,V4⟩
     dsimp only
     exact vM (ur (vM (ur (vO ⟨lo+m,S',rfl,V4.pow.push lX f1 sX,∅,.inl ∅⟩))))
 ·rintro c st1 ⟨lo,S,rfl,V,b1,b2⟩
  have:lo=a₀.size:=∅
  subst this;exact⟨rfl,S,V⟩
 ·rintro c st1 ⟨rfl,S,V⟩
  dsimp only
  have hsz1:(vT st1).size=a₀.size:=V.perm.size_eq;have many:∀st' S',IV a₀ st' a₀.size S'->(va st').size<=a₀.size:=λst' S' V'=>by
   obtain⟨Xs,e1,e2,e3⟩:=V'.runs;have l1:=W9 e2;have l2:=zAK e2;rw[zO]at l1;omega
  have m1:=many st1 S V;refine vM (uD (vo
   (I:=λx c st'=>c=(none,())/\IV a₀ st' a₀.size S/\((va st').size<=1\/(va st').size+x<=(va st1).size))
   (Q:=λc st'=>c=(none,())/\IV a₀ st' a₀.size S/\(va st').size<=1) ?_ ?_ ⟨rfl,V,.inr ∅⟩) ?_)
  ·rintro x c st2 _ _ ⟨rfl,V2,b⟩
   refine vM (tH ?_)
   by_cases z:(va st2).size<=1
   ·rw[vC z]
    exact vO ⟨rfl,V2,z⟩
   rw[vF z];have hx:∀c:Bool,(if c=true then (va st2).size-2-1 else (va st2).size-2)+1<(va st2).size:=λc=>by cases c <;> simp <;> omega
   refine vM (WE h0 V2 (hx _) λst3 V3 hs=>?_);rw[vF (by decide)];exact vO ⟨rfl,V3,.inr ∅⟩
  ·rintro c st2 ⟨rfl,V2,b⟩
   exact⟨rfl,V2,∅⟩
  ·rintro c st2 ⟨rfl,V2,b⟩
   dsimp only
   refine vO (h st2 V2.perm V2.fail ?_);obtain⟨Xs,e1,e2,e3⟩:=V2.runs;have sz2:(vT st2).size=a₀.size:=V2.perm.size_eq;have hS:S=[]:=by
    have:=uL xh e1;rw[zC,zO,e3,sz2]at this;exact wx.mp ∅
   have hl:=W9 e2;rw[zO]at hl;have st:Srt (vT st2).toList:=by
    rw[e1,hS,yJ]
    match Xs,e2,hl with
    | [],_,_=>exact y0
    | [X],e2,_=>
     rw[yO,List.flatten_nil,yJ]
     match hp:(va st2).toList,e2 with
     | p::r,e2=>exact e2.2.2.2.1
    | X::Y::Z,_,hl=>rw[zD,zD]at hl;omega
   exact λi j h1 h2=>zBe st h1 ∅
end
end So
set_option maxHeartbeats 2000000
namespace So
open PySem PyProof.Rows
section
variable{prog:vS}{w:vZ}{A:vb}{E:vB->vG->Prop}{s:vG}
theorem zB8{a:vJ}{xs:List vB}{is:List Int}{k:Nat}{P:Fin->vG->Prop}(at_:s.heap.get? a=some (uW "list" xs.toArray k))(hin:uG xs is)(big:2<=xs.length)(fits:xs.length<=1000000)(h:∀(o:Array vB)(js:List Int),uG o.toList js->js.Perm is->js.Pairwise (· <= ·)->P (.done (.ret .none)) { s with heap:=sortedHeap s.heap a xs o }):vN (model prog w) A (Builtin.«list.sort» ⟨[.ref a],[]⟩) P E s:=by
 have la:=zM at_;have empty:=get?_update_seq at_ (λ_=>(#[]:Array vB));rw[list_sort_plain];refine vA (listItems_at at_ rfl (vA (listUpdate_at at_ rfl ?_)));refine vA (seqEpoch_at empty rfl (vA (tD (vA (tI (vh ?_))))));have still:(((s.heap.update a (Obj.mapSeq λ_=>#[])).push (uW "tuple" xs.toArray 0)).push (uW "list" #[] 0)).get? a=some _:=zF _ (zF _ empty)
 change vN (model prog w) A _ P E (Shared.mk (((s.heap.update a (Obj.mapSeq λ_=>#[])).push (uW "tuple" xs.toArray 0)).push (uW "list" #[] 0)) _ _ _ _)
 have many:¬xs.toArray.size<2:=by rw[zN];omega
 dsimp only
 rw[vF many,vF many];have kk:keyKind' xs.toArray=pure v7:=by
  match xs,big,hin with
  | _::_::_,_,hin=>exact keyKind_ints hin
 rw[kk];refine vA (vH ?_);have base:SBase (pairsOf xs) (SortSt.mk' v7 (xs.toArray.zip xs.toArray) #[] 7 none):=⟨YO _,rfl,rfl,rfl⟩;refine vA (vq (zAR (Q:=λ_ t=>(vT t).Perm (pairsOf xs)/\uR t=none/\SortedTo (vT t) (pairsOf xs).size) hin.intKeys base λt q1 q2 q3=>⟨q1,q2,q3⟩) (λr s3 hr=>?_) λ_ _ z=>z);obtain⟨⟨⟩,t⟩:=r;obtain⟨rfl,q1,q2,q3⟩:=hr
 dsimp only
 obtain⟨js,c1,c2,c3⟩:=sorted_out hin q1 q3;have lt:((vT t).map (·.2)).size<=sizeLine:=by
  rw[Array.size_map,q1.size_eq,pairsOf_size,vp];omega
 refine vA (seqEpoch_at still rfl (vA (listUpdate_at still rfl ?_ (hsz2:=wG lt))));rw[q2];simp only[bne_self_eq_false,yc,if_false];exact vH (h _ js c1 c2 c3)
theorem sorted_any{l:vJ}{xs:List vB}{is:List Int}{Q:vB->vG->Prop}(isl:s.heap.IsList l xs.toArray)(hin:uG xs is)(fits:xs.length<=1000000)(h:∀(o:Array vB)(js:List Int),uG o.toList js->js.Perm is->js.Pairwise (· <= ·)->Q (.ref (s.heap.objs.size+1)) { s with heap:=sortedAll s.heap xs o }):vN (model prog w) A (call (.builtin "sorted") [.ref l]) Q E s:=by
 by_cases few:xs.length<64
 ·exact sorted_ints isl hin few h
 refine Calls.call_function_entry sP sH sI (sJ (.ref l)) ?_;unfold Builtin.«sorted»;refine vA (m:=checkCount "sorted" 1 1 _) (vH (vA (collect_list isl ?_ (by rw[vp];omega))));have many:((s.heap.push (uW "list" #[] 0)).update s.heap.objs.size (Obj.mapSeq (·++xs.toArray))).objs.size=s.heap.objs.size+1:=(Heap.size_update _ _ _).trans (size_push' _ _);refine vA (tI ?_);generalize hh:(s.heap.push (uW "list" #[] 0)).update s.heap.objs.size (Obj.mapSeq (·++xs.toArray))=h2 at many ⊢;have here:(h2.push (uW "list" xs.toArray 0)).get? (s.heap.objs.size+1)=some (uW "list" xs.toArray 0):=by
  have:=zQ h2 (o:=uW "list" xs.toArray 0) rfl
  rwa [many]at this
 change vN _ _ _ _ _ (Shared.mk (h2.push (uW "list" xs.toArray 0)) _ _ _ _)
 rw[many];refine vA (vh (ve slot_list_sort ⟨_,here,rfl⟩ entry_list_sort ?_ (tX _)));refine zB8 here hin ∅ fits λo js c1 c2 c3=>?_;refine⟨_,rfl,vH ⟨_,rfl,?_⟩⟩;subst hh;exact h o js c1 c2 c3
end
end So
namespace Hk
open PySem L2
def rSortB:List V->Hp->VK->Prop:=λxs H Q=>∃p ns,xs=[.ref p]/\H p=some (.lst (ns.map V.int))/\ns.length<=1000000/\∀l,H l=none->Q (.ref l) (upd H l (.lst ((Y7 ns).map V.int)))
noncomputable def zCJ:D->Option R
 | .lst ds=>(intsOf ds).bind λns=>if ns.length<=1000000 then some (.fr ((Y7 ns).map D.int))else none
 | _=>none
noncomputable def zAl(f:FD):FE:=λω=>(f ω).bind zCJ
section
variable{X:Cx}
theorem qae:Xu X (.builtin "sorted") rSortB:=by
 intro pins s σ H xs us Q I r h;obtain⟨p,ns,rfl,hp,hz,q⟩:=h;obtain⟨u,rfl,rx⟩:=vals1 r;cases rx;obtain⟨its,n,rv,e,_⟩:=I.lst hp;have hlen:its.length=ns.length:=by rw[<- rv.length,zB]
 refine So.sorted_any ⟨_,e,rfl,n,rfl⟩ (q1k rv) ∅ λout ns' a1 a2 a3=>?_;obtain⟨m,hm⟩:=PyProof.Rows.sortedAll_at s.heap its out;have en:ns'=Y7 ns:=q2i a3 q2s (a2.trans qI.symm);subst en;have hsl:(Y7 ns).length<=sizeLine:=by rw[q6N,vp];omega
 have I2:=I.laid (a:=s.heap.objs.size+1) (o:=.lst ((Y7 ns).map V.int)) (t':=s.toks) (λb o e=>PyProof.Rows.sortedAll_old e) (xj _)
  (show Y6 X.prog X.w _ (PyProof.Rows.sortedAll s.heap its out) _ (.lst _)from ⟨by rw[zB];exact hsl,out.toList,m,q22 a1,by rw[wP];exact hm⟩)
 exact⟨.ref _,_,I2,rfl,q _ (I.hok.fresh (xj _))⟩
theorem q7Y{a:vX}{f:FD}{p q:Pos}(hg:Gl X "sorted")(hm:X.mg "sorted" = none)(ha:XV X a f)(he:vK [a] X.env=(false,eval a X.env)::vK [] X.env:=by rfl)(hpl:(v3 q (vK [] X.env)).any (·.1)=false:=by rfl):XE X (.Call (.Name "sorted" p) [a] [] q) (zAl f):=by
 obtain⟨t,h1,h2⟩:=ha;refine⟨_,q2r qae hg hm q45 (qv h1 qt he) (by decide) (by decide) he hpl,λG0 H0 G ω σ H r Q o e k=>?_⟩;obtain⟨d,z,e⟩:=bnd e;refine h2 G0 H0 G ω σ H d _ o z λv G1 H1 x1 y1=>?_;cases d with
 | lst ds=>
  obtain⟨ns,e1,e2⟩:=bnd (show (intsOf ds).bind _=some r from e);have hds:=q1h e1;subst hds
  by_cases hz:ns.length<=1000000
  ·rw[vC hz]at e2
   cases e2;obtain⟨p,vs,rfl,g1,g2⟩:=y1.lst x1.gh;have hv:=g2.of_ints;subst hv;refine⟨p,ns,rfl,g1,hz,λl hl=>?_⟩;have x2:=Ext.hide x1.gh hl (.lst ((Y7 ns).map V.int));exact k _ G1 _ (x1.trans x2) ⟨l,_,rfl,x1.hh.free hl,x1.gh.free hl,qe,Yp.ints _⟩
  ·rw[vF hz]at e2;cases e2
 | _=>cases e
noncomputable def zCH(o:Option D):Option R:=o.bind zCJ
theorem q57{fd:FD}{ω:WSt}:zAl fd ω=zCH (fd ω):=rfl
theorem q5J{ns:List Int}(h:ns.length<=1000000):zCH (some (.lst (ns.map D.int)))=some (.fr ((Y7 ns).map D.int)):=by
 show (intsOf (ns.map D.int)).bind _=_;rw[q0y];exact vC h
end
end Hk
set_option maxHeartbeats 4000000
namespace Kx
open PySem L2 Hk
noncomputable def top(i:Nat):vx:=PySem.Challenge.pw_hookrail_k54_whole_no_yard_tour_is_short.main.body.getD i (.Pass ⟨0,0,0,0⟩)
section
variable{P:vS}{w:vZ}{K:zA}{mg:Str->Option vB}{base:vn}{f:vJ}{fd:vP}
noncomputable def q5p:FS:=(XY (eOf (zAQ (dOf (zBo .int (vOf (Yj 0)))) (vNot (dOf (zBo .bl (vOf (Yj 0))))))))
noncomputable def qw:List D->Option O:=mir 1 q5p
noncomputable abbrev q3F:vx:=top 5
theorem qaI:FnScope ["thing"] ["thing"] (Yk q3F):=⟨rfl,rfl,rfl,⋯,rfl,⋯,⋯⟩
theorem q9f (F:Fun K "is_whole" "is_whole" q3F f fd)(z_isinstance:mg "isinstance" = none)(z_bool:mg "bool" = none)(z_int:mg "int" = none)(i_int:IsT K .int)(i_bool:IsT K .bl):
  FnOk P w K mg base CX0 1 f fd ["thing"] (spD K 1 qw):=by
 have h:=fnD (P:=P) (w:=w) (mg:=mg) (base:=base) (k:=0) (body:=q5p) F qaI (λcdv A outer s H E hr=>
   (qb (qh (XD.toE (q0n (XE.toD (q2m (vV 0) i_int rfl z_isinstance rfl z_int qfY)) (q0M (qfH (XE.toD (q2m (vV 0) i_bool rfl z_isinstance rfl z_bool qfm)))))))))
 exact h
noncomputable def q55:FS:=(XY (eOf (zAQ (dOf (zBo .tup (vOf (Yj 0)))) (zAQ (dOf (Yo (oEq false) (vOf (Xq WZ (Yi (vOf (Yj 0)) Yq))) (fC (.int 2)))) (zAQ (dOf (Yr qw (Yi (dOf (Yo oIx (vOf (Yj 0)) (fC (.int 0)))) Yq))) (dOf (Yr qw (Yi (dOf (Yo oIx (vOf (Yj 0)) (fC (.int 1)))) Yq))))))))
noncomputable def q2G:List D->Option O:=mir 1 q55
noncomputable abbrev q5e:vx:=top 6
theorem qdO:FnScope ["thing"] ["thing"] (Yk q5e):=⟨rfl,rfl,rfl,⋯,rfl,⋯,⋯⟩
theorem qd2{f_is_whole:vJ}{d_is_whole:vP}(F:Fun K "is_box" "is_box" q5e f fd)(c_is_whole:Cal P w K mg base 1 f_is_whole d_is_whole "is_whole" ["thing"] 1 qw)(z_len:mg "len" = none)(z_isinstance:mg "isinstance" = none)(z_tuple:mg "tuple" = none)(i_tuple:IsT K .tup):
  FnOk P w K mg base CX0 2 f fd ["thing"] (spD K 1 q2G):=by
 have h:=fnD (P:=P) (w:=w) (mg:=mg) (base:=base) (k:=1) (body:=q55) F qdO (λcdv A outer s H E hr=>
   (qb (qh (XD.toE (q0n (XE.toD (q2m (vV 0) i_tuple rfl z_isinstance rfl z_tuple q51)) (q0n (XE.toD (zBw hr.units (XE.toV (qp qk qK rfl z_len qL (qf (vV 0) qi))) (XD.toV Yh))) (q0n (XE.toD (xc c_is_whole hr (Yg (XE.toD (Yl (vV 0) (XD.toV Yh))) Yn))) (q0M (XE.toD (xc c_is_whole hr (Yg (XE.toD (Yl (vV 0) (XD.toV Yh))) Yn)))))))))))
 exact h
noncomputable def q3R:FD:=(dOf (Yr q2G (Yi (dOf (Yj 0)) Yq)))
noncomputable def q1W:FS:=(Y3 (sIf (zCB (WM (zAP (vOf (Yr qw (Yi (dOf (Yj 0)) Yq))))) (zCB (WM (zAP (vOf (Yr qw (Yi (dOf (Yj 1)) Yq))))) (WM (zAP (vOf (zBo .lst (vOf (Yj 2)))))))) (XY (eOf (fC (.bl false)))) WQ)
  (XY (Xq zBi (Yi (vOf (Xc 1 [] (WH (dOf (Yj 2))) (gN 0) XF q3R)) Yq))))
noncomputable def q0d:List D->Option O:=mir 3 q1W
noncomputable abbrev q2W:vx:=top 7
theorem q96:FnScope ["home", "last", "boxes"] ["home", "last", "boxes"] (Yk q2W):=⟨rfl,rfl,rfl,⋯,rfl,⋯,⋯⟩
theorem q89{f_is_whole:vJ}{d_is_whole:vP}{f_is_box:vJ}{d_is_box:vP}(F:Fun K "is_errand" "is_errand" q2W f fd)(c_is_whole:Cal P w K mg base 1 f_is_whole d_is_whole "is_whole" ["thing"] 1 qw)(c_is_box:Cal P w K mg base 2 f_is_box d_is_box "is_box" ["thing"] 1 q2G)(z_isinstance:mg "isinstance" = none)(z_list:mg "list" = none)(z_all:mg "all" = none)(i_list:IsT K .lst):
  FnOk P w K mg base CX0 3 f fd ["home", "last", "boxes"] (spD K 3 q0d):=by
 have h:=fnD (P:=P) (w:=w) (mg:=mg) (base:=base) (k:=2) (body:=q1W) F q96 (λcdv A outer s H E hr=>
   (qa (qC (XW.toT (q4v (q1a (q07 (XE.toV (xc c_is_whole hr (Yg (vD 0) Yn))))) (q4v (q1a (q07 (XE.toV (xc c_is_whole hr (Yg (vD 1) Yn))))) (q8J (q1a (q07 (XE.toV (q2m (vV 2) i_list rfl z_isinstance rfl z_list q1V)))))))) (qb (qh (XD.toE WP))) qr)
   (qb (qh (qp (q2S rfl) q5q rfl z_all q5R (qf (XE.toV (q03 rfl (blk ["box"] [] [] rfl ⋯ ⋯ rfl trivial) (qu (vD 2)) (qB 0) (λ_ _ _ _=>⟨(qg (i:=0) (show ((["box"]:List Str)++([]:List Str):List Str).Nodup from by decide +kernel) rfl (Or.inl rfl)),qU,(XE.toD (xc c_is_box hr (Yg (vD 0) Yn)))⟩))) qi))))))
 exact h
noncomputable def q2p:FS:=(XY (eOf (zAQ (dOf (Yo oLe (vOf (Yj 0)) (vOf (Yo oIx (vOf (Yj 2)) (fC (.int 0)))))) (dOf (Yo oLe (vOf (Yo oIx (vOf (Yj 2)) (fC (.int 1)))) (vOf (Yj 1)))))))
noncomputable def q0o:List D->Option O:=mir 3 q2p
noncomputable abbrev q2x:vx:=top 9
theorem q8e:FnScope ["start", "goal", "gap"] ["start", "goal", "gap"] (Yk q2x):=⟨rfl,rfl,rfl,⋯,rfl,⋯,⋯⟩
theorem q7l (F:Fun K "leads_over" "leads_over" q2x f fd):
  FnOk P w K mg base CX0 1 f fd ["start", "goal", "gap"] (spD K 3 q0o):=by
 have h:=fnD (P:=P) (w:=w) (mg:=mg) (base:=base) (k:=0) (body:=q2p) F q8e (λcdv A outer s H E hr=>
   (qb (qh (XD.toE (q0n (XE.toD (qaj (vV 0) (XE.toV (Yl (vV 2) (XD.toV Yh))))) (q0M (XE.toD (qaj (XE.toV (Yl (vV 2) (XD.toV Yh))) (vV 1)))))))))
 exact h
noncomputable def q3n:FT:=(zAP (vOf (Yr q0o (Yi (dOf (Yo oIx (vOf (Yj 0)) (fC (.int 0)))) (Yi (dOf (Yo oIx (vOf (Yj 0)) (fC (.int 1)))) (Yi (dOf (Yj 1)) Yq))))))
noncomputable def q3x:FD:=(dOf (Yj 0))
noncomputable def q3D:FT:=(zAP (vOf (Yr q0o (Yi (dOf (Yo oIx (vOf (Yj 0)) (fC (.int 1)))) (Yi (dOf (Yo oIx (vOf (Yj 0)) (fC (.int 0)))) (Yi (dOf (Yj 1)) Yq))))))
noncomputable def q3z:FD:=(dOf (Yj 0))
noncomputable def q46:FS:=(Y3 (Xg 2 (Xc 1 [1] (WH (dOf (Yj 0))) (gN 0) q3n q3x))
  (zAH 2 (Y3 (Xg 3 (Xc 1 [1] (WH (dOf (Yj 0))) (gN 0) q3D q3z))
  (zAH 3 (XY (eOf (zAp (Yi (dOf (Xq WZ (Yi (vOf (Yj 2)) Yq))) (Yi (dOf (Xq WZ (Yi (vOf (Yj 3)) Yq))) Yq)))))))))
noncomputable def q0I:List D->Option O:=mir 4 q46
noncomputable abbrev q3P:vx:=top 10
theorem q3X:FnScope ["boxes", "gap", "rights", "lefts"] ["boxes", "gap"] (Yk q3P):=⟨rfl,rfl,rfl,⋯,rfl,⋯,⋯⟩
theorem qag{f_leads_over:vJ}{d_leads_over:vP}(F:Fun K "crossed" "crossed" q3P f fd)(c_leads_over:Cal P w K mg base 1 f_leads_over d_leads_over "leads_over" ["start", "goal", "gap"] 3 q0o)(z_len:mg "len" = none):
  FnOk P w K mg base CX0 2 f fd ["boxes", "gap"] (spD K 2 q0I):=by
 have h:=fnD (P:=P) (w:=w) (mg:=mg) (base:=base) (k:=1) (body:=q46) F q3X (λcdv A outer s H E hr=>
   (qa (q3g (i:=2) rfl q3X.nd rfl rfl (blk ["box"] ["gap"] [1] rfl ⋯ ⋯ rfl ⟨⟨rfl,(by first|exact Or.inl rfl|exact Or.inr rfl),rfl⟩,trivial⟩) (qu (vD 0)) (qB 0) (λ_ _ _ _=>⟨(qg (i:=0) (show ((["box"]:List Str)++(["gap"]:List Str):List Str).Nodup from by decide +kernel) rfl (Or.inl rfl)),(q4s (q07 (XE.toV (xc c_leads_over hr (Yg (XE.toD (Yl (vV 0) (XD.toV Yh))) (Yg (XE.toD (Yl (vV 0) (XD.toV Yh))) (Yg (vD 1) Yn))))))),(vD 0)⟩))
   (q3Q 2 (qa (q3g (i:=3) rfl q3X.nd rfl rfl (blk ["box"] ["gap"] [1] rfl ⋯ ⋯ rfl ⟨⟨rfl,(by first|exact Or.inl rfl|exact Or.inr rfl),rfl⟩,trivial⟩) (qu (vD 0)) (qB 0) (λ_ _ _ _=>⟨(qg (i:=0) (show ((["box"]:List Str)++(["gap"]:List Str):List Str).Nodup from by decide +kernel) rfl (Or.inl rfl)),(q4s (q07 (XE.toV (xc c_leads_over hr (Yg (XE.toD (Yl (vV 0) (XD.toV Yh))) (Yg (XE.toD (Yl (vV 0) (XD.toV Yh))) (Yg (vD 1) Yn))))))),(vD 0)⟩))
   (q3Q 3 (qb (qh (XD.toE (Xo (Yg (XE.toD (qp qk qK rfl z_len qL (qf (vV 2) qi))) (Yg (XE.toD (qp qk qK rfl z_len qL (qf (vV 3) qi))) Yn)))))))))))
 exact h
noncomputable def q3o:FD:=(dOf (Yo oLe (vOf (Yj 1)) (vOf (Xq zA3 (Yi (vOf (Yj 0)) Yq)))))
noncomputable def q3O:FS:=(XY (eOf (zAQ (dOf (Yr q0d (Yi (dOf (Yj 0)) (Yi (dOf (Yj 0)) (Yi (dOf (Yj 1)) Yq))))) (dOf (Xq zBi (Yi (vOf (Xc 1 [0] (WH (dOf (Yj 1))) (gN 0) XF q3o)) Yq))))))
noncomputable def q1i:List D->Option O:=mir 2 q3O
noncomputable abbrev q4f:vx:=top 12
theorem qck:FnScope ["gate", "boxes"] ["gate", "boxes"] (Yk q4f):=⟨rfl,rfl,rfl,⋯,rfl,⋯,⋯⟩
theorem qaZ{f_is_errand:vJ}{d_is_errand:vP}(F:Fun K "is_yard" "is_yard" q4f f fd)(c_is_errand:Cal P w K mg base 3 f_is_errand d_is_errand "is_errand" ["home", "last", "boxes"] 3 q0d)(z_min:mg "min" = none)(z_all:mg "all" = none):
  FnOk P w K mg base CX0 4 f fd ["gate", "boxes"] (spD K 2 q1i):=by
 have h:=fnD (P:=P) (w:=w) (mg:=mg) (base:=base) (k:=3) (body:=q3O) F qck (λcdv A outer s H E hr=>
   (qb (qh (XD.toE (q0n (XE.toD (xc c_is_errand hr (Yg (vD 0) (Yg (vD 0) (Yg (vD 1) Yn))))) (q0M (XE.toD (qp (q2S rfl) q5q rfl z_all q5R (qf (XE.toV (q03 rfl (blk ["box"] ["gate"] [0] rfl ⋯ ⋯ rfl ⟨⟨rfl,(by first|exact Or.inl rfl|exact Or.inr rfl),rfl⟩,trivial⟩) (qu (vD 1)) (qB 0) (λ_ _ _ _=>⟨(qg (i:=0) (show ((["box"]:List Str)++(["gate"]:List Str):List Str).Nodup from by decide +kernel) rfl (Or.inl rfl)),qU,(XE.toD (qaj (vV 1) (XE.toV (qp (q6L rfl) q9U rfl z_min qct (qf (vV 0) qi)))))⟩))) qi)))))))))
 exact h
noncomputable def q1p:FS:=(sIf (WM (zAP (vOf (Yr q1i (Yi (dOf (Yj 0)) (Yi (dOf (Yj 1)) Yq)))))) sNo WQ)
noncomputable def qo:List D->Option O:=mir 2 q1p
noncomputable abbrev q2J:vx:=top 13
theorem q8v:FnScope ["gate", "boxes"] ["gate", "boxes"] (Yk q2J):=⟨rfl,rfl,rfl,⋯,rfl,⋯,⋯⟩
theorem q7u{f_is_yard:vJ}{d_is_yard:vP}(F:Fun K "check_yard" "check_yard" q2J f fd)(c_is_yard:Cal P w K mg base 4 f_is_yard d_is_yard "is_yard" ["gate", "boxes"] 2 q1i):
  FnOk P w K mg base CX0 5 f fd ["gate", "boxes"] (spD K 2 qo):=by
 have h:=fnD (P:=P) (w:=w) (mg:=mg) (base:=base) (k:=4) (body:=q1p) F q8v (λcdv A outer s H E hr=>
   (qb (qC (q1a (q07 (XE.toV (xc c_is_yard hr (Yg (vD 0) (Yg (vD 1) Yn)))))) (qb qah) qr)))
 exact h
noncomputable def q1K:FS:=(sIf (tOf (Yo (oEq true) (vOf (Yj 3)) (vOf (Yj 4)))) (zCt 2 (dOf (zAE (Yi (dOf (Yj 3)) (Yi (dOf (Yj 4)) Yq))))) WQ)
noncomputable def q29:FS:=(Y3 (Xg 2 (zAE (Yi (dOf (Yj 0)) Yq)))
  (Y3 (zAX (WH (dOf (Yj 1))) (gT 2 (Yu (gN 3) (Yu (gN 4) Xz))) q1K)
  (XY (WB (vOf (Yj 2))))))
noncomputable def q0C:List D->Option O:=mir 5 q29
noncomputable abbrev q26:vx:=top 14
theorem q1d:FnScope ["gate", "boxes", "places", "start", "goal"] ["gate", "boxes"] (Yk q26):=⟨rfl,rfl,rfl,⋯,rfl,⋯,⋯⟩
theorem q66 (F:Fun K "yard_places" "yard_places" q26 f fd)(z_sorted:mg "sorted" = none)(q1X:mg "set" = none):
  FnOk P w K mg base CX0 1 f fd ["gate", "boxes"] (spD K 2 q0C):=by
 have h:=fnD (P:=P) (w:=w) (mg:=mg) (base:=base) (k:=0) (body:=q29) F q1d (λcdv A outer s H E hr=>
   (qa (qm (i:=2) q1d.nd rfl (Or.inl rfl) (XX (Yg (vD 0) Yn)))
   (qa (q0m PassesOwn.never rfl (qu (vD 1)) (q4g rfl (qO (qg (i:=3) q1d.nd rfl (Or.inl rfl)) (qO (qg (i:=4) q1d.nd rfl (Or.inl rfl)) q3l))) (qb (qC (WO hr.units (vV 3) (vV 4)) (qb (q5O (pv 2) (XE.toD (XX (Yg (vD 3) (Yg (vD 4) Yn)))))) qr)))
   (qb (qh (q5r rfl z_sorted rfl q1X (vV 2)))))))
 exact h
noncomputable def q1F:FS:=(XY (Xq zA5 (Yi (vOf (Yo WD (vOf (Yr q0I (Yi (dOf (Yj 0)) (Yi (dOf (Yj 1)) Yq)))) (zAp (Yi (fC (.int 1)) Yq)))) Yq)))
noncomputable def q0k:List D->Option O:=mir 2 q1F
noncomputable abbrev q1N:vx:=top 15
theorem q6s:FnScope ["boxes", "gap"] ["boxes", "gap"] (Yk q1N):=⟨rfl,rfl,rfl,⋯,rfl,⋯,⋯⟩
theorem q5N{f_crossed:vJ}{d_crossed:vP}(F:Fun K "times_passed" "times_passed" q1N f fd)(c_crossed:Cal P w K mg base 2 f_crossed d_crossed "crossed" ["boxes", "gap"] 2 q0I)(z_max:mg "max" = none):
  FnOk P w K mg base CX0 3 f fd ["boxes", "gap"] (spD K 2 q0k):=by
 have h:=fnD (P:=P) (w:=w) (mg:=mg) (base:=base) (k:=2) (body:=q1F) F q6s (λcdv A outer s H E hr=>
   (qb (qh (qp (q7i rfl) q9J rfl z_max qcN (qf (XE.toV (qQ (XE.toV (xc c_crossed hr (Yg (vD 0) (Yg (vD 1) Yn)))) (XD.toV (Xo (Yg Yh Yn))))) qi)))))
 exact h
noncomputable def q2R:FD:=(dOf (Yo WD (vOf (Yj 0)) (zAp (Yi (dOf (Yr q0k (Yi (dOf (Yj 1)) (Yi (dOf (Yj 0)) Yq)))) Yq))))
noncomputable def q5c:FS:=(Y3 (zBV (Yr qo (Yi (dOf (Yj 0)) (Yi (dOf (Yj 1)) Yq))))
  (Y3 (Xg 2 (eOf (dOf (Yr q0C (Yi (dOf (Yj 0)) (Yi (dOf (Yj 1)) Yq))))))
  (XY (Xc 1 [1] (iZp (Yi (dOf (Yj 2)) (Yi (dOf (fSl (vOf (Yj 2)) (pAt (fC (.int 1))) pNo)) Yq))) (gN 0) XF q2R))))
noncomputable def q0T:List D->Option O:=mir 3 q5c
noncomputable abbrev q50:vx:=top 16
theorem q7N:FnScope ["gate", "boxes", "places"] ["gate", "boxes"] (Yk q50):=⟨rfl,rfl,rfl,⋯,rfl,⋯,⋯⟩
theorem qcw{f_check_yard:vJ}{d_check_yard:vP}{f_yard_places:vJ}{d_yard_places:vP}{f_times_passed:vJ}{d_times_passed:vP}(F:Fun K "passes" "passes" q50 f fd)(c_check_yard:Cal P w K mg base 5 f_check_yard d_check_yard "check_yard" ["gate", "boxes"] 2 qo)(c_yard_places:Cal P w K mg base 1 f_yard_places d_yard_places "yard_places" ["gate", "boxes"] 2 q0C)(c_times_passed:Cal P w K mg base 3 f_times_passed d_times_passed "times_passed" ["boxes", "gap"] 2 q0k)(z_zip:mg "zip" = none):
  FnOk P w K mg base CX0 6 f fd ["gate", "boxes"] (spD K 2 q0T):=by
 have h:=fnD (P:=P) (w:=w) (mg:=mg) (base:=base) (k:=5) (body:=q5c) F q7N (λcdv A outer s H E hr=>
   (qa (q6B (xc c_check_yard hr (Yg (vD 0) (Yg (vD 1) Yn))))
   (qa (qm (i:=2) q7N.nd rfl (Or.inl rfl) (XD.toE (XE.toD (xc c_yard_places hr (Yg (vD 0) (Yg (vD 1) Yn))))))
   (qb (qh (q03 rfl (blk ["gap"] ["boxes"] [1] rfl ⋯ ⋯ rfl ⟨⟨rfl,(by first|exact Or.inl rfl|exact Or.inr rfl),rfl⟩,trivial⟩) (qeq rfl z_zip (Yg (vD 2) (Yg (XE.toD (Y9 (vV 2) (XC (XD.toV Yh)) Xd)) Yn))) (qB 0) (λ_ _ _ _=>⟨(qg (i:=0) (show ((["gap"]:List Str)++(["boxes"]:List Str):List Str).Nodup from by decide +kernel) rfl (Or.inl rfl)),qU,(XE.toD (qQ (vV 0) (XD.toV (Xo (Yg (XE.toD (xc c_times_passed hr (Yg (vD 1) (Yg (vD 0) Yn)))) Yn)))))⟩)))))))
 exact h
noncomputable def q2d:FD:=(dOf (Yo zB3 (vOf (Yo zB3 (fC (.int 2)) (vOf (Yo zBR (vOf (Yj 1)) (vOf (Yj 0)))))) (vOf (Yj 2))))
noncomputable def q2K:FS:=(XY (Xq bSum (Yi (vOf (Xc 3 [] (WH (dOf (Yr q0T (Yi (dOf (Yj 0)) (Yi (dOf (Yj 1)) Yq))))) (gT 3 (Yu (gN 0) (Yu (gN 1) (Yu (gN 2) Xz)))) XF q2d)) Yq)))
noncomputable def q0l:List D->Option O:=mir 2 q2K
noncomputable abbrev q2B:vx:=top 17
theorem q8x:FnScope ["gate", "boxes"] ["gate", "boxes"] (Yk q2B):=⟨rfl,rfl,rfl,⋯,rfl,⋯,⋯⟩
theorem q7k{f_passes:vJ}{d_passes:vP}(F:Fun K "yard_least" "yard_least" q2B f fd)(c_passes:Cal P w K mg base 6 f_passes d_passes "passes" ["gate", "boxes"] 2 q0T)(z_sum:mg "sum" = none):
  FnOk P w K mg base CX0 7 f fd ["gate", "boxes"] (spD K 2 q0l):=by
 have h:=fnD (P:=P) (w:=w) (mg:=mg) (base:=base) (k:=6) (body:=q2K) F q8x (λcdv A outer s H E hr=>
   (qb (qh (qp (qbT rfl) qg9 rfl z_sum qgG (qf (XE.toV (q03 rfl (blk ["left", "right", "times"] [] [] rfl ⋯ ⋯ rfl trivial) (qu (XE.toD (xc c_passes hr (Yg (vD 0) (Yg (vD 1) Yn))))) (qcq (q1x (qB 0) (q1x (qB 1) (q1x (qB 2) q76)))) (λ_ _ _ _=>⟨(q4g rfl (qO (qg (i:=0) (show ((["left", "right", "times"]:List Str)++([]:List Str):List Str).Nodup from by decide +kernel) rfl (Or.inl rfl)) (qO (qg (i:=1) (show ((["left", "right", "times"]:List Str)++([]:List Str):List Str).Nodup from by decide +kernel) rfl (Or.inl rfl)) (qO (qg (i:=2) (show ((["left", "right", "times"]:List Str)++([]:List Str):List Str).Nodup from by decide +kernel) rfl (Or.inl rfl)) q3l)))),qU,(XE.toD (q88 (XE.toV (q88 (XD.toV Yh) (XE.toV (q1r (vV 1) (vV 0))))) (vV 2)))⟩))) qi)))))
 exact h
noncomputable def q4k:FS:=sNb
noncomputable def q1l:List D->Option O:=mir 5 q4k
noncomputable abbrev q2q:vx:=top 19
theorem q3T:FnScope ["things", "ties", "beside", "thing", "tie"] ["things", "ties"] (Yk q2q):=⟨rfl,rfl,rfl,⋯,rfl,⋯,⋯⟩
theorem q7o (F:Fun K "neighbours" "neighbours" q2q f fd):
  FnOk P w K mg base CX0 1 f fd ["things", "ties"] (spD K 2 q1l):=by
 have h:=fnD (P:=P) (w:=w) (mg:=mg) (base:=base) (k:=0) (body:=q4k) F q3T (λcdv A outer s H E hr=>
   (qga hr.units PassesOwn.never rfl q3T.nd rfl rfl rfl (by first|exact Or.inl rfl|exact Or.inr rfl) (by first|exact Or.inl rfl|exact Or.inr rfl) (by first|exact Or.inl rfl|exact Or.inr rfl) (by first|exact .inl rfl|exact .inr rfl) (by first|exact .inl rfl|exact .inr rfl) (by first|exact .inl rfl|exact .inr rfl) (pv 0) (pv 1) (pv 2) (pv 2) (pv 2) (pv 3) (pv 2) (XE.toD (Yl (vV 4) (XD.toV Yh))) (XE.toD (Yl (vV 4) (XD.toV Yh))) (XE.toD (Yl (vV 4) (XD.toV Yh))) (XE.toD (Yl (vV 4) (XD.toV Yh))) (λω e h=>qfL h) (λω e h=>qfB h)))
 exact h
noncomputable def q32:FS:=(sIf (zBn true 2 (dOf (Yj 5))) (Y3 (zCj 2 (dOf (Yj 5)) (fC (.bl true)))
  (sApp 3 (dOf (Yj 5)))) WQ)
noncomputable def q1Y:FT:=(zAP (vOf (Yj 3)))
noncomputable def q37:FS:=(Y3 (zBs 4 (zBq 3))
  (zAX (WH (dOf (zCV 1 (dOf (Yj 4))))) (gN 5) q32))
noncomputable def q3p:FS:=(Y3 (zBU 2 (dOf (Yj 0)) (fC (.bl true)))
  (Y3 (Xg 3 (zAE (Yi (dOf (Yj 0)) Yq)))
  (Y3 (sWh 1000000 q1Y q37)
  (XY (zBh 2)))))
noncomputable def q1w:List D->Option O:=mir 6 q3p
noncomputable abbrev q3C:vx:=top 20
theorem q1o:FnScope ["thing", "beside", "found", "waiting", "here", "other"] ["thing", "beside"] (Yk q3C):=⟨rfl,rfl,rfl,⋯,rfl,⋯,⋯⟩
theorem q9d (F:Fun K "group_of" "group_of" q3C f fd)(z_sorted:mg "sorted" = none):
  FnOk P w K mg base CX0 1 f fd ["thing", "beside"] (spD K 2 q1w):=by
 have h:=fnD (P:=P) (w:=w) (mg:=mg) (base:=base) (k:=0) (body:=q3p) F q1o (λcdv A outer s H E hr=>
   (qa (qdw (i:=2) q1o.nd rfl (Or.inl rfl) (vD 0) WP)
   (qa (qm (i:=3) q1o.nd rfl (Or.inl rfl) (XX (Yg (vD 0) Yn)))
   (qa (q7R PassesOwn.never (q07 (vV 3)) (qa (qfb (i:=4) q1o.nd rfl (Or.inl rfl) (qep (pv 3)))
   (qb (q0m PassesOwn.never rfl (qu (XE.toD (qeU hr.units (pv 1) (vD 4)))) (qg (i:=5) q1o.nd rfl (Or.inl rfl)) (qb (qC (qbK hr.units (vD 5) (pv 2)) (qa (qeC hr.units (pv 2) (vD 5) WP)
   (qb (q7C (pv 3) (vD 5)))) qr))))))
   (qb (qh (qdo rfl rfl z_sorted (pv 2))))))))
 exact h
noncomputable abbrev q04:vx:=top 22
theorem q20:FnScope ["arcs", "numbers", "number", "arc"] ["arcs"] (Yk q04):=⟨rfl,rfl,rfl,⋯,rfl,⋯,⋯⟩
theorem q3N(F:Fun K "numbers_by_start" "numbers_by_start" q04 f fd)(z_enumerate:mg "enumerate" = none):FnOk P w K mg base CX0 1 f fd ["arcs"] (spT K):=by
 refine F.ok q20 (λvs H Q E h=>?_) (λcdv A outer s H vs Q E hr h=>?_)
 ·obtain⟨G,as,_,rp,_⟩:=h
  rw[<- rp.len];rfl
 ·exact qeN (X:=(zBA CX0 P w K mg base ["arcs", "numbers", "number", "arc"] "numbers_by_start" (Yk q04) f cdv A outer s H E).nox) PassesOwn.never rfl q20.nd rfl rfl rfl (by first|exact Or.inl rfl|exact Or.inr rfl) (by first|exact Or.inl rfl|exact Or.inr rfl) (by first|exact Or.inl rfl|exact Or.inr rfl) (by first|exact .inl rfl|exact .inr rfl) (by first|exact .inl rfl|exact .inr rfl) (by first|exact .inl rfl|exact .inr rfl) rfl z_enumerate (pv 0) (pv 1) (pv 2) (pv 1) (XE.toD (Yl (vV 3) (XD.toV Yh))) (λω e h=>qge h) rfl ⟨rfl,rfl,rfl,rfl⟩ rfl rfl rfl rfl rfl rfl rfl rfl (λt h=>qcF rfl h) (by intro _;rfl) h
noncomputable def qY:FD:=(dOf (Yo oIx (vOf (Yj 0)) (fC (.int 0))))
noncomputable def qZ:FD:=(dOf (Yo oIx (vOf (Yj 0)) (fC (.int 1))))
noncomputable def q0e:FS:=(XY (Yo (oEq false) (vOf (zAl (vOf (Xc 1 [] (WH (dOf (Yj 0))) (gN 0) XF qY)))) (vOf (zAl (vOf (Xc 1 [] (WH (dOf (Yj 0))) (gN 0) XF qZ))))))
noncomputable def qA:List D->Option O:=mir 1 q0e
noncomputable abbrev q0i:vx:=top 23
theorem q2Z:FnScope ["arcs"] ["arcs"] (Yk q0i):=⟨rfl,rfl,rfl,⋯,rfl,⋯,⋯⟩
theorem q2N (F:Fun K "as_many_begin_as_end" "as_many_begin_as_end" q0i f fd)(z_sorted:mg "sorted" = none):
  FnOk P w K mg base CX0 1 f fd ["arcs"] (spD K 1 qA):=by
 have h:=fnD (P:=P) (w:=w) (mg:=mg) (base:=base) (k:=0) (body:=q0e) F q2Z (λcdv A outer s H E hr=>
   (qb (qh (zBw hr.units (XE.toV (q7Y rfl z_sorted (XE.toV (q03 rfl (blk ["arc"] [] [] rfl ⋯ ⋯ rfl trivial) (qu (vD 0)) (qB 0) (λ_ _ _ _=>⟨(qg (i:=0) (show ((["arc"]:List Str)++([]:List Str):List Str).Nodup from by decide +kernel) rfl (Or.inl rfl)),qU,(XE.toD (Yl (vV 0) (XD.toV Yh)))⟩))))) (XE.toV (q7Y rfl z_sorted (XE.toV (q03 rfl (blk ["arc"] [] [] rfl ⋯ ⋯ rfl trivial) (qu (vD 0)) (qB 0) (λ_ _ _ _=>⟨(qg (i:=0) (show ((["arc"]:List Str)++([]:List Str):List Str).Nodup from by decide +kernel) rfl (Or.inl rfl)),qU,(XE.toD (Yl (vV 0) (XD.toV Yh)))⟩)))))))))
 exact h
noncomputable abbrev q0R:vx:=top 24
theorem qE:FnScope ["start", "arcs", "waiting", "trail", "backwards", "here", "number"] ["start", "arcs"] (Yk q0R):=⟨rfl,rfl,rfl,⋯,rfl,⋯,⋯⟩
noncomputable def q1q:List D->Option O:=mRF
theorem q7j{f_n:vJ}{d_n:vP}(F:Fun K "round_from" "round_from" q0R f fd)(G_n:FnOk P w K mg base CX0 1 f_n d_n ["arcs"] (spT K))(a_n:mg "numbers_by_start" = some (.ref f_n))(k_n:xI K (.ref f_n)=true)(b_n:Binds K d_n ["arcs"] [])(z_list:mg "list" = none)(z_reversed:mg "reversed" = none):FnOk P w K mg base CX0 2 f fd ["start", "arcs"] (spD K 2 q1q):=by
 refine F.ok qE (λvs H Q E h=>?_) (λcdv A outer s H vs Q E hr h=>?_)
 ·obtain⟨G,ds,r,_,h2,_,h4,_⟩:=h
  rw[<- h4.len];exact h2
 ·have hu:=hu1 (X:=(zBA CX0 P w K mg base ["start", "arcs", "waiting", "trail", "backwards", "here", "number"] "round_from" (Yk q0R) f cdv A outer s H E).nox) hr.units
  exact qfI (X:=(zBA CX0 P w K mg base ["start", "arcs", "waiting", "trail", "backwards", "here", "number"] "round_from" (Yk q0R) f cdv A outer s H E).nox) (f1:=(dOf (Yo oIx (vOf (Yo oIx (vOf (Yj 1)) (vOf (Yj 6)))) (fC (.int 1))))) (f0:=(dOf (Yo oIx (vOf (Yo oIx (vOf (Yj 1)) (vOf (Yj 6)))) (fC (.int 0))))) (XE.toD (Yl (XE.toV (Yl (vV 1) (vV 6))) (XD.toV Yh))) (XE.toD (Yl (XE.toV (Yl (vV 1) (vV 6))) (XD.toV Yh))) (λ_ _ _=>qfN) (λ_ _ _=>qfC) rfl h (λp1 p0=>(qy (q05 (i:=2) qE.nd rfl (by first|exact Or.inl rfl|exact Or.inr rfl) (q4u G_n (hr.mono (by decide)) rfl a_n k_n b_n .nil zB2 (qv (pv 1) qt rfl)) rfl (by first|exact .inl rfl|exact .inr rfl)) (qy (q05 (i:=3) qE.nd rfl (by first|exact Or.inl rfl|exact Or.inr rfl) (q2l qt) rfl (by first|exact .inl rfl|exact .inr rfl)) (qy (q05 (i:=4) qE.nd rfl (by first|exact Or.inl rfl|exact Or.inr rfl) (q2l qt) rfl (by first|exact .inl rfl|exact .inr rfl)) (qy (q05 (i:=5) qE.nd rfl (by first|exact Or.inl rfl|exact Or.inr rfl) (pv 0) rfl (by first|exact .inl rfl|exact .inr rfl)) (qy (q8X PassesOwn.never (qe7 (q3y (pv 3) (by intro _;rfl)) (qcU (q3y (q8s hu (pv 2) (pv 5) (q2l qt) ⟨rfl,rfl,rfl,rfl⟩) (by intro _;rfl)))).pt (q0F (qec (q3y (q8s hu (pv 2) (pv 5) (q2l qt) ⟨rfl,rfl,rfl,rfl⟩) (by intro _;rfl)) (qy (q05 (i:=6) qE.nd rfl (by first|exact Or.inl rfl|exact Or.inr rfl) (q7H PySem.F.plainAttrs_list PySem.F.slot_list_pop PySem.F.type_list_pop q8C (q4D hu (pv 2) (pv 5) (by intro _ _;rfl)) rfl rfl) rfl (by first|exact .inl rfl|exact .inr rfl)) (qy (q0E (q2P PySem.F.plainAttrs_list PySem.F.slot_list_append PySem.F.type_list_append q0r (pv 3) (qv (pv 6) qt rfl) rfl rfl rfl rfl rfl) rfl) (q0F (q05 (i:=5) qE.nd rfl (by first|exact Or.inl rfl|exact Or.inr rfl) p1 rfl (by first|exact .inl rfl|exact .inr rfl))))) (qy (q05 (i:=6) qE.nd rfl (by first|exact Or.inl rfl|exact Or.inr rfl) (q7H PySem.F.plainAttrs_list PySem.F.slot_list_pop PySem.F.type_list_pop q8C (pv 3) rfl rfl) rfl (by first|exact .inl rfl|exact .inr rfl)) (qy (q0E (q2P PySem.F.plainAttrs_list PySem.F.slot_list_append PySem.F.type_list_append q0r (pv 4) (qv (pv 6) qt rfl) rfl rfl rfl rfl rfl) rfl) (q0F (q05 (i:=5) qE.nd rfl (by first|exact Or.inl rfl|exact Or.inr rfl) p0 rfl (by first|exact .inl rfl|exact .inr rfl)))))))) (q0F (q4l (qbn rfl z_list rfl z_reversed (qv (pv 4) qt rfl) rfl rfl rfl rfl rfl)))))))))
noncomputable def q5a:FS:=(Y3 (sIf (WM (zAP (vOf (Yr qA (Yi (dOf (Yj 1)) Yq))))) sNo WQ)
  (Y3 (Xg 2 (eOf (dOf (Yr q1q (Yi (dOf (Yj 0)) (Yi (dOf (Yj 1)) Yq))))))
  (Y3 (sIf (tOf (Yo (oEq true) (vOf (Xq WZ (Yi (vOf (Yj 2)) Yq))) (vOf (Xq WZ (Yi (vOf (Yj 1)) Yq))))) sNo WQ)
  (XY (Yj 2)))))
noncomputable def q2H:List D->Option O:=mir 3 q5a
noncomputable abbrev q4Z:vx:=top 25
theorem q8r:FnScope ["start", "arcs", "row"] ["start", "arcs"] (Yk q4Z):=⟨rfl,rfl,rfl,⋯,rfl,⋯,⋯⟩
theorem qc9{f_as_many_begin_as_end:vJ}{d_as_many_begin_as_end:vP}{f_round_from:vJ}{d_round_from:vP}(F:Fun K "row_of" "row_of" q4Z f fd)(c_as_many_begin_as_end:Cal P w K mg base 1 f_as_many_begin_as_end d_as_many_begin_as_end "as_many_begin_as_end" ["arcs"] 1 qA)(c_round_from:Cal P w K mg base 2 f_round_from d_round_from "round_from" ["start", "arcs"] 2 q1q)(z_len:mg "len" = none):
  FnOk P w K mg base CX0 3 f fd ["start", "arcs"] (spD K 2 q2H):=by
 have h:=fnD (P:=P) (w:=w) (mg:=mg) (base:=base) (k:=2) (body:=q5a) F q8r (λcdv A outer s H E hr=>
   (qa (qC (q1a (q07 (XE.toV (xc c_as_many_begin_as_end hr (Yg (vD 1) Yn))))) (qb qah) qr)
   (qa (qm (i:=2) q8r.nd rfl (Or.inl rfl) (XD.toE (XE.toD (xc c_round_from hr (Yg (vD 0) (Yg (vD 1) Yn))))))
   (qa (qC (WO hr.units (XE.toV (qp qk qK rfl z_len qL (qf (vV 2) qi))) (XE.toV (qp qk qK rfl z_len qL (qf (vV 1) qi)))) (qb qah) qr)
   (qb (qh (vE 2)))))))
 exact h
noncomputable def q6F:FS:=(Y3 (sIf (zCB (WM (zAP (vOf (zBo .tup (vOf (Yj 0)))))) (zCB (tOf (Yo (oEq true) (vOf (Xq WZ (Yi (vOf (Yj 0)) Yq))) (fC (.int 3)))) (tOf (Yo (oEq true) (vOf (Yo oIx (vOf (Yj 0)) (fC (.int 0)))) (fC (.str "go")))))) (XY (eOf (fC (.bl false)))) WQ)
  (XY (eOf (zAQ (dOf (Yr qw (Yi (dOf (Yo oIx (vOf (Yj 0)) (fC (.int 1)))) Yq))) (zAQ (dOf (Yr qw (Yi (dOf (Yo oIx (vOf (Yj 0)) (fC (.int 2)))) Yq))) (dOf (Yo (oEq true) (vOf (Yo oIx (vOf (Yj 0)) (fC (.int 1)))) (vOf (Yo oIx (vOf (Yj 0)) (fC (.int 2)))))))))))
noncomputable def q3i:List D->Option O:=mir 1 q6F
noncomputable abbrev q6z:vx:=top 27
theorem qeR:FnScope ["thing"] ["thing"] (Yk q6z):=⟨rfl,rfl,rfl,⋯,rfl,⋯,⋯⟩
theorem qdV{f_is_whole:vJ}{d_is_whole:vP}(F:Fun K "is_go" "is_go" q6z f fd)(c_is_whole:Cal P w K mg base 1 f_is_whole d_is_whole "is_whole" ["thing"] 1 qw)(z_len:mg "len" = none)(z_isinstance:mg "isinstance" = none)(z_tuple:mg "tuple" = none)(i_tuple:IsT K .tup):
  FnOk P w K mg base CX0 2 f fd ["thing"] (spD K 1 q3i):=by
 have h:=fnD (P:=P) (w:=w) (mg:=mg) (base:=base) (k:=1) (body:=q6F) F qeR (λcdv A outer s H E hr=>
   (qa (qC (XW.toT (q4v (q1a (q07 (XE.toV (q2m (vV 0) i_tuple rfl z_isinstance rfl z_tuple q51)))) (q4v (WO hr.units (XE.toV (qp qk qK rfl z_len qL (qf (vV 0) qi))) (XD.toV Yh)) (q8J (WO hr.units (XE.toV (Yl (vV 0) (XD.toV Yh))) (XD.toV WI)))))) (qb (qh (XD.toE WP))) qr)
   (qb (qh (XD.toE (q0n (XE.toD (xc c_is_whole hr (Yg (XE.toD (Yl (vV 0) (XD.toV Yh))) Yn))) (q0n (XE.toD (xc c_is_whole hr (Yg (XE.toD (Yl (vV 0) (XD.toV Yh))) Yn))) (q0M (XE.toD (xe_ne hr.units (XE.toV (Yl (vV 0) (XD.toV Yh))) (XE.toV (Yl (vV 0) (XD.toV Yh)))))))))))))
 exact h
noncomputable def q0Y:FD:=(dOf (Yr qw (Yi (dOf (Yj 0)) Yq)))
noncomputable def q1e:FS:=(Y3 (sIf (zCB (WM (zAP (vOf (zBo .tup (vOf (Yj 0)))))) (zCB (tOf (Yo (oEq true) (vOf (Xq WZ (Yi (vOf (Yj 0)) Yq))) (fC (.int 4)))) (tOf (Yo (oEq true) (vOf (Yo oIx (vOf (Yj 0)) (fC (.int 0)))) (fC (.str "box")))))) (XY (eOf (fC (.bl false)))) WQ)
  (Y3 (sIf (WM (zAP (vOf (Xq zBi (Yi (vOf (Xc 1 [] (WH (dOf (fSl (vOf (Yj 0)) (pAt (fC (.int 1))) pNo))) (gN 0) XF q0Y)) Yq))))) (XY (eOf (fC (.bl false)))) WQ)
  (XY (eOf (zAQ (dOf (Yo oGe (vOf (Yo oIx (vOf (Yj 0)) (fC (.int 1)))) (fC (.int 0)))) (dOf (Yo oLt (vOf (Yo oIx (vOf (Yj 0)) (fC (.int 1)))) (vOf (Xq WZ (Yi (vOf (Yj 1)) Yq))))))))))
noncomputable def qV:List D->Option O:=mir 2 q1e
noncomputable abbrev q1g:vx:=top 28
theorem q52:FnScope ["thing", "boxes"] ["thing", "boxes"] (Yk q1g):=⟨rfl,rfl,rfl,⋯,rfl,⋯,⋯⟩
theorem q4L{f_is_whole:vJ}{d_is_whole:vP}(F:Fun K "has_carry_form" "has_carry_form" q1g f fd)(c_is_whole:Cal P w K mg base 1 f_is_whole d_is_whole "is_whole" ["thing"] 1 qw)(z_len:mg "len" = none)(z_isinstance:mg "isinstance" = none)(z_tuple:mg "tuple" = none)(z_all:mg "all" = none)(i_tuple:IsT K .tup):
  FnOk P w K mg base CX0 2 f fd ["thing", "boxes"] (spD K 2 qV):=by
 have h:=fnD (P:=P) (w:=w) (mg:=mg) (base:=base) (k:=1) (body:=q1e) F q52 (λcdv A outer s H E hr=>
   (qa (qC (XW.toT (q4v (q1a (q07 (XE.toV (q2m (vV 0) i_tuple rfl z_isinstance rfl z_tuple q51)))) (q4v (WO hr.units (XE.toV (qp qk qK rfl z_len qL (qf (vV 0) qi))) (XD.toV Yh)) (q8J (WO hr.units (XE.toV (Yl (vV 0) (XD.toV Yh))) (XD.toV WI)))))) (qb (qh (XD.toE WP))) qr)
   (qa (qC (q1a (q07 (XE.toV (qp (q2S rfl) q5q rfl z_all q5R (qf (XE.toV (q03 rfl (blk ["part"] [] [] rfl ⋯ ⋯ rfl trivial) (qu (XE.toD (Y9 (vV 0) (XC (XD.toV Yh)) Xd))) (qB 0) (λ_ _ _ _=>⟨(qg (i:=0) (show ((["part"]:List Str)++([]:List Str):List Str).Nodup from by decide +kernel) rfl (Or.inl rfl)),qU,(XE.toD (xc c_is_whole hr (Yg (vD 0) Yn)))⟩))) qi))))) (qb (qh (XD.toE WP))) qr)
   (qb (qh (XD.toE (q0n (XE.toD (qbd (XE.toV (Yl (vV 0) (XD.toV Yh))) (XD.toV Yh))) (q0M (XE.toD (qav (XE.toV (Yl (vV 0) (XD.toV Yh))) (XE.toV (qp qk qK rfl z_len qL (qf (vV 1) qi)))))))))))))
 exact h
noncomputable def q5i:FS:=(Y3 (sIf (tOf (Yo (oEq true) (vOf (Yo oIx (vOf (Yj 4)) (vOf (zB7 (fC (.int 2)))))) (vOf (Yj 3)))) (XY (eOf (fC (.bl false)))) WQ)
  (Xg 3 (eOf (dOf (Yo oIx (vOf (Yj 4)) (vOf (zB7 (fC (.int 1)))))))))
noncomputable def q6l:FS:=(Y3 (Xg 3 (eOf (dOf (Yj 0))))
  (Y3 (zAX (WH (dOf (Yj 2))) (gN 4) q5i)
  (XY (Yo (oEq false) (vOf (Yj 3)) (vOf (Yj 1))))))
noncomputable def q3f:List D->Option O:=mir 5 q6l
noncomputable abbrev q6h:vx:=top 29
theorem q4r:FnScope ["home", "last", "moves", "here", "move"] ["home", "last", "moves"] (Yk q6h):=⟨rfl,rfl,rfl,⋯,rfl,⋯,⋯⟩
theorem qdT (F:Fun K "leads" "leads" q6h f fd):
  FnOk P w K mg base CX0 1 f fd ["home", "last", "moves"] (spD K 3 q3f):=by
 have h:=fnD (P:=P) (w:=w) (mg:=mg) (base:=base) (k:=0) (body:=q6l) F q4r (λcdv A outer s H E hr=>
   (qa (qm (i:=3) q4r.nd rfl (Or.inl rfl) (XD.toE (vD 0)))
   (qa (q0m PassesOwn.never rfl (qu (vD 2)) (qg (i:=4) q4r.nd rfl (Or.inl rfl)) (qa (qC (WO hr.units (XE.toV (Yl (vV 4) (XE.toV (q2u (XD.toV Yh))))) (vV 3)) (qb (qh (XD.toE WP))) qr)
   (qb (qm (i:=3) q4r.nd rfl (Or.inl rfl) (XD.toE (XE.toD (Yl (vV 4) (XE.toV (q2u (XD.toV Yh))))))))))
   (qb (qh (zBw hr.units (vV 3) (vV 1)))))))
 exact h
noncomputable def q1t:FS:=(XY (eOf (zAQ (dOf (Yr qV (Yi (dOf (Yj 0)) (Yi (dOf (Yj 1)) Yq)))) (dOf (Yo (oEq true) (vOf (Yo oIx (vOf (Yj 0)) (fC (.int 2)))) (vOf (Yo oIx (vOf (Yj 0)) (fC (.int 3)))))))))
noncomputable def q09:List D->Option O:=mir 2 q1t
noncomputable abbrev q1D:vx:=top 31
theorem q5z:FnScope ["thing", "boxes"] ["thing", "boxes"] (Yk q1D):=⟨rfl,rfl,rfl,⋯,rfl,⋯,⋯⟩
theorem q5d{f_has_carry_form:vJ}{d_has_carry_form:vP}(F:Fun K "is_yard_carry" "is_yard_carry" q1D f fd)(c_has_carry_form:Cal P w K mg base 2 f_has_carry_form d_has_carry_form "has_carry_form" ["thing", "boxes"] 2 qV):
  FnOk P w K mg base CX0 3 f fd ["thing", "boxes"] (spD K 2 q09):=by
 have h:=fnD (P:=P) (w:=w) (mg:=mg) (base:=base) (k:=2) (body:=q1t) F q5z (λcdv A outer s H E hr=>
   (qb (qh (XD.toE (q0n (XE.toD (xc c_has_carry_form hr (Yg (vD 0) (Yg (vD 1) Yn)))) (q0M (XE.toD (xe_ne hr.units (XE.toV (Yl (vV 0) (XD.toV Yh))) (XE.toV (Yl (vV 0) (XD.toV Yh)))))))))))
 exact h
noncomputable def q0K:FD:=(dOf (Yo oIx (vOf (Yj 0)) (fC (.int 0))))
noncomputable def q0J:FS:=(sIf (tOf (Yo (oEq false) (vOf (Yo oIx (vOf (Yj 3)) (fC (.int 0)))) (fC (.str "box")))) (Y3 (sIf (tOf (Yo (oEq true) (vOf (Yo oIx (vOf (Yj 2)) (vOf (Yo oIx (vOf (Yj 3)) (fC (.int 1)))))) (vOf (Yo oIx (vOf (Yj 3)) (fC (.int 2)))))) (XY (eOf (fC (.bl false)))) WQ)
  (zCf 2 (dOf (Yo oIx (vOf (Yj 3)) (fC (.int 1)))) (dOf (Yo oIx (vOf (Yj 3)) (fC (.int 3)))))) WQ)
noncomputable def q0P:FD:=(dOf (Yo oIx (vOf (Yj 0)) (fC (.int 1))))
noncomputable def q0X:FS:=(Y3 (Xg 2 (Xc 1 [] (WH (dOf (Yj 0))) (gN 0) XF q0K))
  (Y3 (zAX (WH (dOf (Yj 1))) (gN 3) q0J)
  (XY (Yo (oEq false) (vOf (Yj 2)) (vOf (Xc 1 [] (WH (dOf (Yj 0))) (gN 0) XF q0P))))))
noncomputable def qP:List D->Option O:=mir 4 q0X
noncomputable abbrev q0Z:vx:=top 32
theorem q16:FnScope ["boxes", "moves", "lying", "move"] ["boxes", "moves"] (Yk q0Z):=⟨rfl,rfl,rfl,⋯,rfl,⋯,⋯⟩
theorem q49 (F:Fun K "brings_each_box" "brings_each_box" q0Z f fd):
  FnOk P w K mg base CX0 1 f fd ["boxes", "moves"] (spD K 2 qP):=by
 have h:=fnD (P:=P) (w:=w) (mg:=mg) (base:=base) (k:=0) (body:=q0X) F q16 (λcdv A outer s H E hr=>
   (qa (q3g (i:=2) rfl q16.nd rfl rfl (blk ["box"] [] [] rfl ⋯ ⋯ rfl trivial) (qu (vD 0)) (qB 0) (λ_ _ _ _=>⟨(qg (i:=0) (show ((["box"]:List Str)++([]:List Str):List Str).Nodup from by decide +kernel) rfl (Or.inl rfl)),qU,(XE.toD (Yl (vV 0) (XD.toV Yh)))⟩))
   (qa (q0m PassesOwn.never rfl (qu (vD 1)) (qg (i:=3) q16.nd rfl (Or.inl rfl)) (qb (qC (zCA hr.units (XE.toV (Yl (vV 3) (XD.toV Yh))) (XD.toV WI)) (qa (qC (WO hr.units (XE.toV (Yl (vV 2) (XE.toV (Yl (vV 3) (XD.toV Yh))))) (XE.toV (Yl (vV 3) (XD.toV Yh)))) (qb (qh (XD.toE WP))) qr)
   (qb (qfq (pv 2) (XE.toD (Yl (vV 3) (XD.toV Yh))) (XE.toD (Yl (vV 3) (XD.toV Yh)))))) qr)))
   (qb (qh (zBw hr.units (vV 2) (XE.toV (q03 rfl (blk ["box"] [] [] rfl ⋯ ⋯ rfl trivial) (qu (vD 0)) (qB 0) (λ_ _ _ _=>⟨(qg (i:=0) (show ((["box"]:List Str)++([]:List Str):List Str).Nodup from by decide +kernel) rfl (Or.inl rfl)),qU,(XE.toD (Yl (vV 0) (XD.toV Yh)))⟩)))))))))
 exact h
noncomputable def q1y:FD:=(vOr (dOf (Yr q3i (Yi (dOf (Yj 0)) Yq))) (dOf (Yr q09 (Yi (dOf (Yj 0)) (Yi (dOf (Yj 1)) Yq)))))
noncomputable def q1P:FS:=(Y3 (zBV (Yr qo (Yi (dOf (Yj 0)) (Yi (dOf (Yj 1)) Yq))))
  (Y3 (sIf (WM (zAP (vOf (zBo .lst (vOf (Yj 2)))))) (XY (eOf (fC (.bl false)))) WQ)
  (Y3 (sIf (WM (zAP (vOf (Xq zBi (Yi (vOf (Xc 1 [1] (WH (dOf (Yj 2))) (gN 0) XF q1y)) Yq))))) (XY (eOf (fC (.bl false)))) WQ)
  (XY (eOf (zAQ (dOf (Yr q3f (Yi (dOf (Yj 0)) (Yi (dOf (Yj 0)) (Yi (dOf (Yj 2)) Yq))))) (dOf (Yr qP (Yi (dOf (Yj 1)) (Yi (dOf (Yj 2)) Yq))))))))))
noncomputable def qT:List D->Option O:=mir 3 q1P
noncomputable abbrev q1G:vx:=top 33
theorem q6n:FnScope ["gate", "boxes", "thing"] ["gate", "boxes", "thing"] (Yk q1G):=⟨rfl,rfl,rfl,⋯,rfl,⋯,⋯⟩
theorem q5v{f_check_yard:vJ}{d_check_yard:vP}{f_is_yard_carry:vJ}{d_is_yard_carry:vP}{f_is_go:vJ}{d_is_go:vP}{f_brings_each_box:vJ}{d_brings_each_box:vP}{f_leads:vJ}{d_leads:vP}(F:Fun K "is_yard_tour" "is_yard_tour" q1G f fd)(c_check_yard:Cal P w K mg base 5 f_check_yard d_check_yard "check_yard" ["gate", "boxes"] 2 qo)(c_is_yard_carry:Cal P w K mg base 3 f_is_yard_carry d_is_yard_carry "is_yard_carry" ["thing", "boxes"] 2 q09)(c_is_go:Cal P w K mg base 2 f_is_go d_is_go "is_go" ["thing"] 1 q3i)(c_brings_each_box:Cal P w K mg base 1 f_brings_each_box d_brings_each_box "brings_each_box" ["boxes", "moves"] 2 qP)(c_leads:Cal P w K mg base 1 f_leads d_leads "leads" ["home", "last", "moves"] 3 q3f)(z_isinstance:mg "isinstance" = none)(z_list:mg "list" = none)(z_all:mg "all" = none)(i_list:IsT K .lst):
  FnOk P w K mg base CX0 6 f fd ["gate", "boxes", "thing"] (spD K 3 qT):=by
 have h:=fnD (P:=P) (w:=w) (mg:=mg) (base:=base) (k:=5) (body:=q1P) F q6n (λcdv A outer s H E hr=>
   (qa (q6B (xc c_check_yard hr (Yg (vD 0) (Yg (vD 1) Yn))))
   (qa (qC (q1a (q07 (XE.toV (q2m (vV 2) i_list rfl z_isinstance rfl z_list q1V)))) (qb (qh (XD.toE WP))) qr)
   (qa (qC (q1a (q07 (XE.toV (qp (q2S rfl) q5q rfl z_all q5R (qf (XE.toV (q03 rfl (blk ["move"] ["boxes"] [1] rfl ⋯ ⋯ rfl ⟨⟨rfl,(by first|exact Or.inl rfl|exact Or.inr rfl),rfl⟩,trivial⟩) (qu (vD 2)) (qB 0) (λ_ _ _ _=>⟨(qg (i:=0) (show ((["move"]:List Str)++(["boxes"]:List Str):List Str).Nodup from by decide +kernel) rfl (Or.inl rfl)),qU,(qgY (XE.toD (xc c_is_go hr (Yg (vD 0) Yn))) (q0M (XE.toD (xc c_is_yard_carry hr (Yg (vD 0) (Yg (vD 1) Yn))))))⟩))) qi))))) (qb (qh (XD.toE WP))) qr)
   (qb (qh (XD.toE (q0n (XE.toD (xc c_leads hr (Yg (vD 0) (Yg (vD 0) (Yg (vD 2) Yn))))) (q0M (XE.toD (xc c_brings_each_box hr (Yg (vD 1) (Yg (vD 2) Yn)))))))))))))
 exact h
noncomputable def q0A:FT:=(tOf (Yo (oEq true) (vOf (Yo oIx (vOf (Yj 1)) (fC (.int 0)))) (vOf (Yo oIx (vOf (Yj 1)) (fC (.int 1))))))
noncomputable def q0z:FD:=(zAp (Yi (fC (.str "box")) (Yi (dOf (Yj 0)) (Yi (dOf (Yo oIx (vOf (Yj 1)) (fC (.int 0)))) (Yi (dOf (Yo oIx (vOf (Yj 1)) (fC (.int 1)))) Yq)))))
noncomputable def q1C:FS:=(XY (Xc 2 [] (iEn (Yi (dOf (Yj 0)) Yq)) (gT 2 (Yu (gN 0) (Yu (gN 1) Xz))) q0A q0z))
noncomputable def q06:List D->Option O:=mir 1 q1C
noncomputable abbrev q1n:vx:=top 34
theorem q5K:FnScope ["boxes"] ["boxes"] (Yk q1n):=⟨rfl,rfl,rfl,⋯,rfl,⋯,⋯⟩
theorem q5b (F:Fun K "whole_carries" "whole_carries" q1n f fd)(z_enumerate:mg "enumerate" = none):
  FnOk P w K mg base CX0 1 f fd ["boxes"] (spD K 1 q06):=by
 have h:=fnD (P:=P) (w:=w) (mg:=mg) (base:=base) (k:=0) (body:=q1C) F q5K (λcdv A outer s H E hr=>
   (qb (qh (q03 rfl (blk ["number", "box"] [] [] rfl ⋯ ⋯ rfl trivial) (q9y rfl z_enumerate (Yg (vD 0) Yn)) (qcq (q1x (qB 0) (q1x (qB 1) q76))) (λ_ _ _ _=>⟨(q4g rfl (qO (qg (i:=0) (show ((["number", "box"]:List Str)++([]:List Str):List Str).Nodup from by decide +kernel) rfl (Or.inl rfl)) (qO (qg (i:=1) (show ((["number", "box"]:List Str)++([]:List Str):List Str).Nodup from by decide +kernel) rfl (Or.inl rfl)) q3l))),(q4s (WO hr.units (XE.toV (Yl (vV 1) (XD.toV Yh))) (XE.toV (Yl (vV 1) (XD.toV Yh))))),(Xo (Yg WI (Yg (vD 0) (Yg (XE.toD (Yl (vV 1) (XD.toV Yh))) (Yg (XE.toD (Yl (vV 1) (XD.toV Yh))) Yn)))))⟩)))))
 exact h
noncomputable def q1J:FS:=(Y3 (Xg 6 (eOf (dOf (Yr q0I (Yi (dOf (Yj 1)) (Yi (zAp (Yi (dOf (Yj 3)) (Yi (dOf (Yj 4)) Yq))) Yq))))))
  (Y3 (zCt 2 (dOf (Yo zAy (vOf (zAE (Yi (zAp (Yi (fC (.str "go")) (Yi (dOf (Yj 3)) (Yi (dOf (Yj 4)) Yq)))) Yq))) (vOf (Yo zBR (vOf (Yj 5)) (vOf (Yo oIx (vOf (Yj 6)) (fC (.int 0)))))))))
  (zCt 2 (dOf (Yo zAy (vOf (zAE (Yi (zAp (Yi (fC (.str "go")) (Yi (dOf (Yj 4)) (Yi (dOf (Yj 3)) Yq)))) Yq))) (vOf (Yo zBR (vOf (Yj 5)) (vOf (Yo oIx (vOf (Yj 6)) (fC (.int 1)))))))))))
noncomputable def q2a:FS:=(Y3 (Xg 2 (zAE Yq))
  (Y3 (zAX (WH (dOf (Yr q0T (Yi (dOf (Yj 0)) (Yi (dOf (Yj 1)) Yq))))) (gT 3 (Yu (gN 3) (Yu (gN 4) (Yu (gN 5) Xz)))) q1J)
  (zAN 2)))
noncomputable def q0D:List D->Option O:=mir 7 q2a
noncomputable abbrev q2c:vx:=top 35
theorem q02:FnScope ["gate", "boxes", "moves", "left", "right", "times", "carried"] ["gate", "boxes"] (Yk q2c):=⟨rfl,rfl,rfl,⋯,rfl,⋯,⋯⟩
theorem q65{f_passes:vJ}{d_passes:vP}{f_crossed:vJ}{d_crossed:vP}(F:Fun K "empty_moves" "empty_moves" q2c f fd)(c_passes:Cal P w K mg base 6 f_passes d_passes "passes" ["gate", "boxes"] 2 q0T)(c_crossed:Cal P w K mg base 2 f_crossed d_crossed "crossed" ["boxes", "gap"] 2 q0I):
  FnOk P w K mg base CX0 7 f fd ["gate", "boxes"] (spD K 2 q0D):=by
 have h:=fnD (P:=P) (w:=w) (mg:=mg) (base:=base) (k:=6) (body:=q2a) F q02 (λcdv A outer s H E hr=>
   (qa (qm (i:=2) q02.nd rfl (Or.inl rfl) (XX Yn))
   (qa (q0m PassesOwn.never rfl (qu (XE.toD (xc c_passes hr (Yg (vD 0) (Yg (vD 1) Yn))))) (q4g rfl (qO (qg (i:=3) q02.nd rfl (Or.inl rfl)) (qO (qg (i:=4) q02.nd rfl (Or.inl rfl)) (qO (qg (i:=5) q02.nd rfl (Or.inl rfl)) q3l)))) (qa (qm (i:=6) q02.nd rfl (Or.inl rfl) (XD.toE (XE.toD (xc c_crossed hr (Yg (vD 1) (Yg (Xo (Yg (vD 3) (Yg (vD 4) Yn))) Yn))))))
   (qa (q5O (pv 2) (XE.toD (qc6 (XE.toV (XX (Yg (Xo (Yg WI (Yg (vD 3) (Yg (vD 4) Yn)))) Yn))) (XE.toV (q1r (vV 5) (XE.toV (Yl (vV 6) (XD.toV Yh))))))))
   (qb (q5O (pv 2) (XE.toD (qc6 (XE.toV (XX (Yg (Xo (Yg WI (Yg (vD 4) (Yg (vD 3) Yn)))) Yn))) (XE.toV (q1r (vV 5) (XE.toV (Yl (vV 6) (XD.toV Yh))))))))))))
   (qb (q4A (pv 2))))))
 exact h
noncomputable def q3u:FD:=(dOf (fSl (vOf (Yj 0)) (pAt (vOf (zB7 (fC (.int 2))))) pNo))
noncomputable def q3V:FS:=(XY (Xc 1 [] (WH (dOf (Yj 0))) (gN 0) XF q3u))
noncomputable def q0Q:List D->Option O:=mir 1 q3V
noncomputable abbrev q4d:vx:=top 36
theorem qca:FnScope ["moves"] ["moves"] (Yk q4d):=⟨rfl,rfl,rfl,⋯,rfl,⋯,⋯⟩
theorem qbt (F:Fun K "arcs_of" "arcs_of" q4d f fd):
  FnOk P w K mg base CX0 1 f fd ["moves"] (spD K 1 q0Q):=by
 have h:=fnD (P:=P) (w:=w) (mg:=mg) (base:=base) (k:=0) (body:=q3V) F qca (λcdv A outer s H E hr=>
   (qb (qh (q03 rfl (blk ["move"] [] [] rfl ⋯ ⋯ rfl trivial) (qu (vD 0)) (qB 0) (λ_ _ _ _=>⟨(qg (i:=0) (show ((["move"]:List Str)++([]:List Str):List Str).Nodup from by decide +kernel) rfl (Or.inl rfl)),qU,(XE.toD (Y9 (vV 0) (XC (XE.toV (q2u (XD.toV Yh)))) Xd))⟩)))))
 exact h
noncomputable def q3t:FS:=(zCt 1 (dOf (fSl (vOf (Yj 2)) (pAt (vOf (zB7 (fC (.int 2))))) pNo)))
noncomputable def q4e:FS:=(Y3 (Xg 1 (zAE Yq))
  (Y3 (zAX (WH (dOf (Yj 0))) (gN 2) q3t)
  (XY (WB (vOf (Yj 1))))))
noncomputable def q0q:List D->Option O:=mir 3 q4e
noncomputable abbrev q4b:vx:=top 37
theorem q43:FnScope ["moves", "ends", "move"] ["moves"] (Yk q4b):=⟨rfl,rfl,rfl,⋯,rfl,⋯,⋯⟩
theorem qb4 (F:Fun K "ends_of" "ends_of" q4b f fd)(z_sorted:mg "sorted" = none)(q1X:mg "set" = none):
  FnOk P w K mg base CX0 1 f fd ["moves"] (spD K 1 q0q):=by
 have h:=fnD (P:=P) (w:=w) (mg:=mg) (base:=base) (k:=0) (body:=q4e) F q43 (λcdv A outer s H E hr=>
   (qa (qm (i:=1) q43.nd rfl (Or.inl rfl) (XX Yn))
   (qa (q0m PassesOwn.never rfl (qu (vD 0)) (qg (i:=2) q43.nd rfl (Or.inl rfl)) (qb (q5O (pv 1) (XE.toD (Y9 (vV 2) (XC (XE.toV (q2u (XD.toV Yh)))) Xd)))))
   (qb (qh (q5r rfl z_sorted rfl q1X (vV 1)))))))
 exact h
noncomputable def q33:FS:=(XY (eOf (zAQ (dOf (Yo oLt (vOf (Xq zA3 (Yi (vOf (fSl (vOf (Yj 1)) (pAt (vOf (zB7 (fC (.int 2))))) pNo)) Yq))) (vOf (Yj 0)))) (dOf (Yo oLt (vOf (Yj 0)) (vOf (Xq zA5 (Yi (vOf (fSl (vOf (Yj 1)) (pAt (vOf (zB7 (fC (.int 2))))) pNo)) Yq))))))))
noncomputable def q19:List D->Option O:=mir 2 q33
noncomputable abbrev q36:vx:=top 38
theorem q91:FnScope ["place", "move"] ["place", "move"] (Yk q36):=⟨rfl,rfl,rfl,⋯,rfl,⋯,⋯⟩
theorem q8A (F:Fun K "lies_amid" "lies_amid" q36 f fd)(z_max:mg "max" = none)(z_min:mg "min" = none):
  FnOk P w K mg base CX0 1 f fd ["place", "move"] (spD K 2 q19):=by
 have h:=fnD (P:=P) (w:=w) (mg:=mg) (base:=base) (k:=0) (body:=q33) F q91 (λcdv A outer s H E hr=>
   (qb (qh (XD.toE (q0n (XE.toD (qav (XE.toV (qp (q6L rfl) q9U rfl z_min qct (qf (XE.toV (Y9 (vV 1) (XC (XE.toV (q2u (XD.toV Yh)))) Xd)) qi))) (vV 0))) (q0M (XE.toD (qav (vV 0) (XE.toV (qp (q7i rfl) q9J rfl z_max qcN (qf (XE.toV (Y9 (vV 1) (XC (XE.toV (q2u (XD.toV Yh)))) Xd)) qi)))))))))))
 exact h
noncomputable def q2n:FS:=(XY (zAE (Yi (dOf (Yo WD (vOf (fSl (vOf (Yj 0)) pNo (pAt (fC (.int 3))))) (zAp (Yi (dOf (Yj 1)) Yq)))) (Yi (dOf (Yo WD (vOf (fSl (vOf (Yj 0)) pNo (pAt (fC (.int 2))))) (zAp (Yi (dOf (Yj 1)) (Yi (dOf (Yo oIx (vOf (Yj 0)) (fC (.int 3)))) Yq))))) Yq))))
noncomputable def q0N:List D->Option O:=mir 2 q2n
noncomputable abbrev q2E:vx:=top 39
theorem q8P:FnScope ["move", "place"] ["move", "place"] (Yk q2E):=⟨rfl,rfl,rfl,⋯,rfl,⋯,⋯⟩
theorem q7t (F:Fun K "cut_in_two" "cut_in_two" q2E f fd):
  FnOk P w K mg base CX0 1 f fd ["move", "place"] (spD K 2 q0N):=by
 have h:=fnD (P:=P) (w:=w) (mg:=mg) (base:=base) (k:=0) (body:=q2n) F q8P (λcdv A outer s H E hr=>
   (qb (qh (XX (Yg (XE.toD (qQ (XE.toV (Y9 (vV 0) Xd (XC (XD.toV Yh)))) (XD.toV (Xo (Yg (vD 1) Yn))))) (Yg (XE.toD (qQ (XE.toV (Y9 (vV 0) Xd (XC (XD.toV Yh)))) (XD.toV (Xo (Yg (vD 1) (Yg (XE.toD (Yl (vV 0) (XD.toV Yh))) Yn)))))) Yn))))))
 exact h
noncomputable def q1u:FT:=(tOf (Yo (oIn true) (vOf (Yj 0)) (vOf (Yj 1))))
noncomputable def q1z:FD:=(dOf (Yj 0))
noncomputable def qN:FS:=(sIf (zAP (vOf (Yr q19 (Yi (dOf (Yj 5)) (Yi (dOf (Yj 4)) Yq))))) (XY (Yo WD (vOf (Yo WD (vOf (fSl (vOf (Yj 0)) pNo (pAt (vOf (Yj 3))))) (vOf (Yr q0N (Yi (dOf (Yj 4)) (Yi (dOf (Yj 5)) Yq)))))) (vOf (fSl (vOf (Yj 0)) (pAt (vOf (Yo WD (vOf (Yj 3)) (fC (.int 1))))) pNo)))) WQ)
noncomputable def qz:FS:=(sIf (tOf (Yo (oIn false) (vOf (Yo oIx (vOf (Yj 4)) (vOf (zB7 (fC (.int 2)))))) (vOf (Yj 1)))) (zAX (WH (dOf (Yj 2))) (gN 5) qN) WQ)
noncomputable def q0W:FS:=(Y3 (Xg 2 (Xc 1 [1] (WH (dOf (Yr q0q (Yi (dOf (Yj 0)) Yq)))) (gN 0) q1u q1z))
  (zAH 2 (Y3 (zAX (iEn (Yi (dOf (Yj 0)) Yq)) (gT 2 (Yu (gN 3) (Yu (gN 4) Xz))) qz)
  (XY (Yj 0)))))
noncomputable def qG:List D->Option O:=mir 6 q0W
noncomputable abbrev q1O:vx:=top 40
theorem q0j:FnScope ["moves", "reached", "apart", "number", "move", "place"] ["moves", "reached"] (Yk q1O):=⟨rfl,rfl,rfl,⋯,rfl,⋯,⋯⟩
theorem q5B{f_ends_of:vJ}{d_ends_of:vP}{f_lies_amid:vJ}{d_lies_amid:vP}{f_cut_in_two:vJ}{d_cut_in_two:vP}(F:Fun K "with_one_cut" "with_one_cut" q1O f fd)(c_ends_of:Cal P w K mg base 1 f_ends_of d_ends_of "ends_of" ["moves"] 1 q0q)(c_lies_amid:Cal P w K mg base 1 f_lies_amid d_lies_amid "lies_amid" ["place", "move"] 2 q19)(c_cut_in_two:Cal P w K mg base 1 f_cut_in_two d_cut_in_two "cut_in_two" ["move", "place"] 2 q0N)(z_enumerate:mg "enumerate" = none):
  FnOk P w K mg base CX0 2 f fd ["moves", "reached"] (spD K 2 qG):=by
 have h:=fnD (P:=P) (w:=w) (mg:=mg) (base:=base) (k:=1) (body:=q0W) F q0j (λcdv A outer s H E hr=>
   (qa (q3g (i:=2) rfl q0j.nd rfl rfl (blk ["place"] ["reached"] [1] rfl ⋯ ⋯ rfl ⟨⟨rfl,(by first|exact Or.inl rfl|exact Or.inr rfl),rfl⟩,trivial⟩) (qu (XE.toD (xc c_ends_of hr (Yg (vD 0) Yn)))) (qB 0) (λ_ _ _ _=>⟨(qg (i:=0) (show ((["place"]:List Str)++(["reached"]:List Str):List Str).Nodup from by decide +kernel) rfl (Or.inl rfl)),(q4s (zB1 (vV 0) (vV 1))),(vD 0)⟩))
   (q3Q 2 (qa (q0m PassesOwn.never rfl (q9y rfl z_enumerate (Yg (vD 0) Yn)) (q4g rfl (qO (qg (i:=3) q0j.nd rfl (Or.inl rfl)) (qO (qg (i:=4) q0j.nd rfl (Or.inl rfl)) q3l))) (qb (qC (xt_in (XE.toV (Yl (vV 4) (XE.toV (q2u (XD.toV Yh))))) (vV 1)) (qb (q0m PassesOwn.never rfl (qu (vD 2)) (qg (i:=5) q0j.nd rfl (Or.inl rfl)) (qb (qC (q07 (XE.toV (xc c_lies_amid hr (Yg (vD 5) (Yg (vD 4) Yn))))) (qb (qh (qQ (XE.toV (qQ (XE.toV (Y9 (vV 0) Xd (XC (vV 3)))) (XE.toV (xc c_cut_in_two hr (Yg (vD 4) (Yg (vD 5) Yn)))))) (XE.toV (Y9 (vV 0) (XC (XE.toV (qQ (vV 3) (XD.toV Yh)))) Xd))))) qr)))) qr)))
   (qb (qh (vE 0)))))))
 exact h
noncomputable def qX:FT:=(tOf (Yo oLt (vOf (Xq WZ (Yi (vOf (Yj 3)) Yq))) (vOf (Xq WZ (Yi (vOf (Yj 2)) Yq)))))
noncomputable def q0x:FS:=(Y3 (Xg 3 (eOf (dOf (Yr q1w (Yi (dOf (Yj 0)) (Yi (dOf (Yr q1l (Yi (dOf (Yj 2)) (Yi (dOf (Yr q0Q (Yi (dOf (Yj 1)) Yq))) Yq)))) Yq))))))
  (Xg 1 (eOf (dOf (Yr qG (Yi (dOf (Yj 1)) (Yi (dOf (Yj 3)) Yq)))))))
noncomputable def q0H:FS:=(Y3 (Xg 2 (eOf (dOf (Yr q0q (Yi (dOf (Yj 1)) Yq)))))
  (Y3 (Xg 3 (eOf (dOf (zAE (Yi (dOf (Yj 0)) Yq)))))
  (Y3 (sWh 1000000 qX q0x)
  (XY (Yj 1)))))
noncomputable def qF:List D->Option O:=mir 4 q0H
noncomputable abbrev q1m:vx:=top 41
theorem q0a:FnScope ["gate", "moves", "ends", "reached"] ["gate", "moves"] (Yk q1m):=⟨rfl,rfl,rfl,⋯,rfl,⋯,⋯⟩
theorem q4T{f_ends_of:vJ}{d_ends_of:vP}{f_group_of:vJ}{d_group_of:vP}{f_neighbours:vJ}{d_neighbours:vP}{f_arcs_of:vJ}{d_arcs_of:vP}{f_with_one_cut:vJ}{d_with_one_cut:vP}(F:Fun K "hung_together" "hung_together" q1m f fd)(c_ends_of:Cal P w K mg base 1 f_ends_of d_ends_of "ends_of" ["moves"] 1 q0q)(c_group_of:Cal P w K mg base 1 f_group_of d_group_of "group_of" ["thing", "beside"] 2 q1w)(c_neighbours:Cal P w K mg base 1 f_neighbours d_neighbours "neighbours" ["things", "ties"] 2 q1l)(c_arcs_of:Cal P w K mg base 1 f_arcs_of d_arcs_of "arcs_of" ["moves"] 1 q0Q)(c_with_one_cut:Cal P w K mg base 2 f_with_one_cut d_with_one_cut "with_one_cut" ["moves", "reached"] 2 qG)(z_len:mg "len" = none):
  FnOk P w K mg base CX0 3 f fd ["gate", "moves"] (spD K 2 qF):=by
 have h:=fnD (P:=P) (w:=w) (mg:=mg) (base:=base) (k:=2) (body:=q0H) F q0a (λcdv A outer s H E hr=>
   (qa (qm (i:=2) q0a.nd rfl (Or.inl rfl) (XD.toE (XE.toD (xc c_ends_of hr (Yg (vD 1) Yn)))))
   (qa (qm (i:=3) q0a.nd rfl (Or.inl rfl) (XD.toE (XE.toD (XX (Yg (vD 0) Yn)))))
   (qa (q7R PassesOwn.never (qe9 (XE.toV (qp qk qK rfl z_len qL (qf (vV 3) qi))) (XE.toV (qp qk qK rfl z_len qL (qf (vV 2) qi)))) (qa (qm (i:=3) q0a.nd rfl (Or.inl rfl) (XD.toE (XE.toD (xc c_group_of hr (Yg (vD 0) (Yg (XE.toD (xc c_neighbours hr (Yg (vD 2) (Yg (XE.toD (xc c_arcs_of hr (Yg (vD 1) Yn))) Yn)))) Yn))))))
   (qb (qm (i:=1) q0a.nd rfl (Or.inl rfl) (XD.toE (XE.toD (xc c_with_one_cut hr (Yg (vD 1) (Yg (vD 3) Yn)))))))))
   (qb (qh (vE 1)))))))
 exact h
noncomputable def q2y:FD:=(dOf (Yo oIx (vOf (Yj 1)) (vOf (Yj 0))))
noncomputable def q2Y:FS:=(Y3 (zBV (Yr qo (Yi (dOf (Yj 0)) (Yi (dOf (Yj 1)) Yq))))
  (Y3 (Xg 2 (eOf (dOf (Yr qF (Yi (dOf (Yj 0)) (Yi (dOf (Yo WD (vOf (Yr q06 (Yi (dOf (Yj 1)) Yq))) (vOf (Yr q0D (Yi (dOf (Yj 0)) (Yi (dOf (Yj 1)) Yq)))))) Yq))))))
  (XY (Xc 1 [2] (WH (dOf (Yr q2H (Yi (dOf (Yj 0)) (Yi (dOf (Yr q0Q (Yi (dOf (Yj 2)) Yq))) Yq))))) (gN 0) XF q2y))))
noncomputable def q17:List D->Option O:=mir 3 q2Y
noncomputable abbrev q34:vx:=top 42
theorem q4Q:FnScope ["gate", "boxes", "moves"] ["gate", "boxes"] (Yk q34):=⟨rfl,rfl,rfl,⋯,rfl,⋯,⋯⟩
theorem q8q{f_check_yard:vJ}{d_check_yard:vP}{f_hung_together:vJ}{d_hung_together:vP}{f_whole_carries:vJ}{d_whole_carries:vP}{f_empty_moves:vJ}{d_empty_moves:vP}{f_row_of:vJ}{d_row_of:vP}{f_arcs_of:vJ}{d_arcs_of:vP}(F:Fun K "yard_tour" "yard_tour" q34 f fd)(c_check_yard:Cal P w K mg base 5 f_check_yard d_check_yard "check_yard" ["gate", "boxes"] 2 qo)(c_hung_together:Cal P w K mg base 3 f_hung_together d_hung_together "hung_together" ["gate", "moves"] 2 qF)(c_whole_carries:Cal P w K mg base 1 f_whole_carries d_whole_carries "whole_carries" ["boxes"] 1 q06)(c_empty_moves:Cal P w K mg base 7 f_empty_moves d_empty_moves "empty_moves" ["gate", "boxes"] 2 q0D)(c_row_of:Cal P w K mg base 3 f_row_of d_row_of "row_of" ["start", "arcs"] 2 q2H)(c_arcs_of:Cal P w K mg base 1 f_arcs_of d_arcs_of "arcs_of" ["moves"] 1 q0Q):
  FnOk P w K mg base CX0 8 f fd ["gate", "boxes"] (spD K 2 q17):=by
 have h:=fnD (P:=P) (w:=w) (mg:=mg) (base:=base) (k:=7) (body:=q2Y) F q4Q (λcdv A outer s H E hr=>
   (qa (q6B (xc c_check_yard hr (Yg (vD 0) (Yg (vD 1) Yn))))
   (qa (qm (i:=2) q4Q.nd rfl (Or.inr rfl) (XD.toE (XE.toD (xc c_hung_together hr (Yg (vD 0) (Yg (XE.toD (qQ (XE.toV (xc c_whole_carries hr (Yg (vD 1) Yn))) (XE.toV (xc c_empty_moves hr (Yg (vD 0) (Yg (vD 1) Yn)))))) Yn))))))
   (qb (qh (q03 rfl (blk ["number"] ["moves"] [2] rfl ⋯ ⋯ rfl ⟨⟨rfl,(by first|exact Or.inl rfl|exact Or.inr rfl),rfl⟩,trivial⟩) (qu (XE.toD (xc c_row_of hr (Yg (vD 0) (Yg (XE.toD (xc c_arcs_of hr (Yg (vD 2) Yn))) Yn))))) (qB 0) (λ_ _ _ _=>⟨(qg (i:=0) (show ((["number"]:List Str)++(["moves"]:List Str):List Str).Nodup from by decide +kernel) rfl (Or.inl rfl)),qU,(XE.toD (Yl (vV 1) (vV 0)))⟩)))))))
 exact h
noncomputable def q30:FS:=(Y3 (sIf (tOf (Yo oLt (vOf (Yj 1)) (vOf (Xq WZ (Yi (vOf (Yj 0)) Yq))))) (XY (Yo oIx (vOf (Yj 0)) (vOf (Yj 1)))) WQ)
  (XY (eOf (fC (.int 0)))))
noncomputable def qR:List D->Option O:=mir 2 q30
noncomputable abbrev q31:vx:=top 44
theorem q9c:FnScope ["script", "k"] ["script", "k"] (Yk q31):=⟨rfl,rfl,rfl,⋯,rfl,⋯,⋯⟩
theorem q8g (F:Fun K "_law_cell" "_law_cell" q31 f fd)(z_len:mg "len" = none):
  FnOk P w K mg base CX0 1 f fd ["script", "k"] (spD K 2 qR):=by
 have h:=fnD (P:=P) (w:=w) (mg:=mg) (base:=base) (k:=0) (body:=q30) F q9c (λcdv A outer s H E hr=>
   (qa (qC (qe9 (vV 1) (XE.toV (qp qk qK rfl z_len qL (qf (vV 0) qi)))) (qb (qh (Yl (vV 0) (vV 1)))) qr)
   (qb (qh (XD.toE Yh)))))
 exact h
noncomputable def q0S:FS:=(Y3 (Xg 1 (eOf (dOf (Yr qR (Yi (dOf (Yj 0)) (Yi (dOf (Yo WD (fC (.int 2)) (vOf (Yj 4)))) Yq))))))
  (sApp 3 (dOf (Yo WD (vOf (Yj 2)) (vOf (Yo oIx (vOf (zAE (Yi (dOf (Yo WD (vOf (Yj 4)) (vOf (Yo oMod (vOf (Yo oDiv (vOf (Yj 1)) (fC (.int 3)))) (fC (.int 3)))))) (Yi (dOf (Yo oMod (vOf (Yo oDiv (vOf (Yj 1)) (fC (.int 3)))) (fC (.int 100)))) (Yi (dOf (Yo oMod (vOf (Yo oDiv (vOf (Yj 1)) (fC (.int 3)))) (vOf (Yo oPow (fC (.int 10)) (fC (.int 39)))))) Yq))))) (vOf (Yo oMod (vOf (Yj 1)) (fC (.int 3))))))))))
noncomputable def q35:FS:=(Y3 (Xg 1 (eOf (dOf (Yr qR (Yi (dOf (Yj 0)) (Yi (fC (.int 0)) Yq))))))
  (Y3 (Xg 2 (eOf (dOf (Yo zBR (vOf (Yo oMod (vOf (Yo oDiv (vOf (Yj 1)) (fC (.int 2)))) (fC (.int 21)))) (fC (.int 10))))))
  (Y3 (sIf (tOf (Yo (oEq false) (vOf (Yo oMod (vOf (Yj 1)) (fC (.int 2)))) (fC (.int 1)))) (Xg 2 (eOf (dOf (Yo zBR (vOf (Yo oMod (vOf (Yo oDiv (vOf (Yj 1)) (fC (.int 2)))) (vOf (Yo zB3 (fC (.int 2)) (vOf (Yo oPow (fC (.int 10)) (fC (.int 39)))))))) (vOf (Yo oPow (fC (.int 10)) (fC (.int 39)))))))) WQ)
  (Y3 (Xg 3 (zAE (Yi (dOf (Yj 2)) Yq)))
  (Y3 (zAX (iRg1 (Yi (fC (.int 6)) Yq)) (gN 4) q0S)
  (zAN 3))))))
noncomputable def q18:List D->Option O:=mir 5 q35
noncomputable abbrev q2X:vx:=top 45
theorem q0f:FnScope ["script", "cell", "gate", "some", "k"] ["script"] (Yk q2X):=⟨rfl,rfl,rfl,⋯,rfl,⋯,⋯⟩
theorem q86{f__law_cell:vJ}{d__law_cell:vP}(F:Fun K "_law_menu" "_law_menu" q2X f fd)(c__law_cell:Cal P w K mg base 1 f__law_cell d__law_cell "_law_cell" ["script", "k"] 2 qR)(z_range:mg "range" = none):
  FnOk P w K mg base CX0 2 f fd ["script"] (spD K 1 q18):=by
 have h:=fnD (P:=P) (w:=w) (mg:=mg) (base:=base) (k:=1) (body:=q35) F q0f (λcdv A outer s H E hr=>
   (qa (qm (i:=1) q0f.nd rfl (Or.inl rfl) (XD.toE (XE.toD (xc c__law_cell hr (Yg (vD 0) (Yg Yh Yn))))))
   (qa (qm (i:=2) q0f.nd rfl (Or.inl rfl) (XD.toE (XE.toD (q1r (XE.toV (qM (XE.toV (q00 (vV 1) (XD.toV Yh))) (XD.toV Yh))) (XD.toV Yh)))))
   (qa (qC (zCA hr.units (XE.toV (qM (vV 1) (XD.toV Yh))) (XD.toV Yh)) (qb (qm (i:=2) q0f.nd rfl (Or.inl rfl) (XD.toE (XE.toD (q1r (XE.toV (qM (XE.toV (q00 (vV 1) (XD.toV Yh))) (XE.toV (q88 (XD.toV Yh) (XE.toV (q7O (XD.toV Yh) (XD.toV Yh))))))) (XE.toV (q7O (XD.toV Yh) (XD.toV Yh)))))))) qr)
   (qa (qm (i:=3) q0f.nd rfl (Or.inl rfl) (XX (Yg (vD 2) Yn)))
   (qa (q0m PassesOwn.never rfl (q6U rfl z_range (qf (XD.toV Yh) qi)) (qg (i:=4) q0f.nd rfl (Or.inl rfl)) (qa (qm (i:=1) q0f.nd rfl (Or.inl rfl) (XD.toE (XE.toD (xc c__law_cell hr (Yg (vD 0) (Yg (XE.toD (qQ (XD.toV Yh) (vV 4))) Yn))))))
   (qb (q7C (pv 3) (XE.toD (qQ (vV 2) (XE.toV (Yl (XE.toV (XX (Yg (XE.toD (qQ (vV 4) (XE.toV (qM (XE.toV (q00 (vV 1) (XD.toV Yh))) (XD.toV Yh))))) (Yg (XE.toD (qM (XE.toV (q00 (vV 1) (XD.toV Yh))) (XD.toV Yh))) (Yg (XE.toD (qM (XE.toV (q00 (vV 1) (XD.toV Yh))) (XE.toV (q7O (XD.toV Yh) (XD.toV Yh))))) Yn))))) (XE.toV (qM (vV 1) (XD.toV Yh)))))))))))
   (qb (q4A (pv 3)))))))))
 exact h
noncomputable def q2b:FS:=(sApp 4 (zAp (Yi (dOf (Yo oIx (vOf (Yj 1)) (vOf (Yo oMod (vOf (Yj 5)) (fC (.int 7)))))) (Yi (dOf (Yo oIx (vOf (Yj 1)) (vOf (Yo oMod (vOf (Yo oDiv (vOf (Yj 5)) (fC (.int 7)))) (fC (.int 7)))))) Yq))))
noncomputable def q2C:FS:=(Y3 (Xg 2 (eOf (dOf (Yr qR (Yi (dOf (Yj 0)) (Yi (fC (.int 1)) Yq))))))
  (Y3 (Xg 3 (eOf (dOf (Yo oIx (vOf (zAE (Yi (fC (.int 9)) (Yi (fC (.int 9)) (Yi (dOf (Yo oMod (vOf (Yo oDiv (vOf (Yj 2)) (fC (.int 4)))) (fC (.int 10)))) (Yi (dOf (Yo oMod (vOf (Yo oDiv (vOf (Yj 2)) (fC (.int 4)))) (fC (.int 3)))) Yq)))))) (vOf (Yo oMod (vOf (Yj 2)) (fC (.int 4))))))))
  (Y3 (Xg 4 (zAE Yq))
  (Y3 (zAX (WH (dOf (fSl (vOf (Yj 0)) (pAt (fC (.int 8))) (pAt (vOf (Yo WD (fC (.int 8)) (vOf (Yj 3)))))))) (gN 5) q2b)
  (zAN 4)))))
noncomputable def q0L:List D->Option O:=mir 6 q2C
noncomputable abbrev q2I:vx:=top 46
theorem q0U:FnScope ["script", "some", "cell", "many", "boxes", "one"] ["script", "some"] (Yk q2I):=⟨rfl,rfl,rfl,⋯,rfl,⋯,⋯⟩
theorem q7p{f__law_cell:vJ}{d__law_cell:vP}(F:Fun K "_law_boxes" "_law_boxes" q2I f fd)(c__law_cell:Cal P w K mg base 1 f__law_cell d__law_cell "_law_cell" ["script", "k"] 2 qR):
  FnOk P w K mg base CX0 2 f fd ["script", "some"] (spD K 2 q0L):=by
 have h:=fnD (P:=P) (w:=w) (mg:=mg) (base:=base) (k:=1) (body:=q2C) F q0U (λcdv A outer s H E hr=>
   (qa (qm (i:=2) q0U.nd rfl (Or.inl rfl) (XD.toE (XE.toD (xc c__law_cell hr (Yg (vD 0) (Yg Yh Yn))))))
   (qa (qm (i:=3) q0U.nd rfl (Or.inl rfl) (XD.toE (XE.toD (Yl (XE.toV (XX (Yg Yh (Yg Yh (Yg (XE.toD (qM (XE.toV (q00 (vV 2) (XD.toV Yh))) (XD.toV Yh))) (Yg (XE.toD (qM (XE.toV (q00 (vV 2) (XD.toV Yh))) (XD.toV Yh))) Yn)))))) (XE.toV (qM (vV 2) (XD.toV Yh)))))))
   (qa (qm (i:=4) q0U.nd rfl (Or.inl rfl) (XX Yn))
   (qa (q0m PassesOwn.never rfl (qu (XE.toD (Y9 (vV 0) (XC (XD.toV Yh)) (XC (XE.toV (qQ (XD.toV Yh) (vV 3))))))) (qg (i:=5) q0U.nd rfl (Or.inl rfl)) (qb (q7C (pv 4) (Xo (Yg (XE.toD (Yl (vV 1) (XE.toV (qM (vV 5) (XD.toV Yh))))) (Yg (XE.toD (Yl (vV 1) (XE.toV (qM (XE.toV (q00 (vV 5) (XD.toV Yh))) (XD.toV Yh))))) Yn))))))
   (qb (q4A (pv 4))))))))
 exact h
noncomputable def q39:FS:=(Y3 (sIf (tOf (Yo (oEq true) (vOf (Yj 1)) (vOf (Yj 2)))) (zBz 0 (zAp (Yi (fC (.str "go")) (Yi (dOf (Yj 1)) (Yi (dOf (Yj 2)) Yq))))) WQ)
  (XY (Yj 2)))
noncomputable def qS:List W->Option (D×WSt):=mirW 3 q39
noncomputable abbrev q38:vx:=top 47
theorem q98:FnScope ["moves", "here", "there"] ["moves", "here", "there"] (Yk q38):=⟨rfl,rfl,rfl,⋯,rfl,⋯,⋯⟩
theorem q8i (F:Fun K "_law_gone" "_law_gone" q38 f fd):
  FnOk P w K mg base CX0 1 f fd ["moves", "here", "there"] (spW K 3 qS):=by
 have h:=fnW (P:=P) (w:=w) (mg:=mg) (base:=base) (k:=0) (body:=q39) F q98 (λcdv A outer s H E hr=>
   (qa (qC (WO hr.units (vV 1) (vV 2)) (qb (q9D (pv 0) (Xo (Yg WI (Yg (vD 1) (Yg (vD 2) Yn)))))) qr)
   (qb (qh (vE 2)))))
 exact h
noncomputable def q1s:FS:=(Y3 (zAc 2 [some 0,none,none] qS (wPw 0 (wSh (dOf (Yj 2)) (wSh (dOf (Yo oIx (vOf (Yj 1)) (vOf (Yj 3)))) zCI))))
  (Y3 (sIf (tOf (Yo (oEq true) (vOf (Yj 2)) (vOf (Yj 4)))) (Y3 (zBz 0 (zAp (Yi (fC (.str "box")) (Yi (dOf (Yj 3)) (Yi (dOf (Yj 2)) (Yi (dOf (Yj 4)) Yq))))))
  (zBS 1 (dOf (Yj 3)) (dOf (Yj 4)))) WQ)
  (XY (Yj 4))))
noncomputable def qJ:List W->Option (D×WSt):=mirW 5 q1s
noncomputable abbrev q2D:vx:=top 48
theorem q4n:FnScope ["moves", "lies", "here", "k", "there"] ["moves", "lies", "here", "k", "there"] (Yk q2D):=⟨rfl,rfl,rfl,⋯,rfl,⋯,⋯⟩
theorem q7n{f__law_gone:vJ}{d__law_gone:vP}(F:Fun K "_law_taken" "_law_taken" q2D f fd)(c__law_gone:zCn P w K mg base 1 f__law_gone d__law_gone "_law_gone" ["moves", "here", "there"] 3 qS):
  FnOk P w K mg base CX0 2 f fd ["moves", "lies", "here", "k", "there"] (spW K 5 qJ):=by
 have h:=fnW (P:=P) (w:=w) (mg:=mg) (base:=base) (k:=1) (body:=q1s) F q4n (λcdv A outer s H E hr=>
   (qa (q3e (i:=2) q4n.nd rfl (Or.inl rfl) c__law_gone hr (q1B (pv 0) (qW (vD 2) (qW (XE.toD (Yl (vV 1) (vV 3))) q2k))))
   (qa (qC (WO hr.units (vV 2) (vV 4)) (qa (q9D (pv 0) (Xo (Yg WI (Yg (vD 3) (Yg (vD 2) (Yg (vD 4) Yn))))))
   (qb (qdt (pv 1) (vD 3) (vD 4)))) qr)
   (qb (qh (vE 4))))))
 exact h
noncomputable def q27:FD:=(dOf (Yo oIx (vOf (Yj 0)) (fC (.int 0))))
noncomputable def q28:FS:=(Y3 (Xg 7 (eOf (dOf (Yo oMod (vOf (Yj 6)) (vOf (Yo WD (vOf (Xq WZ (Yi (vOf (Yj 1)) Yq))) (fC (.int 1))))))))
  (Y3 (Xg 8 (eOf (dOf (Yo oDiv (vOf (Yj 6)) (vOf (Yo WD (vOf (Xq WZ (Yi (vOf (Yj 1)) Yq))) (fC (.int 1))))))))
  (Y3 (Xg 9 (eOf (dOf (Yo WD (vOf (Yo oIx (vOf (Yj 0)) (vOf (Yo oMod (vOf (Yo oDiv (vOf (Yj 8)) (fC (.int 4)))) (fC (.int 7)))))) (vOf (Yo oIx (vOf (zAE (Yi (fC (.int 0)) (Yi (fC (.int 1)) (Yi (dOf (Yo zBR (fC (.int 0)) (fC (.int 1)))) (Yi (dOf (Yo oMod (vOf (Yo oDiv (vOf (Yj 8)) (fC (.int 28)))) (fC (.int 50)))) Yq)))))) (vOf (Yo oMod (vOf (Yj 8)) (fC (.int 4))))))))))
  (sIf (tOf (Yo (oEq false) (vOf (Yj 7)) (vOf (Xq WZ (Yi (vOf (Yj 1)) Yq))))) (zAc 5 [some 3,none,none] qS (wPw 3 (wSh (dOf (Yj 5)) (wSh (dOf (Yj 9)) zCI)))) (sIf (tOf (Yo (oEq false) (vOf (Yo oMod (vOf (Yo oDiv (vOf (Yj 8)) (fC (.int 3)))) (fC (.int 3)))) (fC (.int 0)))) (zAc 5 [some 3,some 4,none,none,none] qJ (wPw 3 (wPw 4 (wSh (dOf (Yj 5)) (wSh (dOf (Yj 7)) (wSh (dOf (Yo oIx (vOf (Yo oIx (vOf (Yj 1)) (vOf (Yj 7)))) (fC (.int 1)))) zCI)))))) (zAc 5 [some 3,some 4,none,none,none] qJ (wPw 3 (wPw 4 (wSh (dOf (Yj 5)) (wSh (dOf (Yj 7)) (wSh (dOf (Yj 9)) zCI)))))))))))
noncomputable def q1c:FS:=(sIf (tOf (Yo (oEq true) (vOf (Yo oIx (vOf (Yj 4)) (vOf (Yj 7)))) (vOf (Yo oIx (vOf (Yo oIx (vOf (Yj 1)) (vOf (Yj 7)))) (fC (.int 1)))))) (zAc 5 [some 3,some 4,none,none,none] qJ (wPw 3 (wPw 4 (wSh (dOf (Yj 5)) (wSh (dOf (Yj 7)) (wSh (dOf (Yo oIx (vOf (Yo oIx (vOf (Yj 1)) (vOf (Yj 7)))) (fC (.int 1)))) zCI)))))) WQ)
noncomputable def q2t:FS:=(Y3 (Xg 3 (zAE Yq))
  (Y3 (Xg 4 (Xc 1 [] (WH (dOf (Yj 1))) (gN 0) XF q27))
  (Y3 (Xg 5 (eOf (dOf (Yo oIx (vOf (Yj 0)) (fC (.int 0))))))
  (Y3 (zAX (WH (dOf (Yj 2))) (gN 6) q28)
  (Y3 (zAX (iRg1 (Yi (vOf (Xq WZ (Yi (vOf (Yj 1)) Yq))) Yq)) (gN 7) q1c)
  (Y3 (zBI [some 3,none,none] qS (wPw 3 (wSh (dOf (Yj 5)) (wSh (dOf (Yo oIx (vOf (Yj 0)) (fC (.int 0)))) zCI))))
  (zAN 3)))))))
noncomputable def q0O:List D->Option O:=mir 10 q2t
noncomputable abbrev q2F:vx:=top 49
theorem qq:FnScope ["some", "boxes", "cells", "moves", "lies", "here", "cell", "k", "rest", "there"] ["some", "boxes", "cells"] (Yk q2F):=⟨rfl,rfl,rfl,⋯,rfl,⋯,⋯⟩
theorem q7q{f__law_gone:vJ}{d__law_gone:vP}{f__law_taken:vJ}{d__law_taken:vP}(F:Fun K "_law_drawn" "_law_drawn" q2F f fd)(c__law_gone:zCn P w K mg base 1 f__law_gone d__law_gone "_law_gone" ["moves", "here", "there"] 3 qS)(c__law_taken:zCn P w K mg base 2 f__law_taken d__law_taken "_law_taken" ["moves", "lies", "here", "k", "there"] 5 qJ)(z_len:mg "len" = none)(z_range:mg "range" = none):
  FnOk P w K mg base CX0 3 f fd ["some", "boxes", "cells"] (spD K 3 q0O):=by
 have h:=fnD (P:=P) (w:=w) (mg:=mg) (base:=base) (k:=2) (body:=q2t) F qq (λcdv A outer s H E hr=>
   (qa (qm (i:=3) qq.nd rfl (Or.inl rfl) (XX Yn))
   (qa (q3g (i:=4) rfl qq.nd rfl rfl (blk ["box"] [] [] rfl ⋯ ⋯ rfl trivial) (qu (vD 1)) (qB 0) (λ_ _ _ _=>⟨(qg (i:=0) (show ((["box"]:List Str)++([]:List Str):List Str).Nodup from by decide +kernel) rfl (Or.inl rfl)),qU,(XE.toD (Yl (vV 0) (XD.toV Yh)))⟩))
   (qa (qm (i:=5) qq.nd rfl (Or.inl rfl) (XD.toE (XE.toD (Yl (vV 0) (XD.toV Yh)))))
   (qa (q0m PassesOwn.never rfl (qu (vD 2)) (qg (i:=6) qq.nd rfl (Or.inl rfl)) (qa (qm (i:=7) qq.nd rfl (Or.inl rfl) (XD.toE (XE.toD (qM (vV 6) (XE.toV (qQ (XE.toV (qp qk qK rfl z_len qL (qf (vV 1) qi))) (XD.toV Yh)))))))
   (qa (qm (i:=8) qq.nd rfl (Or.inl rfl) (XD.toE (XE.toD (q00 (vV 6) (XE.toV (qQ (XE.toV (qp qk qK rfl z_len qL (qf (vV 1) qi))) (XD.toV Yh)))))))
   (qa (qm (i:=9) qq.nd rfl (Or.inl rfl) (XD.toE (XE.toD (qQ (XE.toV (Yl (vV 0) (XE.toV (qM (XE.toV (q00 (vV 8) (XD.toV Yh))) (XD.toV Yh))))) (XE.toV (Yl (XE.toV (XX (Yg Yh (Yg Yh (Yg (XE.toD (q1r (XD.toV Yh) (XD.toV Yh))) (Yg (XE.toD (qM (XE.toV (q00 (vV 8) (XD.toV Yh))) (XD.toV Yh))) Yn)))))) (XE.toV (qM (vV 8) (XD.toV Yh)))))))))
   (qb (qC (zCA hr.units (vV 7) (XE.toV (qp qk qK rfl z_len qL (qf (vV 1) qi)))) (qb (q3e (i:=5) qq.nd rfl (Or.inl rfl) c__law_gone hr (q1B (pv 3) (qW (vD 5) (qW (vD 9) q2k))))) (qb (qC (zCA hr.units (XE.toV (qM (XE.toV (q00 (vV 8) (XD.toV Yh))) (XD.toV Yh))) (XD.toV Yh)) (qb (q3e (i:=5) qq.nd rfl (Or.inl rfl) c__law_taken hr (q1B (pv 3) (q1B (pv 4) (qW (vD 5) (qW (vD 7) (qW (XE.toD (Yl (XE.toV (Yl (vV 1) (vV 7))) (XD.toV Yh))) q2k))))))) (qb (q3e (i:=5) qq.nd rfl (Or.inl rfl) c__law_taken hr (q1B (pv 3) (q1B (pv 4) (qW (vD 5) (qW (vD 7) (qW (vD 9) q2k)))))))))))))))
   (qa (q0m PassesOwn.never rfl (q6U rfl z_range (qf (XE.toV (qp qk qK rfl z_len qL (qf (vV 1) qi))) qi)) (qg (i:=7) qq.nd rfl (Or.inl rfl)) (qb (qC (WO hr.units (XE.toV (Yl (vV 4) (vV 7))) (XE.toV (Yl (XE.toV (Yl (vV 1) (vV 7))) (XD.toV Yh)))) (qb (q3e (i:=5) qq.nd rfl (Or.inl rfl) c__law_taken hr (q1B (pv 3) (q1B (pv 4) (qW (vD 5) (qW (vD 7) (qW (XE.toD (Yl (XE.toV (Yl (vV 1) (vV 7))) (XD.toV Yh))) q2k))))))) qr)))
   (qa (qdd c__law_gone hr (q1B (pv 3) (qW (vD 5) (qW (XE.toD (Yl (vV 0) (XD.toV Yh))) q2k))))
   (qb (q4A (pv 3))))))))))
 exact h
noncomputable def q1U:FS:=(Xg 1 (eOf (dOf (Yo WD (vOf (Yj 1)) (vOf (Xq bAbs (Yi (vOf (Yo zBR (vOf (Yo oIx (vOf (Yj 2)) (vOf (Yo zBR (vOf (Xq WZ (Yi (vOf (Yj 2)) Yq))) (fC (.int 1)))))) (vOf (Yo oIx (vOf (Yj 2)) (vOf (Yo zBR (vOf (Xq WZ (Yi (vOf (Yj 2)) Yq))) (fC (.int 2)))))))) Yq)))))))
noncomputable def q2e:FS:=(Y3 (Xg 1 (eOf (fC (.int 0))))
  (Y3 (zAX (WH (dOf (Yj 0))) (gN 2) q1U)
  (XY (Yj 1))))
noncomputable def q01:List D->Option O:=mir 3 q2e
noncomputable abbrev q25:vx:=top 50
theorem q1b:FnScope ["moves", "total", "move"] ["moves"] (Yk q25):=⟨rfl,rfl,rfl,⋯,rfl,⋯,⋯⟩
theorem q6C (F:Fun K "_law_length" "_law_length" q25 f fd)(z_len:mg "len" = none)(z_abs:mg "abs" = none):
  FnOk P w K mg base CX0 1 f fd ["moves"] (spD K 1 q01):=by
 have h:=fnD (P:=P) (w:=w) (mg:=mg) (base:=base) (k:=0) (body:=q2e) F q1b (λcdv A outer s H E hr=>
   (qa (qm (i:=1) q1b.nd rfl (Or.inl rfl) (XD.toE Yh))
   (qa (q0m PassesOwn.never rfl (qu (vD 0)) (qg (i:=2) q1b.nd rfl (Or.inl rfl)) (qb (qm (i:=1) q1b.nd rfl (Or.inl rfl) (XD.toE (XE.toD (qQ (vV 1) (XE.toV (qp qdP qg1 rfl z_abs qgz (qf (XE.toV (q1r (XE.toV (Yl (vV 2) (XE.toV (q1r (XE.toV (qp qk qK rfl z_len qL (qf (vV 2) qi))) (XD.toV Yh))))) (XE.toV (Yl (vV 2) (XE.toV (q1r (XE.toV (qp qk qK rfl z_len qL (qf (vV 2) qi))) (XD.toV Yh))))))) qi)))))))))
   (qb (qh (vE 1))))))
 exact h
noncomputable def qaM:FS:=(Y3 (Xg 1 (eOf (dOf (Yr q18 (Yi (dOf (Yj 0)) Yq)))))
  (Y3 (Xg 2 (eOf (dOf (Yr q0L (Yi (dOf (Yj 0)) (Yi (dOf (Yj 1)) Yq))))))
  (Y3 (Xg 3 (eOf (dOf (Yr q0O (Yi (dOf (Yj 1)) (Yi (dOf (Yj 2)) (Yi (dOf (fSl (vOf (Yj 0)) (pAt (fC (.int 17))) (pAt (fC (.int 63))))) Yq)))))))
  (Y3 (sIf (tOf (Yo (oIs true) (vOf (Yr qT (Yi (dOf (Yo oIx (vOf (Yj 1)) (fC (.int 0)))) (Yi (dOf (Xq zAY (Yi (vOf (Yj 2)) Yq))) (Yi (dOf (Xq zAY (Yi (vOf (Yj 3)) Yq))) Yq))))) (fC (.bl true)))) (XY (eOf (fC (.bl false)))) WQ)
  (Y3 (Xg 4 (eOf (dOf (Yr q01 (Yi (dOf (Yj 3)) Yq)))))
  (XY (eOf (zAQ (dOf (Yo oGe (vOf (Yj 4)) (vOf (Yr q0l (Yi (dOf (Yo oIx (vOf (Yj 1)) (fC (.int 0)))) (Yi (dOf (Xq zAY (Yi (vOf (Yj 2)) Yq))) Yq)))))) (dOf (Yo oGe (vOf (Yj 4)) (vOf (Yr q01 (Yi (dOf (Yr q17 (Yi (dOf (Yo oIx (vOf (Yj 1)) (fC (.int 0)))) (Yi (dOf (Xq zAY (Yi (vOf (Yj 2)) Yq))) Yq)))) Yq)))))))))))))
noncomputable def q4B:List D->Option O:=mir 5 qaM
noncomputable abbrev q4x:vx:=top 51
theorem q5Q:FnScope ["script", "some", "boxes", "moves", "gone"] ["script"] (Yk q4x):=⟨rfl,rfl,rfl,⋯,rfl,⋯,⋯⟩
theorem qgi{f__law_menu:vJ}{d__law_menu:vP}{f__law_boxes:vJ}{d__law_boxes:vP}{f__law_drawn:vJ}{d__law_drawn:vP}{f_is_yard_tour:vJ}{d_is_yard_tour:vP}{f__law_length:vJ}{d__law_length:vP}{f_yard_tour:vJ}{d_yard_tour:vP}{f_yard_least:vJ}{d_yard_least:vP}(F:Fun K "law" "law" q4x f fd)(c__law_menu:Cal P w K mg base 2 f__law_menu d__law_menu "_law_menu" ["script"] 1 q18)(c__law_boxes:Cal P w K mg base 2 f__law_boxes d__law_boxes "_law_boxes" ["script", "some"] 2 q0L)(c__law_drawn:Cal P w K mg base 3 f__law_drawn d__law_drawn "_law_drawn" ["some", "boxes", "cells"] 3 q0O)(c_is_yard_tour:Cal P w K mg base 6 f_is_yard_tour d_is_yard_tour "is_yard_tour" ["gate", "boxes", "thing"] 3 qT)(c__law_length:Cal P w K mg base 1 f__law_length d__law_length "_law_length" ["moves"] 1 q01)(c_yard_tour:Cal P w K mg base 8 f_yard_tour d_yard_tour "yard_tour" ["gate", "boxes"] 2 q17)(c_yard_least:Cal P w K mg base 7 f_yard_least d_yard_least "yard_least" ["gate", "boxes"] 2 q0l)(z_list:mg "list" = none):
  FnOk P w K mg base CX0 9 f fd ["script"] (spD K 1 q4B):=by
 have h:=fnD (P:=P) (w:=w) (mg:=mg) (base:=base) (k:=8) (body:=qaM) F q5Q (λcdv A outer s H E hr=>
   (qa (qm (i:=1) q5Q.nd rfl (Or.inl rfl) (XD.toE (XE.toD (xc c__law_menu hr (Yg (vD 0) Yn)))))
   (qa (qm (i:=2) q5Q.nd rfl (Or.inl rfl) (XD.toE (XE.toD (xc c__law_boxes hr (Yg (vD 0) (Yg (vD 1) Yn))))))
   (qa (qm (i:=3) q5Q.nd rfl (Or.inl rfl) (XD.toE (XE.toD (xc c__law_drawn hr (Yg (vD 1) (Yg (vD 2) (Yg (XE.toD (Y9 (vV 0) (XC (XD.toV Yh)) (XC (XD.toV Yh)))) Yn)))))))
   (qa (qC (zBv (XE.toV (xc c_is_yard_tour hr (Yg (XE.toD (Yl (vV 1) (XD.toV Yh))) (Yg (XE.toD (q7x q1v q4w rfl z_list q1V (qf (vV 2) qi))) (Yg (XE.toD (q7x q1v q4w rfl z_list q1V (qf (vV 3) qi))) Yn))))) (XD.toV WP)) (qb (qh (XD.toE WP))) qr)
   (qa (qm (i:=4) q5Q.nd rfl (Or.inl rfl) (XD.toE (XE.toD (xc c__law_length hr (Yg (vD 3) Yn)))))
   (qb (qh (XD.toE (q0n (XE.toD (qbd (vV 4) (XE.toV (xc c_yard_least hr (Yg (XE.toD (Yl (vV 1) (XD.toV Yh))) (Yg (XE.toD (q7x q1v q4w rfl z_list q1V (qf (vV 2) qi))) Yn)))))) (q0M (XE.toD (qbd (vV 4) (XE.toV (xc c__law_length hr (Yg (XE.toD (xc c_yard_tour hr (Yg (XE.toD (Yl (vV 1) (XD.toV Yh))) (Yg (XE.toD (q7x q1v q4w rfl z_list q1V (qf (vV 2) qi))) Yn)))) Yn))))))))))))))))
 exact h
end
set_option compiler.extract_closed false
set_option hygiene false
local macro_rules|`(tactic| simp_arith $c:optConfig [$xs,*])=>`(tactic| simp $c only[q57,q5J,q7V,q6t,q6H,q87,qaU,qal,qb9,q6w,q6u,e_cw,qak,qad,qaF,e_dp,qba,e_sp,qb5,qb0,qbk,qaY,qb1,qaK,qbv,qaG,qbc,qar,qaD,q7S,q5V,Xw,eq_self,wy,wS,wT,reduceCtorEq,q8j,q8G,q6A,e_wd,q7G,e_wz,q5Y,qaw,q7M,q8H,qay,qbz,qbp,q90,qaS,q6d,q6x,q7F,qaN,qas,qap,q4q,q5X,qx,q4p,q6e,qai,qaW,q63,q6q,e_if,q84,q8h,qb2,q6g,q61,q5w,q4F,qbw,zCw,qbu,q5n,q3m,q6D,q6o,qbh,e_fs,qaV,q6v,q5Z,e_c,e_e,e_ed,e_d,q5U,q6I,e_v,q6k,q69,q6K,e_op,e_o2,q83,e_cl,q67,q6y,e_ac,e_ca,e_an,qaA,qaz,qbA,e_bl,qaO,e_sl,e_po,e_pa,e_ap,qao,q3Z,q42,e_t,e_tr,qax,qaJ,e_to,qbD,q8R,e_tn,q8D,q6f,q4V,q8I,e_va,qat,qaQ,e_vo,q7B,q8B,q8E,qaL,q8z,Wf,qau,e_ng,q6j,q6b,q6E,q4K,q8a,q7U,q6i,q8N,q7X,q8f,q6c,q68,qb7,qam,qbm,at0,at1,at2,q2j,q4y,zBk,entry,yN,yi,zD,yR,zB,zX,yw,wL,xD,yG,xq,wA,wB,wC,xX,Za,Zb,Z6,Z7,Z8,Zc,Zd,Ze,Zf,Zg,Zh,wO,Zi,ZJ,↓reduceIte,Zj,Zk,wU,wo,xi,ZC,wk,ZD,wM,ZR,yj,beq_self_eq_true,yc,$xs,*])
set_option compiler.extract_closed true
set_option hygiene true
noncomputable def Y5(p:Int×Int):D:=.tup [.int p.1,.int p.2]
noncomputable def plD:D->Bool
 | .scr _=>false
 | .exc _=>false
 | .dic _ _=>false
 | _=>true
noncomputable def plB:D->Bool
 | .tup ds=>ds.all plD
 | d=>plD d
noncomputable def plL:D->Bool
 | .lst ds=>ds.all plB&&decide (ds.length<=20)
 | d=>plD d
noncomputable def geD(a:Int):D->Bool
 | .int x=>decide (a<=x)
 | _=>false
noncomputable def zBj(a:Int):D->Bool
 | .tup [x,y]=>geD a x&&geD a y
 | _=>false
noncomputable def isYd:D->D->Bool
 | .int a,.lst ds=>ds.all (zBj a)
 | _,_=>false
noncomputable def Yt:D->Bool
 | .int _=>true
 | _=>false
noncomputable def nsD:D->Bool
 | .scr _=>false
 | .exc _=>false
 | .dic _ _=>false
 | _=>true
noncomputable def zCc:D->Bool
 | .scr _=>false
 | .exc _=>false
 | .dic _ _=>false
 | .tup [a,b]=>nsD a&&nsD b
 | _=>true
noncomputable def isBoxL:List D->Bool
 | []=>false
 | [_]=>false
 | [a,b]=>Yt a&&Yt b
 | _::_::_::_=>false
noncomputable def zAU:D->Bool
 | .tup ds=>isBoxL ds
 | _=>false
theorem q0s{d:D}(h:nsD d=true):qw [d]=↥(.bl (Yt d)):=by
 cases d <;> first|rfl|cases h
theorem qgg{d:D}(h:zCc d=true):q2G [d]=↥(.bl (zAU d)):=by
 unfold q2G q55
 match d,h with
 | .non,_=>rfl
 | .bl _,_=>rfl
 | .int _,_=>rfl
 | .str _,_=>rfl
 | .lst _,_=>rfl
 | .tup [],_=>rfl
 | .tup [_],_=>simp_arith[qx];rfl
 | .tup [a,b],h=>
  have h':=yy.mp (show (_&&_)=true from h);have ha:=q0s h'.1;have hb:=q0s h'.2;simp_arith[ha,hb];simp_arith[show (((0+1+1:Nat):Int)==2)=true from rfl,ha,hb];cases a <;> cases b <;> rfl
 | .tup (a::b::c::r),_=>
  have hn:(((a::b::c::r).length:Int)==2)=false:=by
   simp only[zD,beq_eq_false_iff_ne,ne_eq];omega
  simp only[zD]at hn;simp_arith[hn];rfl
theorem q2A:∀(q:D->Bool)(ds:List D),allB (ds.map λd=>D.bl (q d))=some (ds.all q)
 | _,[]=>rfl
 | q,d::ds=>by
  show (allB (ds.map λd=>D.bl (q d))).map _=_;rw[q2A q ds];rfl
theorem qce{h l:D}{ds:List D}(hh:nsD h=true)(hl:nsD l=true)(hd:∀d∈ds,zCc d=true)(hlen:ds.length<=1000000):
  q0d [h,l,.lst ds]=↥(.bl (Yt h&&(Yt l&&ds.all zAU))):=by
 unfold q0d q1W;have e1:=q0s hh;have e2:=q0s hl;simp_arith[e1,e2,Wf hlen];cases Yt h <;> cases Yt l <;> simp_arith[e2,Wf hlen] <;> first|rfl|skip
 rw[q2U (λd=>D.bl (zAU d))]
 ·simp_arith[zBi,q2A]
 ·intro d hd'
  unfold q3R;simp_arith[inW,qgg (hd d hd')]
theorem qcV{h l b:D}(hh:nsD h=true)(hl:nsD l=true)(hb:nsD b=true)(hb':∀ds,b≠.lst ds):q0d [h,l,b]=↥(.bl false):=by
 unfold q0d q1W;have e1:=q0s hh;have e2:=q0s hl;have e3:isiR .lst (some b)=↥(.bl false):=by
  cases b <;> first|rfl|exact vL rfl (hb' _)|cases hb
 simp_arith[e1,e2];cases Yt h <;> cases Yt l <;> simp_arith[e2,e3]
theorem q3v{α:Type}{g:FG}{c:FT}{f:FD}(P:WSt->Prop)(q:α->Bool)(B F:α->D):∀(xs:List α){ω:WSt},P ω ->
  (∀x∈xs,∀ω,P ω->∃w,g (B x) ω=some w/\P w/\c w=some (q x)/\(q x=true->f w=some (F x)))->XH g c f (xs.map B) ω=some ((xs.filter q).map F)
 | [],_,_,_=>rfl
 | x::xs,ω,h,t=>by
  obtain⟨w,h1,h2,h3,h4⟩:=t x zI ω h;have ih:=q3v P q B F xs h2 (λe he=>t e (zH _ he));rw[zX,XH,h1,yN,h3,yN];cases hq:q x with
  | true=>rw[vC rfl,h4 hq,yN,ih,wu hq];rfl
  | false=>rw[vF (by decide),ih,wv (by rw[hq];decide)]
theorem q5H{α:Type}{i:Nat}{c:FT}{f:FD}(q:α->Bool)(B F:α->D)(xs:List α){ω:WSt}(h:∀x∈xs,c (ω.set i ↥(B x))=some (q x)/\(q x=true->f (ω.set i ↥(B x))=some (F x))):XH (gN i) c f (xs.map B) ω=some ((xs.filter q).map F) :=
 q3v (g:=gN i) (c:=c) (f:=f) (λw=>∀x,w.set i x=ω.set i x) q B F xs (ω:=ω) (λx=>rfl) λd hd w hw=>
  ⟨w.set i ↥(B d),rfl,λx=>by rw[Z1,hw],by rw[hw];exact(h d hd).1,λz=>by rw[hw];exact(h d hd).2 z⟩
theorem q0u{α:Type}{i:Nat}{f:FD}(B F:α->D)(xs:List α){ω:WSt}(h:∀x∈xs,f (ω.set i ↥(B x))=some (F x)):XH (gN i) XF f (xs.map B) ω=some (xs.map F):=by
 have:=q5H (c:=XF) (i:=i) (f:=f) (λ_=>true) B F xs (ω:=ω) λx hx=>⟨rfl,λ_=>h x hx⟩;rw[this,ZU.mpr (λ_ _=>rfl)]
theorem qcp{α:Type}(f:α->Int):∀bs:List α,zCs (bs.map λp=>D.int (f p))=some (bs.map f).sum
 | []=>rfl
 | b::r=>by
  show (zCs (r.map λp=>D.int (f p))).map _=_;rw[qcp f r];rfl
theorem qgh{α:Type}(f:α->Int)(bs:List α):bSum [.lst (bs.map λp=>D.int (f p))]=↥(.int (bs.map f).sum):=by
 show (zCs _).map _=_;rw[qcp];rfl
theorem qbr{d:D}(h:plD d=true):nsD d=true:=by cases d <;> first|rfl|cases h
theorem qfR{d:D}(h:plB d=true):zCc d=true:=by
 match d,h with
 | .non,_=>rfl
 | .bl _,_=>rfl
 | .int _,_=>rfl
 | .str _,_=>rfl
 | .lst _,_=>rfl
 | .tup [],_=>rfl
 | .tup [_],_=>rfl
 | .tup [a,b],h=>
  have h':plD a=true/\plD b=true:=by simpa [plB]using h
  show (nsD a&&nsD b)=true;rw[qbr h'.1,qbr h'.2];rfl
 | .tup (_::_::_::_),_=>rfl
theorem minT2(x y:Int):zA3 [.tup [.int x,.int y]]=↥(.int (zAZ [x,y])):=q9w (ns:=[x,y]) (by simp)
theorem q7D{d:D}(h:Yt d=true):∃k,d=.int k:=by
 cases d with
 | int k=>exact⟨k,rfl⟩
 | _=>cases h
theorem qeh{a:Int}{d:D}(h:geD a d=true):∃k,d=.int k:=by
 cases d with
 | int k=>exact⟨k,rfl⟩
 | _=>cases h
theorem qdK{d:D}(h:zAU d=true):∃x y,d=.tup [.int x,.int y]:=by
 match d,h with
 | .tup [a,b],h=>
  obtain⟨h1,h2⟩:=yy.mp (show (Yt a&&Yt b)=true from h);obtain⟨x,rfl⟩:=q7D h1;obtain⟨y,rfl⟩:=q7D h2;exact⟨x,y,rfl⟩
theorem qeF(a x y:Int):zBj a (.tup [.int x,.int y])=decide (a<=zAZ [x,y]):=by
 show (decide (a<=x)&&decide (a<=y))=decide (a<=if y<=x then y else x)
 by_cases h1:a<=x <;> by_cases h2:a<=y <;> by_cases h3:y<=x <;> simp[h1,h2,h3] <;> omega
theorem qdc{a:Int}{d:D}(h:zBj a d=true):zAU d=true:=by
 match d,h with
 | .tup [x,y],h=>
  obtain⟨h1,h2⟩:=yy.mp (show (geD a x&&geD a y)=true from h);obtain⟨x,rfl⟩:=qeh h1;obtain⟨y,rfl⟩:=qeh h2;rfl
theorem q9T{g b:D}(hg:plD g=true)(hb:plL b=true):q1i [g,b]=↥(.bl (isYd g b)):=by
 unfold q1i q3O;have hg':=qbr hg
 by_cases hlst:∃ds,b=.lst ds
 ·obtain⟨ds,rfl⟩:=hlst
  have h':ds.all plB=true/\ds.length<=20:=by simpa [plL]using hb
  have hpl:=yf.mp h'.1;have hll:ds.length<=1000000:=∅
  have e1:=qce (h:=g) (l:=g) (ds:=ds) hg' hg' (λd hd=>qfR (hpl d hd)) hll;simp_arith[e1]
  by_cases hw:∃a,g=.int a
  ·obtain⟨a,rfl⟩:=hw
   by_cases hall:ds.all zAU=true
   ·have cm:XH (gN 0) XF q3o ds [none,↥(.int a)]=some (ds.map λd=>D.bl (zBj a d)):=by
     refine q2U (λd=>D.bl (zBj a d)) ds λd hd=>?_;obtain⟨x,y,rfl⟩:=qdK (yf.mp hall d hd);unfold q3o;simp_arith[minT2,qeF]
    simp_arith[Yt,hall,Wf hll,inW,W8,cm,zBi,q2A];rfl
   ·have hf:ds.all zAU=false:=by simpa using hall
    have hy:ds.all (zBj a)=false:=by
     cases h2:ds.all (zBj a)with
     | false=>rfl
     | true=>exact vL (yf.mpr λd hd=>qdc (yf.mp h2 d hd)) hall
    simp_arith[Yt,hf];show _=some (O.sh (D.bl (ds.all (zBj a))));rw[hy]
  ·have hw':Yt g=false:=by cases g <;> first|rfl|exact vL ⟨_,rfl⟩ hw
   have hy:isYd g (.lst ds)=false:=by cases g <;> first|rfl|exact vL ⟨_,rfl⟩ hw
   simp_arith[hw',hy]
 ·have hn:∀ds,b≠.lst ds:=λds e=>hlst ⟨ds,e⟩
  have hb':nsD b=true:=by
   cases b <;> first|rfl|exact vL ⟨_,rfl⟩ hlst|cases hb
  have hy:isYd g b=false:=by
   cases g <;> cases b <;> first|rfl|exact vL rfl (hn _)
  simp_arith[qcV hg' hg' hb' hn,hy]
theorem q6a(a b:Int):Y5 (a,b)=.tup [.int a,.int b]:=rfl
noncomputable def over(s g:Int)(q:Int×Int):Bool:=decide (s<=q.1)&&decide (q.2<=g)
theorem q7J(s g a b:Int):q0o [.int s,.int g,.tup [.int a,.int b]]=↥(.bl (over s g (a,b))):=by
 unfold q0o q2p over;simp_arith[qx]
noncomputable def rts(bs:List (Int×Int))(q:Int×Int):Int:=((bs.filter λp=>over p.1 p.2 q).length:Nat)
noncomputable def lfs(bs:List (Int×Int))(q:Int×Int):Int:=((bs.filter λp=>over p.2 p.1 q).length:Nat)
noncomputable def onP(f:Int->Int->Bool):D->Bool
 | .tup [.int a,.int b]=>f a b
 | _=>false
theorem q7h(f:Int->Int->Bool)(bs:List (Int×Int)):((bs.map Y5).filter (onP f)).map (λd=>d)=(bs.filter λp=>f p.1 p.2).map Y5:=by
 rw[List.map_id',List.filter_map];rfl
theorem q5t{bs:List (Int×Int)}{q:Int×Int}(hb:bs.length<=1000):q0I [.lst (bs.map Y5),Y5 q]=↥(.tup [.int (rts bs q),.int (lfs bs q)]):=by
 unfold q0I q46;have hl:(bs.map Y5).length<=1000000:=by rw[zB];omega
 obtain⟨a,b⟩:=q;have c1:XH (gN 0) q3n q3x (bs.map Y5) [none,↥(.tup [.int a,.int b])]=some ((bs.filter λp=>over p.1 p.2 (a,b)).map Y5):=by
  rw[<- q7h (λs g=>over s g (a,b))];refine q78 (onP λs g=>over s g (a,b)) (λd=>d) (bs.map Y5) λd hd=>?_;obtain⟨⟨s,g⟩,_,rfl⟩:=ya.mp hd;unfold q3n q3x;simp_arith[q6a,q7J];exact⟨rfl,λ_=>trivial⟩
 have c2:XH (gN 0) q3D q3z (bs.map Y5) [none,↥(.tup [.int a,.int b])]=some ((bs.filter λp=>over p.2 p.1 (a,b)).map Y5):=by
  rw[<- q7h (λs g=>over g s (a,b))];refine q78 (onP λs g=>over g s (a,b)) (λd=>d) (bs.map Y5) λd hd=>?_;obtain⟨⟨s,g⟩,_,rfl⟩:=ya.mp hd;unfold q3D q3z;simp_arith[q6a,q7J];exact⟨rfl,λ_=>trivial⟩
 simp_arith[q6a,Wf hl,inW,W8,c1,c2];rfl
theorem q4U{ns:List Int}{k:Int}(h:0<=k):qR [.scr ns,.int k]=↥(.int (ns.getD k.toNat 0)):=by
 unfold qR q30
 by_cases hk:k<ns.length
 ·simp_arith[hk,decide_true,q0p h hk]
  simp[zU,zE (show k.toNat<ns.length by omega)]
 ·simp_arith[hk,decide_false]
  simp[zU,ze (show ns.length<=k.toNat by omega)]
theorem q8m{ds:List D}{i:Int}(P:D->Prop)(h0:0<=i)(h1:i<ds.length)(h:∀d∈ds,P d):∃d,atI ds i=some d/\P d :=
 ⟨_,q0p h0 h1,h _ (yu _)⟩
theorem qem{ns:List Int}:∃(gate:Int) (ps:List Int),q18 [.scr ns]=some (.fr ((gate::ps).map D.int))/\ps.length=6/\∀p∈ps,gate<=p:=by
 unfold q18 q35;have hc:=q4U (ns:=ns) (k:=0) (by decide);have h8:oPow (.int 10) (.int 39)=↥(.int (10^39)):=rfl;have h9:∀x,zB3 (.int 2) (.int x)=↥(.int (2*x)):=λx=>q8k (by decide) (by decide);have h10:∀x,oMod (.int x) (.int (2*10^39))=↥(.int (x%(2*10^39))):=λx=>q2j (by decide);have h11:∀x,oMod (.int x) (.int (10^39))=↥(.int (x%10^39)):=λx=>q2j (by decide);have rg:rg1I (some [.int 6])=some (upTo 0 6):=rfl;have loop:∀gate:Int,∀x1:Option W,∃ω' ps,Wg (gN 4) q0S (Hk.upTo 0 6) [↥(.scr ns),x1,↥(.int gate),some (.ow [.int gate]),none]=some (.nx,ω')/\ω'[3]?=some (some (.ow ((gate::ps).map D.int)))/\ps.length=6/\∀p∈ps,gate<=p:=λgate x1=>by
  obtain⟨ω',e,ps,y1,y4,rfl,i1,i2⟩:=q77 (g:=gN 4) (b:=q0S) 0 6
   (λi ω=>∃(ps:List Int) (y1 y4:Option W),ω=[↥(.scr ns),y1,↥(.int gate),some (.ow ((gate::ps).map D.int)),y4]/\ps.length=i/\∀p∈ps,gate<=p)
   (λi ω hi ⟨ps,y1,y4,hω,i1,i2⟩=>by
    subst hω;refine⟨_,rfl,?_⟩;have hcc:=q4U (ns:=ns) (k:=2+(0+(i:Int))) ∅;generalize ns.getD (2+(0+(i:Int))).toNat 0=c at hcc;have h3:0<=c%3/\c%3<3:=∅
    obtain⟨d,hd,q,rfl,hq⟩:=q8m (ds:=[.int (0+(i:Int)+c/3%3),.int (c/3%100),.int (c/3%10^39)]) (i:=c%3) (λd=>∃q:Int,d=D.int q/\0<=q) h3.1 h3.2 (by
     intro d hd;simp only[zG,zj,or_false]at hd;rcases hd with rfl|rfl|rfl
     ·exact⟨_,rfl,∅⟩
     ·exact⟨_,rfl,∅⟩
     ·exact⟨_,rfl,YQ _ (by decide)⟩)
    have hll:(D.int gate::ps.map D.int).length<1000000:=by rw[zD,zB];omega
    have hd':=hd;simp only[wO]at hd';unfold q0S;simp_arith[hcc,h8,h11,hd',wO,zX];rw[zCw hll,q4K];refine⟨ps++[gate+q],_,_,by rw[zY];rfl,by rw[zC,i1];rfl,λp hp=>?_⟩;rcases zT.mp hp with y|y
    ·exact i2 p y
    ·cases za.mp y;omega)
   (ω:=[↥(.scr ns),x1,↥(.int gate),some (.ow [.int gate]),none]) ⟨[],x1,none,rfl,rfl,by simp⟩
  exact⟨_,ps,e,rfl,i1,i2⟩
 have fin:∀gate:Int,∀x1:Option W,∃ps:List Int,outM (zB4 (Wg (gN 4) q0S (Hk.upTo 0 6) [↥(.scr ns),x1,↥(.int gate),some (.ow [.int gate]),none]) (zAN 3))=some (.fr ((gate::ps).map D.int))/\ps.length=6/\∀p∈ps,gate<=p:=λgate x1=>by
  obtain⟨ω',ps,e,e3,i1,i2⟩:=loop gate x1;refine⟨ps,?_,i1,i2⟩;rw[e,q4p,q5w,e3,q4F,q4q]
 by_cases hp:ns.getD 0 0%2=1
 ·simp_arith[hc,hp,h8,h9,h10,rg]
  obtain⟨ps,e,i⟩:=fin _ ↥(.int (ns.getD 0 0));exact⟨_,ps,e,i⟩
 ·have hp':(ns.getD 0 0%2==1)=false:=by simpa using hp
  simp_arith[hc,hp',rg];obtain⟨ps,e,i⟩:=fin _ ↥(.int (ns.getD 0 0));exact⟨_,ps,e,i⟩
theorem qcB{ns:List Int}{some':List Int}(h7:some'.length=7)(hl:ns.length<=63):∃bs:List (Int×Int),q0L [.scr ns,.lst (some'.map D.int)]=some (.fr (bs.map pairD2))/\(∀b∈bs,b.1∈some'/\b.2∈some')/\bs.length<=9:=by
 unfold q0L q2C;have hc:=q4U (ns:=ns) (k:=1) (by decide);have h4:0<=ns.getD 1 0%4/\ns.getD 1 0%4<4:=∅
 obtain⟨d,hd,k,rfl,hk⟩:=q8m (ds:=[.int 9,.int 9,.int (ns.getD 1 0/4%10),.int (ns.getD 1 0/4%3)]) (i:=ns.getD 1 0%4) (λd=>∃k:Nat,d=D.int (k:Int)/\k<=9) h4.1 h4.2 (by
  intro d hd;simp only[zG,zj,or_false]at hd;rcases hd with rfl|rfl|rfl|rfl
  ·exact⟨9,rfl,by decide⟩
  ·exact⟨9,rfl,by decide⟩
  ·exact⟨(ns.getD 1 0/4%10).toNat,by rw[xr ∅],∅⟩
  ·exact⟨(ns.getD 1 0/4%3).toNat,by rw[xr ∅],∅⟩)
 simp_arith[hc,hd,qel];have hcl:(cutD ns (some 8) (some (8+(k:Int)))).length<=9:=by
  have e1:HT.sIx ns.length 0 (some 8)=min 8 ns.length:=HT.q1H ns.length 0 8;have e2:HT.sIx ns.length ns.length (some (8+(k:Int)))=min (8+k) ns.length:=by
   have:=HT.q1H ns.length ns.length (8+k);rw[show ((8+k:Nat):Int)=8+(k:Int) by omega]at this;exact this
  unfold cutD;rw[e1,e2,zv];omega
 generalize cutD ns (some 8) (some (8+(k:Int)))=cells at hcl;obtain⟨ω',e,bs,x5,rfl,i1,i2⟩:=q0h (g:=gN 5) (b:=q2b) D.int cells
  (λpre ω=>∃(bs:List (Int×Int)) (x5:Option W),ω=[↥(.scr ns),↥(.lst (some'.map D.int)),↥(.int (ns.getD 1 0)),↥(.int (k:Int)),some (.ow (bs.map pairD2)),x5]/\(∀b∈bs,b.1∈some'/\b.2∈some')/\bs.length=pre.length)
  (λpre c post ω hd' ⟨bs,x5,hω,i1,i2⟩=>by
   subst hω;refine⟨_,rfl,?_⟩;have hp:pre.length<cells.length:=by rw[hd',zC,zD];omega
   have pick:∀x:Int,∃y,y∈some'/\atI (some'.map D.int) (x%7)=some (.int y):=λx=>by
    refine⟨some'[(x%7).toNat]'∅,yu _,?_⟩;rw[q0p ∅ (by rw[zB];omega),xY]
   obtain⟨y1,m1,a1⟩:=pick c;obtain⟨y2,m2,a2⟩:=pick (c/7);have hll:(bs.map pairD2).length<1000000:=by rw[zB];omega
   unfold q2b;simp_arith[a1,a2,zCw hll];refine⟨bs++[(y1,y2)],_,by rw[zY];rfl,λb hb=>?_,by rw[zC,zC,i2];rfl⟩;rcases zT.mp hb with y|y
   ·exact i1 b y
   ·cases za.mp y;exact⟨m1,m2⟩)
  (ω:=[↥(.scr ns),↥(.lst (some'.map D.int)),↥(.int (ns.getD 1 0)),↥(.int (k:Int)),some (.ow []),none]) ⟨[],none,rfl,by simp,rfl⟩
 simp_arith[e];exact⟨bs,rfl,i1,∅⟩
noncomputable def Wz(g:Int)(bs:List (Int×Int)):List Int:=g::bs.flatMap λb=>if b.1=b.2 then []else [b.1,b.2]
theorem qdl(g:Int)(bs:List (Int×Int))(b:Int×Int):Wz g (bs++[b])=Wz g bs++if b.1=b.2 then []else [b.1,b.2]:=by simp[Wz]
theorem q2z(g:Int)(bs:List (Int×Int)):(Wz g bs).length<=2*bs.length+1:=by
 induction bs with
 | nil=>simp[Wz]
 | cons b r ih=>
  simp only[Wz,zD,wj,zC]at ih ⊢
  by_cases h:b.1=b.2
  ·rw[vC h,yR];omega
  ·rw[vF h,zD,zD,yR];omega
noncomputable def knw(g:Int)(bs:List (Int×Int)):List Int:=XR (Wz g bs)
noncomputable def nbs(P:List Int):List (Int×Int):=P.zip (P.drop 1)
theorem q4J(P:List Int):(nbs P).length=P.length-1:=by
 unfold nbs;rw[List.length_zip,yV];omega
noncomputable def ovR(x:Int)(bs:List (Int×Int)):Nat:=bs.countP λb=>decide (b.1<x)&&decide (x<=b.2)
noncomputable def ovL(x:Int)(bs:List (Int×Int)):Nat:=bs.countP λb=>decide (b.2<x)&&decide (x<=b.1)
noncomputable def tri(x:Int×Int×Int):D:=.tup [.int x.1,.int x.2.1,.int x.2.2]
noncomputable def zAh(K:List Int)(bs:List (Int×Int)):List (Int×Int×Int):=(nbs K).map λp=>(p.1,p.2,mx3 1 (ovR p.2 bs) (ovL p.2 bs))
theorem q1L{α:Type}{xs:List α}{i:Nat}{x:α}(h:xs[i]?=some x):xs.take (i+1)=xs.take i++[x]:=by
 rw[Zz,h];rfl
noncomputable def su(f:Int->Int)(a:Int):Nat->Int
 | 0=>0
 | n+1=>su f a n+f (a+n+1)
theorem q8S{f f':Int->Int}{a:Int}:∀{n:Nat},(∀x,a<x->x<=a+n->f x=f' x)->su f a n=su f' a n
 | 0,_=>rfl
 | n+1,h=>by
  show su f a n+f (a+n+1)=su f' a n+f' (a+n+1);rw[q8S (f:=f) (f':=f') (n:=n) λx h1 h2=>h x h1 ∅,h _ ∅ ∅]
theorem qe6{f f':Int->Int}{a:Int}:∀{n:Nat},(∀x,a<x->f x<=f' x)->su f a n<=su f' a n
 | 0,_=>yB _
 | n+1,h=>by
  show su f a n+f (a+n+1)<=su f' a n+f' (a+n+1);exact Int.add_le_add (qe6 h) (h _ ∅)
theorem q56{f:Int->Int}{a c:Int}:∀{n:Nat},(∀x,a<x->x<=a+n->f x=c)->su f a n=c*n
 | 0,_=>by rw[su];simp
 | n+1,h=>by
  show su f a n+f (a+n+1)=c*((n+1:Nat):Int);rw[q56 (f:=f) (n:=n) λx h1 h2=>h x h1 ∅,h _ ∅ ∅,xx,Int.mul_add];simp
theorem qbI(f:Int->Int)(a:Int)(m:Nat):∀n:Nat,su f a (m+n)=su f a m+su f (a+m) n
 | 0=>by simp[su]
 | n+1=>by
  show su f a (m+n)+f (a+(m+n:Nat)+1)=su f a m+(su f (a+m) n+f (a+m+n+1));rw[qbI f a m n,show a+((m+n:Nat):Int)+1=a+m+n+1 by omega,Int.add_assoc]
theorem q0w(a b:Int)(r:List Int):nbs (a::b::r)=(a,b)::nbs (b::r):=rfl
theorem qc1(f F:Int->Int):∀(r:List Int)(k:Int)(N:Nat),(k::r).Pairwise (· < ·)->(∀p∈nbs (k::r),∀x,p.1<x->x<=p.2->f x=F p.2) ->
  (∀y∈k::r,y<=k+N)->(∀x,(∀y∈k::r,y<x)->f x=0)->((nbs (k::r)).map λp=>F p.2*(p.2-p.1)).sum=su f k N
 | [],k,N,_,_,_,h0=>by
  show (0:Int)=_;rw[q56 (c:=0) λx h1 h2=>h0 x λy hy=>by cases za.mp hy;exact h1];simp
 | k1::r,k,N,hp,hf,hN,h0=>by
  have hk:k<k1:=(zZ.mp hp).1 k1 zI;have hk1:=hN k1 (by simp);obtain⟨m,hm⟩:∃m:Nat,k1=k+m:=⟨(k1-k).toNat,∅⟩;obtain⟨n,rfl⟩:∃n:Nat,N=m+n:=⟨N-m,∅⟩;rw[q0w,zX,yQ,qbI,<- hm];have ih:=qc1 f F r k1 n (zZ.mp hp).2 (λp hp'=>hf p (by rw[q0w];exact zH _ hp')) (λy hy=>by have:=hN y (zH _ hy);omega) (λx hx=>h0 x λy hy=>by
   rcases zG.mp hy with rfl|hy
   ·have:=hx k1 zI;omega
   ·exact hx y hy)
  rw[ih,q56 (c:=F k1) λx h1 h2=>hf (k,k1) (by rw[q0w];exact zI) x h1 ∅];show F k1*(k1-k)+_=_;rw[show k1-k=(m:Int) by omega]
theorem q1f:∀{K:List Int},K.Pairwise (· < ·)->∀p∈nbs K,p.1∈K/\p.2∈K/\p.1<p.2/\∀y∈K,y<=p.1\/p.2<=y
 | [],_,p,h=>by cases h
 | [k],_,p,h=>by cases h
 | a::b::r,hp,p,h=>by
  rw[q0w]at h;have hab:a<b:=(zZ.mp hp).1 b zI;rcases zG.mp h with rfl|h
  ·refine⟨zI,by simp,hab,λy hy=>?_⟩
   rcases zG.mp hy with rfl|hy
   ·left;exact yB _
   ·right
    rcases zG.mp hy with rfl|hy
    ·exact yB _
    ·exact yx ((zZ.mp (zZ.mp hp).2).1 y hy)
  ·obtain⟨h1,h2,h3,h4⟩:=q1f (zZ.mp hp).2 p h
   refine⟨zH _ h1,zH _ h2,h3,λy hy=>?_⟩;rcases zG.mp hy with rfl|hy
   ·left;exact yx ((zZ.mp hp).1 _ h1)
   ·exact h4 y hy
noncomputable def hiB(bs:List (Int×Int))(x:Int):Bool:=bs.any λb=>b.1 != b.2&&(decide (x<=b.1) || decide (x<=b.2))
noncomputable def pu(bs:List (Int×Int))(x:Int):Int:=if hiB bs x=true then mx3 1 (ovR x bs) (ovL x bs)else 0
noncomputable def yl(g:Int)(bs:List (Int×Int)):Int:=((zAh (knw g bs) bs).map λp=>2*p.2.2*(p.2.1-p.1)).sum
theorem ql{g x:Int}{bs:List (Int×Int)}:x∈knw g bs↔x=g\/∃b∈bs,b.1≠b.2/\(x=b.1\/x=b.2):=by
 unfold knw;rw[q2O];unfold Wz;rw[zG,YF];refine or_congr Iff.rfl ⟨λ⟨b,hb,hx⟩=>?_,λ⟨b,hb,h1,h2⟩=>⟨b,hb,?_⟩⟩
 ·by_cases h:b.1=b.2
  ·rw[vC h]at hx;cases hx
  ·rw[vF h]at hx;exact⟨b,hb,h,by simpa using hx⟩
 ·rw[vF h1];simpa using h2
theorem q8c{x y:Int}{bs:List (Int×Int)}(hxy:x<=y)(h:∀b∈bs,b.1≠b.2->(b.1<x\/y<=b.1)/\(b.2<x\/y<=b.2)):ovR x bs=ovR y bs/\ovL x bs=ovL y bs:=by
 constructor
 ·unfold ovR
  refine Z9 λb hb=>?_
  by_cases e:b.1=b.2
  ·simp;omega
  ·have:=h b hb e;simp;omega
 ·unfold ovL
  refine Z9 λb hb=>?_
  by_cases e:b.1=b.2
  ·simp;omega
  ·have:=h b hb e;simp;omega
theorem q1E{bs:List (Int×Int)}{x:Int}:hiB bs x=true↔∃b∈bs,b.1≠b.2/\(x<=b.1\/x<=b.2):=by unfold hiB;simp
theorem q9I(c:Int){α:Type}(F:α->Int):∀xs:List α,(xs.map λx=>c*F x).sum=c*(xs.map F).sum
 | []=>by simp
 | x::r=>by simp only[zX,yQ,q9I c F r,Int.mul_add]
theorem q9M{g:Int}{bs:List (Int×Int)}(h:∀b∈bs,g<=b.1/\g<=b.2):∃r,knw g bs=g::r:=by
 have hm:g∈knw g bs:=ql.mpr (.inl rfl);have hr:(knw g bs).Pairwise (· < ·):=q0t;have hg:∀y∈knw g bs,g<=y:=λy hy=>by
  rcases ql.mp hy with rfl|⟨b,hb,_,h2⟩
  ·exact yB _
  ·have:=h b hb;omega
 cases e:knw g bs with
 | nil=>rw[e]at hm;cases hm
 | cons k r=>
  rw[e]at hm hr hg;have h1:=hg k zI;rcases zG.mp hm with rfl|hm
  ·exact⟨r,rfl⟩
  ·have:=(zZ.mp hr).1 g hm;omega
theorem qe8{g:Int}{bs:List (Int×Int)}(h:∀b∈bs,g<=b.1/\g<=b.2)(N:Nat)(hN:∀b∈bs,b.1<=g+N/\b.2<=g+N):yl g bs=2*su (pu bs) g N:=by
 obtain⟨r,hr⟩:=q9M h;have hp:(knw g bs).Pairwise (· < ·):=q0t;have e:yl g bs=2*((nbs (knw g bs)).map λp=>mx3 1 (ovR p.2 bs) (ovL p.2 bs)*(p.2-p.1)).sum:=by
  rw[<- q9I];unfold yl zAh;rw[yk]
  congr 1
  refine List.map_congr_left λp _=>?_;show 2*mx3 1 (ovR p.2 bs) (ovL p.2 bs)*(p.2-p.1)=_;rw[Int.mul_assoc]
 rw[e]
 congr 1
 have key:=qc1 (pu bs) (λx=>mx3 1 (ovR x bs) (ovL x bs)) r g N (by rw[<- hr];exact hp) (λp hpp x h1 h2=>?_) (λy hy=>?_) (λx hx=>?_)
 ·rw[hr];exact key
 ·rw[<- hr]at hpp
  obtain⟨q1,q2,q3,q4⟩:=q1f hp p hpp;have hi:hiB bs x=true:=q1E.mpr (by
   rcases ql.mp q2 with z|⟨b,hb,n,z⟩
   ·exfalso
    rcases ql.mp q1 with y|⟨b,hb,n,y⟩
    ·omega
    ·have:=h b hb;omega
   ·exact⟨b,hb,n,∅⟩)
  unfold pu;rw[vC hi];have:=q8c (x:=x) (y:=p.2) (bs:=bs) h2 (λb hb n=>by
   have a1:=q4 b.1 (ql.mpr (.inr ⟨b,hb,n,.inl rfl⟩));have a2:=q4 b.2 (ql.mpr (.inr ⟨b,hb,n,.inr rfl⟩));omega)
  rw[this.1,this.2]
 ·rw[<- hr]at hy
  rcases ql.mp hy with rfl|⟨b,hb,_,z⟩
  ·omega
  ·have:=hN b hb;omega
 ·unfold pu
  refine vF λhi=>?_;obtain⟨b,hb,n,z⟩:=q1E.mp hi;rw[<- hr]at hx;have a1:=hx b.1 (ql.mpr (.inr ⟨b,hb,n,.inl rfl⟩));have a2:=hx b.2 (ql.mpr (.inr ⟨b,hb,n,.inr rfl⟩));omega
theorem bound(g:Int):∀bs:List (Int×Int),∃N:Nat,∀b∈bs,b.1<=g+N/\b.2<=g+N
 | []=>⟨0,by simp⟩
 | b::r=>by
  obtain⟨N,h⟩:=bound g r;refine⟨N+(b.1-g).toNat+(b.2-g).toNat,λc hc=>?_⟩;rcases zG.mp hc with rfl|hc
  ·omega
  ·have:=h c hc;omega
theorem qgr{bs:List (Int×Int)}(hb:bs.length<=20):plL (.lst (bs.map pairD2))=true:=by
 show ((bs.map pairD2).all plB&&decide ((bs.map pairD2).length<=20))=true;rw[wF,zB,vQ hb,wo];exact yf.mpr λ_ _=>rfl
theorem qdm{g:Int}{bs:List (Int×Int)}(hb:bs.length<=20)(h:∀b∈bs,g<=b.1/\g<=b.2):q1i [.int g,.lst (bs.map pairD2)]=↥(.bl true):=by
 rw[q9T rfl (qgr hb)];have:isYd (.int g) (.lst (bs.map pairD2))=true:=by
  show (bs.map pairD2).all (zBj g)=true;rw[wF];refine yf.mpr λb hb=>?_;show (decide (g<=b.1)&&decide (g<=b.2))=true;rw[vQ (h b hb).1,vQ (h b hb).2];rfl
 rw[this]
theorem zCG{g:Int}{bs:List (Int×Int)}(hb:bs.length<=20)(h:∀b∈bs,g<=b.1/\g<=b.2):qo [.int g,.lst (bs.map pairD2)]=some (.sh .non):=by
 unfold qo q1p;simp_arith[qdm hb h]
theorem qaE{g:Int}{bs:List (Int×Int)}(hb:bs.length<=20):q0C [.int g,.lst (bs.map pairD2)]=some (.fr ((knw g bs).map D.int)):=by
 unfold q0C q29;simp_arith[qx];obtain⟨ω',e,x3,x4,rfl⟩:=q0h (g:=gT 2 (Yu (gN 3) (Yu (gN 4) Xz))) (b:=q1K) pairD2 bs
  (λpre ω=>∃x3 x4,ω=[↥(.int g),↥(.lst (bs.map pairD2)),some (.ow ((Wz g pre).map D.int)),x3,x4])
  (λpre p post ω hd ⟨x3,x4,hω⟩=>by
   subst hω;refine⟨_,rfl,?_⟩;have hl:(Wz g pre).length<=1000:=by
    have:=uL xh hd;rw[zC,zD]at this;have:=q2z g pre;omega
   unfold q1K;rw[qdl]
   by_cases z:p.1=p.2
   ·have z':(p.1==p.2)=true:=by simpa using z
    rw[vC z,yJ];simp_arith[z'];exact⟨_,_,rfl⟩
   ·have z':(p.1==p.2)=false:=by simpa using z
    rw[vF z];have e1:=q3m (i:=2) (ω:=[↥(.int g),↥(.lst (bs.map pairD2)),some (.ow ((Wz g pre).map D.int)),↥(.int p.1),↥(.int p.2)]) (ds:=(Wz g pre).map D.int) (ds':=[.int p.1,.int p.2]) (by rw[zB,zD,zk];omega);simp_arith[z',e1,zY];exact⟨_,_,rfl⟩)
  (ω:=[↥(.int g),↥(.lst (bs.map pairD2)),some (.ow [.int g]),none,none]) ⟨none,none,rfl⟩
 simp_arith[e];have hlen:(Wz g bs).length<64:=by have:=q2z g bs;omega
 have:WB (vOf (Yj 2)) [↥(.int g),↥(.lst (bs.map pairD2)),some (.ow ((Wz g bs).map D.int)),x3,x4]=some (.fr ((knw g bs).map D.int)):=by
  show W1 (.lst ((Wz g bs).map D.int))=_;show (intsOf ((Wz g bs).map D.int)).bind _=_;rw[q0y];exact vC (qgB hlen)
 simp_arith[this]
theorem qa8:∀(xs ys:List Int),zAz (xs.map D.int) (ys.map D.int)=(xs.zip ys).map Y5
 | x::xs,y::ys=>by show D.tup [.int x,.int y]::zAz (xs.map D.int) (ys.map D.int)=_;rw[qa8 xs ys];rfl
 | [],ys=>by cases ys <;> rfl
 | x::xs,[]=>rfl
theorem qfP(ds:List D):cutD ds (some 1) none=ds.drop 1:=by
 unfold cutD;have e:HT.sIx ds.length 0 (some 1)=min 1 ds.length:=HT.q1H ds.length 0 1;rw[e,HT.q54];cases ds with
 | nil=>rfl
 | cons d r=>
  have:min 1 (d::r).length=1:=by rw[zD];omega
  rw[this];show List.take _ r=r;rw[zD,xK,wK]
theorem max3T(x y:Int):zA5 [.tup [.int x,.int y,.int 1]]=↥(.int (zAt [x,y,1])):=qac (ns:=[x,y,1]) (by simp)
theorem qfX(x y:Int):zAt [x,y,1]=mx3 1 x y:=by
 show (if x<=(if y<=1 then 1 else y)then (if y<=1 then 1 else y)else x)=_;unfold mx3
 split <;> split <;> split <;> split <;> omega
theorem qcD{K:List Int}{bs:List (Int×Int)}{p:Int×Int}(hp:p.1<p.2)(h:∀b∈bs,b.1≠b.2->(b.1<=p.1\/p.2<=b.1)/\(b.2<=p.1\/p.2<=b.2)):rts bs p=ovR p.2 bs/\lfs bs p=ovL p.2 bs:=by
 have e1:(bs.filter λb=>over b.1 b.2 p)=bs.filter λb=>decide (b.1<p.2)&&decide (p.2<=b.2):=by
  refine YA λb hb=>?_;show (decide (b.1<=p.1)&&decide (p.2<=b.2))=_
  by_cases z:b.1=b.2
  ·rw[z];by_cases h1:b.2<=p.1 <;> by_cases h2:p.2<=b.2 <;> by_cases h3:b.2<p.2 <;> simp[h1,h2,h3] <;> omega
  ·have:=h b hb z
   by_cases h1:b.1<=p.1 <;> by_cases h2:p.2<=b.2 <;> by_cases h3:b.1<p.2 <;> simp[h1,h2,h3] <;> omega
 have e2:(bs.filter λb=>over b.2 b.1 p)=bs.filter λb=>decide (b.2<p.2)&&decide (p.2<=b.1):=by
  refine YA λb hb=>?_;show (decide (b.2<=p.1)&&decide (p.2<=b.1))=_
  by_cases z:b.1=b.2
  ·rw[z];by_cases h1:b.2<=p.1 <;> by_cases h2:p.2<=b.2 <;> by_cases h3:b.2<p.2 <;> simp[h1,h2,h3] <;> omega
  ·have:=h b hb z
   by_cases h1:b.2<=p.1 <;> by_cases h2:p.2<=b.1 <;> by_cases h3:b.2<p.2 <;> simp[h1,h2,h3] <;> omega
 unfold rts lfs ovR ovL;rw[e1,e2,wQ,wQ];exact⟨rfl,rfl⟩
theorem q1S(g:Int)(bs:List (Int×Int)):(knw g bs).Pairwise (· < ·):=q0t
theorem qdj{g:Int}{bs:List (Int×Int)}{p:Int×Int}(hb:bs.length<=20)(hp:p∈nbs (knw g bs)):q0k [.lst (bs.map pairD2),Y5 p]=↥(.int (mx3 1 (ovR p.2 bs) (ovL p.2 bs))):=by
 obtain⟨h1,h2,h3,h4⟩:=q1f (q1S g bs) p hp;obtain⟨r1,r2⟩:=qcD (K:=knw g bs) h3 (λb hb z=>⟨h4 b.1 (ql.mpr (.inr ⟨b,hb,z,.inl rfl⟩)),h4 b.2 (ql.mpr (.inr ⟨b,hb,z,.inr rfl⟩))⟩);have c:=q5t (bs:=bs) (q:=p) ∅;rw[show (bs.map Y5)=bs.map pairD2 from rfl,r1,r2]at c;unfold q0k q1F;have ha:WD (.tup [.int (ovR p.2 bs),.int (ovL p.2 bs)]) (.tup [.int 1])=↥(.tup [.int (ovR p.2 bs),.int (ovL p.2 bs),.int 1]):=rfl;simp_arith[c,ha,max3T,qfX]
theorem q6P(g:Int)(bs:List (Int×Int))(hb:bs.length<=20)(h:∀b∈bs,g<=b.1/\g<=b.2):q0T [.int g,.lst (bs.map pairD2)]=some (.fr ((zAh (knw g bs) bs).map tri)):=by
 unfold q0T q5c;simp_arith[zCG hb h,qaE hb,qed];have hz:zAz ((knw g bs).map D.int) (cutD ((knw g bs).map D.int) (some 1) none)=(nbs (knw g bs)).map Y5:=by
  rw[qfP,<- ZZ,qa8];rfl
 have hlen:((nbs (knw g bs)).map Y5).length<=1000000:=by
  rw[zB,q4J];have h1:(knw g bs).length<=(Wz g bs).length:=q24 _;have:=q2z g bs;omega
 have cm:XH (gN 0) XF q2R ((nbs (knw g bs)).map Y5) [none,↥(.lst (bs.map pairD2))]=some ((zAh (knw g bs) bs).map tri):=by
  unfold zAh;rw[yk];have:=q0u (f:=q2R) Y5 (λp:Int×Int=>tri (p.1,p.2,mx3 1 (ovR p.2 bs) (ovL p.2 bs))) (nbs (knw g bs)) (ω:=[none,↥(.lst (bs.map pairD2))]) (i:=0) (λp hp=>by
   have t:=qdj hb hp;have ha:∀x:Int,WD (Y5 p) (.tup [.int x])=↥(tri (p.1,p.2,x)):=λ_=>rfl;unfold q2R;show dOf _ [↥(Y5 p),↥(.lst (bs.map pairD2))]=_;simp_arith[t,ha])
  exact this
 simp_arith[hz,Wf hlen,inW,W8,cm]
theorem zCM(F:Int×Int×Int->D){f:FD}:∀(xs:List (Int×Int×Int)),(∀x∈xs,f [↥(.int x.1),↥(.int x.2.1),↥(.int x.2.2)]=some (F x))->∀a b c:Option W,XH (gT 3 (Yu (gN 0) (Yu (gN 1) (Yu (gN 2) Xz)))) XF f (xs.map tri) [a,b,c]=some (xs.map F)
 | [],_,_,_,_=>rfl
 | x::xs,h,a,b,c=>by
  have h1:=h x (by simp);have h2:=zCM F xs (λy hy=>h y (by simp[hy])) ↥(.int x.1) ↥(.int x.2.1) ↥(.int x.2.2);have z:XH (gT 3 (Yu (gN 0) (Yu (gN 1) (Yu (gN 2) Xz)))) XF f ((x::xs).map tri) [a,b,c]=(f [↥(.int x.1),↥(.int x.2.1),↥(.int x.2.2)]).bind λd=>(XH (gT 3 (Yu (gN 0) (Yu (gN 1) (Yu (gN 2) Xz)))) XF f (xs.map tri) [↥(.int x.1),↥(.int x.2.1),↥(.int x.2.2)]).map (d::·):=rfl;rw[z,h1,h2];rfl
theorem qcC(g:Int)(bs:List (Int×Int))(hb:bs.length<=20)(h:∀b∈bs,g<=b.1/\g<=b.2):q0l [.int g,.lst (bs.map pairD2)]=↥(.int (yl g bs)):=by
 unfold q0l q2K;have hlen:((zAh (knw g bs) bs).map tri).length<=1000000:=by
  rw[zB];unfold zAh;rw[zB,q4J];have h1:(knw g bs).length<=(Wz g bs).length:=q24 _;have:=q2z g bs;omega
 have hsm:∀x∈zAh (knw g bs) bs,0<=x.2.2/\x.2.2<=30:=λx hx=>by
  unfold zAh at hx;obtain⟨q,_,rfl⟩:=ya.mp hx;have l1:ovR q.2 bs<=bs.length:=xL;have l2:ovL q.2 bs<=bs.length:=xL;show 0<=mx3 1 _ _/\mx3 1 _ _<=30;unfold mx3
  split <;> split <;> omega
 have cm:=zCM (f:=q2d) (λx=>D.int (2*x.2.2*(x.2.1-x.1))) (zAh (knw g bs) bs) (λx hx=>by
  have hs:=hsm x hx;have m0:zB3 (.int 2) (.int (x.2.1-x.1))=↥(.int (2*(x.2.1-x.1))):=q8k (by decide) (by decide);have m1:zB3 (.int (2*(x.2.1-x.1))) (.int x.2.2)=↥(.int (2*x.2.2*(x.2.1-x.1))):=by
   rw[qdY ∅ ∅,Int.mul_right_comm]
  unfold q2d;simp_arith[m0,m1]) none none none
 have hs:bSum [.lst ((zAh (knw g bs) bs).map λx=>D.int (2*x.2.2*(x.2.1-x.1)))]=↥(.int (yl g bs)):=by
  exact qgh (λx:Int×Int×Int=>2*x.2.2*(x.2.1-x.1)) (zAh (knw g bs) bs)
 simp_arith[q6P g bs hb h,Wf hlen,inW,W8,yG,xq,cm,hs]
inductive Mv where
 | go (p q:Int)|box (k:Nat) (p q:Int)
noncomputable def mvD:Mv->D
 | .go p q=>.tup [.str "go", .int p,.int q]
 | .box k p q=>.tup [.str "box", .int (k:Int),.int p,.int q]
noncomputable def Mv.frm:Mv->Int
 | .go p _=>p
 | .box _ p _=>p
noncomputable def Mv.to:Mv->Int
 | .go _ q=>q
 | .box _ _ q=>q
noncomputable def ends(h:Int):List Mv->Option Int
 | []=>some h
 | m::r=>if m.frm=h then ends m.to r else none
theorem q8T:(D.str "go").py.canLay0=true:=⋯
theorem q9t:(D.str "box").py.canLay0=true:=⋯
theorem qdR{α:Type}{xs:List α}{k:Int}(h:0<=k):cutD xs none (some k)=xs.take k.toNat:=by
 unfold cutD;have e:HT.sIx xs.length xs.length (some k)=min k.toNat xs.length:=by
  have:=HT.q1H xs.length xs.length k.toNat;rw[show ((k.toNat:Nat):Int)=k by omega]at this;exact this
 rw[HT.q54,e,Nat.sub_zero,YY,List.take_eq_take_iff];omega
theorem qd8{α:Type}{xs:List α}{k:Int}(h:0<=k):cutD xs (some k) none=xs.drop k.toNat:=by
 unfold cutD;have e:HT.sIx xs.length 0 (some k)=min k.toNat xs.length:=by
  have:=HT.q1H xs.length 0 k.toNat;rw[show ((k.toNat:Nat):Int)=k by omega]at this;exact this
 rw[HT.q54,e,yn (by rw[yV];omega)];rcases Nat.le_total k.toNat xs.length with z|z
 ·rw[YN z]
 ·rw[Nat.min_eq_right z,wt,ZE z]
structure OkP (d:D):Prop where
 ns:nsD d=true
 lay:d.py.canLay0=true
 dep:d.py.depth<=4
theorem OkP.shp{d:D}(h:OkP d):Hk.shp d=true:=by
 unfold Hk.shp SeqAt.shaped;rw[h.lay,vQ (yK h.dep (by decide))];rfl
structure OkM (d:D):Prop where
 p:OkP d
 t:∀ds,d=.tup ds->∀e∈ds,OkP e
noncomputable def Xe(s:Str):D->Bool
 | .str t=>t==s
 | _=>false
theorem qa3{a:D}{s:Str}(hs:shp (.str s)=true)(h:OkP a):oEq true a (.str s)=↥(.bl (!(Xe s a))):=by
 unfold oEq;rw[h.shp,hs];have:=h.ns;cases a <;> first|rfl|cases this
theorem qfo{a:D}{s:Str}(hs:shp (.str s)=true)(h:OkP a):oEq false a (.str s)=↥(.bl (Xe s a)):=by
 unfold oEq;rw[h.shp,hs];have:=h.ns;cases a <;> first|rfl|cases this
theorem qfF:shp (.str "go")=true:=by unfold shp SeqAt.shaped;rw[q8T];rfl
theorem q6m:shp (.str "box")=true:=by unfold shp SeqAt.shaped;rw[q9t];rfl
theorem q3E{s:Str}{a:D}(h:Xe s a=true):a=.str s:=by
 cases a with
 | str t=>have:(t==s)=true:=h;rw[eq_of_beq this]
 | _=>cases h
theorem q21{d:D}(h:Yt d=true):∃k,d=.int k:=by
 cases d with
 | int k=>exact⟨k,rfl⟩
 | _=>cases h
noncomputable def zCo:D->Bool
 | .tup [a,b,c]=>Xe "go" a&&(Yt b&&(Yt c && !(eqD b c)))
 | _=>false
theorem qh1{d:D}(h:OkM d):q3i [d]=↥(.bl (zCo d)):=by
 unfold q3i q6F;have hn:=h.p.ns
 match d,h,hn with
 | .non,_,_=>rfl
 | .bl _,_,_=>rfl
 | .int _,_,_=>rfl
 | .str _,_,_=>rfl
 | .lst _,_,_=>rfl
 | .tup [],_,_=>rfl
 | .tup [_],_,_=>simp_arith[qx];rfl
 | .tup [_,_],_,_=>simp_arith[qx];rfl
 | .tup [a,b,c],h,_=>
  have oa:=h.t _ rfl a (by simp);have ob:=h.t _ rfl b (by simp);have oc:=h.t _ rfl c (by simp);have e0:=qa3 qfF oa;have e1:=q0s ob.ns;have e2:=q0s oc.ns;have e3:oEq true b c=↥(.bl (!(eqD b c))):=by unfold oEq;rw[ob.shp,oc.shp];rfl
  rw[show zCo (.tup [a,b,c])=(Xe "go" a&&(Yt b&&(Yt c && !(eqD b c))))from rfl];generalize Xe "go" a=s0 at e0 ⊢;generalize Yt b=s1 at e1 ⊢;generalize Yt c=s2 at e2 ⊢;generalize eqD b c=s3 at e3 ⊢;cases s0 <;> cases s1 <;> cases s2 <;> simp_arith[show (((0+1+1+1:Nat):Int)==3)=true from rfl,e0,e1,e2,e3]
 | .tup (a::b::c::e::r),_,_=>
  have hn:(((a::b::c::e::r).length:Int)==3)=false:=by
   simp only[zD,beq_eq_false_iff_ne,ne_eq];omega
  simp only[zD]at hn;simp_arith[hn];rfl
theorem qgu(ds:List D):zBi [.lst ds]=(allB ds).map λb=>.sh (.bl b):=rfl
noncomputable def zCu(n:Nat)(b c e:D):Bool:=match b,c,e with
 | .int k,.int _,.int _=>decide (0<=k)&&decide (k<n)
 | _,_,_=>false
noncomputable def zCb(n:Nat):D->Bool
 | .tup [a,b,c,e]=>Xe "box" a&&zCu n b c e
 | _=>false
theorem qes{d:D}{bs:List (Int×Int)}(h:OkM d):qV [d,.lst (bs.map Y5)]=↥(.bl (zCb bs.length d)):=by
 unfold qV q1e;have hn:=h.p.ns
 match d,h,hn with
 | .non,_,_=>rfl
 | .bl _,_,_=>rfl
 | .int _,_,_=>rfl
 | .str _,_,_=>rfl
 | .lst _,_,_=>rfl
 | .tup [],_,_=>rfl
 | .tup [_],_,_=>simp_arith[qx];rfl
 | .tup [_,_],_,_=>simp_arith[qx];rfl
 | .tup [_,_,_],_,_=>simp_arith[qx];rfl
 | .tup [a,b,c,e],h,_=>
  have oa:=h.t _ rfl a (by simp);have ob:=h.t _ rfl b (by simp);have oc:=h.t _ rfl c (by simp);have oe:=h.t _ rfl e (by simp);have e0:=qa3 q6m oa;have c1:oSl (.tup [a,b,c,e]) (some 1) none=↥(.tup [b,c,e]):=rfl;have hl:[b,c,e].length<=1000000:=by show 3<=1000000;decide
  have cm:XH (gN 0) XF q0Y [b,c,e] [none]=some ([b,c,e].map λd=>D.bl (Yt d)):=by
   refine q2U (λd=>D.bl (Yt d)) _ λd hd=>?_;have:nsD d=true:=by
    simp only[zG,zj,or_false]at hd;rcases hd with rfl|rfl|rfl
    ·exact ob.ns
    ·exact oc.ns
    ·exact oe.ns
   unfold q0Y;simp_arith[q0s this]
  have ba:zBi [.lst ([b,c,e].map λd=>D.bl (Yt d))]=↥(.bl ([b,c,e].all Yt)):=by
   rw[qgu,q2A];rfl
  simp_arith[show (((0+1+1+1+1:Nat):Int)==4)=true from rfl,e0];rw[show zCb bs.length (.tup [a,b,c,e])=(Xe "box" a&&zCu bs.length b c e)from rfl];generalize Xe "box" a=s0 at e0 ⊢;cases s0 with
  | false=>simp_arith[qx]
  | true=>
   have ba':=ba;simp only[zX,yw]at ba' cm;simp_arith[c1,Wf hl,inW,cm,ba'];cases hw:[b,c,e].all Yt with
   | false=>
    simp_arith[qx];have:zCu bs.length b c e=false:=by
     have hw:(Yt b&&(Yt c&&(Yt e&&true)))=false:=hw;unfold zCu;cases b <;> first|rfl|skip
     cases c <;> first|rfl|skip
     cases e <;> first|rfl|(cases hw)
    rw[this]
   | true=>
    have hw:(Yt b&&(Yt c&&(Yt e&&true)))=true:=hw;simp only[zS]at hw;obtain⟨k,rfl⟩:=q21 hw.1;obtain⟨p,rfl⟩:=q21 hw.2.1;obtain⟨q,rfl⟩:=q21 hw.2.2.1;have at1:atI [a,D.int k,D.int p,D.int q] 1=some (.int k):=rfl;rw[show zCu bs.length (.int k) (.int p) (.int q)=(decide (0<=k)&&decide (k<(bs.length:Int)))from rfl];simp_arith[zB]
 | .tup (a::b::c::e::f::r),_,_=>
  have hn:(((a::b::c::e::f::r).length:Int)==4)=false:=by
   simp only[zD,beq_eq_false_iff_ne,ne_eq];omega
  simp only[zD]at hn;simp_arith[hn];rfl
theorem q9Z{n:Nat}{d:D}(h:zCb n d=true):∃k p q,d=.tup [.str "box", .int k,.int p,.int q]/\0<=k/\k<n:=by
 match d,h with
 | .tup [a,b,c,e],h=>
  have h:(Xe "box" a&&zCu n b c e)=true:=h;obtain⟨h1,h2⟩:=yy.mp h;rw[q3E h1]
  match b,c,e,h2 with
  | .int k,.int p,.int q,h2=>
   have h2:(decide (0<=k)&&decide (k<(n:Int)))=true:=h2;obtain⟨h3,h4⟩:=yy.mp h2;exact⟨k,p,q,rfl,of_decide_eq_true h3,of_decide_eq_true h4⟩
noncomputable def Yy{α β:Type}(step:β->α->Option β):β->List α->Option β
 | c,[]=>some c
 | c,x::xs=>(step c x).bind λc'=>Yy step c' xs
theorem q4h{α β:Type}{g:FG}{b:FS}(F:α->D)(r:O)(step:β->α->Option β)(S:β->WSt->Prop):∀(xs:List α),
  (∀c x ω,x∈xs->S c ω->∃w,g (F x) ω=some w/\(match step c x with|some c'=>W0 (b w) (S c')|none=>∃ω',b w=some (.rt r,ω'))) ->
  ∀(c:β)(ω:WSt),S c ω->(match Yy step c xs with|some c'=>∃ω',Wg g b (xs.map F) ω=some (.nx,ω')/\S c' ω'|none=>∃ω',Wg g b (xs.map F) ω=some (.rt r,ω'))
 | [],_,c,ω,h=>⟨ω,rfl,h⟩
 | x::xs,turn,c,ω,h=>by
  obtain⟨w,h1,h2⟩:=turn c x ω zI h;have ih:=q4h F r step S xs λc y ω hy=>turn c y ω (zH _ hy);have e0:Wg g b ((x::xs).map F) ω=(b w).bind λp=>match p.1 with
    | .nx=>Wg g b (xs.map F) p.2
    | .ct=>Wg g b (xs.map F) p.2
    | .bk=>some (.nx,p.2)
    | .rt r=>some (.rt r,p.2):=by
   show ((g (F x) ω).bind _)=_;rw[h1];rfl
  rw[e0];show (match (step c x).bind λc'=>Yy step c' xs with|some c'=>_|none=>_);cases e:step c x with
  | none=>
   rw[e]at h2;obtain⟨ω',h2⟩:=h2;rw[h2];exact⟨ω',rfl⟩
  | some c'=>
   rw[e]at h2;cases q:b w with
   | none=>rw[q]at h2;exact h2.elim
   | some p=>
    rw[q]at h2;obtain⟨o,w'⟩:=p;cases o with
    | nx=>exact ih c' w' h2
    | ct=>exact ih c' w' h2
    | bk=>exact h2.elim
    | rt r=>exact h2.elim
noncomputable def hop(h:Int)(m:Mv):Option Int:=if m.frm=h then some m.to else none
theorem q7g:∀(ms:List Mv)(h:Int),Yy hop h ms=ends h ms
 | [],h=>rfl
 | m::ms,h=>by
  show (hop h m).bind _=if m.frm=h then ends m.to ms else none
  unfold hop
  by_cases z:m.frm=h
  ·rw[vC z,vC z];exact q7g ms m.to
  ·rw[vF z,vF z];rfl
theorem qf5(m:Mv):∃ds,mvD m=.tup ds/\atI ds (-1)=some (.int m.to)/\atI ds (-2)=some (.int m.frm):=by
 cases m <;> exact⟨_,rfl,rfl,rfl⟩
theorem qcg{home last:Int}{ms:List Mv}:q3f [.int home,.int last,.lst (ms.map mvD)]=↥(.bl (ends home ms==some last)):=by
 unfold q3f q6l;have key:=q4h (g:=gN 4) (b:=q5i) mvD (.sh (.bl false)) hop (λhere ω=>∃x,ω=[↥(.int home),↥(.int last),↥(.lst (ms.map mvD)),↥(.int here),x]) ms
  (λh m ω hm ⟨x,hω⟩=>by
   subst hω;refine⟨_,rfl,?_⟩;obtain⟨ds,e1,e2,e3⟩:=qf5 m;unfold hop q5i;rw[e1]
   by_cases z:m.frm=h
   ·rw[vC z]
    subst z;simp_arith[e2,e3];exact⟨_,rfl⟩
   ·rw[vF z]
    have z':(m.frm==h)=false:=by simpa using z
    simp_arith[e2,e3,z'];exact⟨_,rfl⟩)
  home [↥(.int home),↥(.int last),↥(.lst (ms.map mvD)),↥(.int home),none] ⟨none,rfl⟩
 rw[q7g]at key;cases e:ends home ms with
 | none=>
  rw[e]at key;obtain⟨ω',key⟩:=key;simp_arith[key];rfl
 | some h=>
  rw[e]at key;obtain⟨ω',key,x,rfl⟩:=key;simp_arith[key];rfl
theorem q8y:∀(a b:List Int),PyData.eqvAll (D.pys (a.map D.int)) (D.pys (b.map D.int))=decide (a=b)
 | [],[]=>rfl
 | [],_::_=>rfl
 | _::_,[]=>rfl
 | x::a,y::b=>by
  show (x==y&&PyData.eqvAll (D.pys (a.map D.int)) (D.pys (b.map D.int)))=_;rw[q8y a b]
  by_cases z:x=y
  ·subst z
   simp
  ·have:(x==y)=false:=by simpa using z
   rw[this];simp[z]
theorem q8d(a:List Int):shp (.lst (a.map D.int))=true:=qfi 2 (by decide) λd hd=>by
 obtain⟨m,_,rfl⟩:=ya.mp hd;exact⟨rfl,by show 0<=2;decide⟩
theorem q8t(a b:List Int):oEq false (.lst (a.map D.int)) (.lst (b.map D.int))=↥(.bl (decide (a=b))):=by
 unfold oEq;rw[q8d,q8d];show some (R.sh (.bl (PyData.eqvAll (D.pys (a.map D.int)) (D.pys (b.map D.int)))))=_;rw[q8y]
theorem q9s{n:Nat}:∀{ds:List D},(∀d∈ds,d.py.canLay0=true/\d.py.depth<=n)->PyData.canLayAll0 (D.pys ds)=true/\PyData.depthAll (D.pys ds)<=n
 | [],_=>⟨rfl,yH _⟩
 | d::ds,h=>by
  obtain⟨a,b⟩:=q9s λe he=>h e (zH _ he);obtain⟨a',b'⟩:=h d zI;refine⟨?_,?_⟩
  ·show (d.py.canLay0&&PyData.canLayAll0 (D.pys ds))=true
   rw[a,a'];rfl
  ·show max d.py.depth (PyData.depthAll (D.pys ds))<=n
   omega
structure Th (d:D):Prop where
 m:OkM d
 l:∀ds,d=.tup ds->ds.length<=5
structure Pt (d:D):Prop where
 ns:nsD d=true
 lay:d.py.canLay0=true
 dep:d.py.depth<=2
theorem q47(k:Int):Pt (.int k):=⟨rfl,rfl,by show 0<=2;decide⟩
theorem qh4:Pt (.str "go"):=⟨rfl,q8T,by show 0<=2;decide⟩
theorem qfA:Pt (.str "box"):=⟨rfl,q9t,by show 0<=2;decide⟩
theorem qg7{ds:List D}(h:∀d∈ds,Pt d)(hl:ds.length<=5):Th (.tup ds):=by
 obtain⟨a,b⟩:=q9s (n:=2) λd hd=>⟨(h d hd).lay,(h d hd).dep⟩;refine⟨⟨⟨rfl,a,by show PyData.depthAll (D.pys ds)+1<=4;omega⟩,λes e d hd=>?_⟩,λes e=>?_⟩
 ·cases e;have:=h d hd;exact⟨this.ns,this.lay,yK this.dep (by decide)⟩
 ·cases e;exact hl
theorem all1{P:D->Prop}{a:D}(h:P a):∀d∈[a],P d:=λd hd=>by cases za.mp hd;exact h
theorem q5S{P:D->Prop}{a:D}{r:List D}(h:P a)(h':∀d∈r,P d):∀d∈a::r,P d:=λd hd=>(zG.mp hd).elim (λe=>e▸h) (h' d)
noncomputable def WJ:D->Option Mv
 | .tup [a,.int p,.int q]=>if Xe "go" a=true then some (.go p q)else none
 | .tup [a,.int k,.int p,.int q]=>if Xe "box" a=true then (if 0<=k then some (.box k.toNat p q)else none)else none
 | _=>none
noncomputable def Yw(s:Int×List Int):Mv->Option (Int×List Int)
 | .go p q=>if p=s.1/\q≠s.1 then some (q,s.2)else none
 | .box k p q=>if p=s.1/\q≠s.1/\s.2[k]?=some s.1 then some (q,s.2.set k q)else none
noncomputable def X6(s:Int×List Int)(d:D):Option (Int×List Int):=(WJ d).bind (Yw s)
theorem qcP{a:D}{p q:Int}:WJ (.tup [a,.int p,.int q])=if Xe "go" a=true then some (.go p q)else none:=rfl
theorem qby{a:D}{k p q:Int}:WJ (.tup [a,.int k,.int p,.int q])=if Xe "box" a=true then (if 0<=k then some (.box k.toNat p q)else none)else none:=rfl
theorem q71{h:Int}{ls:List Int}{p q:Int}:Yw (h,ls) (.go p q)=if p=h/\q≠h then some (q,ls)else none:=rfl
theorem q5F{h:Int}{ls:List Int}{k:Nat}{p q:Int}:Yw (h,ls) (.box k p q)=if p=h/\q≠h/\ls[k]?=some h then some (q,ls.set k q)else none:=rfl
theorem q7y{ls:List Int}{k:Int}(h0:0<=k)(h1:k<ls.length):atI (ls.map D.int) k=some (.int (ls[k.toNat]'∅)):=by
 rw[q0p h0 (by rw[zB];exact h1),xY]
def Rm(d:D):Prop:=OkM d/\∀ds,d=.tup ds->ds.length<=5/\∀x∈ds,Pt x
noncomputable def starts(bs:List (Int×Int)):List Int:=bs.map (·.1)
noncomputable def Xi(bs:List (Int×Int)):List Int:=bs.map (·.2)
noncomputable def Ws(gate:Int)(bs:List (Int×Int))(ds:List D):Bool:=match Yy X6 (gate,starts bs) ds with
 | some s=>s.1==gate&&decide (s.2=Xi bs)
 | none=>false
theorem q9B{f:FD}{bs:List (Int×Int)}(h:∀b:Int×Int,f [↥(Y5 b)]=some (.int b.1)):XH (gN 0) XF f (bs.map Y5) [none]=some ((starts bs).map D.int):=by
 have:=q0u (i:=0) (f:=f) Y5 (λb=>D.int b.1) bs (ω:=[none]) λb _=>h b;rw[this];unfold starts;rw[yk];rfl
theorem qev{f:FD}{bs:List (Int×Int)}(h:∀b:Int×Int,f [↥(Y5 b)]=some (.int b.2)):XH (gN 0) XF f (bs.map Y5) [none]=some ((Xi bs).map D.int):=by
 have:=q0u (i:=0) (f:=f) Y5 (λb=>D.int b.2) bs (ω:=[none]) λb _=>h b;rw[this];unfold Xi;rw[yk];rfl
def zBQ(n:Nat):Mv->Prop
 | .go p q=>p≠q
 | .box k p q=>k<n/\p≠q
noncomputable def ne23:D->Bool
 | .tup [_,_,.int p,.int q]=>!(p==q)
 | _=>false
noncomputable def zA6(n:Nat)(d:D):Bool:=zCo d || (zCb n d&&ne23 d)
theorem qgV{d:D}{bs:List (Int×Int)}(h:OkM d):q09 [d,.lst (bs.map Y5)]=↥(.bl (zCb bs.length d&&ne23 d)):=by
 unfold q09 q1t;have e:=qes (bs:=bs) h;cases hf:zCb bs.length d with
 | false=>rw[hf]at e;simp_arith[e]
 | true=>
  rw[hf]at e;obtain⟨k,p,q,rfl,_,_⟩:=q9Z hf;have a3:∀{x y z w:D},atI [x,y,z,w] 3=some w:=rfl;simp_arith[e,a3,ne23]
theorem qeT{d:D}(h:zCo d=true):∃p q,d=mvD (.go p q)/\p≠q:=by
 match d,h with
 | .tup [a,b,c],h=>
  have h':Xe "go" a=true/\Yt b=true/\Yt c=true/\(!(eqD b c))=true:=by
   simpa only[zCo,zS]using h
  obtain⟨p,rfl⟩:=q21 h'.2.1;obtain⟨q,rfl⟩:=q21 h'.2.2.1;refine⟨p,q,by rw[q3E h'.1];rfl,λz=>?_⟩;have:=h'.2.2.2;subst z;have e:eqD (.int p) (.int p)=(p==p):=rfl;rw[e]at this;simp at this
theorem qfw{n:Nat}{d:D}(h:zA6 n d=true):∃m,d=mvD m/\zBQ n m:=by
 unfold zA6 at h;rw[YJ]at h;rcases h with h|h
 ·obtain⟨p,q,e,g⟩:=qeT h
  exact⟨_,e,g⟩
 ·rw[zS]at h
  obtain⟨k,p,q,rfl,k0,k1⟩:=q9Z h.1;have h2:(!(p==q))=true:=h.2;refine⟨.box k.toNat p q,?_,∅,by simpa using h2⟩;show _=D.tup [.str "box", .int ((k.toNat:Nat):Int),.int p,.int q];rw[xr k0]
theorem q6Q{n:Nat}{m:Mv}(h:zBQ n m):zA6 n (mvD m)=true:=by
 cases m with
 | go p q=>
  have h':p≠q:=h;have:zCo (mvD (.go p q))=true:=by
   show (Xe "go" (.str "go")&&(true&&(true && !(eqD (.int p) (.int q)))))=true;have e:eqD (.int p) (.int q)=(p==q):=rfl;have e2:(p==q)=false:=by simpa using h'
   have e3:Xe "go" (.str "go")=true:=by show (("go" : Str) == "go")=true;simp
   rw[e,e2,e3];rfl
  unfold zA6;rw[this];rfl
 | box k p q=>
  obtain⟨h1,h2⟩:k<n/\p≠q:=h;have e2:(p==q)=false:=by simpa using h2
  have:(zCb n (mvD (.box k p q))&&ne23 (mvD (.box k p q)))=true:=by
   show ((Xe "box" (.str "box")&&(decide (0<=(k:Int))&&decide ((k:Int)<n))) && !(p==q))=true;have e3:Xe "box" (.str "box")=true:=by show (("box" : Str) == "box")=true;simp
   rw[e2,e3];simp;omega
  unfold zA6;rw[this,ZD]
noncomputable def WL(l:List Int):Mv->Option (List Int)
 | .go _ _=>some l
 | .box k p q=>if l[k]?=some p then some (l.set k q)else none
theorem qc5{bs:List (Int×Int)}{ms:List Mv}(hb:bs.length<=30)(hg:∀m∈ms,zBQ bs.length m):qP [.lst (bs.map Y5),.lst (ms.map mvD)]=↥(.bl (match Yy WL (starts bs) ms with|some l=>decide (l=Xi bs)|none=>false)):=by
 unfold qP q0X;have hl:(bs.map Y5).length<=1000000:=by rw[zB];omega
 have c1:=q9B (f:=q0K) (bs:=bs) (λb=>by unfold q0K Y5;simp_arith[qx]);have c2:=qev (f:=q0P) (bs:=bs) (λb=>by unfold q0P Y5;simp_arith[qx]);simp_arith[Wf hl,inW,W8,c1];have eg:oEq false (.str "go") (.str "box")=some (.sh (.bl false)):=by rw[qfo q6m ⟨rfl,q8T,by show 0<=4;decide⟩];rfl
 have eb:oEq false (.str "box") (.str "box")=some (.sh (.bl true)):=qdb q6m;have a3:∀{x y z w:D},atI [x,y,z,w] 3=some w:=rfl;have key:=q4h (g:=gN 3) (b:=q0J) mvD (.sh (.bl false)) WL (λl ω=>(∃x,ω=[some (.sh (.lst (bs.map Y5))),some (.sh (.lst (ms.map mvD))),some (.ow (l.map D.int)),x])/\l.length=bs.length) ms
  (λl m ω hm ⟨⟨x,hω⟩,hl⟩=>by
   subst hω;refine⟨_,rfl,?_⟩;unfold q0J;cases m with
   | go p q=>
    show W0 _ _;simp_arith[mvD,eg];exact⟨⟨_,rfl⟩,hl⟩
   | box k p q=>
    obtain⟨h1,h2⟩:k<bs.length/\p≠q:=hg _ hm;have hk:k<l.length:=∅
    have at':=q7y (ls:=l) (k:=(k:Int)) ∅ ∅;simp only[yE]at at';have hk':l[k]?=some l[k]:=zE hk;have es:WL l (.box k p q)=if l[k]=p then some (l.set k q)else none:=by
     show (if l[k]?=some p then some (l.set k q)else none)=_;rw[hk']
     by_cases z:l[k]=p
     ·rw[vC z,vC (by rw[z])]
     ·rw[vF z,vF λy=>z (zc y)]
    rw[es]
    by_cases z:l[k]=p
    ·rw[vC z]
     have z':(l[k]==p)=true:=by simpa using z
     have lp:=λω=>qfg (i:=2) (ω:=ω) (ds:=l.map D.int) (d:=.int q) (k:=(k:Int)) ∅ (by rw[zB];omega);rw[<- List.map_set]at lp;simp only[yE]at lp;show W0 _ _;simp_arith[mvD,eb,at',z',lp,a3];exact⟨⟨_,rfl⟩,by rw[yA];exact hl⟩
    ·rw[vF z]
     have z':(l[k]==p)=false:=by simpa using z
     simp_arith[mvD,eb,at',z'];exact⟨_,rfl⟩)
  (starts bs) [↥(.lst (bs.map Y5)),↥(.lst (ms.map mvD)),some (.ow ((starts bs).map D.int)),none] ⟨⟨none,rfl⟩,by unfold starts;rw[zB]⟩
 cases q:Yy WL (starts bs) ms with
 | none=>
  rw[q]at key;obtain⟨ω',key⟩:=key;simp_arith[key]
 | some l=>
  rw[q]at key;obtain⟨ω',key,⟨x,rfl⟩,_⟩:=key;simp_arith[key,Wf hl,inW,W8,c2,q8t]
theorem q6Z(m:Mv):WJ (mvD m)=some m:=by
 cases m with
 | go p q=>
  show WJ (.tup [.str "go", .int p,.int q])=_;rw[qcP,vC (by show (("go" : Str) == "go")=true;simp)]
 | box k p q=>
  show WJ (.tup [.str "box", .int (k:Int),.int p,.int q])=_;rw[qby,vC (by show (("box" : Str) == "box")=true;simp),vC ∅,yE]
theorem q9e{d:D}{m:Mv}(h:WJ d=some m):d=mvD m:=by
 unfold WJ at h
 split at h
 ·rename_i a p q
  by_cases z:Xe "go" a=true
  ·rw[vC z]at h
   cases h;rw[q3E z];rfl
  ·rw[vF z]at h;cases h
 ·rename_i a k p q
  by_cases z:Xe "box" a=true
  ·rw[vC z]at h
   by_cases y:0<=k
   ·rw[vC y]at h
    cases h;rw[q3E z];show D.tup [.str "box", .int k,.int p,.int q]=.tup [.str "box", .int ((k.toNat:Nat):Int),.int p,.int q];rw[xr y]
   ·rw[vF y]at h;cases h
  ·rw[vF z]at h;cases h
 ·cases h
theorem qbq{n:Nat}{s s':Int×List Int}{d:D}(hn:s.2.length=n)(h:X6 s d=some s'):zA6 n d=true/\s'.2.length=n:=by
 obtain⟨m,h1,h2⟩:=ym.mp h;have hd:=q9e h1;subst hd;obtain⟨x,ls⟩:=s;cases m with
 | go p q=>
  rw[q71]at h2
  split at h2
  ·rename_i hc
   cases h2;exact⟨q6Q (show p≠q from λz=>hc.2 (by rw[<- hc.1,z])),hn⟩
  ·cases h2
 | box k p q=>
  rw[q5F]at h2
  split at h2
  ·rename_i hc
   cases h2;have hk:k<ls.length:=(zf.mp hc.2.2).1;refine⟨q6Q (show k<n/\p≠q from ⟨by rw[<- hn];exact hk,λz=>hc.2.1 (by rw[<- hc.1,z])⟩),?_⟩;show (ls.set k q).length=n;rw[yA];exact hn
  ·cases h2
theorem q79{n:Nat}:∀{ds:List D}{s s':Int×List Int},s.2.length=n->Yy X6 s ds=some s'->ds.all (zA6 n)=true
 | [],_,_,_,_=>rfl
 | d::ds,s,s',hn,h=>by
  obtain⟨c,h1,h2⟩:=ym.mp (show (X6 s d).bind (λc=>Yy X6 c ds)=some s' from h);obtain⟨a,b⟩:=qbq hn h1;rw[xH,a,q79 b h2];rfl
theorem q7Z{n:Nat}:∀(ms:List Mv),(∀m∈ms,zBQ n m)->∀(h:Int)(l:List Int),Yy X6 (h,l) (ms.map mvD)=(ends h ms).bind λe=>(Yy WL l ms).map λr=>(e,r)
 | [],_,h,l=>rfl
 | m::ms,hg,h,l=>by
  have gm:=hg m zI;have ih:=q7Z ms λm hm=>hg m (zH _ hm);show (X6 (h,l) (mvD m)).bind (λc=>Yy X6 c (ms.map mvD))=(if m.frm=h then ends m.to ms else none).bind λe=>((WL l m).bind λc=>Yy WL c ms).map λr=>(e,r);have e:X6 (h,l) (mvD m)=if m.frm=h then (WL l m).map λr=>(m.to,r)else none:=by
   unfold X6;rw[q6Z];show Yw (h,l) m=_;cases m with
   | go p q=>
    have g':p≠q:=gm;rw[q71];show _=if p=h then some (q,l)else none
    by_cases z:p=h
    ·rw[vC z,vC ⟨z,λy=>g' (by rw[z,y])⟩]
    ·rw[vF z,vF λy=>z y.1]
   | box k p q=>
    obtain⟨_,g'⟩:k<n/\p≠q:=gm;rw[q5F];show _=if p=h then (if l[k]?=some p then some (l.set k q)else none).map (λr=>(q,r))else none
    by_cases z:p=h
    ·rw[vC z]
     subst z
     by_cases y:l[k]?=some p
     ·rw[vC y,vC ⟨rfl,λw=>g' w.symm,y⟩];rfl
     ·rw[vF y,vF λw=>y w.2.2];rfl
    ·rw[vF z,vF λy=>z y.1]
  rw[e]
  by_cases z:m.frm=h
  ·rw[vC z,vC z]
   cases q:WL l m with
   | none=>
    show none=_;cases ends m.to ms <;> rfl
   | some c=>exact ih m.to c
  ·rw[vF z,vF z];rfl
theorem qds{gate:Int}{bs:List (Int×Int)}{ds:List D}(hc:qo [.int gate,.lst (bs.map Y5)]=some (.sh .non))(hb:bs.length<=30)(hd:∀d∈ds,Rm d)(hz:ds.length<=200):
  qT [.int gate,.lst (bs.map Y5),.lst ds]=↥(.bl (Ws gate bs ds)):=by
 unfold qT q1P;have hl:ds.length<=1000000:=∅
 have ok:∀d∈ds,OkM d:=λd hd'=>(hd d hd').1;have cm:XH (gN 0) XF q1y ds [none,↥(.lst (bs.map Y5))]=some (ds.map λd=>D.bl (zA6 bs.length d)):=by
  refine q2U (λd=>D.bl (zA6 bs.length d)) ds λd hd'=>?_;unfold q1y zA6;have e1:=qh1 (ok d hd');have e2:=qgV (bs:=bs) (ok d hd');cases hg:zCo d with
  | true=>rw[hg]at e1;simp_arith[e1]
  | false=>rw[hg]at e1;simp_arith[e1,e2]
 have b1:zBi [.lst (ds.map λd=>D.bl (zA6 bs.length d))]=↥(.bl (ds.all (zA6 bs.length))):=by
  show (allB _).map _=_;rw[q2A];rfl
 have ls:(starts bs).length=bs.length:=by unfold starts;rw[zB]
 cases ht:ds.all (zA6 bs.length)with
 | false=>
  have:Ws gate bs ds=false:=by
   unfold Ws;cases q:Yy X6 (gate,starts bs) ds with
   | none=>rfl
   | some s=>rw[q79 ls q]at ht;cases ht
  rw[this];rw[ht]at b1;simp_arith[hc,Wf hl,inW,W8,cm,b1]
 | true=>
  rw[ht]at b1;obtain⟨ms,e,hg⟩:∃ms:List Mv,ds=ms.map mvD/\∀m∈ms,zBQ bs.length m:=by
   clear b1 cm hl hz ok hd
   induction ds with
   | nil=>exact⟨[],rfl,λm hm=>nomatch hm⟩
   | cons d r ih=>
    rw[xH,zS]at ht;obtain⟨ms,e,hg⟩:=ih ht.2;obtain⟨m,em,gm⟩:=qfw ht.1;exact⟨m::ms,by rw[e,em];rfl,λx hx=>(zG.mp hx).elim (λz=>z▸gm) (hg x)⟩
  have ld:=qcg (home:=gate) (last:=gate) (ms:=ms);have br:=qc5 (ms:=ms) hb hg;rw[<- e]at ld br;have:Ws gate bs ds=((ends gate ms==some gate)&&(match Yy WL (starts bs) ms with|some l=>decide (l=Xi bs)|none=>false)):=by
   unfold Ws;rw[e,q7Z ms hg];cases ends gate ms with
   | none=>rfl
   | some x=>
    cases Yy WL (starts bs) ms with
    | none=>
     show false=_;rw[xi]
    | some l=>rfl
  rw[this];generalize (ends gate ms==some gate)=u at ld;generalize (match Yy WL (starts bs) ms with|some l=>decide (l=Xi bs)|none=>false)=v at br;cases u <;> simp_arith[hc,Wf hl,inW,W8,cm,b1,ld,br]
def RV(d:D):Prop:=(∃p q:Int,d=.tup [.str "go", .int p,.int q])\/∃k p q:Int,d=.tup [.str "box", .int k,.int p,.int q]
theorem qbX{ds:List D}(h:∀d∈ds,Pt d)(hl:ds.length<=5):Rm (.tup ds):=⟨(qg7 h hl).m,λes e=>by cases e;exact⟨hl,h⟩⟩
theorem RV.rm{d:D}(h:RV d):Rm d:=by
 rcases h with⟨p,q,rfl⟩|⟨k,p,q,rfl⟩
 ·exact qbX (q5S qh4 (q5S (q47 p) (all1 (q47 q)))) (by simp)
 ·exact qbX (q5S qfA (q5S (q47 k) (q5S (q47 p) (all1 (q47 q))))) (by simp)
noncomputable def zAM(a b:Int):List D:=if a=b then []else [.tup [.str "go", .int a,.int b]]
theorem qcI(a b:Int):(zAM a b).length<=1:=by unfold zAM;split <;> simp
theorem q3w{ds:List D}{a b:Int}(hl:ds.length<1000000):qS [.pw ds,.sh (.int a),.sh (.int b)]=some (.int b,[some (.pw (ds++zAM a b)),↥(.int a),↥(.int b)]):=by
 unfold qS q39 zAM
 by_cases h:a=b
 ·subst h
  rw[vC rfl,yJ];simp_arith[qx]
 ·have h':(a==b)=false:=by simpa using h
  rw[vF h];simp_arith[h',p_as hl]
theorem qcG{gate:Int}{bs:List (Int×Int)}(hb:bs.length<=20)(hbs:∀b∈bs,gate<=b.1/\gate<=b.2):qo [.int gate,.lst (bs.map Y5)]=some (.sh .non):=by
 have pb:(bs.map Y5).all plB=true:=by
  rw[wF];exact yf.mpr λb _=>rfl
 have pL:plL (.lst (bs.map Y5))=true:=by
  show ((bs.map Y5).all plB&&decide ((bs.map Y5).length<=20))=true;rw[pb,zB];simp;omega
 have e:=q9T (g:=.int gate) (b:=.lst (bs.map Y5)) rfl pL;have ok:isYd (.int gate) (.lst (bs.map Y5))=true:=by
  show (bs.map Y5).all (zBj gate)=true;rw[wF];refine yf.mpr λb hb=>?_;obtain⟨a1,a2⟩:=hbs b hb;show (decide (gate<=b.1)&&decide (gate<=b.2))=true;simp;omega
 rw[ok]at e;unfold qo q1p;simp_arith[e]
noncomputable def crR(x:Int)(ms:List Mv):Nat:=ms.countP λm=>decide (m.frm<x)&&decide (x<=m.to)
noncomputable def crL(x:Int)(ms:List Mv):Nat:=ms.countP λm=>decide (m.to<x)&&decide (x<=m.frm)
noncomputable def chY(x y:Int):Int:=if x<=y then 1 else 0
noncomputable def zR(x:Int)(a b:List Int):Nat:=(a.zip b).countP λq=>decide (q.1<x)&&decide (x<=q.2)
noncomputable def zL(x:Int)(a b:List Int):Nat:=(a.zip b).countP λq=>decide (q.2<x)&&decide (x<=q.1)
theorem q0g(x:Int)(m:Mv)(ms:List Mv):(crR x (m::ms):Int)=(if m.frm<x/\x<=m.to then 1 else 0)+crR x ms:=by
 unfold crR;rw[zi]
 by_cases z:m.frm<x/\x<=m.to
 ·rw[vC z,vC ⇑z];omega
 ·rw[vF z,vF ⇑z];omega
theorem q0v(x:Int)(m:Mv)(ms:List Mv):(crL x (m::ms):Int)=(if m.to<x/\x<=m.frm then 1 else 0)+crL x ms:=by
 unfold crL;rw[zi]
 by_cases z:m.to<x/\x<=m.frm
 ·rw[vC z,vC ⇑z];omega
 ·rw[vF z,vF ⇑z];omega
theorem q58{s s':Int×List Int}{m:Mv}(h:Yw s m=some s'):m.frm=s.1/\s'.1=m.to/\((s'.2=s.2)\/∃k:Nat,s.2[k]?=some m.frm/\s'.2=s.2.set k m.to):=by
 cases m with
 | go p q=>
  unfold Yw at h;simp only at h
  split at h
  ·rename_i z
   cases h;exact⟨z.1,rfl,.inl rfl⟩
  ·cases h
 | box k p q=>
  unfold Yw at h;simp only at h
  split at h
  ·rename_i z
   cases h;refine⟨z.1,rfl,.inr ⟨k,?_,rfl⟩⟩;show s.2[k]?=some p;rw[z.1];exact z.2.2
  ·cases h
theorem qcz(x:Int):∀(ms:List Mv)(s s':Int×List Int),Yy Yw s ms=some s'->(crR x ms:Int)-crL x ms=chY x s'.1-chY x s.1
 | [],s,s',h=>by cases h;show (0:Int)-0=_;omega
 | m::ms,s,s',h=>by
  obtain⟨c,h1,h2⟩:=ym.mp (show (Yw s m).bind (λc'=>Yy Yw c' ms)=some s' from h);have ih:=qcz x ms c s' h2;obtain⟨t1,t2,_⟩:=q58 h1;rw[q0g,q0v];unfold chY at *;rw[t2]at ih;rw[<- t1]
  split <;> split <;> (try split at ih) <;> (try split at ih) <;> (try split) <;> (try split) <;> omega
theorem q1X(x p q:Int):∀(a b:List Int)(k:Nat),b[k]?=some p->(zR x a (b.set k q):Int)<=zR x a b+(if p<x/\x<=q then 1 else 0)/\(zL x a (b.set k q):Int)<=zL x a b+(if q<x/\x<=p then 1 else 0)
 | [],_,_,_=>by
  unfold zR zL;simp only[List.zip_nil_left,ZK]
  constructor <;> split <;> omega
 | _::_,[],k,h=>by simp at h
 | u::a,y::b,0,h=>by
  have h:y=p:=by simpa using h
  subst h;unfold zR zL;rw[wB,xZ,xZ,zi,zi,zi,zi];simp only[zS,decide_eq_true_eq]
  constructor
  ·split <;> split <;> split <;> omega
  ·split <;> split <;> split <;> omega
 | u::a,y::b,k+1,h=>by
  have ih:=q1X x p q a b k ⇑h;unfold zR zL at *;rw[wA,xZ,xZ,zi,zi,zi,zi]
  constructor
  ·have:=ih.1;simp only[xx]at *;omega
  ·have:=ih.2;simp only[xx]at *;omega
theorem qd1(x:Int)(st:List Int):∀(ms:List Mv)(s s':Int×List Int),Yy Yw s ms=some s'->(zR x st s'.2:Int)<=zR x st s.2+crR x ms/\(zL x st s'.2:Int)<=zL x st s.2+crL x ms
 | [],s,s',h=>by cases h;unfold crR crL;simp
 | m::ms,s,s',h=>by
  obtain⟨c,h1,h2⟩:=ym.mp (show (Yw s m).bind (λc'=>Yy Yw c' ms)=some s' from h);have ih:=qd1 x st ms c s' h2;obtain⟨t1,t2,t3⟩:=q58 h1;rw[q0g,q0v];rcases t3 with t|⟨k,k1,k2⟩
  ·rw[t]at ih
   constructor
   ·have:=ih.1;split <;> omega
   ·have:=ih.2;split <;> omega
  ·have z:=q1X x m.frm m.to st s.2 k k1
   rw[k2]at ih
   constructor
   ·have:=ih.1;have:=z.1;omega
   ·have:=ih.2;have:=z.2;omega
theorem q9Y(x:Int):∀(ms:List Mv)(s s':Int×List Int),Yy Yw s ms=some s'->s.1<x->crR x ms=0->s'.1<x/\∀k:Nat,(∀y,s.2[k]?=some y->x<=y->s'.2[k]?=some y)/\(∀y,s'.2[k]?=some y->x<=y->s.2[k]?=some y)
 | [],s,s',h,hs,_=>by cases h;exact⟨hs,λk=>⟨λy h _=>h,λy h _=>h⟩⟩
 | m::ms,s,s',h,hs,h0=>by
  obtain⟨c,h1,h2⟩:=ym.mp (show (Yw s m).bind (λc'=>Yy Yw c' ms)=some s' from h);obtain⟨t1,t2,t3⟩:=q58 h1;have cc:=q0g x m ms;rw[h0]at cc;have n1:¬(m.frm<x/\x<=m.to):=λq=>by rw[vC q]at cc;omega
  have n2:crR x ms=0:=by rw[vF n1]at cc;omega
  have tx:m.to<x:=by rw[<- t1]at hs;omega
  have ih:=q9Y x ms c s' h2 (by rw[t2];exact tx) n2;refine⟨ih.1,λk=>?_⟩;rcases t3 with t|⟨j,j1,j2⟩
  ·have:=ih.2 k;rw[t]at this;exact this
  ·have ik:=ih.2 k
   rw[j2]at ik
   by_cases q:j=k
   ·subst q
    have lt:=(zf.mp j1).1;rw[yL lt]at ik;refine⟨λy hy xy=>?_,λy hy xy=>?_⟩
    ·rw[j1]at hy
     cases hy;rw[<- t1]at hs;omega
    ·have:=ik.2 y hy xy
     cases this;omega
   ·rw[zJ q]at ik
    exact ik
noncomputable def absI(c:Int):Int:=if c<0 then -c else c
noncomputable def zAC(m:Mv):Int:=absI (m.to-m.frm)
theorem q3W(a b g:Int):∀N:Nat,su (λx=>if a<x/\x<=b then 1 else 0) g N=max 0 (min b (g+N)-max a g)
 | 0=>by
  show (0:Int)=_;omega
 | N+1=>by
  have ih:=q3W a b g N;show su _ g N+(if a<g+N+1/\g+N+1<=b then 1 else 0)=_
  split <;> omega
theorem q1Q(f f':Int->Int)(a:Int):∀n:Nat,su (λx=>f x+f' x) a n=su f a n+su f' a n
 | 0=>rfl
 | n+1=>by
  have ih:=q1Q f f' a n;show su (λx=>f x+f' x) a n+(f (a+n+1)+f' (a+n+1))=su f a n+f (a+n+1)+(su f' a n+f' (a+n+1));omega
theorem qfE(c:Int):c<=absI c/\-c<=absI c:=by unfold absI;split <;> omega
theorem q9P{a b:Int}(g:Int)(N:Nat)(h:a<=b):su (λx=>if a<x/\x<=b then 1 else 0) g N<=b-a:=by rw[q3W];omega
theorem q9S{a b:Int}(g:Int)(N:Nat)(h:b<=a):su (λx=>if a<x/\x<=b then 1 else 0) g N=0:=by rw[q3W];omega
theorem qeb(g:Int)(N:Nat):∀ms:List Mv,su (λx=>(crR x ms:Int)+crL x ms) g N<=(ms.map zAC).sum
 | []=>by
  have:∀N:Nat,su (λx=>(crR x []:Int)+crL x []) g N=0:=λN=>by
   induction N with
   | zero=>rfl
   | succ n ih=>show su _ g n+_=0;rw[ih];rfl
  rw[this];exact yB _
 | m::ms=>by
  have ih:=qeb g N ms;have e:(λx=>(crR x (m::ms):Int)+crL x (m::ms))=λx=>((if m.frm<x/\x<=m.to then 1 else 0)+(if m.to<x/\x<=m.frm then 1 else 0))+((crR x ms:Int)+crL x ms):=by
   funext x;rw[q0g,q0v];omega
  rw[e,q1Q,q1Q,zX,yQ];have c:=qfE (m.to-m.frm);rw[show absI (m.to-m.frm)=zAC m from rfl]at c;rcases Int.le_total m.frm m.to with q|q
  ·have a:=q9P g N q
   have b:=q9S (a:=m.to) (b:=m.frm) g N q;omega
  ·have a:=q9P g N q
   have b:=q9S (a:=m.frm) (b:=m.to) g N q;omega
theorem q5k:∀(bs:List (Int×Int)),(starts bs).zip (Xi bs)=bs
 | []=>rfl
 | b::bs=>by show (b.1,b.2)::(starts bs).zip (Xi bs)=_;rw[q5k]
theorem q7T(x:Int):∀a:List Int,zR x a a=0/\zL x a a=0
 | []=>⟨rfl,rfl⟩
 | y::a=>by
  have ih:=q7T x a;unfold zR zL at *;rw[xZ,zi,zi,ih.1,ih.2]
  constructor
  ·rw[vF (by simp)]
  ·rw[vF (by simp)]
theorem ylow{g:Int}{bs:List (Int×Int)}{ms:List Mv}(h:∀b∈bs,g<=b.1/\g<=b.2)(t:Yy Yw (g,starts bs) ms=some (g,Xi bs)):yl g bs<=(ms.map zAC).sum:=by
 obtain⟨N,hN⟩:∃N:Nat,∀b∈bs,b.1<=g+N/\b.2<=g+N:=by
  clear t h
  induction bs with
  | nil=>exact⟨0,by simp⟩
  | cons b bs ih=>
   obtain⟨N,hN⟩:=ih;refine⟨N+(b.1-g).toNat+(b.2-g).toNat,λd hd=>?_⟩;rcases zG.mp hd with rfl|hd
   ·omega
   ·have:=hN d hd;omega
 rw[qe8 h N hN];refine yT ?_ (qeb g N ms);have tw:2*su (pu bs) g N=su (λx=>pu bs x+pu bs x) g N:=by rw[q1Q];omega
 rw[tw];refine qe6 λx hx=>?_;have bal:(crR x ms:Int)-crL x ms=chY x g-chY x g:=qcz x ms _ _ t;obtain⟨b1,b2⟩:=qd1 x (starts bs) ms _ _ t;rw[(q7T x _).1]at b1;rw[(q7T x _).2]at b2;have e1:zR x (starts bs) (Xi bs)=ovR x bs:=by unfold zR ovR;rw[q5k]
 have e2:zL x (starts bs) (Xi bs)=ovL x bs:=by unfold zL ovL;rw[q5k]
 rw[e1]at b1;rw[e2]at b2;unfold pu
 by_cases q:hiB bs x=true
 ·rw[vC q]
  have one:1<=crR x ms:=by
   by_cases z:crR x ms=0
   ·exfalso
    obtain⟨_,k⟩:=q9Y x ms _ _ t hx z;obtain⟨b,hb,ne,hi⟩:=q1E.mp q;obtain⟨i,hi',rfl⟩:=zy.mp hb;have s1:(starts bs)[i]?=some bs[i].1:=by unfold starts;rw[zV,zE hi'];rfl
    have s2:(Xi bs)[i]?=some bs[i].2:=by unfold Xi;rw[zV,zE hi'];rfl
    rcases hi with hi|hi
    ·have:=(k i).1 _ s1 hi
     rw[s2]at this;exact ne (zc this).symm
    ·have:=(k i).2 _ s2 hi
     rw[s1]at this;exact ne (zc this)
   ·omega
  unfold mx3
  repeat' split
  all_goals omega
 ·rw[vF q];omega
theorem q1Z{α β:Type}(st:β->α->Option β):∀(a b:List α)(s:β),Yy st s (a++b)=(Yy st s a).bind λc=>Yy st c b
 | [],b,s=>rfl
 | x::a,b,s=>by
  show (st s x).bind (λc=>Yy st c (a++b))=((st s x).bind λc=>Yy st c a).bind _;cases st s x with
  | none=>rfl
  | some c=>exact q1Z st a b c
noncomputable def goM(a b:Int):List Mv:=if a=b then []else [.go a b]
theorem q7v(a b:Int):(goM a b).map mvD=zAM a b:=by unfold goM zAM;split <;> rfl
theorem q4H(a b:Int):(goM a b).length<=1:=by unfold goM;split <;> simp
theorem q3J(a b:Int)(ls:List Int):Yy Yw (a,ls) (goM a b)=some (b,ls):=by
 unfold goM
 by_cases z:a=b
 ·rw[vC z,z];rfl
 ·rw[vF z]
  show (if a=a/\b≠a then some (b,ls)else none).bind (λc=>some c)=_;rw[vC ⟨rfl,λq=>z q.symm⟩];rfl
theorem zAd{ds:List D}{ls:List Int}{here k there:Int}(hl:ds.length<999000)(h0:0<=k)(h1:k<ls.length):∃(ms:List Mv) (ls':List Int) (x:Int),qJ [.pw ds,.pw (ls.map D.int),.sh (.int here),.sh (.int k),.sh (.int there)] =
  some (.int there,[some (.pw (ds++ms.map mvD)),some (.pw (ls'.map D.int)),↥(.int x),↥(.int k),↥(.int there)])/\ls'.length=ls.length/\ms.length<=2/\Yy Yw (here,ls) ms=some (there,ls')/\ls'[k.toNat]?=some there/\∀j:Nat,j≠k.toNat->ls'[j]?=ls[j]?:=by
 have at':=q7y h0 h1;have lk:ls[k.toNat]?=some (ls[k.toNat]'∅):=zE _;generalize ls[k.toNat]'∅=x at at' lk;have gl:=qcI here x;have hl1:ds.length<1000000:=∅
 have hl2:(ds++zAM here x).length<1000000:=by rw[zC];omega
 by_cases z:x=there
 ·subst z
  refine⟨goM here x,ls,x,?_,rfl,by have:=q4H here x;omega,q3J _ _ _,lk,λ_ _=>rfl⟩;rw[q7v];unfold qJ q1s;simp_arith[at',q3w hl1]
 ·have z':(x==there)=false:=by simpa using z
  have lp:=λω=>p_ls (i:=1) (ω:=ω) (ds:=ls.map D.int) (d:=.int there) (k:=k) h0 (by rw[zB];exact h1);rw[<- List.map_set]at lp;have kk:((k.toNat:Nat):Int)=k:=∅
  refine⟨goM here x++[.box k.toNat x there],ls.set k.toNat there,x,?_,yA,by have:=q4H here x;rw[zC,zk];omega,?_,yL ∅,λj hj=>zJ λe=>hj e.symm⟩
  ·have e:ds++(goM here x++[Mv.box k.toNat x there]).map mvD=ds++zAM here x++[.tup [.str "box", .int k,.int x,.int there]]:=by
    rw[zY,q7v,zP];show _++(_++[D.tup [.str "box", .int ((k.toNat:Nat):Int),.int x,.int there]])=_;rw[kk]
   rw[e];unfold qJ q1s;simp_arith[at',q3w hl1,z',p_as hl2,lp]
  ·rw[q1Z,q3J]
   show (if x=x/\there≠x/\ls[k.toNat]?=some x then some (there,ls.set k.toNat there)else none).bind (λc=>some c)=_;rw[vC ⟨rfl,λq=>z q.symm,lk⟩];rfl
theorem zCO{p0:Int}{r:List Int}{bs:List (Int×Int)}{cells:List Int}(h7:(p0::r).length=7)(hb:bs.length<=9)(hc:cells.length<=63):
  ∃ms:List Mv,q0O [.lst ((p0::r).map D.int),.lst (bs.map Y5),.lst (cells.map D.int)]=some (.fr (ms.map mvD))/\Yy Yw (p0,starts bs) ms=some (p0,Xi bs)/\ms.length<=150:=by
 unfold q0O q2t;have hbl:(bs.map Y5).length<=1000000:=by rw[zB];omega
 have c1:=q9B (f:=q27) (bs:=bs) (λb=>by unfold q27 Y5;simp_arith -implicitDefEqProofs [qx]);have i0:atI ((p0::r).map D.int) 0=some (.int p0):=by rw[q0p (by decide) (by simp)];rfl
 generalize p0::r=ps at h7 i0;have pick:∀x:Int,∃y,atI (ps.map D.int) (x%7)=some (.int y):=λx=>⟨_,q7y (ls:=ps) (k:=x%7) ∅ ∅⟩;have bxa:∀{k:Int}(h0:0<=k)(h1:k<bs.length),atI (bs.map Y5) k=some (.tup [.int (bs[k.toNat]'∅).1,.int (bs[k.toNat]'∅).2]):=λ{k} h0 h1=>by rw[q0p h0 (by rw[zB];exact h1),xY];rfl
 simp_arith -implicitDefEqProofs [Wf hbl,inW,W8,c1,i0];obtain⟨ω',e,ms,here,ls,x6,x7,x8,x9,rfl,d1,d2,d3⟩:=q0h (g:=gN 6) (b:=q28) D.int cells
  (λpre ω=>∃(ms:List Mv) (here:Int) (ls:List Int) (x6 x7 x8 x9:Option W),ω=[↥(.lst (ps.map D.int)),↥(.lst (bs.map Y5)),↥(.lst (cells.map D.int)),some (.ow (ms.map mvD)),some (.ow (ls.map D.int)),↥(.int here),x6,x7,x8,x9]/\Yy Yw (p0,starts bs) ms=some (here,ls)/\ms.length<=2*pre.length/\ls.length=bs.length)
  (λpre c post ω hd ⟨ms,here,ls,x6,x7,x8,x9,hω,d1,d2,d3⟩=>by
   subst hω;refine⟨_,rfl,?_⟩;have hp:pre.length<cells.length:=by rw[hd,zC,zD];omega
   have hl:(ms.map mvD).length<999000:=by rw[zB];omega
   have hl1:(ms.map mvD).length<1000000:=∅
   have hmm:oMod (.int c) (.int ((bs.length:Int)+1))=↥(.int (c%((bs.length:Int)+1))):=q2j ∅;have hdd:oDiv (.int c) (.int ((bs.length:Int)+1))=↥(.int (c/((bs.length:Int)+1))):=q4y ∅ ∅;have k0:=YQ c (show (bs.length:Int)+1≠0 by omega);have k1:=Int.emod_lt_of_pos c (show 0<(bs.length:Int)+1 by omega);generalize c%((bs.length:Int)+1)=k at hmm k0 k1;generalize c/((bs.length:Int)+1)=rest at hdd;obtain⟨y,hy⟩:=pick (rest/4);obtain⟨d,hdd',z,rfl⟩:=q8m (ds:=[.int 0,.int 1,.int (-1),.int (rest/28%50)]) (i:=rest%4) (λd=>∃z:Int,d=D.int z) ∅ (show rest%4<4 by omega) (by
    intro d hd;simp only[zG,zj,or_false]at hd;rcases hd with rfl|rfl|rfl|rfl <;> exact⟨_,rfl⟩)
   have fin:∀{ms':List Mv}{ls':List Int}{h':Int}{y6 y7 y8 y9:Option W},ls'.length=bs.length->ms'.length<=2->Yy Yw (here,ls) ms'=some (h',ls') ->
     ∃(nm:List Mv) (nh:Int) (nl:List Int) (x6 x7 x8 x9:Option W),[some (W.sh (.lst (ps.map D.int))),↥(.lst (bs.map Y5)),↥(.lst (cells.map D.int)),some (.ow (Ye mvD ms++Ye mvD ms')),some (.ow (ls'.map D.int)),↥(.int h'),y6,y7,y8,y9]=[some (W.sh (.lst (ps.map D.int))),↥(.lst (bs.map Y5)),↥(.lst (cells.map D.int)),some (.ow (nm.map mvD)),some (.ow (nl.map D.int)),↥(.int nh),x6,x7,x8,x9]/\Yy Yw (p0,starts bs) nm=some (nh,nl)/\nm.length<=2*(pre++[c]).length/\nl.length=bs.length:=λ{ms' ls' h' y6 y7 y8 y9} a b cc=>
    ⟨ms++ms',_,ls',_,_,_,_,by rw[zY],by rw[q1Z,d1];exact cc,by rw[zC,zC,zk];omega,a⟩
   unfold q28
   by_cases q1:k=bs.length
   ·have q1':(k==(bs.length:Int))=true:=by simpa using q1
    simp_arith -implicitDefEqProofs [zB,hmm,hdd,hy,hdd',q1',q3w hl1];rw[<- q7v];exact fin d3 (by have:=q4H here (y+z);omega) (q3J _ _ _)
   ·have q1':(k==(bs.length:Int))=false:=by simpa using q1
    by_cases q2:rest/3%3=0
    ·have hb':=bxa k0 (show k<bs.length by omega)
     generalize bs[k.toNat]'∅=b at hb';obtain⟨ms',ls',x,t1,t2,t3,t4,_⟩:=zAd (ds:=ms.map mvD) (ls:=ls) (here:=here) (k:=k) (there:=b.2) hl k0 ∅;simp_arith -implicitDefEqProofs [zB,hmm,hdd,hy,hdd',q1',q2,hb',t1];exact fin ∅ t3 t4
    ·have q2':(rest/3%3==0)=false:=by simpa using q2
     obtain⟨ms',ls',x,t1,t2,t3,t4,_⟩:=zAd (ds:=ms.map mvD) (ls:=ls) (here:=here) (k:=k) (there:=y+z) hl k0 ∅;simp_arith -implicitDefEqProofs [zB,hmm,hdd,hy,hdd',q1',q2',t1];exact fin ∅ t3 t4)
  (ω:=[↥(.lst (ps.map D.int)),↥(.lst (bs.map Y5)),↥(.lst (cells.map D.int)),some (.ow []),some (.ow ((starts bs).map D.int)),↥(.int p0),none,none,none,none])
  ⟨[],p0,starts bs,none,none,none,none,rfl,rfl,yH _,by unfold starts;rw[zB]⟩
 have rg:rg1I (some [.int (bs.length:Int)])=some (upTo 0 bs.length):=by
  have:rg1I (some [.int (bs.length:Int)])=some (upTo 0 (bs.length:Int).toNat):=qgZ ⟨∅,∅⟩;rw[this,yE]
 simp_arith -implicitDefEqProofs [e,zB,rg];obtain⟨ω',e,ms',here',ls',x6,x7,x8,x9,rfl,g1,g2,g3,g4⟩:=q77 (g:=gN 7) (b:=q1c) 0 bs.length
  (λi ω=>∃(ms':List Mv) (here':Int) (ls':List Int) (x6 x7 x8 x9:Option W),ω=[↥(.lst (ps.map D.int)),↥(.lst (bs.map Y5)),↥(.lst (cells.map D.int)),some (.ow (ms'.map mvD)),some (.ow (ls'.map D.int)),↥(.int here'),x6,x7,x8,x9]/\Yy Yw (p0,starts bs) ms'=some (here',ls')/\ms'.length<=2*cells.length+2*i/\ls'.length=bs.length/\∀j:Nat,j<i->ls'[j]?=(Xi bs)[j]?)
  (λi ω hi ⟨ms',here',ls',x6,x7,x8,x9,hω,g1,g2,g3,g4⟩=>by
   subst hω;refine⟨_,rfl,?_⟩;have z0:(0+(i:Int))=(i:Int):=∅
   rw[z0];have hb':=bxa (k:=(i:Int)) ∅ ∅;have gi:(Xi bs)[i]?=some (bs[i]'hi).2:=by unfold Xi;rw[zV,zE hi];rfl
   have it:(i:Int).toNat=i:=yE i;simp only[it]at hb';generalize bs[i]'hi=b at hb' gi;have at':=q7y (ls:=ls') (k:=(i:Int)) ∅ ∅;have li:ls'[i]?=some (ls'[(i:Int).toNat]'∅):=by simp only[it];exact zE _
   generalize ls'[(i:Int).toNat]'∅=x at at' li;show W0 (q1c [_,_,_,_,_,_,_,↥(.int (i:Int)),_,_]) _;unfold q1c
   by_cases z:x=b.2
   ·have z':(x==b.2)=true:=by simpa using z
    simp_arith -implicitDefEqProofs [at',hb',z'];refine⟨_,_,_,_,_,_,_,rfl,g1,∅,g3,λj hj=>?_⟩;rcases zz j i with q|q
    ·exact g4 j q
    ·have:j=i:=∅
     subst this;rw[li,gi,z]
   ·have z':(x==b.2)=false:=by simpa using z
    obtain⟨m2,ls2,y,t1,t2,t3,t4,t5,t6⟩:=zAd (ds:=ms'.map mvD) (ls:=ls') (here:=here') (k:=(i:Int)) (there:=b.2) (by rw[zB];omega) ∅ ∅;simp_arith -implicitDefEqProofs [at',hb',z',t1];refine⟨ms'++m2,_,ls2,_,_,_,_,by rw[zY],by rw[q1Z,g1];exact t4,by rw[zC];omega,∅,λj hj=>?_⟩;rcases zz j i with q|q
    ·rw[t6 j ∅];exact g4 j q
    ·have:j=i:=∅
     subst this;rw[it]at t5;rw[t5,gi])
  (ω:=[↥(.lst (ps.map D.int)),↥(.lst (bs.map Y5)),↥(.lst (cells.map D.int)),some (.ow (ms.map mvD)),some (.ow (ls.map D.int)),↥(.int here),x6,x7,x8,x9])
  ⟨ms,here,ls,x6,x7,x8,x9,rfl,d1,∅,d3,λj hj=>vL hj (xO _)⟩
 have hl:(ms'.map mvD).length<1000000:=by rw[zB];omega
 have lg:ls'=Xi bs:=xB λj=>by
  rcases zz j bs.length with q|q
  ·exact g4 j q
  ·rw[ze ∅,ze (by unfold Xi;rw[zB];omega)]
 subst lg;simp_arith -implicitDefEqProofs [e,i0,q3w hl];refine⟨ms'++goM here' p0,?_,?_,?_⟩
 ·rw[zY,q7v]
 ·rw[q1Z,g1];exact q3J _ _ _
 ·have:=q4H here' p0
  rw[zC];omega
theorem q1R(x:Int)(a b:List Mv):crR x (a++b)=crR x a+crR x b:=Zp
theorem q1I(x:Int)(a b:List Mv):crL x (a++b)=crL x a+crL x b:=Zp
noncomputable def wcK:Nat->List (Int×Int)->List Mv
 | _,[]=>[]
 | k,b::r=>(if b.1=b.2 then []else [.box k b.1 b.2])++wcK (k+1) r
theorem qea(x:Int):∀(bs:List (Int×Int))(k:Nat),crR x (wcK k bs)=ovR x bs/\crL x (wcK k bs)=ovL x bs
 | [],_=>⟨rfl,rfl⟩
 | b::r,k=>by
  have ih:=qea x r (k+1);unfold wcK;rw[q1R,q1I,ih.1,ih.2];unfold ovR ovL;rw[zi,zi]
  by_cases z:b.1=b.2
  ·rw[vC z]
   have n1:¬((decide (b.1<x)&&decide (x<=b.2))=true):=by simp;omega
   have n2:¬((decide (b.2<x)&&decide (x<=b.1))=true):=by simp;omega
   rw[vF n1,vF n2];exact⟨yj _,yj _⟩
  ·rw[vF z]
   unfold crR crL;rw[zi,ZK,zi,ZK];exact⟨by show 0+_+_=_;rw[yj,Zv];rfl,by show 0+_+_=_;rw[yj,Zv];rfl⟩
noncomputable def tmG(bs:List (Int×Int))(p:Int×Int):Int:=mx3 1 (ovR p.2 bs) (ovL p.2 bs)
noncomputable def emG(bs:List (Int×Int))(p:Int×Int):List Mv:=zb (tmG bs p-ovR p.2 bs).toNat (.go p.1 p.2)++zb (tmG bs p-ovL p.2 bs).toNat (.go p.2 p.1)
noncomputable def emM(g:Int)(bs:List (Int×Int)):List Mv:=(nbs (knw g bs)).flatMap (emG bs)
theorem qbo(bs:List (Int×Int))(p:Int×Int):(ovR p.2 bs:Int)<=tmG bs p/\(ovL p.2 bs:Int)<=tmG bs p/\1<=tmG bs p:=by
 unfold tmG mx3;repeat' split
 all_goals omega
theorem qfG{bs:List (Int×Int)}{p:Int×Int}(hp:p.1<p.2)(x:Int):(crR x (emG bs p):Int)=(if p.1<x/\x<=p.2 then tmG bs p-ovR p.2 bs else 0)/\(crL x (emG bs p):Int)=(if p.1<x/\x<=p.2 then tmG bs p-ovL p.2 bs else 0):=by
 have t:=qbo bs p;unfold emG;rw[q1R,q1I];unfold crR crL;rw[xg,xg,xg,xg];have a1:(decide ((Mv.go p.1 p.2).frm<x)&&decide (x<=(Mv.go p.1 p.2).to))=(decide (p.1<x)&&decide (x<=p.2)):=rfl;have a2:(decide ((Mv.go p.2 p.1).frm<x)&&decide (x<=(Mv.go p.2 p.1).to))=(decide (p.2<x)&&decide (x<=p.1)):=rfl;have a3:(decide ((Mv.go p.1 p.2).to<x)&&decide (x<=(Mv.go p.1 p.2).frm))=(decide (p.2<x)&&decide (x<=p.1)):=rfl;have a4:(decide ((Mv.go p.2 p.1).to<x)&&decide (x<=(Mv.go p.2 p.1).frm))=(decide (p.1<x)&&decide (x<=p.2)):=rfl;have no:¬((decide (p.2<x)&&decide (x<=p.1))=true):=by simp;omega
 rw[a1,a2,a3,a4,vF no,vF no]
 by_cases z:p.1<x/\x<=p.2
 ·have z':(decide (p.1<x)&&decide (x<=p.2))=true:=by simpa using z
  rw[vC z',vC z',vC z,vC z];omega
 ·have z':¬(decide (p.1<x)&&decide (x<=p.2))=true:=by simpa using z
  rw[vF z',vF z',vF z,vF z];omega
theorem qe4{bs:List (Int×Int)}(x:Int):∀{L:List (Int×Int)},(∀p∈L,p.1<p.2)->(crR x (L.flatMap (emG bs)):Int)=(L.map λp=>if p.1<x/\x<=p.2 then tmG bs p-ovR p.2 bs else 0).sum/\(crL x (L.flatMap (emG bs)):Int)=(L.map λp=>if p.1<x/\x<=p.2 then tmG bs p-ovL p.2 bs else 0).sum
 | [],_=>⟨rfl,rfl⟩
 | p::L,h=>by
  have ih:=qe4 x (bs:=bs) (L:=L) λq hq=>h q (zH _ hq);have e:=qfG (bs:=bs) (h p zI) x;rw[wj,q1R,q1I,zX,zX,yQ,yQ,<- ih.1,<- ih.2,<- e.1,<- e.2];exact⟨∅,∅⟩
theorem q8L(x:Int):∀(r:List Int)(k:Int),(k::r).Pairwise (· < ·) ->
  (∃p∈nbs (k::r),p.1<x/\x<=p.2/\∀c:Int×Int->Int,((nbs (k::r)).map λp=>if p.1<x/\x<=p.2 then c p else 0).sum=c p) \/
  ((x<=k\/∀q∈k::r,q<x)/\∀c:Int×Int->Int,((nbs (k::r)).map λp=>if p.1<x/\x<=p.2 then c p else 0).sum=0)
 | [],k,_=>by
  right
  refine⟨?_,λc=>rfl⟩
  by_cases z:x<=k
  ·exact .inl z
  ·exact .inr λq hq=>by rw[za.mp hq];omega
 | b::r,k,h=>by
  obtain⟨h1,h2⟩:=zZ.mp h;have kb:=h1 b zI;rcases q8L x r b h2 with⟨p,hp,p1,p2,p3⟩|⟨n1,n2⟩
  ·left
   have pb:=(q1f h2 p hp).1;have:b<=p.1:=by
    rcases zG.mp pb with q|q
    ·omega
    ·have:=(zZ.mp h2).1 _ q;omega
   refine⟨p,by rw[q0w];exact zH _ hp,p1,p2,λc=>?_⟩;rw[q0w,zX,yQ,p3 c,vF (by show ¬(k<x/\x<=b);omega),Int.zero_add]
  ·by_cases z:k<x/\x<=b
   ·left
    refine⟨(k,b),by rw[q0w];exact zI,z.1,z.2,λc=>?_⟩;rw[q0w,zX,yQ,n2 c,vC z,Int.add_zero]
   ·right
    refine⟨?_,λc=>?_⟩
    ·by_cases y:x<=k
     ·exact .inl y
     ·right
      intro q hq;rcases zG.mp hq with rfl|hq
      ·omega
      ·rcases n1 with n|n
       ·exact vL ⟨∅,n⟩ z
       ·exact n q hq
    ·rw[q0w,zX,yQ,n2 c,vF z,Int.zero_add]
theorem qfO{g:Int}{bs:List (Int×Int)}(h:∀b∈bs,g<=b.1/\g<=b.2){x:Int}(hx:g<x):(crR x (wcK 0 bs++emM g bs):Int)=pu bs x/\(crL x (wcK 0 bs++emM g bs):Int)=pu bs x:=by
 have rise:=q1S g bs;have am:=q1f rise;have w:=qea x bs 0;have e:=qe4 x (bs:=bs) (L:=nbs (knw g bs)) λp hp=>(am p hp).2.2.1;obtain⟨r,er⟩:=q9M h;have pk:=q8L x r g (by rw[<- er];exact rise);rw[<- er]at pk;rw[q1R,q1I,w.1,w.2];have e1:(crR x (emM g bs):Int)=_:=e.1;have e2:(crL x (emM g bs):Int)=_:=e.2;rw[xx,xx,e1,e2];rcases pk with⟨p,hp,p1,p2,p3⟩|⟨n1,n2⟩
 ·obtain⟨k1,k2,k3,k4⟩:=am p hp
  rw[p3 λp=>tmG bs p-ovR p.2 bs,p3 λp=>tmG bs p-ovL p.2 bs];have oc:=q8c (bs:=bs) p2 λb hb ne=>by
   have a:=k4 b.1 (ql.mpr (.inr ⟨b,hb,ne,.inl rfl⟩));have c:=k4 b.2 (ql.mpr (.inr ⟨b,hb,ne,.inr rfl⟩));omega
  have hi:hiB bs x=true:=by
   rcases ql.mp k2 with q|⟨b,hb,ne,q⟩
   ·omega
   ·exact q1E.mpr ⟨b,hb,ne,∅⟩
  have pe:pu bs x=tmG bs p:=by unfold pu tmG;rw[vC hi,oc.1,oc.2]
  rw[pe,oc.1,oc.2];exact⟨∅,∅⟩
 ·have all:∀q∈knw g bs,q<x:=by
   rcases n1 with n|n
   ·omega
   ·exact n
  rw[n2 λp=>tmG bs p-ovR p.2 bs,n2 λp=>tmG bs p-ovL p.2 bs];have far:∀b∈bs,b.1≠b.2->b.1<x/\b.2<x:=λb hb ne=>⟨all _ (ql.mpr (.inr ⟨b,hb,ne,.inl rfl⟩)),all _ (ql.mpr (.inr ⟨b,hb,ne,.inr rfl⟩))⟩;have hi:¬hiB bs x=true:=λq=>by
   obtain⟨b,hb,ne,k⟩:=q1E.mp q;have:=far b hb ne;omega
  have o1:ovR x bs=0:=by
   unfold ovR;refine xF.mpr λb hb=>?_;simp only[zS,decide_eq_true_eq];intro k;have:=far b hb ∅;omega
  have o2:ovL x bs=0:=by
   unfold ovL;refine xF.mpr λb hb=>?_;simp only[zS,decide_eq_true_eq];intro k;have:=far b hb ∅;omega
  unfold pu;rw[vF hi,o1,o2];exact⟨rfl,rfl⟩
inductive Rch (es:List (Int×Int)) (a:Int):Int->Prop where
 | refl:Rch es a a
 | step {b c:Int}:Rch es a b->((b,c)∈es\/(c,b)∈es)->Rch es a c
theorem Rch.trans{es:List (Int×Int)}{a b c:Int}(h:Rch es a b)(h':Rch es b c):Rch es a c:=by
 induction h' with
 | refl=>exact h
 | step _ e ih=>exact ih.step e
theorem Rch.symm{es:List (Int×Int)}{a b:Int}(h:Rch es a b):Rch es b a:=by
 induction h with
 | refl=>exact .refl
 | step _ e ih=>exact(Rch.refl.step e.symm).trans ih
theorem Rch.inv{es:List (Int×Int)}{a:Int}(P:Int->Prop)(h0:P a)(hs:∀b c,P b->((b,c)∈es\/(c,b)∈es)->P c){c:Int}(h:Rch es a c):P c:=by
 induction h with
 | refl=>exact h0
 | step _ e ih=>exact hs _ _ ih e
theorem q5l{α β:Type}(f:α->β):∀(ks:List Int)(xs:List α)(k:Int),Y4 ks (xs.map f) k=(Y4 ks xs k).map f
 | [],_,_=>rfl
 | _::_,[],_=>rfl
 | k'::ks,x::xs,k=>by
  show (if k'=k then some (f x)else Y4 ks (xs.map f) k)=(if k'=k then some x else Y4 ks xs k).map f
  by_cases z:k'=k
  ·rw[vC z,vC z];rfl
  ·rw[vF z,vF z,q5l f ks xs k]
theorem q48{α:Type}:∀{ks:List Int}{xs:List α}{k:Int},ks.length=xs.length->(Y4 ks xs k).isSome=decide (k∈ks)
 | [],[],_,_=>rfl
 | [],_::_,_,h=>by simp at h
 | _::_,[],_,h=>by simp at h
 | k'::ks,x::xs,k,h=>by
  show (if k'=k then some x else Y4 ks xs k).isSome=_
  by_cases z:k'=k
  ·rw[vC z];simp[z]
  ·have z':¬k=k':=λy=>z y.symm
   rw[vF z,q48 ⇑h];simp[z']
theorem q5g:∀(ks:List Int)(xss:List (List Int))(a' b a:Int),Y4 ks (Wd ks xss a' b) a=(Y4 ks xss a).map λxs=>if a=a' then xs++[b]else xs
 | [],_,_,_,_=>rfl
 | _::_,[],_,_,_=>rfl
 | k::ks,x::xss,a',b,a=>by
  unfold Wd
  by_cases z:k=a'
  ·rw[vC z]
   show (if k=a then some (x++[b])else Y4 ks xss a)=(if k=a then some x else Y4 ks xss a).map _
   by_cases y:k=a
   ·rw[vC y,vC y,yi,vC (y▸z)]
   ·rw[vF y,vF y]
    have:¬a=a':=λe=>y (z.trans e.symm);cases Y4 ks xss a with
    | none=>rfl
    | some v=>rw[yi,vF this]
  ·rw[vF z]
   show (if k=a then some x else Y4 ks (Wd ks xss a' b) a)=(if k=a then some x else Y4 ks xss a).map _
   by_cases y:k=a
   ·have:¬a=a':=λe=>z (y.trans e)
    rw[vC y,vC y,yi,vF this]
   ·rw[vF y,vF y];exact q5g ks xss a' b a
theorem qf2(ts:List Int)(a:Int)(ha:a∈ts):∀(es:List (Int×Int)),∃xs,Y4 ts (nbT ts es) a=some xs/\∀c,c∈xs↔((a,c)∈es\/(c,a)∈es):=by
 intro es;have key:∀(post pre:List (Int×Int))(T:List (List Int))(xs:List Int),Y4 ts T a=some xs->(∀c,c∈xs↔((a,c)∈pre\/(c,a)∈pre))->∃xs',Y4 ts (post.foldl (WC ts) T) a=some xs'/\∀c,c∈xs'↔((a,c)∈pre++post\/(c,a)∈pre++post):=by
  intro post
  induction post with
  | nil=>intro pre T xs h1 h2;exact⟨xs,h1,by rw[yJ];exact h2⟩
  | cons e post ih=>
   intro pre T xs h1 h2;have h3:Y4 ts (WC ts T e) a=some (let ys:=if a=e.1 then xs++[e.2]else xs;if a=e.2 then ys++[e.1]else ys):=by
    unfold WC;rw[q5g,q5g,h1];rfl
   obtain⟨xs',g1,g2⟩:=ih (pre++[e]) (WC ts T e) _ h3 (λc=>by
    obtain⟨e1,e2⟩:=e;have m:∀x y:Int,(x,y)∈pre++[(e1,e2)]↔(x,y)∈pre\/(x=e1/\y=e2):=λx y=>by simp
    rw[m,m]
    by_cases y1:a=e1 <;> by_cases y2:a=e2 <;> simp[y1,y2,h2] <;> (try subst y1) <;> (try subst y2) <;> simp_all <;> grind)
   refine⟨xs',g1,λc=>?_⟩;rw[g2,zP];rfl
 have h0:Y4 ts (ts.map λ_=>([]:List Int)) a=some []:=by
  have:(Y4 ts (ts.map λ_=>([]:List Int)) a).isSome=true:=by rw[q48 (by rw[zB]),vQ ha]
  obtain⟨x,hx⟩:=yh.mp this;rw[q5l]at hx ⊢;obtain⟨y,hy,e⟩:=wE.mp hx;rw[hy];rfl
 obtain⟨xs',g1,g2⟩:=key es [] _ [] h0 (by simp);exact⟨xs',g1,by simpa using g2⟩
structure Ok (ts:List Int) (es:List (Int×Int)):Prop where
 nd:ts.Nodup
 inn:∀e∈es,e.1∈ts/\e.2∈ts
 l1:ts.length<64
 l2:es.length<=1000
noncomputable def nbD(ts:List Int)(es:List (Int×Int)):List D:=(nbT ts es).map λxs=>.lst (xs.map D.int)
theorem q7r{ts:List Int}{es:List (Int×Int)}(h:Ok ts es):q1l [.lst (ts.map D.int),.lst (es.map pairD2)]=↥(.dic ts (nbD ts es)):=by
 have hl:=h.l1;have e:nbM (ts.map D.int) (es.map pairD2)=some (.dic ts (nbD ts es)):=by
  unfold nbM;rw[q0y,q3b];exact vC ⟨h.nd,h.inn,∅,h.l2⟩
 show outM ((nbM (ts.map D.int) (es.map pairD2)).map _)=_;rw[e];rfl
theorem Rch.mem{ts:List Int}{es:List (Int×Int)}(h:Ok ts es){a c:Int}(ha:a∈ts)(r:Rch es a c):c∈ts :=
 r.inv (λx=>x∈ts) ha λb c _ e=>by
  rcases e with e|e
  ·exact(h.inn _ e).2
  ·exact(h.inn _ e).1
noncomputable def Wh(F:List Int):List D:=F.map λ_=>.bl true
theorem qbG(F:List Int):F.length=(Wh F).length:=by unfold Wh;rw[zB]
theorem qfa{F:List Int}{c:Int}(h:c∉F):WY F c=F++[c]/\putA F (Wh F) c (.bl true)=Wh (F++[c]):=by
 unfold WY putA Wh;rw[vF h,vF h,zY];exact⟨rfl,rfl⟩
theorem q1j:∀{F ts:List Int},F.Nodup->(∀c∈F,c∈ts)->F.length<=ts.length
 | [],_,_,_=>yH _
 | a::r,ts,hn,hs=>by
  obtain⟨h1,h2⟩:=xC.mp hn;have ha:=hs a zI;have:=q1j (F:=r) (ts:=ts.erase a) h2 λc hc=>(List.mem_erase_of_ne (show c≠a from λz=>h1 (by rw[<- z];exact hc))).mpr (hs c (zH _ hc));rw[List.length_erase_of_mem ha]at this;have hp:0<ts.length:=List.length_pos_of_mem ha;rw[zD];omega
structure GI (ts:List Int) (es:List (Int×Int)) (a:Int) (F Wt:List Int):Prop where
 nd:F.Nodup
 st:a∈F
 wl:Wt.length<=F.length
 w:∀c∈Wt,c∈F
 r:∀c∈F,Rch es a c
 cl:∀b∈F,b∉Wt->∀c,((b,c)∈es\/(c,b)∈es)->c∈F
theorem q9l{ts:List Int}{es:List (Int×Int)}(h:Ok ts es){a:Int}(ha:a∈ts):
  ∃F:List Int,q1w [.int a,.dic ts (nbD ts es)]=some (.fr ((Y7 F).map D.int))/\F.Nodup/\∀c,c∈F↔Rch es a c:=by
 unfold q1w q3p;simp_arith[qx];have hl1:=h.l1;obtain⟨ω',e,F,x4,x5,rfl,gi⟩:=qgy (fc:=q1Y) (fb:=q37) (n:=1000000)
  (λω=>∃(F Wt:List Int) (x4 x5:Option W),ω=[↥(.int a),↥(.dic ts (nbD ts es)),some (.od F (Wh F)),some (.ow (Wt.map D.int)),x4,x5]/\GI ts es a F Wt)
  (λω=>match ω with
   | [_,_,some (.od F _),some (.ow w),_,_]=>(ts.length-F.length)+w.length
   | _=>0)
  (λω=>∃(F:List Int) (x4 x5:Option W),ω=[↥(.int a),↥(.dic ts (nbD ts es)),some (.od F (Wh F)),some (.ow []),x4,x5]/\GI ts es a F [])
  (λω ⟨F,Wt,x4,x5,hω,gi⟩ hf=>by
   subst hω;unfold q1Y at hf;simp -implicitDefEqProofs only[q57,q5J,q7V,q6t,q6H,q87,qaU,qal,qb9,q6w,q6u,e_cw,qak,qad,qaF,e_dp,qba,e_sp,qb5,qb0,qbk,qaY,qb1,qaK,qbv,qaG,qbc,qar,qaD,q7S,q5V,Xw,eq_self,wy,wS,wT,reduceCtorEq,q8j,q8G,q6A,e_wd,q7G,e_wz,q5Y,qaw,q7M,q8H,qay,qbz,qbp,q90,qaS,q6d,q6x,q7F,qaN,qas,qap,q4q,q5X,qx,q4p,q6e,qai,qaW,q63,q6q,e_if,q84,q8h,qb2,q6g,q61,q5w,q4F,qbw,zCw,qbu,q5n,q3m,q6D,q6o,qbh,e_fs,qaV,q6v,q5Z,e_c,e_e,e_ed,e_d,q5U,q6I,e_v,q6k,q69,q6K,e_op,e_o2,q83,e_cl,q67,q6y,e_ac,e_ca,e_an,qaA,qaz,qbA,e_bl,qaO,e_sl,e_po,e_pa,e_ap,qao,q3Z,q42,e_t,e_tr,qax,qaJ,e_to,qbD,q8R,e_tn,q8D,q6f,q4V,q8I,e_va,qat,qaQ,e_vo,q7B,q8B,q8E,qaL,q8z,Wf,qau,e_ng,q6j,q6b,q6E,q4K,q8a,q7U,q6i,q8N,q7X,q8f,q6c,q68,qb7,qam,qbm,at0,at1,at2,q2j,q4y,zBk,entry,yN,yi,zD,yR,zB,zX,yw,wL,xD,yG,xq,wA,wB,wC,xX,Za,Zb,Z6,Z7,Z8,Zc,Zd,Ze,Zf,Zg,Zh,wO,Zi,ZJ,↓reduceIte,Zj,Zk,wU,wo,xi,ZC,wk,ZD,wM,ZR,yj,beq_self_eq_true,yc]at hf;cases Wt with
   | nil=>exact⟨F,x4,x5,rfl,gi⟩
   | cons w r=>cases hf)
  (λω ⟨F,Wt,x4,x5,hω,gi⟩=>by
   subst hω;refine⟨!Wt.isEmpty,?_,λhk=>?_⟩
   ·unfold q1Y
    simp_arith[qx];cases Wt <;> rfl
   ·obtain⟨Wr,here,rfl⟩:∃Wr here,Wt=Wr++[here]:=by
     cases Wt with
     | nil=>cases hk
     | cons w r=>exact⟨(w::r).dropLast,(w::r).getLast (by simp),(wR _).symm⟩
    have hF:here∈F:=gi.w here (by simp);have hts:here∈ts:=(gi.r here hF).mem h ha;obtain⟨xs,v1,v2⟩:=qf2 ts here hts es;have vd:Y4 ts (nbD ts es) here=some (.lst (xs.map D.int)):=by unfold nbD;rw[q5l,v1];rfl
    have ew:(Wr++[here]).map D.int=Wr.map D.int++[D.int here]:=by rw[zY];rfl
    have ffl:=q1j gi.nd λc hc=>(gi.r c hc).mem h ha;unfold q37;rw[ew];simp_arith[qff,vd];obtain⟨ω',e,F',W',x5',rfl,i1,i2,i3,i4,i5,i6,i7,i8⟩:=q0h (g:=gN 5) (b:=q32) D.int xs
     (λpre ω=>∃(F' W':List Int) (x5:Option W),ω=[↥(.int a),↥(.dic ts (nbD ts es)),some (.od F' (Wh F')),some (.ow (W'.map D.int)),↥(.int here),x5]/\F'.Nodup/\(∀c∈F,c∈F')/\(∀c∈Wr,c∈W')/\(∀c∈W',c∈F')/\(∀c∈F',Rch es a c)/\(∀c∈F',c∈F\/c∈W')/\(∀c∈pre,c∈F')/\F'.length+Wr.length=F.length+W'.length)
     (λpre c post ω hd ⟨F',W',x5,hω,i1,i2,i3,i4,i5,i6,i7,i8⟩=>by
      subst hω;refine⟨_,rfl,?_⟩;have hcx:c∈xs:=by rw[hd];simp
      have hcr:Rch es a c:=(gi.r here hF).step ((v2 c).mp hcx);have fl:=q1j i1 λc hc=>(i5 c hc).mem h ha;have hs:(Y4 F' (Wh F') c).isSome=decide (c∈F'):=q48 (qbG F');unfold q32
      by_cases hc:c∈F'
      ·simp_arith[hs,hc,decide_true]
       exact⟨F',W',_,rfl,i1,i2,i3,i4,i5,i6,λx hx=>(by rcases zT.mp hx with y|y;exact i7 x y;cases za.mp y;exact hc),i8⟩
      ·obtain⟨p1,p2⟩:=qfa hc
       have hwl:(W'.map D.int).length<1000000:=by
        rw[zB];have:=gi.wl;rw[zC,zk]at this;omega
       simp_arith[hs,hc,decide_false,qeM (show F'.length<1000000 by omega),p1,p2,zCw hwl];refine⟨F'++[c],W'++[c],_,by rw[zY];rfl,?_,λx hx=>zu _ (i2 x hx),λx hx=>zu _ (i3 x hx),λx hx=>?_,λx hx=>?_,λx hx=>?_,λx hx=>?_,by rw[zC,zC,zk];omega⟩
       ·rw[wg]
        exact⟨i1,by simp,λx hx y hy z=>by cases za.mp hy;exact hc (z▸hx)⟩
       ·rcases zT.mp hx with y|y
        ·exact zu _ (i4 x y)
        ·exact zd _ y
       ·rcases zT.mp hx with y|y
        ·exact i5 x y
        ·cases za.mp y;exact hcr
       ·rcases zT.mp hx with y|y
        ·exact(i6 x y).elim .inl λz=>.inr (zu _ z)
        ·exact .inr (zd _ y)
       ·rcases zT.mp hx with y|y
        ·exact zu _ (i7 x y)
        ·exact zd _ y)
     (ω:=[↥(.int a),↥(.dic ts (nbD ts es)),some (.od F (Wh F)),some (.ow (Wr.map D.int)),↥(.int here),x5])
     ⟨F,Wr,x5,rfl,gi.nd,λc hc=>hc,λc hc=>hc,λc hc=>gi.w c (zu _ hc),gi.r,λc hc=>.inl hc,λc hc=>(by cases hc),rfl⟩
    have fl':=q1j i1 λc hc=>(i5 c hc).mem h ha;simp_arith[e];have wl0:=gi.wl;rw[zC,zk]at wl0;refine⟨⟨F',W',_,_,rfl,i1,i2 a gi.st,∅,i4,i5,λb hb hw c hc=>?_⟩,?_⟩
    ·rcases i6 b hb with y|y
     ·by_cases z:b=here
      ·subst z
       exact i7 c ((v2 c).mpr hc)
      ·exact i2 c (gi.cl b y (λm=>by rcases zT.mp m with m|m;exact hw (i3 b m);exact z (za.mp m)) c hc)
     ·exact vL y hw
    ·show (ts.length-F'.length)+(W'.map D.int).length<(ts.length-F.length)+(Wr.map D.int++[D.int here]).length
     rw[zB,zC,zB,zk];omega)
  (ω:=[↥(.int a),↥(.dic ts (nbD ts es)),some (.od [a] [.bl true]),some (.ow [.int a]),none,none])
  ⟨[a],[a],none,none,rfl,by simp,by simp,zK _,λc hc=>hc,λc hc=>by cases za.mp hc;exact .refl,λb hb hw=>vL hb hw⟩
  (by show (ts.length-1)+1<1000000;omega)
 have fl:=q1j gi.nd λc hc=>(gi.r c hc).mem h ha;simp_arith[e,qdS (show F.length<64 by omega)];exact⟨F,rfl,gi.nd,λc=>⟨gi.r c,λr=>r.inv (λx=>x∈F) gi.st λb c hb hc=>gi.cl b hb (by simp) c hc⟩⟩
structure Cls (ts:List Int) (es:List (Int×Int)) (g:List Int) (a:Int):Prop where
 inn:a∈ts
 up:g.Pairwise (· < ·)
 mem:∀c,c∈g↔Rch es a c
 hd:g.head?=some a
noncomputable def lst1(f:Int->Int)(ts:List Int)(a:Int):Bool:=ts.all λc=>f c != f a || decide (a<=c)
noncomputable def many(f:Int->Int)(ts:List Int):Nat:=(ts.filter (lst1 f ts)).length
theorem qfM{ts:List Int}(P:Int->Prop)[DecidablePred P]{p:Int}(hp:p∈ts)(h:P p):∃a∈ts,P a/\∀c∈ts,P c->a<=c:=by
 induction ts with
 | nil=>cases hp
 | cons t r ih=>
  by_cases z:∃x∈r,P x
  ·obtain⟨x,hx,px⟩:=z
   have ih':∃a∈r,P a/\∀c∈r,P c->a<=c:=by
    clear ih hp
    induction r generalizing x with
    | nil=>cases hx
    | cons u r ih2=>
     by_cases y:∃w∈r,P w
     ·obtain⟨w,hw,pw⟩:=y
      obtain⟨a,a1,a2,a3⟩:=ih2 w hw pw
      by_cases pu:P u
      ·by_cases l:u<=a
       ·exact⟨u,zI,pu,λc hc pc=>(zG.mp hc).elim (λe=>by rw[e];exact yB _) λhc=>yT l (a3 c hc pc)⟩
       ·exact⟨a,zH _ a1,a2,λc hc pc=>(zG.mp hc).elim (λe=>by rw[e];omega) λhc=>a3 c hc pc⟩
      ·exact⟨a,zH _ a1,a2,λc hc pc=>(zG.mp hc).elim (λe=>vL (e▸pc) pu) λhc=>a3 c hc pc⟩
     ·have pu:P u:=(zG.mp hx).elim (λe=>e▸px) λhx=>vL ⟨x,hx,px⟩ y
      exact⟨u,zI,pu,λc hc pc=>(zG.mp hc).elim (λe=>by rw[e];exact yB _) λhc=>vL ⟨c,hc,pc⟩ y⟩
   obtain⟨a,a1,a2,a3⟩:=ih'
   by_cases pt:P t
   ·by_cases l:t<=a
    ·exact⟨t,zI,pt,λc hc pc=>(zG.mp hc).elim (λe=>by rw[e];exact yB _) λhc=>yT l (a3 c hc pc)⟩
    ·exact⟨a,zH _ a1,a2,λc hc pc=>(zG.mp hc).elim (λe=>by rw[e];omega) λhc=>a3 c hc pc⟩
   ·exact⟨a,zH _ a1,a2,λc hc pc=>(zG.mp hc).elim (λe=>vL (e▸pc) pt) λhc=>a3 c hc pc⟩
  ·have pt:P t:=(zG.mp hp).elim (λe=>e▸h) λhx=>vL ⟨p,hx,h⟩ z
   exact⟨t,zI,pt,λc hc pc=>(zG.mp hc).elim (λe=>by rw[e];exact yB _) λhc=>vL ⟨c,hc,pc⟩ z⟩
noncomputable def Xl(m:Mv):Int×Int:=(m.frm,m.to)
structure Ym (g:Int) (bs:List (Int×Int)) (ms:List Mv):Prop where
 cr:∀x,g<x->(crR x ms:Int)=pu bs x/\(crL x ms:Int)=pu bs x
 inn:∀m∈ms,m.frm∈knw g bs/\m.to∈knw g bs/\m.frm≠m.to
 go:∀m∈ms,(∃p q,m=.go p q)->∀y∈knw g bs,(y<=m.frm/\y<=m.to)\/(m.frm<=y/\m.to<=y)
theorem qbi{g:Int}{bs0:List (Int×Int)}:∀(bs:List (Int×Int))(k:Nat),(∀b∈bs,b∈bs0)->∀m∈wcK k bs,(∃j p q,m=.box j p q)/\m.frm∈knw g bs0/\m.to∈knw g bs0/\m.frm≠m.to
 | [],_,_,m,hm=>by cases hm
 | b::r,k,h,m,hm=>by
  unfold wcK at hm;rcases zT.mp hm with q|q
  ·split at q
   ·cases q
   ·rename_i ne
    rw[za.mp q];have hb:=h b zI;exact⟨⟨_,_,_,rfl⟩,ql.mpr (.inr ⟨b,hb,ne,.inl rfl⟩),ql.mpr (.inr ⟨b,hb,ne,.inr rfl⟩),ne⟩
  ·exact qbi r (k+1) (λd hd=>h d (zH _ hd)) m q
theorem qeg{g:Int}{bs:List (Int×Int)}:∀m∈emM g bs,∃p∈nbs (knw g bs),m=.go p.1 p.2\/m=.go p.2 p.1:=λm hm=>by
 obtain⟨p,hp,q⟩:=YF.mp hm;refine⟨p,hp,?_⟩;rcases zT.mp q with q|q
 ·exact .inl (wp q)
 ·exact .inr (wp q)
theorem qdX{g:Int}{bs:List (Int×Int)}(h:∀b∈bs,g<=b.1/\g<=b.2):Ym g bs (wcK 0 bs++emM g bs):=by
 have am:=q1f (q1S g bs);refine⟨λx hx=>qfO h hx,λm hm=>?_,λm hm hg y hy=>?_⟩
 ·rcases zT.mp hm with q|q
  ·exact(qbi bs 0 (λb hb=>hb) m q).2
  ·obtain⟨p,hp,e|e⟩:=qeg m q
   ·obtain⟨k1,k2,k3,_⟩:=am p hp
    rw[e];exact⟨k1,k2,λz=>by have:p.1=p.2:=z;omega⟩
   ·obtain⟨k1,k2,k3,_⟩:=am p hp
    rw[e];exact⟨k2,k1,λz=>by have:p.2=p.1:=z;omega⟩
 ·rcases zT.mp hm with q|q
  ·obtain⟨⟨j,u,v,e⟩,_⟩:=qbi (g:=g) bs 0 (λb hb=>hb) m q
   obtain⟨a,b,e2⟩:=hg;rw[e]at e2;cases e2
  ·obtain⟨p,hp,e|e⟩:=qeg m q
   ·obtain⟨_,_,k3,k4⟩:=am p hp
    have:=k4 y hy;rw[e];show (y<=p.1/\y<=p.2)\/(p.1<=y/\p.2<=y);omega
   ·obtain⟨_,_,k3,k4⟩:=am p hp
    have:=k4 y hy;rw[e];show (y<=p.2/\y<=p.1)\/(p.2<=y/\p.1<=y);omega
theorem ind3{a p b:Int}(x:Int)(h1:a<p)(h2:p<b):((if a<x/\x<=p then 1 else 0)+(if p<x/\x<=b then 1 else 0):Int)=if a<x/\x<=b then 1 else 0:=by
 by_cases c1:a<x
 ·by_cases c2:x<=p
  ·rw[vC ⟨c1,c2⟩,vF (λq=>vL q.1 (YU.mpr c2)),vC ⟨c1,yT c2 (yx h2)⟩];rfl
  ·rw[vF (λq=>c2 q.2)]
   by_cases c3:x<=b
   ·rw[vC ⟨Int.not_le.mp c2,c3⟩,vC ⟨c1,c3⟩];rfl
   ·rw[vF (λq=>c3 q.2),vF (λq=>c3 q.2)];rfl
 ·rw[vF (λq=>c1 q.1),vF (λq=>c1 (Z2 h1 q.1)),vF (λq=>c1 q.1)];rfl
theorem ind0{a b:Int}(x:Int)(h:a<b):(if b<x/\x<=a then 1 else 0:Int)=0:=vF λq=>vL (Int.lt_of_lt_of_le q.1 q.2) (YU.mpr (yx h))
theorem q9O{a b p:Int}(h:(a<p/\p<b)\/(b<p/\p<a))(x:Int):((if a<x/\x<=p then 1 else 0)+(if p<x/\x<=b then 1 else 0):Int)=if a<x/\x<=b then 1 else 0:=by
 rcases h with⟨h1,h2⟩|⟨h1,h2⟩
 ·exact ind3 x h1 h2
 ·rw[ind0 x h2,ind0 x h1,ind0 x (Z2 h1 h2)];rfl
theorem qgt{k:Nat}{a b p:Int}(h:(a<p/\p<b)\/(b<p/\p<a))(u v:List Mv)(x:Int):crR x (u++[.box k a p,.box k p b]++v)=crR x (u++.box k a b::v)/\crL x (u++[.box k a p,.box k p b]++v)=crL x (u++.box k a b::v):=by
 have e1:(crR x (.box k a b::v):Int)=(if a<x/\x<=b then 1 else 0)+crR x v:=q0g x (.box k a b) v;have e2:(crL x (.box k a b::v):Int)=(if b<x/\x<=a then 1 else 0)+crL x v:=q0v x (.box k a b) v;have u1:(crR x [.box k a p,.box k p b]:Int)=(if a<x/\x<=p then 1 else 0)+crR x [.box k p b]:=q0g x (.box k a p) [.box k p b];have u2:(crR x [.box k p b]:Int)=(if p<x/\x<=b then 1 else 0)+((0:Nat):Int):=q0g x (.box k p b) [];have u3:(crL x [.box k a p,.box k p b]:Int)=(if p<x/\x<=a then 1 else 0)+crL x [.box k p b]:=q0v x (.box k a p) [.box k p b];have u4:(crL x [.box k p b]:Int)=(if b<x/\x<=p then 1 else 0)+((0:Nat):Int):=q0v x (.box k p b) [];have i1:=q9O h x;have i2:=q9O (a:=b) (b:=a) h.symm x;rw[<- i1]at e1;rw[<- i2]at e2;clear h i1 i2;rw[q1R,q1R,q1R,q1I,q1I,q1I];generalize (if a<x/\x<=p then 1 else 0:Int)=w1 at *;generalize (if p<x/\x<=b then 1 else 0:Int)=w2 at *;generalize (if b<x/\x<=p then 1 else 0:Int)=w3 at *;generalize (if p<x/\x<=a then 1 else 0:Int)=w4 at *;exact⟨∅,∅⟩
theorem Ym.cut{g:Int}{bs:List (Int×Int)}{u v:List Mv}{k:Nat}{a b p:Int}(Y:Ym g bs (u++.box k a b::v))(hp:p∈knw g bs)(h:(a<p/\p<b)\/(b<p/\p<a)):Ym g bs (u++[.box k a p,.box k p b]++v):=by
 have ab:=Y.inn (.box k a b) (by simp);have old:∀m∈u++[Mv.box k a p,.box k p b]++v,m=.box k a p\/m=.box k p b\/m∈u++.box k a b::v:=λm hm=>by
  simp only[zT,zG,zj,or_false]at hm ⊢;rcases hm with (q|q|q)|q
  ·exact .inr (.inr (.inl q))
  ·exact .inl q
  ·exact .inr (.inl q)
  ·exact .inr (.inr (.inr (.inr q)))
 refine⟨λx hx=>?_,λm hm=>?_,λm hm hg=>?_⟩
 ·have:=qgt (k:=k) h u v x
  rw[this.1,this.2];exact Y.cr x hx
 ·rcases old m hm with q|q|q
  ·rw[q];exact⟨ab.1,hp,λe=>by have:a=p:=e;omega⟩
  ·rw[q];exact⟨hp,ab.2.1,λe=>by have:p=b:=e;omega⟩
  ·exact Y.inn m q
 ·rcases old m hm with q|q|q
  ·obtain⟨c,d,e⟩:=hg;rw[q]at e;cases e
  ·obtain⟨c,d,e⟩:=hg;rw[q]at e;cases e
  ·exact Y.go m q hg
theorem Ym.more{g:Int}{bs:List (Int×Int)}(hb:∀b∈bs,g<=b.1/\g<=b.2){ms:List Mv}(Y:Ym g bs ms){y:Int}(hy:y∈knw g bs)(ny:¬Rch (ms.map Xl) g y):∃m∈ms,∃p∈knw g bs,Rch (ms.map Xl) g m.frm/\¬Rch (ms.map Xl) g p/\((m.frm<p/\p<m.to)\/(m.to<p/\p<m.frm)):=by
 have ge:∀z∈knw g bs,g<=z:=λz hz=>by
  rcases ql.mp hz with q|⟨b,k,_,q|q⟩
  ·omega
  ·rw[q];exact(hb b k).1
  ·rw[q];exact(hb b k).2
 classical
 obtain⟨p,p1,p2,p3⟩:=qfM (ts:=knw g bs) (λz=>¬Rch (ms.map Xl) g z) hy ny;have gp:g<p:=by
  have:=ge p p1;rcases Int.lt_or_eq_of_le this with q|q
  ·exact q
  ·exact vL (by rw[<- q];exact .refl) p2
 have hi:hiB bs p=true:=by
  rcases ql.mp p1 with q|⟨b,k,ne,q⟩
  ·omega
  ·exact q1E.mpr ⟨b,k,ne,∅⟩
 have one:1<=pu bs p:=by
  unfold pu;rw[vC hi];unfold mx3;repeat' split
  all_goals omega
 have c:=(Y.cr p gp).1;have pos:0<crR p ms:=∅
 unfold crR at pos;obtain⟨m,hm,k⟩:=ZX.mp pos;simp only[zS,decide_eq_true_eq]at k;obtain⟨i1,i2,_⟩:=Y.inn m hm;have rf:Rch (ms.map Xl) g m.frm:=by
  by_cases z:Rch (ms.map Xl) g m.frm
  ·exact z
  ·have:=p3 _ i1 z;omega
 have rt:Rch (ms.map Xl) g m.to:=rf.step (.inl (ya.mpr ⟨m,hm,rfl⟩));have ne:m.to≠p:=λe=>p2 (e▸rt);exact⟨m,hm,p,p1,rf,p2,.inl ⟨k.1,∅⟩⟩
theorem qci(g:Int)(N:Nat):∀ms:List Mv,(∀m∈ms,(g<=m.frm/\m.frm<=g+N)/\(g<=m.to/\m.to<=g+N))->su (λx=>(crR x ms:Int)+crL x ms) g N=(ms.map zAC).sum
 | [],_=>by
  have:∀N:Nat,su (λx=>(crR x []:Int)+crL x []) g N=0:=λN=>by
   induction N with
   | zero=>rfl
   | succ n ih=>show su _ g n+_=0;rw[ih];rfl
  rw[this];rfl
 | m::ms,h=>by
  have ih:=qci g N ms λq hq=>h q (zH _ hq);have hm:=h m zI;have e:(λx=>(crR x (m::ms):Int)+crL x (m::ms))=λx=>((if m.frm<x/\x<=m.to then 1 else 0)+(if m.to<x/\x<=m.frm then 1 else 0))+((crR x ms:Int)+crL x ms):=by
   funext x;rw[q0g,q0v];omega
  rw[e,q1Q,q1Q,zX,yQ,ih];have a:=q3W m.frm m.to g N;have b:=q3W m.to m.frm g N;have c:zAC m=if m.to-m.frm<0 then -(m.to-m.frm)else m.to-m.frm:=rfl
  rw[c]
  split <;> omega
theorem Ym.len{g:Int}{bs:List (Int×Int)}{ms:List Mv}(h:∀b∈bs,g<=b.1/\g<=b.2)(Y:Ym g bs ms):(ms.map zAC).sum=yl g bs:=by
 obtain⟨N,hN⟩:∃N:Nat,∀b∈bs,b.1<=g+N/\b.2<=g+N:=by
  clear Y h
  induction bs with
  | nil=>exact⟨0,by simp⟩
  | cons b bs ih=>
   obtain⟨N,hN⟩:=ih;refine⟨N+(b.1-g).toNat+(b.2-g).toNat,λd hd=>?_⟩;rcases zG.mp hd with rfl|hd
   ·omega
   ·have:=hN d hd;omega
 have inK:∀z∈knw g bs,g<=z/\z<=g+N:=λz hz=>by
  rcases ql.mp hz with q|⟨b,k,_,q|q⟩
  ·omega
  ·rw[q];exact⟨(h b k).1,(hN b k).1⟩
  ·rw[q];exact⟨(h b k).2,(hN b k).2⟩
 rw[<- qci g N ms λm hm=>⟨inK _ (Y.inn m hm).1,inK _ (Y.inn m hm).2.1⟩,qe8 h N hN];have tw:2*su (pu bs) g N=su (λx=>pu bs x+pu bs x) g N:=by rw[q1Q];omega
 rw[tw];exact q8S λx hx _=>by rw[(Y.cr x hx).1,(Y.cr x hx).2]
noncomputable def enK:Nat->List (Int×Int)->List (Nat×Int×Int)
 | _,[]=>[]
 | k,b::r=>(k,b.1,b.2)::enK (k+1) r
noncomputable def enD(q:Nat×Int×Int):D:=.tup [.int (q.1:Int),.tup [.int q.2.1,.int q.2.2]]
theorem qe1:∀(bs:List (Int×Int))(k:Nat),WN k (bs.map Y5)=(enK k bs).map enD
 | [],_=>rfl
 | b::r,k=>by
  show D.tup [.int (k:Int),Y5 b]::WN (k+1) (r.map Y5)=_;rw[qe1 r (k+1)];rfl
theorem qcR:∀(bs:List (Int×Int))(k:Nat),(enK k bs).length=bs.length
 | [],_=>rfl
 | b::r,k=>by show (enK (k+1) r).length+1=_;rw[qcR r (k+1)];rfl
theorem qe2:∀(bs:List (Int×Int))(k:Nat),((enK k bs).filter λq=>!(q.2.1==q.2.2)).map (λq=>mvD (.box q.1 q.2.1 q.2.2))=(wcK k bs).map mvD
 | [],_=>rfl
 | b::r,k=>by
  have ih:=qe2 r (k+1);show (((k,b.1,b.2)::enK (k+1) r).filter λq=>!(q.2.1==q.2.2)).map _=((if b.1=b.2 then []else [Mv.box k b.1 b.2])++wcK (k+1) r).map mvD;rw[wz,zY,<- ih]
  by_cases z:b.1=b.2
  ·rw[vF ⇑z,vC z];rfl
  ·rw[vC ⇑z,vF z];rfl
theorem qgn{bs:List (Int×Int)}(hb:bs.length<=30):q06 [.lst (bs.map Y5)]=some (.fr ((wcK 0 bs).map mvD)):=by
 unfold q06 q1C;have en:=qe1 bs 0;have kl:((enK 0 bs).map enD).length<=1000000:=by rw[zB,qcR];omega
 have cm:=q3v (g:=gT 2 (Yu (gN 0) (Yu (gN 1) Xz))) (c:=q0A) (f:=q0z) (λw=>∃a b,w=[a,b]) (λq=>!(q.2.1==q.2.2)) enD (λq=>mvD (.box q.1 q.2.1 q.2.2)) (enK 0 bs) (ω:=[none,none]) ⟨_,_,rfl⟩ λq _ w hw=>by
  obtain⟨a,b,rfl⟩:=hw;refine⟨_,rfl,⟨_,_,rfl⟩,?_,λ_=>?_⟩
  ·show q0A [↥(.int (q.1:Int)),↥(.tup [.int q.2.1,.int q.2.2])]=_
   unfold q0A;simp_arith[qx]
  ·show q0z [↥(.int (q.1:Int)),↥(.tup [.int q.2.1,.int q.2.2])]=_
   unfold q0z;simp_arith[qx];rfl
 rw[qe2]at cm;simp_arith[en,Wf kl,inW,W8,cm]
theorem qb6(m:Mv):oSl (mvD m) (some (-2)) none=↥(.tup [.int m.frm,.int m.to]):=by cases m <;> rfl
theorem q9p{ms:List Mv}(hl:ms.length<=9000):q0Q [.lst (ms.map mvD)]=some (.fr ((ms.map Xl).map pairD2)):=by
 unfold q0Q q3V;have kl:(ms.map mvD).length<=1000000:=by rw[zB];omega
 have cm:=q0u (i:=0) (f:=q3u) mvD (λm=>pairD2 (Xl m)) ms (ω:=[none]) (λm _=>by
  unfold q3u;simp_arith[qb6];rfl)
 have mm:ms.map (λm=>pairD2 (Xl m))=(ms.map Xl).map pairD2:=by rw[yk];rfl
 rw[mm]at cm;simp_arith[Wf kl,inW,W8,cm]
theorem qee{α:Type}(d:α):∀n:Nat,(zb n [d]).flatten=zb n d
 | 0=>rfl
 | n+1=>by rw[yG,yO,qee d n,yG];rfl
theorem qe3{bs:List (Int×Int)}(hb:bs.length<=20)(p:Int×Int):tmG bs p<=20:=by
 have l1:ovR p.2 bs<=bs.length:=xL;have l2:ovL p.2 bs<=bs.length:=xL;unfold tmG mx3;repeat' split
 all_goals omega
theorem q8W{bs:List (Int×Int)}(hb:bs.length<=20):∀L:List (Int×Int),(L.flatMap (emG bs)).length<=40*L.length
 | []=>yH _
 | p::L=>by
  have ih:=q8W hb L;have t:=qe3 hb p;have g:=qbo bs p;have e:(emG bs p).length<=40:=by unfold emG;rw[zC,yD,yD];omega
  rw[wj,zC,zD];omega
theorem qfU{g:Int}{bs:List (Int×Int)}(hb:bs.length<=20)(h:∀b∈bs,g<=b.1/\g<=b.2):q0D [.int g,.lst (bs.map Y5)]=some (.fr ((emM g bs).map mvD)):=by
 unfold q0D q2a emM;have hp:=q6P g bs hb h;have ed:(zAh (knw g bs) bs).map tri=(nbs (knw g bs)).map (λp=>D.tup [.int p.1,.int p.2,.int (tmG bs p)]):=by unfold zAh;rw[yk];rfl
 rw[ed]at hp;have hp':q0T [.int g,.lst (bs.map Y5)]=some (.fr ((nbs (knw g bs)).map (λp=>D.tup [.int p.1,.int p.2,.int (tmG bs p)]))):=hp;have am:=q1f (q1S g bs);have nl:(nbs (knw g bs)).length<=50:=by
  rw[q4J];have h1:(knw g bs).length<=(Wz g bs).length:=q24 _;have:=q2z g bs;omega
 clear hp ed;generalize nbs (knw g bs)=L at hp' am nl ⊢;simp_arith[hp'];obtain⟨ω',e,x3,x4,x5,x6,rfl⟩:=q0h (g:=gT 3 (Yu (gN 3) (Yu (gN 4) (Yu (gN 5) Xz)))) (b:=q1J) (λp:Int×Int=>D.tup [.int p.1,.int p.2,.int (tmG bs p)]) L
  (λpre ω=>∃x3 x4 x5 x6:Option W,ω=[↥(.int g),↥(.lst (bs.map Y5)),some (.ow ((pre.flatMap (emG bs)).map mvD)),x3,x4,x5,x6])
  (λpre p post ω hd ⟨x3,x4,x5,x6,hω⟩=>by
   subst hω;refine⟨_,rfl,?_⟩;have hp:p∈L:=by rw[hd];simp
   obtain⟨k1,k2,k3,k4⟩:=am p hp;obtain⟨r1,r2⟩:=qcD (K:=knw g bs) (bs:=bs) k3 (λb hb z=>⟨k4 b.1 (ql.mpr (.inr ⟨b,hb,z,.inl rfl⟩)),k4 b.2 (ql.mpr (.inr ⟨b,hb,z,.inr rfl⟩))⟩);have c:=q5t (bs:=bs) (q:=p) ∅;rw[r1,r2,show Y5 p=D.tup [.int p.1,.int p.2]from rfl]at c;have t:=qbo bs p;have t2:=qe3 hb p;have hr1:=λd:D=>qc4 (ds:=[d]) (k:=tmG bs p-ovR p.2 bs) ∅ ∅ (by simp);have hr2:=λd:D=>qc4 (ds:=[d]) (k:=tmG bs p-ovL p.2 bs) ∅ ∅ (by simp);have el:=q8W (bs:=bs) hb pre;have pl:pre.length<=L.length:=by rw[hd,zC];omega
   have l1:((pre.flatMap (emG bs)).map mvD).length+(zb (tmG bs p-ovR p.2 bs).toNat (D.tup [.str "go", .int p.1,.int p.2])).length<=1000000:=by rw[zB,yD];omega
   have l2:((pre.flatMap (emG bs)).map mvD++zb (tmG bs p-ovR p.2 bs).toNat (D.tup [.str "go", .int p.1,.int p.2])).length+(zb (tmG bs p-ovL p.2 bs).toNat (D.tup [.str "go", .int p.2,.int p.1])).length<=1000000:=by rw[zC,zB,yD,yD];omega
   have ea:(pre.flatMap (emG bs)).map mvD++zb (tmG bs p-ovR p.2 bs).toNat (D.tup [.str "go", .int p.1,.int p.2])++zb (tmG bs p-ovL p.2 bs).toNat (D.tup [.str "go", .int p.2,.int p.1])=((pre++[p]).flatMap (emG bs)).map mvD:=by
    rw[ZY,ZF,zY,zP]
    congr 1
    unfold emG;rw[zY,Zq,Zq];rfl
   unfold q1J;simp_arith[c,hr1,hr2,qee,q3m l1,q3m l2,ea];exact⟨_,_,_,_,rfl⟩)
  (ω:=[↥(.int g),↥(.lst (bs.map Y5)),some (.ow []),none,none,none,none]) ⟨none,none,none,none,rfl⟩
 simp_arith[e]
noncomputable def WR(ms:List Mv):List Int:=ms.flatMap λm=>[m.frm,m.to]
theorem q4W:∀ms:List Mv,(WR ms).length=2*ms.length
 | []=>rfl
 | m::ms=>by
  have ih:=q4W ms;show ([m.frm,m.to]++WR ms).length=_;rw[zC,ih,zD];simp only[zD,yR];omega
theorem q0V{ms:List Mv}{y:Int}:y∈WR ms↔∃m∈ms,y=m.frm\/y=m.to:=by unfold WR;simp
theorem q3s{ms:List Mv}(hl:ms.length<=1500)(hf:(XR (WR ms)).length<64):q0q [.lst (ms.map mvD)]=some (.fr ((XR (WR ms)).map D.int)):=by
 unfold q0q q4e;simp_arith[qx];obtain⟨ω',e,x2,rfl⟩:=q0h (g:=gN 2) (b:=q3t) mvD ms
  (λpre ω=>∃x2:Option W,ω=[↥(.lst (ms.map mvD)),some (.ow ((WR pre).map D.int)),x2])
  (λpre m post ω hd ⟨x2,hω⟩=>by
   subst hω;refine⟨_,rfl,?_⟩;have pl:pre.length<=ms.length:=by rw[hd,zC];omega
   have el:=q4W pre;have l1:((WR pre).map D.int).length+[D.int m.frm,D.int m.to].length<=1000000:=by
    rw[zB];simp only[zD,yR];omega
   have ea:(WR pre).map D.int++[D.int m.frm,D.int m.to]=(WR (pre++[m])).map D.int:=by
    unfold WR;rw[ZY,ZF,zY];rfl
   unfold q3t;simp_arith[qb6,q5n l1,ea];exact⟨_,rfl⟩)
  (ω:=[↥(.lst (ms.map mvD)),some (.ow []),none]) ⟨none,rfl⟩
 have hs:WB (vOf (Yj 1)) [↥(.lst (ms.map mvD)),some (.ow ((WR ms).map D.int)),x2]=some (.fr ((XR (WR ms)).map D.int)):=by
  show W1 (.lst ((WR ms).map D.int))=_;show (intsOf ((WR ms).map D.int)).bind _=_;rw[q0y];exact vC ⟨hf,by rw[q4W];omega⟩
 simp_arith[e,hs]
noncomputable def amB(p:Int)(m:Mv):Bool:=decide (zAZ [m.frm,m.to]<p)&&decide (p<zAt [m.frm,m.to])
theorem q5T{p:Int}{m:Mv}:amB p m=true↔(m.frm<p/\p<m.to)\/(m.to<p/\p<m.frm):=by
 unfold amB;rw[zS,decide_eq_true_eq,decide_eq_true_eq];show (if m.to<=m.frm then m.to else m.frm)<p/\p<(if m.frm<=m.to then m.to else m.frm)↔_
 split <;> split <;> omega
theorem q5W(p:Int)(m:Mv):q19 [.int p,mvD m]=↥(.bl (amB p m)):=by
 unfold q19 q33 amB;have h1:zA3 [.tup [.int m.frm,.int m.to]]=↥(.int (zAZ [m.frm,m.to])):=q9w (ns:=[m.frm,m.to]) (by simp);have h2:zA5 [.tup [.int m.frm,.int m.to]]=↥(.int (zAt [m.frm,m.to])):=qac (ns:=[m.frm,m.to]) (by simp);cases z:decide (zAZ [m.frm,m.to]<p) <;> simp_arith[qb6,h1,h2,z]
theorem qfk(k:Nat)(a b p:Int):q0N [mvD (.box k a b),.int p]=some (.fr ([Mv.box k a p,.box k p b].map mvD)):=by
 unfold q0N q2n;have h1:oSl (mvD (.box k a b)) none (some 3)=some (.sh (.tup [.str "box", .int k,.int a])):=rfl;have h2:oSl (mvD (.box k a b)) none (some 2)=some (.sh (.tup [.str "box", .int k])):=rfl;have h3:WD (.tup [.str "box", .int k,.int a]) (.tup [.int p])=some (.sh (mvD (.box k a p))):=rfl;have h4:WD (.tup [.str "box", .int k]) (.tup [.int p,.int b])=some (.sh (mvD (.box k p b))):=rfl;have h5:oIx (mvD (.box k a b)) (.int 3)=some (.sh (.int b)):=rfl;simp_arith[h1,h2,h3,h4,h5]
theorem q3H{α:Type}{g:FG}{b:FS}{r:O}(F:α->D)(I:WSt->Prop):∀(pre:List α)(x:α)(post:List α)(ω:WSt),I ω ->
  (∀y∈pre,∀ω,I ω->∃w,g (F y) ω=some w/\W0 (b w) I) ->
  (∀ω,I ω->∃w,g (F x) ω=some w/\∃w',b w=some (.rt r,w'))->∃w',Wg g b ((pre++x::post).map F) ω=some (.rt r,w')
 | [],x,post,ω,hi,_,hx=>by
  obtain⟨w,h1,w',h2⟩:=hx ω hi;refine⟨w',?_⟩;rw[xD,zX,Wg,h1,yN,h2];rfl
 | y::pre,x,post,ω,hi,hp,hx=>by
  obtain⟨w,h1,h2⟩:=hp y zI ω hi;rw[wL,zX,Wg,h1,yN]
  match hb:b w,h2 with
  | some (.nx,ω2),h2=>exact q3H F I pre x post ω2 h2 (λz hz=>hp z (zH _ hz)) hx
  | some (.ct,ω2),h2=>exact q3H F I pre x post ω2 h2 (λz hz=>hp z (zH _ hz)) hx
theorem q3c{α:Type}(P:α->Bool):∀{l:List α},(∃x∈l,P x=true)->∃u x v,l=u++x::v/\P x=true/\∀y∈u,P y=false
 | [],h=>by obtain⟨x,hx,_⟩:=h;cases hx
 | a::l,h=>by
  cases z:P a with
  | true=>exact⟨[],a,l,rfl,z,λy hy=>by cases hy⟩
  | false=>
   obtain⟨x,hx,px⟩:=h;have hx':x∈l:=(zG.mp hx).resolve_left λe=>by rw[e,z]at px;cases px
   obtain⟨u,y,v,e,py,hu⟩:=q3c P ⟨x,hx',px⟩;refine⟨a::u,y,v,by rw[e];rfl,py,λw hw=>?_⟩;rcases zG.mp hw with rfl|hw
   ·exact z
   ·exact hu w hw
noncomputable def enM:Nat->List Mv->List (Nat×Mv)
 | _,[]=>[]
 | k,m::r=>(k,m)::enM (k+1) r
noncomputable def enMD(q:Nat×Mv):D:=.tup [.int (q.1:Int),mvD q.2]
theorem q8u:∀(ms:List Mv)(k:Nat),WN k (ms.map mvD)=(enM k ms).map enMD
 | [],_=>rfl
 | m::r,k=>by
  show D.tup [.int (k:Int),mvD m]::WN (k+1) (r.map mvD)=_;rw[q8u r (k+1)];rfl
theorem q9R(m:Mv)(v:List Mv):∀(u:List Mv)(k:Nat),enM k (u++m::v)=enM k u++(k+u.length,m)::enM (k+u.length+1) v
 | [],k=>rfl
 | x::u,k=>by
  show (k,x)::enM (k+1) (u++m::v)=_;rw[q9R m v u (k+1),zD,show k+1+u.length=k+(u.length+1) by omega];rfl
theorem qa0:∀{u:List Mv}{k:Nat}{q:Nat×Mv},q∈enM k u->q.2∈u
 | [],_,_,h=>by cases h
 | x::u,k,q,h=>by
  rcases zG.mp h with rfl|h
  ·exact zI
  ·exact zH _ (qa0 h)
theorem qan(m:Mv):oIx (mvD m) (.int (-2))=↥(.int m.frm):=by cases m <;> rfl
theorem qfK{a:Int}{ns:List Int}:oIn true (.int a) (.lst (ns.map D.int))=↥(.bl (!decide (a∈ns))):=by
 have h:=q5M (a:=a) (ns:=ns);have e1:oIn false (.int a) (.lst (ns.map D.int))=if (Xr (.int a)&&(ns.map D.int).all Xr)=true then ↥(.bl (inD (.int a) (ns.map D.int)))else none:=rfl
 have e2:oIn true (.int a) (.lst (ns.map D.int))=if (Xr (.int a)&&(ns.map D.int).all Xr)=true then ↥(.bl (!inD (.int a) (ns.map D.int)))else none:=rfl
 rw[e1]at h;rw[e2]
 split at h
 ·rename_i y
  rw[vC y];have:=R.sh.inj (zc h);rw[D.bl.inj this]
 ·cases h
theorem q9n{K R:List Int}:XH (gN 0) q1u q1z (K.map D.int) [none,↥(.lst (R.map D.int))]=some ((K.filter λy=>!decide (y∈R)).map D.int):=by
 refine q5H (i:=0) (λy=>!decide (y∈R)) D.int D.int K (ω:=[none,↥(.lst (R.map D.int))]) λy _=>⟨?_,λ_=>?_⟩
 ·unfold q1u
  simp_arith[qfK]
 ·unfold q1z
  simp_arith[qx]
theorem qei{ms:List Mv}{R ap:List Int}{n:Nat}{m:Mv}{x5:Option W}(h:¬(m.frm∈R/\∃p∈ap,amB p m=true)):
  W0 (qz [↥(.lst (ms.map mvD)),↥(.lst (R.map D.int)),↥(.lst (ap.map D.int)),↥(.int (n:Int)),↥(mvD m),x5]) (λω=>∃x3 x4 x5:Option W,ω=[↥(.lst (ms.map mvD)),↥(.lst (R.map D.int)),↥(.lst (ap.map D.int)),x3,x4,x5]):=by
 unfold qz
 by_cases z:m.frm∈R
 ·obtain⟨ω',e,y5,rfl⟩:=q0h (g:=gN 5) (b:=qN) D.int ap
   (λ_ ω=>∃x5:Option W,ω=[↥(.lst (ms.map mvD)),↥(.lst (R.map D.int)),↥(.lst (ap.map D.int)),↥(.int (n:Int)),↥(mvD m),x5])
   (λpre p post ω hd ⟨x5,hω⟩=>by
    subst hω;refine⟨_,rfl,?_⟩;have hp:p∈ap:=by rw[hd];simp
    have am:amB p m=false:=by
     cases q:amB p m with
     | false=>rfl
     | true=>exact vL ⟨z,p,hp,q⟩ h
    have a:=q5W p m;rw[am]at a;unfold qN;simp_arith[a];exact⟨_,rfl⟩)
   (ω:=[↥(.lst (ms.map mvD)),↥(.lst (R.map D.int)),↥(.lst (ap.map D.int)),↥(.int (n:Int)),↥(mvD m),x5]) ⟨x5,rfl⟩
  simp_arith[qan,q5M,z,decide_true,e];exact⟨_,_,_,rfl⟩
 ·simp_arith[qan,q5M,z,decide_false]
  exact⟨_,_,_,rfl⟩
theorem qgo{u v:List Mv}{R ap1 ap2:List Int}{k:Nat}{a b p:Int}{x5:Option W}(hl:(u++Mv.box k a b::v).length<=1500)(ha:a∈R)(h1:∀y∈ap1,amB y (.box k a b)=false)(h2:amB p (.box k a b)=true):
  ∃w',qz [↥(.lst ((u++Mv.box k a b::v).map mvD)),↥(.lst (R.map D.int)),↥(.lst ((ap1++p::ap2).map D.int)),↥(.int (u.length:Int)),↥(mvD (.box k a b)),x5]=some (.rt (.fr ((u++[Mv.box k a p,Mv.box k p b]++v).map mvD)),w'):=by
 unfold qz;have hf:a∈R:=ha;rw[zC,zD]at hl;obtain⟨w',e⟩:=q3H (g:=gN 5) (b:=qN) (r:=.fr ((u++[Mv.box k a p,Mv.box k p b]++v).map mvD)) D.int
  (λω=>∃x5:Option W,ω=[↥(.lst ((u++Mv.box k a b::v).map mvD)),↥(.lst (R.map D.int)),↥(.lst ((ap1++p::ap2).map D.int)),↥(.int (u.length:Int)),↥(mvD (.box k a b)),x5])
  ap1 p ap2 _ ⟨x5,rfl⟩
  (λy hy ω ⟨x5,hω⟩=>by
   subst hω;refine⟨_,rfl,?_⟩;have q:=q5W y (.box k a b);rw[h1 y hy]at q;unfold qN;simp_arith[q];exact⟨_,rfl⟩)
  (λω ⟨x5,hω⟩=>by
   subst hω;refine⟨_,rfl,?_⟩;have q:=q5W p (.box k a b);rw[h2]at q;have c1:=qdR (xs:=(u++Mv.box k a b::v).map mvD) (k:=(u.length:Int)) ∅;have c2:=qd8 (xs:=(u++Mv.box k a b::v).map mvD) (k:=(u.length:Int)+1) ∅;have d1:((u++Mv.box k a b::v).map mvD).take (u.length:Int).toNat=u.map mvD:=by
    rw[yE,<- Yb,List.take_left'];rfl
   have d2:((u++Mv.box k a b::v).map mvD).drop ((u.length:Int)+1).toNat=v.map mvD:=by
    rw[show ((u.length:Int)+1).toNat=u.length+1 by omega,<- ZZ,List.drop_append,ZE ∅,show u.length+1-u.length=1 by omega];rfl
   rw[d1]at c1;rw[d2]at c2;have ct:=qfk k a b p;have a1:WD (.lst (u.map mvD)) (.lst [mvD (.box k a p),mvD (.box k p b)])=some (.fr ((u++[Mv.box k a p,Mv.box k p b]).map mvD)):=by
    rw[q64 (by rw[zB,zD,zD,yR];omega),zY];rfl
   have a2:WD (.lst ((u++[Mv.box k a p,.box k p b]).map mvD)) (.lst (v.map mvD))=some (.fr ((u++[Mv.box k a p,Mv.box k p b]++v).map mvD)):=by
    rw[q64 (by rw[zB,zB,zC,zD,zD,yR];omega),<- zY]
   unfold qN;simp_arith[q,qed,c1,c2,ct,a1,a2];exact⟨_,rfl⟩)
 refine⟨w',?_⟩;have fm:(Mv.box k a b).frm=a:=rfl;simp_arith[qan,q5M,fm,hf,decide_true,e]
theorem qfs{ms:List Mv}{K R:List Int}(hl:ms.length<=1500)(he:XR (WR ms)=K)(hk:K.length<64)(hx:∃m∈ms,m.frm∈R/\∃p∈K,p∉R/\amB p m=true)(hbx:∀m∈ms,∀p∈K,amB p m=true->∃k a b,m=.box k a b):
  ∃u k a b p v,ms=u++Mv.box k a b::v/\a∈R/\p∈K/\p∉R/\amB p (.box k a b)=true/\qG [.lst (ms.map mvD),.lst (R.map D.int)]=some (.fr ((u++[Mv.box k a p,Mv.box k p b]++v).map mvD)):=by
 have hx':∃m∈ms,(decide (m.frm∈R)&&(K.filter λy=>!decide (y∈R)).any λp=>amB p m)=true:=by
  obtain⟨m,hm,h1,p,hp,h2,h3⟩:=hx;refine⟨m,hm,?_⟩;rw[zS,decide_eq_true_eq,YG];exact⟨h1,p,xa.mpr ⟨hp,by simp[h2]⟩,h3⟩
 obtain⟨u,m,v,e1,pm,hu⟩:=q3c _ hx';rw[zS,decide_eq_true_eq,YG]at pm;obtain⟨ap1,p,ap2,e2,pp,hap⟩:=q3c (λp=>amB p m) pm.2;have hp:p∈K.filter λy=>!decide (y∈R):=by rw[e2];simp
 obtain⟨pK,pR⟩:=xa.mp hp;have pR':p∉R:=by simpa using pR
 obtain⟨k,a,b,rfl⟩:=hbx m (by rw[e1];simp) p pK pp;refine⟨u,k,a,b,p,v,e1,pm.1,pK,pR',pp,?_⟩;have ee:=q3s hl (by rw[he];exact hk);rw[he]at ee;have kl:(K.map D.int).length<=1000000:=by rw[zB];omega
 have cm:=q9n (K:=K) (R:=R);have en:=q8u ms 0;have hl':=hl;rw[e1]at hl';obtain⟨w',e⟩:=q3H (g:=gT 2 (Yu (gN 3) (Yu (gN 4) Xz))) (b:=qz) (r:=.fr ((u++[Mv.box k a p,Mv.box k p b]++v).map mvD)) enMD
  (λω=>∃x3 x4 x5:Option W,ω=[↥(.lst (ms.map mvD)),↥(.lst (R.map D.int)),↥(.lst ((K.filter λy=>!decide (y∈R)).map D.int)),x3,x4,x5])
  (enM 0 u) (0+u.length,.box k a b) (enM (0+u.length+1) v) _ ⟨none,none,none,rfl⟩
  (λq hq ω ⟨x3,x4,x5,hω⟩=>by
   subst hω;refine⟨_,rfl,?_⟩;refine qei (n:=q.1) (m:=q.2) λ⟨z1,p',z2,z3⟩=>?_;have:=hu q.2 (qa0 hq);rw[Bool.and_eq_false_iff]at this;rcases this with t|t
   ·exact vL z1 ⇑t
   ·rw[Zr]at t
    exact t p' z2 z3)
  (λω ⟨x3,x4,x5,hω⟩=>by
   subst hω;obtain⟨w',y⟩:=qgo (u:=u) (v:=v) (R:=R) (ap1:=ap1) (ap2:=ap2) (k:=k) (a:=a) (b:=b) (p:=p) (x5:=x5) hl' pm.1 hap pp;refine⟨_,rfl,w',?_⟩;rw[<- e1,<- e2]at y;show qz [↥(.lst (ms.map mvD)),↥(.lst (R.map D.int)),↥(.lst ((K.filter λy=>!decide (y∈R)).map D.int)),↥(.int ((0+u.length:Nat):Int)),↥(mvD (.box k a b)),x5]=_;rw[yj];exact y)
 rw[<- q9R,<- e1]at e;unfold qG q0W;simp_arith[ee,Wf kl,inW,W8,cm,en,e]
theorem qfy{ms:List Mv}{K R:List Int}(hl:ms.length<=1500)(he:XR (WR ms)=K)(hk:K.length<64)(hx:∀p∈K,p∈R):
  qG [.lst (ms.map mvD),.lst (R.map D.int)]=↥(.lst (ms.map mvD)):=by
 have ee:=q3s hl (by rw[he];exact hk);rw[he]at ee;have kl:(K.map D.int).length<=1000000:=by rw[zB];omega
 have cm:=q9n (K:=K) (R:=R);have nf:(K.filter λy=>!decide (y∈R))=[]:=List.filter_eq_nil_iff.mpr λy hy=>by simp[hx y hy]
 rw[nf,yw]at cm;have en:=q8u ms 0;obtain⟨ω',e,x3,x4,x5,rfl⟩:=q0h (g:=gT 2 (Yu (gN 3) (Yu (gN 4) Xz))) (b:=qz) enMD (enM 0 ms)
  (λ_ ω=>∃x3 x4 x5:Option W,ω=[↥(.lst (ms.map mvD)),↥(.lst (R.map D.int)),↥(.lst []),x3,x4,x5])
  (λpre q post ω hd ⟨x3,x4,x5,hω⟩=>by
   subst hω;exact⟨_,rfl,qei (ap:=[]) (n:=q.1) (m:=q.2) λ⟨_,p',z2,_⟩=>by cases z2⟩)
  (ω:=[↥(.lst (ms.map mvD)),↥(.lst (R.map D.int)),↥(.lst []),none,none,none]) ⟨none,none,none,rfl⟩
 unfold qG q0W;simp_arith[ee,Wf kl,inW,W8,cm,en,e]
theorem qcj{fc:FT}{fb:FS}(I:Nat->WSt->Prop)(J:WSt->Prop)(stop:∀n ω,I n ω->fc ω=some false->J ω)(turn:∀n ω,I n ω->∃k,fc ω=some k/\(k=true->∃ω',fb ω=some (.nx,ω')/\∃m,m<n/\I m ω')):
  ∀(N n:Nat)(ω:WSt),I n ω->n<N->∃ω',sWh N fc fb ω=some (.nx,ω')/\J ω'
 | 0,_,_,_,z=>vL z (xO _)
 | N+1,n,ω,h,z=>by
  obtain⟨k,e,t⟩:=turn n ω h;show ∃ω',((fc ω).bind _)=_/\_;rw[e];cases k with
  | false=>exact⟨ω,rfl,stop n ω h e⟩
  | true=>
   obtain⟨w,e2,m,hm,im⟩:=t rfl;rw[show ∀(f:Bool->Option (Out×WSt)),(some true).bind f=f true from λ_=>rfl,vC rfl,e2];exact qcj I J stop turn N m w im ∅
theorem Rch.sub{es fs:List (Int×Int)}(h:∀e∈es,Rch fs e.1 e.2){a c:Int}(r:Rch es a c):Rch fs a c:=by
 induction r with
 | refl=>exact .refl
 | step _ e ih=>
  rcases e with e|e
  ·exact ih.trans (h _ e)
  ·exact ih.trans (h _ e).symm
theorem q6r{u v:List Mv}{k:Nat}{a b p g y:Int}(r:Rch ((u++Mv.box k a b::v).map Xl) g y):Rch ((u++[Mv.box k a p,Mv.box k p b]++v).map Xl) g y:=by
 refine r.sub λe he=>?_;obtain⟨m,hm,rfl⟩:=ya.mp he;have hin:∀m',m'∈u++[Mv.box k a p,Mv.box k p b]++v->Rch ((u++[Mv.box k a p,Mv.box k p b]++v).map Xl) m'.frm m'.to:=λm' h=>Rch.refl.step (.inl (ya.mpr ⟨m',h,rfl⟩));rcases zT.mp hm with q|q
 ·exact hin m (by simp[q])
 ·rcases zG.mp q with rfl|q
  ·exact(hin (.box k a p) (by simp)).trans (hin (.box k p b) (by simp))
  ·exact hin m (by simp[q])
theorem qfv{u v:List Mv}{k:Nat}{a b p y:Int}(h:y∈WR (u++Mv.box k a b::v)):y∈WR (u++[Mv.box k a p,Mv.box k p b]++v):=by
 obtain⟨m,hm,q⟩:=q0V.mp h;rcases zT.mp hm with z|z
 ·exact q0V.mpr ⟨m,by simp[z],q⟩
 ·rcases zG.mp z with rfl|z
  ·rcases q with q|q
   ·exact q0V.mpr ⟨.box k a p,by simp,.inl q⟩
   ·exact q0V.mpr ⟨.box k p b,by simp,.inr q⟩
  ·exact q0V.mpr ⟨m,by simp[z],q⟩
theorem Ym.ends{g:Int}{bs:List (Int×Int)}{ms:List Mv}(Y:Ym g bs ms)(E:∀y∈knw g bs,y∈WR ms):XR (WR ms)=knw g bs:=q62 q0t (q1S g bs) λy=>by
 rw[q2O];refine⟨λh=>?_,E y⟩;obtain⟨m,hm,q|q⟩:=q0V.mp h
 ·rw[q];exact(Y.inn m hm).1
 ·rw[q];exact(Y.inn m hm).2.1
theorem q5A{α:Type}{P Q:α->Bool}:∀{l:List α},(∀x∈l,Q x=true->P x=true)->(∃x∈l,P x=true/\Q x=false)->l.countP Q<l.countP P
 | [],_,⟨x,hx,_⟩=>by cases hx
 | a::l,h,⟨x,hx,p1,p2⟩=>by
  have hl:∀x∈l,Q x=true->P x=true:=λx hx=>h x (zH _ hx);rw[zi,zi];rcases zG.mp hx with rfl|hx
  ·have:=List.countP_mono_left (l:=l) (p:=Q) (q:=P) hl
   rw[vC p1,vF (by rw[p2];decide)];omega
  ·have ih:=q5A (P:=P) (Q:=Q) (l:=l) hl ⟨x,hx,p1,p2⟩
   have ha:=h a zI
   by_cases q:Q a=true
   ·rw[vC q,vC (ha q)];omega
   ·rw[vF q];omega
theorem q9Q{R K:List Int}(nR:R.Nodup)(s:∀c∈R,c∈K)(l:¬R.length<K.length):∀y∈K,y∈R:=λy hy=>Classical.byContradiction λn=>by
 have:=q1j (F:=y::R) (ts:=K) (xC.mpr ⟨n,nR⟩) λc hc=>(zG.mp hc).elim (λe=>e▸hy) (s c);rw[zD]at this;omega
open Classical in
noncomputable def unR(g:Int)(bs:List (Int×Int))(ms:List Mv):Nat:=(knw g bs).countP (λy=>decide (¬Rch (ms.map Xl) g y))
theorem qcE(g:Int)(bs:List (Int×Int))(ms:List Mv):unR g bs ms<=(knw g bs).length:=xL
open Classical in
theorem qfQ{g:Int}{bs:List (Int×Int)}{u v:List Mv}{k:Nat}{a b p:Int}(hp:p∈knw g bs)(ra:Rch ((u++Mv.box k a b::v).map Xl) g a)(rp:¬Rch ((u++Mv.box k a b::v).map Xl) g p):unR g bs (u++[Mv.box k a p,Mv.box k p b]++v)<unR g bs (u++Mv.box k a b::v):=by
 unfold unR;refine q5A (λy _ q=>?_) ⟨p,hp,vQ rp,vW λn=>n ?_⟩
 ·exact vQ λr=>of_decide_eq_true q (q6r r)
 ·exact(q6r ra).step (.inl (ya.mpr ⟨.box k a p,by simp,rfl⟩))
theorem qcT(g:Int)(bs:List (Int×Int)):(knw g bs).Nodup:=(q1S g bs).imp λh=>Int.ne_of_lt h
theorem qeQ{g:Int}{bs:List (Int×Int)}(hk:(knw g bs).length<=22)(h:∀b∈bs,g<=b.1/\g<=b.2)(Φ:List Mv->Prop)(cut:∀u k a b p v,Ym g bs (u++Mv.box k a b::v)->Φ (u++Mv.box k a b::v)->((a<p/\p<b)\/(b<p/\p<a))->p∈knw g bs->Rch ((u++Mv.box k a b::v).map Xl) g a->¬Rch ((u++Mv.box k a b::v).map Xl) g p->Φ (u++[Mv.box k a p,Mv.box k p b]++v)){ms0:List Mv}(Y0:Ym g bs ms0)(E0:∀y∈knw g bs,y∈WR ms0)(l0:ms0.length<=900)(f0:Φ ms0):
  ∃ms,qF [.int g,.lst (ms0.map mvD)]=↥(.lst (ms.map mvD))/\Ym g bs ms/\Φ ms/\(∀y∈knw g bs,Rch (ms.map Xl) g y)/\ms.length<=ms0.length+2*(knw g bs).length+1:=by
 have K0:g∈knw g bs:=ql.mpr (.inl rfl);have nd:=qcT g bs;have e0:=q3s (ms:=ms0) ∅ (by rw[Y0.ends E0];omega);rw[Y0.ends E0]at e0;obtain⟨ω',e,ms,R,rfl,Y,F,al,ll⟩:=qcj (fc:=qX) (fb:=q0x)
  (λn ω=>∃(ms:List Mv) (R:List Int),ω=[↥(.int g),↥(.lst (ms.map mvD)),↥(.lst ((knw g bs).map D.int)),↥(.lst (R.map D.int))]/\Ym g bs ms/\(∀y∈knw g bs,y∈WR ms)/\Φ ms/\ms.length+n<=ms0.length+2*(knw g bs).length+1/\(¬R.length<(knw g bs).length->∀y∈knw g bs,Rch (ms.map Xl) g y)/\n=2*unR g bs ms+(if R.length<(knw g bs).length then 1 else 0))
  (λω=>∃(ms:List Mv) (R:List Int),ω=[↥(.int g),↥(.lst (ms.map mvD)),↥(.lst ((knw g bs).map D.int)),↥(.lst (R.map D.int))]/\Ym g bs ms/\Φ ms/\(∀y∈knw g bs,Rch (ms.map Xl) g y)/\ms.length<=ms0.length+2*(knw g bs).length+1)
  (λn ω ⟨ms,R,hω,Y,E,F,ll,fu,hn⟩ hf=>by
   subst hω;unfold qX at hf;simp -implicitDefEqProofs only[q57,q5J,q7V,q6t,q6H,q87,qaU,qal,qb9,q6w,q6u,e_cw,qak,qad,qaF,e_dp,qba,e_sp,qb5,qb0,qbk,qaY,qb1,qaK,qbv,qaG,qbc,qar,qaD,q7S,q5V,Xw,eq_self,wy,wS,wT,reduceCtorEq,q8j,q8G,q6A,e_wd,q7G,e_wz,q5Y,qaw,q7M,q8H,qay,qbz,qbp,q90,qaS,q6d,q6x,q7F,qaN,qas,qap,q4q,q5X,qx,q4p,q6e,qai,qaW,q63,q6q,e_if,q84,q8h,qb2,q6g,q61,q5w,q4F,qbw,zCw,qbu,q5n,q3m,q6D,q6o,qbh,e_fs,qaV,q6v,q5Z,e_c,e_e,e_ed,e_d,q5U,q6I,e_v,q6k,q69,q6K,e_op,e_o2,q83,e_cl,q67,q6y,e_ac,e_ca,e_an,qaA,qaz,qbA,e_bl,qaO,e_sl,e_po,e_pa,e_ap,qao,q3Z,q42,e_t,e_tr,qax,qaJ,e_to,qbD,q8R,e_tn,q8D,q6f,q4V,q8I,e_va,qat,qaQ,e_vo,q7B,q8B,q8E,qaL,q8z,Wf,qau,e_ng,q6j,q6b,q6E,q4K,q8a,q7U,q6i,q8N,q7X,q8f,q6c,q68,qb7,qam,qbm,at0,at1,at2,q2j,q4y,zBk,entry,yN,yi,zD,yR,zB,zX,yw,wL,xD,yG,xq,wA,wB,wC,xX,Za,Zb,Z6,Z7,Z8,Zc,Zd,Ze,Zf,Zg,Zh,wO,Zi,ZJ,↓reduceIte,Zj,Zk,wU,wo,xi,ZC,wk,ZD,wM,ZR,yj,beq_self_eq_true,yc]at hf;have hf':decide ((R.length:Int)<((knw g bs).length:Int))=false:=zc hf;have:¬R.length<(knw g bs).length:=λz=>by
    have:=of_decide_eq_false hf';omega
   exact⟨ms,R,rfl,Y,F,fu this,∅⟩)
  (λn ω ⟨ms,R,hω,Y,E,F,ll,fu,hn⟩=>by
   subst hω;refine⟨decide ((R.length:Int)<((knw g bs).length:Int)),?_,λhk2=>?_⟩
   ·unfold qX
    simp_arith[qx]
   ·have lt:R.length<(knw g bs).length:=by have:=of_decide_eq_true hk2;omega
    rw[vC lt]at hn;have ok:Ok (knw g bs) (ms.map Xl):=⟨nd,λe he=>by obtain⟨m,hm,rfl⟩:=ya.mp he;exact⟨(Y.inn m hm).1,(Y.inn m hm).2.1⟩,∅,by rw[zB];omega⟩;have ha:=q9p (ms:=ms) ∅;have hn2:=q7r ok;obtain⟨F',hg,nF,mF⟩:=q9l ok K0;have mem:∀y,y∈Y7 F'↔Rch (ms.map Xl) g y:=λy=>by rw[(qI (l:=F')).mem_iff,mF]
    have nR:(Y7 F').Nodup:=(qI (l:=F')).nodup_iff.mpr nF;have sR:∀c∈Y7 F',c∈knw g bs:=λc hc=>((mem c).mp hc).mem ok K0;have se:=Y.ends E;unfold q0x
    by_cases all:∀y∈knw g bs,Rch (ms.map Xl) g y
    ·have wc:=qfy (ms:=ms) (K:=knw g bs) (R:=Y7 F') ∅ se ∅ λp hp=>(mem p).mpr (all p hp)
     simp_arith[ha,hn2,hg,wc];refine⟨_,rfl,2*unR g bs ms,∅,ms,Y7 F',rfl,Y,E,F,∅,λ_=>all,?_⟩;have:=q1j nd (λc hc=>(mem c).mpr (all c hc));rw[vF ∅,Nat.add_zero]
    ·obtain⟨y,hy,ny⟩:∃y∈knw g bs,¬Rch (ms.map Xl) g y:=Classical.byContradiction λz=>all λy hy=>Classical.byContradiction λn=>z ⟨y,hy,n⟩
     obtain⟨m,hm,p,hp,r1,r2,am⟩:=Y.more h hy ny;obtain⟨u,k,a,b,p,v,e1,aR,pK,pR,amp,wc⟩:=qfs (ms:=ms) (K:=knw g bs) (R:=Y7 F') ∅ se ∅ ⟨m,hm,(mem _).mpr r1,p,hp,λz=>r2 ((mem p).mp z),q5T.mpr am⟩ (λm hm p hp am=>by
      cases m with
      | box k a b=>exact⟨k,a,b,rfl⟩
      | go a b=>
       have g1:=Y.go (.go a b) hm ⟨a,b,rfl⟩ p hp;have g2:=q5T.mp am;simp only[Mv.frm,Mv.to]at g1 g2;omega)
     have amp':=q5T.mp amp;simp only[Mv.frm,Mv.to]at amp';have ra:=(mem a).mp aR;have rp:¬Rch (ms.map Xl) g p:=λz=>pR ((mem p).mpr z);simp_arith[ha,hn2,hg,wc];clear ha hn2 hg wc ok;subst e1;have Y':=Y.cut pK amp';have F2:=cut u k a b p v Y F amp' pK ra rp;have cl:=qfQ (bs:=bs) pK ra rp;have le:(u++[Mv.box k a p,Mv.box k p b]++v).length=(u++Mv.box k a b::v).length+1:=by
      rw[zC,zC,zC,zD,zD,zD,yR];omega
     have i1:(if (Y7 F').length<(knw g bs).length then 1 else 0)<=1:=by split <;> omega
     refine⟨_,rfl,2*unR g bs (u++[Mv.box k a p,Mv.box k p b]++v)+(if (Y7 F').length<(knw g bs).length then 1 else 0),∅,_,Y7 F',rfl,Y',λy hy=>qfv (E y hy),F2,∅,λz y hy=>?_,rfl⟩;exact q6r ((mem y).mp (q9Q nR sR z y hy)))
  1000000 (2*unR g bs ms0+(if [g].length<(knw g bs).length then 1 else 0))
  [↥(.int g),↥(.lst (ms0.map mvD)),↥(.lst ((knw g bs).map D.int)),↥(.lst [.int g])]
  ⟨ms0,[g],rfl,Y0,E0,f0,by have:=qcE g bs ms0;split <;> omega,λz y hy=>by
   have:=q9Q (R:=[g]) (K:=knw g bs) (by simp) (λc hc=>by rw[za.mp hc];exact K0) z y hy;rw[za.mp this];exact .refl,rfl⟩
  (by have:=qcE g bs ms0;split <;> omega)
 refine⟨ms,?_,Y,F,al,ll⟩;unfold qF q0H;simp_arith[e0,e]
noncomputable def sts(as:List (Int×Int)):List Int:=as.map (·.1)
noncomputable def gls(as:List (Int×Int)):List Int:=as.map (·.2)
theorem qeL{as:List (Int×Int)}(hl:as.length<=9000):qA [.lst (as.map pairD2)]=↥(.bl (decide ((sts as).Perm (gls as)))):=by
 unfold qA q0e;have hl2:(as.map pairD2).length<=1000000:=by rw[zB];omega
 have c1:=q0u (i:=0) (f:=qY) pairD2 (λp=>D.int p.1) as (ω:=[none]) (λp _=>by
  unfold qY pairD2;simp_arith[qx])
 have c2:=q0u (i:=0) (f:=qZ) pairD2 (λp=>D.int p.2) as (ω:=[none]) (λp _=>by
  unfold qZ pairD2;simp_arith[qx])
 have e1:(as.map λp=>D.int p.1)=(sts as).map D.int:=by unfold sts;rw[yk];rfl
 have e2:(as.map λp=>D.int p.2)=(gls as).map D.int:=by unfold gls;rw[yk];rfl
 rw[e1]at c1;rw[e2]at c2;have s1:=q5J (ns:=sts as) (by unfold sts;rw[zB];omega);have s2:=q5J (ns:=gls as) (by unfold gls;rw[zB];omega);have q:oEq false (.lst ((Y7 (sts as)).map D.int)) (.lst ((Y7 (gls as)).map D.int))=↥(.bl (decide ((sts as).Perm (gls as)))):=by
  rw[q8t,decide_eq_decide.mpr (qdJ (l:=sts as) (m:=gls as))]
 simp_arith[Wf hl2,inW,W8,c1,c2,s1,s2,q]
noncomputable def Xa(as:List (Int×Int))(n:Nat):Int:=(as.getD n (0,0)).1
noncomputable def zAD(as:List (Int×Int))(n:Nat):Int:=(as.getD n (0,0)).2
inductive Wlk (as:List (Int×Int)):Int->List Nat->Int->Prop where
 | nil (a:Int):Wlk as a [] a
 | cons {a b:Int} {n:Nat} {r:List Nat} (h:Xa as n=a) (t:Wlk as (zAD as n) r b):Wlk as a (n::r) b
theorem Wlk.app{as:List (Int×Int)}{a b c:Int}{r q:List Nat}(h:Wlk as a r b)(h':Wlk as b q c):Wlk as a (r++q) c:=by
 induction h with
 | nil _=>exact h'
 | cons e _ ih=>exact .cons e (ih h')
theorem Wlk.snoc{as:List (Int×Int)}{a b:Int}{r:List Nat}{n:Nat}(h:Wlk as a r b)(e:Xa as n=b):Wlk as a (r++[n]) (zAD as n):=h.app (.cons e (.nil _))
theorem Wlk.last{as:List (Int×Int)}:∀{r:List Nat}{a b:Int}{n:Nat},Wlk as a (r++[n]) b->b=zAD as n/\Wlk as a r (Xa as n)
 | [],a,b,n,h=>by
  cases h with
  | cons e t=>cases t;exact⟨rfl,by rw[<- e];exact .nil _⟩
 | m::r,a,b,n,h=>by
  cases h with
  | cons e t=>
   obtain⟨h1,h2⟩:=Wlk.last t;exact⟨h1,.cons e h2⟩
noncomputable def cS(as:List (Int×Int))(U:List Nat)(v:Int):Nat:=U.countP λn=>decide (Xa as n=v)
noncomputable def cD(as:List (Int×Int))(U:List Nat)(v:Int):Nat:=U.countP λn=>decide (zAD as n=v)
noncomputable def ind(v h:Int):Int:=if v=h then 1 else 0
def bal(as:List (Int×Int))(U:List Nat)(h x:Int):Prop:=∀v,(cS as U v:Int)-cD as U v=ind v h-ind v x
structure HI (as:List (Int×Int)) (s:Int) (U T B:List Nat) (h:Int):Prop where
 all:(U++(T++B)).Perm (zw as.length)
 inv:∃x T0 T1,T=T0++T1/\Wlk as s T0 x/\Wlk as x T1 h/\Wlk as x B.reverse s/\bal as U h x
 shut:∀n∈B,∀m∈U,Xa as m≠zAD as n
theorem qfp{as:List (Int×Int)}{U U':List Nat}{n:Nat}(h:U.Perm (n::U'))(v:Int):cS as U v=cS as U' v+if Xa as n=v then 1 else 0:=by
 unfold cS;rw[h.countP_eq,zi];simp
theorem qeK{as:List (Int×Int)}{U U':List Nat}{n:Nat}(h:U.Perm (n::U'))(v:Int):cD as U v=cD as U' v+if zAD as n=v then 1 else 0:=by
 unfold cD;rw[h.countP_eq,zi];simp
theorem HI.start{as:List (Int×Int)}{s:Int}{U:List Nat}(hU:U.Perm (zw as.length))(hb:∀v,cS as U v=cD as U v):HI as s U [] [] s :=
 ⟨by simpa using hU,⟨s,[],[],rfl,.nil _,.nil _,.nil _,λv=>by rw[hb v];omega⟩,λn hn=>by cases hn⟩
theorem HI.push{as:List (Int×Int)}{s h:Int}{U U' T B:List Nat}{n:Nat}(I:HI as s U T B h)(hn:U.Perm (n::U'))(hs:Xa as n=h):HI as s U' (T++[n]) B (zAD as n):=by
 obtain⟨x,T0,T1,rfl,w0,w1,w2,b⟩:=I.inv;refine⟨?_,⟨x,T0,T1++[n],by rw[zP],w0,w1.snoc hs,w2,λv=>?_⟩,λk hk m hm=>I.shut k hk m (hn.mem_iff.mpr (zH _ hm))⟩
 ·refine yq ?_ I.all
  have h1:(U++((T0++T1)++B)).Perm ((n::U')++((T0++T1)++B)):=hn.append_right _;refine yq ?_ h1.symm;rw[zP (T0++T1) [n] B];have h2:(U'++((T0++T1)++([n]++B))).Perm (U'++([n]++((T0++T1)++B))):=yI _ (by
   rw[<- zP,<- zP];exact yp _ yr)
  refine h2.trans ?_;show (U'++(n::((T0++T1)++B))).Perm (n::(U'++((T0++T1)++B)));exact YD
 ·have:=b v
  have e1:=qfp (as:=as) hn v;have e2:=qeK (as:=as) hn v;unfold ind at this ⊢;rw[hs]at e1
  by_cases z1:v=h <;> by_cases z2:v=zAD as n
  ·rw[vC z1.symm]at e1;rw[vC z2.symm]at e2;rw[vC z1]at this;rw[vC z2];omega
  ·rw[vC z1.symm]at e1;rw[vF (λq=>z2 q.symm)]at e2;rw[vC z1]at this;rw[vF z2];omega
  ·rw[vF (λq=>z1 q.symm)]at e1;rw[vC z2.symm]at e2;rw[vF z1]at this;rw[vC z2];omega
  ·rw[vF (λq=>z1 q.symm)]at e1;rw[vF (λq=>z2 q.symm)]at e2;rw[vF z1]at this;rw[vF z2];omega
theorem q9V{as:List (Int×Int)}{U:List Nat}{v:Int}(h:∀m∈U,Xa as m≠v):cS as U v=0:=by
 unfold cS;rw[xF];intro m hm;simpa using h m hm
theorem stuck{as:List (Int×Int)}{U:List Nat}{h x:Int}(b:bal as U h x)(hs:∀m∈U,Xa as m≠h):h=x:=by
 have:=b h;rw[q9V hs]at this;unfold ind at this;rw[vC rfl]at this
 by_cases z:h=x
 ·exact z
 ·rw[vF z]at this;omega
theorem HI.pop{as:List (Int×Int)}{s h:Int}{U T B:List Nat}{n:Nat}(I:HI as s U (T++[n]) B h)(hs:∀m∈U,Xa as m≠h):HI as s U T (B++[n]) (Xa as n):=by
 obtain⟨x,T0,T1,e,w0,w1,w2,b⟩:=I.inv;have hx:=stuck b hs;subst hx;have w:Wlk as s (T++[n]) h:=by rw[e];exact w0.app w1
 obtain⟨e1,e2⟩:=w.last;refine⟨?_,⟨Xa as n,T,[],by rw[yJ],e2,.nil _,?_,λv=>by have:=b v;omega⟩,λk hk m hm=>?_⟩
 ·refine yq (yI _ ?_) I.all
  rw[zP];exact yI _ yr
 ·rw[xV]
  exact .cons rfl (by rw[<- e1];exact w2)
 ·rcases zT.mp hk with y|y
  ·exact I.shut k y m hm
  ·cases za.mp y
   rw[<- e1];exact hs m hm
structure Rnd (as:List (Int×Int)) (s:Int) (row U:List Nat):Prop where
 all:(U++row).Perm (zw as.length)
 walk:Wlk as s row s
 s0:∀m∈U,Xa as m≠s
 shut:∀n∈row,∀m∈U,Xa as m≠zAD as n
 even:∀v,cS as U v=cD as U v
theorem HI.done{as:List (Int×Int)}{s h:Int}{U B:List Nat}(I:HI as s U [] B h)(hs:∀m∈U,Xa as m≠h):Rnd as s B.reverse U:=by
 obtain⟨x,T0,T1,e,w0,w1,w2,b⟩:=I.inv;obtain⟨rfl,rfl⟩:=List.append_eq_nil_iff.mp e.symm;cases w0;cases w1;refine⟨?_,w2,hs,λn hn=>I.shut n (yY.mp hn),λv=>by have:=b v;omega⟩;have:=I.all;rw[xD]at this;exact(yI _ (List.reverse_perm B)).trans this
theorem Wlk.mem{as:List (Int×Int)}{V:Int->Prop}:∀{r:List Nat}{a b:Int},Wlk as a r b->V a->(∀n∈r,V (zAD as n))->∀n∈r,V (Xa as n)
 | [],_,_,_,_,_,n,hn=>by cases hn
 | m::r,a,b,h,ha,hv,n,hn=>by
  cases h with
  | cons e t=>
   rcases zG.mp hn with rfl|hn
   ·rw[e];exact ha
   ·exact t.mem (hv m zI) (λk hk=>hv k (zH _ hk)) n hn
theorem Rnd.full{as:List (Int×Int)}{s:Int}{row U:List Nat}(R:Rnd as s row U)(hr:∀a∈as,Rch as s a.1):row.length=as.length:=by
 have hU:U=[]:=by
  cases U with
  | nil=>rfl
  | cons m U'=>
   exfalso
   let V:Int->Prop:=λv=>v=s\/∃n∈row,zAD as n=v
   have out:∀v,V v->∀k∈m::U',Xa as k≠v:=λv hv k hk=>by
    rcases hv with rfl|⟨n,hn,rfl⟩
    ·exact R.s0 k hk
    ·exact R.shut n hn k hk
   have inn:∀v,V v->∀k∈m::U',zAD as k≠v:=λv hv k hk e=>by
    have h1:=q9V (as:=as) (out v hv);have h2:=R.even v;rw[h1]at h2;have:cD as (m::U') v=0:=h2.symm;unfold cD at this;rw[xF]at this;exact this k hk ⇑e
   have row_of:∀(n:Nat),n<as.length->(V (Xa as n)\/V (zAD as n))->n∈row:=λn hn hv=>by
    have:n∈(m::U')++row:=R.all.mem_iff.mpr (xW.mpr hn);rcases zT.mp this with y|y
    ·rcases hv with hv|hv
     ·exact vL rfl (out _ hv n y)
     ·exact vL rfl (inn _ hv n y)
    ·exact y
   have sv:∀n∈row,V (Xa as n):=R.walk.mem (V:=V) (.inl rfl) λn hn=>.inr ⟨n,hn,rfl⟩;have cl:∀c,Rch as s c->V c:=λc h=>h.inv V (.inl rfl) λb c hb e=>by
    rcases e with e|e
    ·obtain⟨n,hn,he⟩:=zy.mp e
     have es:Xa as n=b/\zAD as n=c:=by
      unfold Xa zAD;rw[zU,zE hn,he];exact⟨rfl,rfl⟩
     exact .inr ⟨n,row_of n hn (.inl (by rw[es.1];exact hb)),es.2⟩
    ·obtain⟨n,hn,he⟩:=zy.mp e
     have es:Xa as n=c/\zAD as n=b:=by
      unfold Xa zAD;rw[zU,zE hn,he];exact⟨rfl,rfl⟩
     rw[<- es.1];exact sv n (row_of n hn (.inr (by rw[es.2];exact hb)))
   have hm:m<as.length:=xW.mp (R.all.mem_iff.mp (by simp));have hrm:=hr _ (yu hm);have es:Xa as m=(as[m]).1:=by unfold Xa;rw[zU,zE hm];rfl
   exact out _ (cl _ (by rw[<- es]at hrm;exact hrm)) m zI rfl
 have:=R.all.length_eq;rw[hU,xD,zx]at this;exact this
noncomputable def cst(l:List Nat):List Int:=l.map λ(n:Nat)=>(n:Int)
structure WT (as:List (Int×Int)) (ks:List Int) (xss:List (List Int)) (U:List Nat):Prop where
 len:ks.length=xss.length
 nd:U.Nodup
 mem:∀(v k:Int),k∈Xm ks xss v↔∃n:Nat,k=n/\n∈U/\Xa as n=v
 gn:∀v,(Xm ks xss v).Nodup
theorem q40:∀{ks:List Int}{xss:List (List Int)}(h v:Int),ks.length=xss.length->Xm ks (X5 ks xss h) v=if v=h then (Xm ks xss h).dropLast else Xm ks xss v
 | [],[],h,v,_=>by
  show ([]:List Int)=if v=h then ([]:List Int).dropLast else []
  split <;> rfl
 | [],_::_,_,_,hl=>by simp at hl
 | _::_,[],_,_,hl=>by simp at hl
 | k::ks,x::xss,h,v,hl=>by
  have ih:=q40 (ks:=ks) (xss:=xss) h v ⇑hl;unfold Xm at ih ⊢;show (Y4 (k::ks) (if k=h then x.dropLast::xss else x::X5 ks xss h) v).getD []=if v=h then ((if k=h then some x else Y4 ks xss h).getD []).dropLast else (if k=v then some x else Y4 ks xss v).getD []
  by_cases z:k=h
  ·rw[vC z,vC z]
   show (if k=v then some x.dropLast else Y4 ks xss v).getD []=_
   by_cases y:k=v
   ·rw[vC y,vC (by rw[<- y,z])];rfl
   ·rw[vF y,vF (λe=>y (by rw[z,e])),vF y]
  ·rw[vF z,vF z]
   show (if k=v then some x else Y4 ks (X5 ks xss h) v).getD []=_
   by_cases y:k=v
   ·rw[vC y,vF (λe=>z (by rw[y,e])),vC y]
   ·rw[vF y,ih,vF y]
theorem q70:∀(ks:List Int)(xss:List (List Int))(h:Int),(X5 ks xss h).length=xss.length
 | [],_,_=>rfl
 | _::_,[],_=>rfl
 | k::ks,x::xss,h=>by
  show (if k=h then x.dropLast::xss else x::X5 ks xss h).length=_
  split
  ·rfl
  ·rw[zD,q70,zD]
theorem q7E{l:List Int}{k a:Int}(nd:l.Nodup)(e:l.getLast?=some k):a∈l.dropLast↔a∈l/\a≠k:=by
 have hl:l=l.dropLast++[k]:=by
  have hne:l≠[]:=λz=>by rw[z]at e;cases e
  have:=wR hne;rw[List.getLast?_eq_getLast hne]at e;rw[zc e]at this;exact this.symm
 rw[hl]at nd;have nd':=wg.mp nd
 constructor
 ·intro h
  exact⟨by rw[hl];exact zu _ h,λz=>nd'.2.2 a h k (by simp) z⟩
 ·rintro⟨h1,h2⟩
  rw[hl]at h1;rcases zT.mp h1 with y|y
  ·exact y
  ·exact vL (za.mp y) h2
theorem WT.pop{as:List (Int×Int)}{ks:List Int}{xss:List (List Int)}{U:List Nat}(W:WT as ks xss U){h:Int}{m:Nat}(e:(Xm ks xss h).getLast?=some (m:Int)):WT as ks (X5 ks xss h) (U.erase m):=by
 have hm:(m:Int)∈Xm ks xss h:=ZS e;obtain⟨n,en,hn,hs⟩:=(W.mem h m).mp hm;have:n=m:=∅
 subst this;refine⟨by rw[q70];exact W.len,W.nd.erase _,λv k=>?_,λv=>?_⟩
 ·rw[q40 h v W.len]
  by_cases z:v=h
  ·rw[vC z,q7E (W.gn h) e,W.mem h]
   constructor
   ·rintro⟨⟨n',rfl,h1,h2⟩,h3⟩
    exact⟨n',rfl,(W.nd.mem_erase_iff).mpr ⟨λq=>h3 (by rw[q]),h1⟩,by rw[z];exact h2⟩
   ·rintro⟨n',rfl,h1,h2⟩
    obtain⟨a,b⟩:=(W.nd.mem_erase_iff).mp h1;exact⟨⟨n',rfl,b,by rw[<- z];exact h2⟩,λq=>a ∅⟩
  ·rw[vF z,W.mem v]
   constructor
   ·rintro⟨n',rfl,h1,h2⟩
    exact⟨n',rfl,(W.nd.mem_erase_iff).mpr ⟨λq=>z (by rw[<- h2,q,hs]),h1⟩,h2⟩
   ·rintro⟨n',rfl,h1,h2⟩
    exact⟨n',rfl,((W.nd.mem_erase_iff).mp h1).2,h2⟩
 ·rw[q40 h v W.len]
  split
  ·exact(W.gn h).sublist (List.dropLast_sublist _)
  ·exact W.gn v
theorem qa7{as:List (Int×Int)}{m:Nat}:(as.getD ((m:Int)).toNat (0,0)).1=Xa as m/\(as.getD ((m:Int)).toNat (0,0)).2=zAD as m:=by
 rw[yE];exact⟨rfl,rfl⟩
theorem q8Y{as:List (Int×Int)}{s:Int}(hl:as.length<=9000){ks:List Int}:∀(n:Nat)(xss:List (List Int))(U T B:List Nat)(h:Int),HI as s U T B h->WT as ks xss U->2*U.length+T.length<n ->
  ∃row U',Xv as ks n xss (cst T) (cst B) h=some (cst row)/\Rnd as s row U'
 | 0,_,_,_,_,_,_,_,hn=>vL hn (xO _)
 | n+1,xss,U,T,B,h,I,W,hn=>by
  have tot:U.length+(T.length+B.length)=as.length:=by
   have:=I.all.length_eq;rw[zC,zC,zx]at this;exact this
  unfold Xv;cases e:(Xm ks xss h).getLast? with
  | some k=>
   obtain⟨m,rfl,hm,hs⟩:=(W.mem h k).mp (ZS e);have hlt:m<as.length:=xW.mp (I.all.mem_iff.mp (zu _ hm));have pm:=List.perm_cons_erase hm;have I':=I.push pm hs;have ul:U.length=(U.erase m).length+1:=by have:=pm.length_eq;rw[zD]at this;exact this
   obtain⟨row,U',r1,r2⟩:=q8Y hl n (X5 ks xss h) (U.erase m) (T++[m]) B _ I' (W.pop e) (by rw[zC,zk];omega);refine⟨row,U',?_,r2⟩;show (if 0<=(m:Int)/\(m:Int)<as.length/\(cst T).length<1000000 then Xv as ks n (X5 ks xss h) (cst T++[(m:Int)]) (cst B) (as.getD ((m:Int)).toNat (0,0)).2 else none)=_;rw[vC ⟨∅,∅,by unfold cst;rw[zB];omega⟩,qa7.2];rw[show cst T++[(m:Int)]=cst (T++[m]) by unfold cst;rw[zY];rfl];exact r1
  | none=>
   have hem:Xm ks xss h=[]:=xo.mp e;have hs:∀m∈U,Xa as m≠h:=λm hm z=>by
    have:(m:Int)∈Xm ks xss h:=(W.mem h m).mpr ⟨m,rfl,hm,z⟩;rw[hem]at this;cases this
   rcases List.eq_nil_or_concat T with rfl|⟨T0,m,rfl⟩
   ·refine⟨B.reverse,U,?_,I.done hs⟩
    show some (cst B).reverse=_;unfold cst;rw[YE]
   ·rw[List.concat_eq_append]at I hn tot ⊢
    have hlt:m<as.length:=xW.mp (I.all.mem_iff.mp (zd _ (zu _ (by simp))));have I':=I.pop hs;rw[zC,zk]at hn tot;obtain⟨row,U',r1,r2⟩:=q8Y hl n xss U T0 (B++[m]) _ I' W ∅;refine⟨row,U',?_,r2⟩;have ec:cst (T0++[m])=cst T0++[(m:Int)]:=by unfold cst;rw[zY];rfl
    rw[ec];show (match (cst T0++[(m:Int)]).getLast? with
     | some k=>if 0<=k/\k<as.length/\(cst B).length<1000000 then Xv as ks n xss (cst T0++[(m:Int)]).dropLast (cst B++[k]) (as.getD k.toNat (0,0)).1 else none
     | none=>some (cst B).reverse)=_
    rw[List.getLast?_concat];show (if 0<=(m:Int)/\(m:Int)<as.length/\(cst B).length<1000000 then Xv as ks n xss (cst T0++[(m:Int)]).dropLast (cst B++[(m:Int)]) (as.getD ((m:Int)).toNat (0,0)).1 else none)=_;rw[vC ⟨∅,∅,by unfold cst;rw[zB];omega⟩,qa7.1,List.dropLast_concat];rw[show cst B++[(m:Int)]=cst (B++[m]) by unfold cst;rw[zY];rfl];exact r1
theorem q5h:∀{ks:List Int}{xss:List (List Int)}(a b v:Int),ks.length=xss.length->a∈ks->Xm ks (Wd ks xss a b) v=if v=a then Xm ks xss v++[b]else Xm ks xss v
 | [],_,_,_,_,_,h=>by cases h
 | _::_,[],_,_,_,hl,_=>by simp at hl
 | k::ks,x::xss,a,b,v,hl,ha=>by
  unfold Xm;show (Y4 (k::ks) (if k=a then (x++[b])::xss else x::Wd ks xss a b) v).getD []=if v=a then ((if k=v then some x else Y4 ks xss v).getD [])++[b]else (if k=v then some x else Y4 ks xss v).getD []
  by_cases z:k=a
  ·rw[vC z]
   show (if k=v then some (x++[b])else Y4 ks xss v).getD []=_
   by_cases y:k=v
   ·rw[vC y,vC (by rw[<- y,z]),vC y];rfl
   ·rw[vF y,vF (λe=>y (by rw[z,e])),vF y]
  ·rw[vF z]
   have ha':a∈ks:=(zG.mp ha).resolve_left λe=>z e.symm;have ih:=q5h (ks:=ks) (xss:=xss) a b v ⇑hl ha';unfold Xm at ih;show (if k=v then some x else Y4 ks (Wd ks xss a b) v).getD []=_
   by_cases y:k=v
   ·rw[vC y,vF (λe=>z (by rw[y,e])),vC y]
   ·rw[vF y,ih,vF y]
theorem q7K:∀{ks:List Int}{xss:List (List Int)}(a v:Int),ks.length=xss.length->Xm (ks++[a]) (xss++[[]]) v=Xm ks xss v
 | [],[],a,v,_=>by
  unfold Xm;show (if a=v then some []else none).getD []=_
  split <;> rfl
 | [],_::_,_,_,hl=>by simp at hl
 | _::_,[],_,_,hl=>by simp at hl
 | k::ks,x::xss,a,v,hl=>by
  have ih:=q7K (ks:=ks) (xss:=xss) a v ⇑hl;unfold Xm at ih ⊢;show (if k=v then some x else Y4 (ks++[a]) (xss++[[]]) v).getD []=(if k=v then some x else Y4 ks xss v).getD []
  by_cases y:k=v
  ·rw[vC y,vC y]
  ·rw[vF y,vF y,ih]
theorem qef(as:List (Int×Int)):∀n:Nat,n<=as.length->(byS as n).1.length=(byS as n).2.length/\∀v,Xm (byS as n).1 (byS as n).2 v=cst ((zw n).filter λj=>decide (Xa as j=v))
 | 0,_=>⟨rfl,λv=>rfl⟩
 | n+1,hn=>by
  obtain⟨h1,h2⟩:=qef as n ∅;have hlt:n<as.length:=∅
  have eb:byS as (n+1)=Xh (byS as n) n (Xa as n):=by
   show (match as[n]? with|some a=>Xh (byS as n) n a.1|none=>byS as n)=_;rw[zE hlt];unfold Xa;rw[zU,zE hlt];rfl
  have er:∀v,cst ((zw (n+1)).filter λj=>decide (Xa as j=v))=if v=Xa as n then cst ((zw n).filter λj=>decide (Xa as j=v))++[(n:Int)]else cst ((zw n).filter λj=>decide (Xa as j=v)):=λv=>by
   rw[List.range_succ,List.filter_append]
   by_cases z:v=Xa as n
   ·rw[vC z]
    have:([n].filter λj=>decide (Xa as j=v))=[n]:=by rw[wz,vC (vQ z.symm)];rfl
    rw[this];unfold cst;rw[zY];rfl
   ·rw[vF z]
    have:([n].filter λj=>decide (Xa as j=v))=[]:=by rw[wz,vF ⇑(λe=>z e.symm)];rfl
    rw[this,yJ]
  rw[eb];unfold Xh
  by_cases ha:Xa as n∈(byS as n).1
  ·rw[vC ha]
   exact⟨by show (byS as n).1.length=(Wd _ _ _ _).length;rw[q4X];exact h1,λv=>by
    show Xm (byS as n).1 (Wd (byS as n).1 (byS as n).2 (Xa as n) n) v=_;rw[q5h _ _ v h1 ha,er v,h2 v]⟩
  ·rw[vF ha]
   have hl':((byS as n).1++[Xa as n]).length=((byS as n).2++[[]]).length:=by rw[zC,zC,h1];rfl
   exact⟨by show ((byS as n).1++[Xa as n]).length=(Wd _ _ _ _).length;rw[q4X];exact hl',λv=>by
    show Xm ((byS as n).1++[Xa as n]) (Wd ((byS as n).1++[Xa as n]) ((byS as n).2++[[]]) (Xa as n) n) v=_;rw[q5h _ _ v hl' (by simp),q7K _ v h1,er v,h2 v]⟩
theorem qgM{l:List Nat}(h:l.Nodup):(cst l).Nodup:=by
 unfold cst List.Nodup;rw[List.pairwise_map];exact h.imp λ{a b} z e=>z ∅
theorem qdz(as:List (Int×Int)):WT as (byS as as.length).1 (byS as as.length).2 (zw as.length):=by
 obtain⟨h1,h2⟩:=qef as as.length (zK _);refine⟨h1,YH,λv k=>?_,λv=>by rw[h2 v];exact qgM (YH.filter _)⟩;rw[h2 v];unfold cst;rw[ya]
 constructor
 ·rintro⟨n,hn,rfl⟩
  obtain⟨a,b⟩:=xa.mp hn;exact⟨n,rfl,a,of_decide_eq_true b⟩
 ·rintro⟨n,rfl,a,b⟩
  exact⟨n,xa.mpr ⟨a,vQ b⟩,rfl⟩
theorem q9h{α:Type}(d:α):∀bs:List α,(zw bs.length).map (λk=>bs.getD k d)=bs:=λbs=>by
 apply List.ext_getElem
 ·rw[zB,zx]
 ·intro i h1 h2
  rw[xY,List.getElem_range,zU,zE h2];rfl
theorem qcb(as:List (Int×Int))(v:Int):cS as (zw as.length) v=(sts as).count v/\cD as (zw as.length) v=(gls as).count v:=by
 have h:∀f:Int×Int->Int,(zw as.length).countP (λn=>decide (f (as.getD n (0,0))=v))=(as.map f).count v:=λf=>by
  have e:=q9h (0,0) as;have:(as.map f)=(zw as.length).map λn=>f (as.getD n (0,0)):=by
   have:=uL (Ye f) e;rw[yk]at this;exact this.symm
  rw[this,YZ,ZL];rfl
 exact⟨h (·.1),h (·.2)⟩
theorem qdg{as:List (Int×Int)}{s:Int}(hl:as.length<=9000)(hp:(sts as).Perm (gls as)):∃row U,Wn s as=some (cst row)/\Rnd as s row U:=by
 have hb:∀v,cS as (zw as.length) v=cD as (zw as.length) v:=λv=>by
  rw[(qcb as v).1,(qcb as v).2,hp.count_eq]
 obtain⟨row,U,r1,r2⟩:=q8Y (s:=s) hl 100000 (byS as as.length).2 (zw as.length) [] [] s (HI.start (.refl _) hb) (qdz as) (by rw[zx,yR];omega);exact⟨row,U,by unfold Wn;rw[vC hl];exact r1,r2⟩
theorem qbQ(v:Int):∀ms:List Mv,((ms.countP λm=>decide (m.frm=v):Nat):Int)-(ms.countP λm=>decide (m.to=v):Nat)=((crR (v+1) ms:Int)-crL (v+1) ms)-((crR v ms:Int)-crL v ms)
 | []=>rfl
 | m::ms=>by
  have ih:=qbQ v ms;rw[q0g,q0v,q0g,q0v,zi,zi];simp only[decide_eq_true_eq]
  by_cases z1:m.frm=v <;> by_cases z2:m.to=v <;> simp only[z1,z2,if_true,if_false] <;> repeat' split
  all_goals omega
theorem Ym.all{g:Int}{bs:List (Int×Int)}{ms:List Mv}(h:∀b∈bs,g<=b.1/\g<=b.2)(Y:Ym g bs ms)(x:Int):crR x ms=crL x ms:=by
 rcases Int.lt_or_le g x with z|z
 ·have:=Y.cr x z;omega
 ·have ge:∀y∈knw g bs,g<=y:=λy hy=>by
   rcases ql.mp hy with q|⟨b,k,_,q|q⟩
   ·omega
   ·rw[q];exact(h b k).1
   ·rw[q];exact(h b k).2
  have a:crR x ms=0:=xF.mpr λm hm=>by
   have:=ge _ (Y.inn m hm).1;simp only[zS,decide_eq_true_eq];omega
  have b:crL x ms=0:=xF.mpr λm hm=>by
   have:=ge _ (Y.inn m hm).2.1;simp only[zS,decide_eq_true_eq];omega
  rw[a,b]
theorem Ym.perm{g:Int}{bs:List (Int×Int)}{ms:List Mv}(h:∀b∈bs,g<=b.1/\g<=b.2)(Y:Ym g bs ms):(sts (ms.map Xl)).Perm (gls (ms.map Xl)):=by
 rw[List.perm_iff_count];intro v;have e1:(sts (ms.map Xl)).count v=ms.countP λm=>decide (m.frm=v):=by
  unfold sts;rw[yk,YZ,ZL];rfl
 have e2:(gls (ms.map Xl)).count v=ms.countP λm=>decide (m.to=v):=by
  unfold gls;rw[yk,YZ,ZL];rfl
 have:=qbQ v ms;rw[Y.all h,Y.all h]at this;rw[e1,e2];omega
theorem q7w{as:List (Int×Int)}{s:Int}{row:List Int}(h:Wn s as=some row):q1q [.int s,.lst (as.map pairD2)]=some (.fr (row.map D.int)):=by
 show ((pairsOf (as.map pairD2)).bind λas=>(Wn s as).map λrow=>O.fr (row.map D.int))=_;rw[q3b,yN,h];rfl
theorem qfj{as:List (Int×Int)}{s:Int}(hl:as.length<=9000)(pm:(sts as).Perm (gls as))(hg:∀q∈as,Rch as s q.1):∃row:List Nat,q2H [.int s,.lst (as.map pairD2)]=↥(.lst ((cst row).map D.int))/\row.Perm (zw as.length)/\Wlk as s row s:=by
 have hm:=qeL (as:=as) hl;rw[vQ pm]at hm;obtain⟨row,U,hr,R⟩:=qdg (s:=s) hl pm;have hrf:=q7w hr;have ha:row.length=as.length:=R.full hg;have e1:((((cst row).length:Nat):Int)==(as.length:Int))=true:=by
  have:(cst row).length=row.length:=by unfold cst;rw[zB]
  simp only[beq_iff_eq];omega
 have hU:U=[]:=by
  have:=R.all.length_eq;rw[zC,zx]at this;exact yg ∅
 refine⟨row,?_,by have:=R.all;rw[hU,xD]at this;exact this,R.walk⟩;unfold q2H q5a;simp_arith[hm,hrf,e1]
theorem qcK:∀(bs:List (Int×Int))(k:Nat),(wcK k bs).length<=bs.length
 | [],_=>zK _
 | b::r,k=>by
  have ih:=qcK r (k+1);unfold wcK;rw[zC,zD]
  split <;> simp only[zD,yR] <;> omega
theorem qcJ:∀(bs:List (Int×Int))(k:Nat)(b:Int×Int),b∈bs->b.1≠b.2->∃j,Mv.box j b.1 b.2∈wcK k bs
 | c::r,k,b,hb,ne=>by
  unfold wcK;rcases zG.mp hb with rfl|hb
  ·exact⟨k,zu _ (by rw[vF ne];exact za.mpr rfl)⟩
  ·obtain⟨j,hj⟩:=qcJ r (k+1) b hb ne
   exact⟨j,zd _ hj⟩
noncomputable def m0(g:Int)(bs:List (Int×Int)):List Mv:=wcK 0 bs++emM g bs
theorem qcd{g:Int}{bs:List (Int×Int)}(hb:bs.length<=20){n:Nat}(hk:(knw g bs).length<=n+1):(m0 g bs).length<=bs.length+40*n:=by
 have a:=qcK bs 0;have b:=q8W hb (nbs (knw g bs));rw[q4J]at b;unfold m0 emM;rw[zC];omega
theorem qdi{g:Int}{bs:List (Int×Int)}(hb:bs.length<=20)(hk:(knw g bs).length<=22)(h:∀b∈bs,g<=b.1/\g<=b.2)(Φ:List Mv->Prop)(cut:∀u k a b p v,Ym g bs (u++Mv.box k a b::v)->Φ (u++Mv.box k a b::v)->((a<p/\p<b)\/(b<p/\p<a))->p∈knw g bs->Rch ((u++Mv.box k a b::v).map Xl) g a->¬Rch ((u++Mv.box k a b::v).map Xl) g p->Φ (u++[Mv.box k a p,Mv.box k p b]++v))(f0:Φ (m0 g bs)):
  ∃ms,qF [.int g,.lst ((m0 g bs).map mvD)]=↥(.lst (ms.map mvD))/\Ym g bs ms/\Φ ms/\(∀m∈ms,Rch (ms.map Xl) g m.frm)/\ms.length<=(m0 g bs).length+2*(knw g bs).length+1:=by
 have Y0:Ym g bs (m0 g bs):=qdX h;have ml:=qcd (g:=g) hb (n:=21) hk
 by_cases z:∃b∈bs,b.1≠b.2
 ·obtain⟨b,hbb,ne⟩:=z
  have E0:∀y∈knw g bs,y∈WR (m0 g bs):=λy hy=>by
   rcases ql.mp hy with q|⟨c,hc,nc,q⟩
   ·have hi:hiB bs (g+1)=true:=q1E.mpr ⟨b,hbb,ne,by have:=h b hbb;omega⟩
    have one:1<=pu bs (g+1):=by
     unfold pu;rw[vC hi];unfold mx3;repeat' split
     all_goals omega
    have c:=(Y0.cr (g+1) ∅).1;have pos:0<crR (g+1) (m0 g bs):=∅
    unfold crR at pos;obtain⟨m,hm,k⟩:=ZX.mp pos;simp only[zS,decide_eq_true_eq]at k;have i1:=(Y0.inn m hm).1;have:g<=m.frm:=by
     rcases ql.mp i1 with r|⟨c,hc,_,r|r⟩
     ·omega
     ·rw[r];exact(h c hc).1
     ·rw[r];exact(h c hc).2
    exact q0V.mpr ⟨m,hm,.inl ∅⟩
   ·obtain⟨j,hj⟩:=qcJ bs 0 c hc nc
    exact q0V.mpr ⟨_,zu _ hj,q⟩
  obtain⟨ms,e,Y,F,al,ll⟩:=qeQ hk h Φ cut Y0 E0 ∅ f0;exact⟨ms,e,Y,F,λm hm=>al _ (Y.inn m hm).1,ll⟩
 ·have st:∀b∈bs,b.1=b.2:=λb hb=>Classical.byContradiction λn=>z ⟨b,hb,n⟩
  have k1:∀y∈knw g bs,y=g:=λy hy=>by
   rcases ql.mp hy with q|⟨c,hc,nc,_⟩
   ·exact q
   ·exact vL (st c hc) nc
  have e0:m0 g bs=[]:=by
   cases q:m0 g bs with
   | nil=>rfl
   | cons m r=>
    have i:=Y0.inn m (by rw[q];exact zI);exact vL (by rw[k1 _ i.1,k1 _ i.2.1]) i.2.2
  rw[e0]at f0 Y0 ⊢;refine⟨[],?_,Y0,f0,(λm hm=>by cases hm),by simp⟩;have ee:q0q [.lst []]=some (.fr []):=q3s (ms:=[]) (by simp) (by decide);have wh:sWh 1000000 qX q0x [↥(.int g),↥(.lst []),↥(.lst []),↥(.lst [.int g])]=some (.nx,[↥(.int g),↥(.lst []),↥(.lst []),↥(.lst [.int g])]):=rfl;rw[yw];unfold qF q0H;simp_arith[ee,wh]
noncomputable def zBW(ms:List Mv)(n:Nat):Mv:=ms.getD n (.go 0 0)
theorem qfZ{g:Int}{bs:List (Int×Int)}(hb:bs.length<=20)(hk:(knw g bs).length<=22)(h:∀b∈bs,g<=b.1/\g<=b.2)(Φ:List Mv->Prop)(cut:∀u k a b p v,Ym g bs (u++Mv.box k a b::v)->Φ (u++Mv.box k a b::v)->((a<p/\p<b)\/(b<p/\p<a))->p∈knw g bs->Rch ((u++Mv.box k a b::v).map Xl) g a->¬Rch ((u++Mv.box k a b::v).map Xl) g p->Φ (u++[Mv.box k a p,Mv.box k p b]++v))(f0:Φ (m0 g bs)):
  ∃(ms:List Mv) (row:List Nat),q17 [.int g,.lst (bs.map Y5)]=some (.fr ((row.map (zBW ms)).map mvD))/\Ym g bs ms/\Φ ms/\row.Perm (zw ms.length)/\Wlk (ms.map Xl) g row g/\ms.length<=(m0 g bs).length+2*(knw g bs).length+1:=by
 obtain⟨ms,e,Y,F,al,ll⟩:=qdi hb hk h Φ cut f0;have ml:=qcd (g:=g) hb (n:=21) hk;have ha:=q9p (ms:=ms) ∅;obtain⟨row,hr,rp,rw'⟩:=qfj (as:=ms.map Xl) (s:=g) (by rw[zB];omega) (Y.perm h) (λq hq=>by
  obtain⟨m,hm,rfl⟩:=ya.mp hq;exact al m hm)
 rw[zB]at rp;refine⟨ms,row,?_,Y,F,rp,rw',ll⟩;have hc:=zCG hb h;have hc':qo [.int g,.lst (bs.map Y5)]=some (.sh .non):=hc;have h1:=qgn (bs:=bs) ∅;have h2:=qfU hb h;have h3:WD (.lst ((wcK 0 bs).map mvD)) (.lst ((emM g bs).map mvD))=some (.fr ((m0 g bs).map mvD)):=by
  rw[q64,<- zY];rfl;have q:=ml;unfold m0 at q;rw[zC]at q;rw[zB,zB];omega
 have cq:(cst row).map D.int=row.map λn:Nat=>D.int (n:Int):=by unfold cst;rw[yk];rfl
 rw[cq]at hr;have hq:(row.map λn:Nat=>D.int (n:Int)).length<=1000000:=by
  rw[zB,rp.length_eq,zx];omega
 have cm:=q0u (i:=0) (f:=q2y) (λn:Nat=>D.int (n:Int)) (λn=>mvD (zBW ms n)) row (ω:=[none,↥(.lst (ms.map mvD))]) (λn hn=>by
  have hlt:n<ms.length:=xW.mp (rp.mem_iff.mp hn);have hi:atI (ms.map mvD) (n:Int)=some (mvD (zBW ms n)):=by
   rw[q0p ∅ (by rw[zB];omega)];have:((ms.map mvD)[((n:Int)).toNat]'(by rw[zB];omega))=mvD ms[n]:=by
    rw[xY];simp
   rw[this];unfold zBW;rw[zU,zE hlt];rfl
  unfold q2y;simp_arith[hi])
 have mm:row.map (λn=>mvD (zBW ms n))=(row.map (zBW ms)).map mvD:=by rw[yk];rfl
 rw[mm]at cm;unfold q17 q2Y;simp_arith[hc',h1,h2,h3,e,ha,hr,Wf hq,inW,W8,cm]
theorem qe0(ms:List Mv):(zw ms.length).map (zBW ms)=ms:=by
 apply xB;intro i;rw[zV];rcases zz i ms.length with z|z
 ·rw[xE z,yi]
  unfold zBW;rw[zU,zE z];rfl
 ·rw[ze ⇑z,ze z];rfl
theorem qfz{a b:List Int}(h:a.Perm b):a.sum=b.sum:=by
 induction h with
 | nil=>rfl
 | cons x _ ih=>rw[yQ,yQ,ih]
 | swap x y l=>rw[yQ,yQ,yQ,yQ];omega
 | trans _ _ i1 i2=>rw[i1,i2]
theorem qey{ms:List Mv}{row:List Nat}(h:row.Perm (zw ms.length)):((row.map (zBW ms)).map zAC).sum=(ms.map zAC).sum:=by
 have p:=(h.map (zBW ms)).map zAC;rw[qe0]at p;exact qfz p
theorem q9A{ms:List Mv}:q01 [.lst (ms.map mvD)]=↥(.int (ms.map zAC).sum):=by
 unfold q01 q2e;simp_arith[qx];obtain⟨ω',e,x2,rfl⟩:=q0h (g:=gN 2) (b:=q1U) mvD ms
  (λpre ω=>∃x2:Option W,ω=[↥(.lst (ms.map mvD)),↥(.int (pre.map zAC).sum),x2])
  (λpre m post ω hd ⟨x2,hω⟩=>by
   subst hω;refine⟨_,rfl,?_⟩;have ba:bAbs [.int (m.to-m.frm)]=↥(.int (zAC m)):=rfl;have es:((pre++[m]).map zAC).sum=(pre.map zAC).sum+zAC m:=by
    rw[zY,YK,zX,yw,yQ,List.sum_nil,Int.add_zero]
   rw[es];unfold q1U;cases m with
   | go a b=>
    have l:WZ [mvD (.go a b)]=↥(.int 3):=rfl;have i1:oIx (mvD (.go a b)) (.int 2)=↥(.int b):=rfl;have i2:oIx (mvD (.go a b)) (.int 1)=↥(.int a):=rfl;have ba':bAbs [.int (b-a)]=↥(.int (zAC (.go a b))):=rfl;simp_arith[l,i1,i2,ba'];exact⟨_,rfl⟩
   | box k a b=>
    have l:WZ [mvD (.box k a b)]=↥(.int 4):=rfl;have i1:oIx (mvD (.box k a b)) (.int 3)=↥(.int b):=rfl;have i2:oIx (mvD (.box k a b)) (.int 2)=↥(.int a):=rfl;have ba':bAbs [.int (b-a)]=↥(.int (zAC (.box k a b))):=rfl;simp_arith[l,i1,i2,ba'];exact⟨_,rfl⟩)
  (ω:=[↥(.lst (ms.map mvD)),↥(.int 0),none]) ⟨none,rfl⟩
 simp_arith[e]
theorem qen{g:Int}{ps:List Int}{bs:List (Int×Int)}(h:∀b∈bs,b.1∈g::ps/\b.2∈g::ps):(knw g bs).length<=(g::ps).length:=by
 refine q1j (qcT g bs) λc hc=>?_;rcases ql.mp hc with q|⟨b,hb,_,q|q⟩
 ·rw[q];exact zI
 ·rw[q];exact(h b hb).1
 ·rw[q];exact(h b hb).2
theorem qcX(s:Int×List Int):∀ms:List Mv,Yy X6 s (ms.map mvD)=Yy Yw s ms:=λms=>by
 induction ms generalizing s with
 | nil=>rfl
 | cons m r ih=>
  show (X6 s (mvD m)).bind (λc'=>Yy X6 c' (r.map mvD))=(Yw s m).bind λc'=>Yy Yw c' r;unfold X6;rw[q6Z,yN];cases Yw s m with
  | none=>rfl
  | some c=>exact ih c
theorem qgO(m:Mv):Rm (mvD m):=by
 cases m with
 | go a b=>exact RV.rm (.inl ⟨a,b,rfl⟩)
 | box k a b=>exact RV.rm (.inr ⟨k,a,b,rfl⟩)
theorem qbZ{gate:Int}{bs:List (Int×Int)}{ms:List Mv}(hc:qo [.int gate,.lst (bs.map Y5)]=some (.sh .non))(hb:bs.length<=30)(hz:ms.length<=200)(t:Yy Yw (gate,starts bs) ms=some (gate,Xi bs)):
  qT [.int gate,.lst (bs.map Y5),.lst (ms.map mvD)]=↥(.bl true):=by
 rw[qds hc hb (λd hd=>by obtain⟨m,_,rfl⟩:=ya.mp hd;exact qgO m) (by rw[zB];exact hz)];unfold Ws;rw[qcX,t];simp
theorem qd9(ns:List Int)(hl:ns.length<=63):q4B [.scr ns]=↥(.bl true):=by
 obtain⟨gate,ps,h2,h6,hps⟩:=qem (ns:=ns);have h7:(gate::ps).length=7:=by rw[zD,h6]
 obtain⟨bs,h4,h5,h9⟩:=qcB (ns:=ns) (some':=gate::ps) h7 hl;have pe:(pairD2:Int×Int->D)=Y5:=rfl;rw[pe]at h4;have ge:∀p∈gate::ps,gate<=p:=λp hp=>(zG.mp hp).elim (λe=>by rw[e];exact yB _) (hps p);have hbs:∀b∈bs,gate<=b.1/\gate<=b.2:=λb hb=>⟨ge _ (h5 b hb).1,ge _ (h5 b hb).2⟩;have hcl:(cutD ns (some 17) (some 63)).length<=63:=by
  have e1:HT.sIx ns.length 0 (some 17)=min 17 ns.length:=HT.q1H ns.length 0 17;have e2:HT.sIx ns.length ns.length (some 63)=min 63 ns.length:=HT.q1H ns.length ns.length 63;unfold cutD;rw[e1,e2,zv];omega
 obtain⟨ms,d1,d2,d3⟩:=zCO (p0:=gate) (r:=ps) (bs:=bs) (cells:=cutD ns (some 17) (some 63)) h7 h9 hcl;have i0:atI ((gate::ps).map D.int) 0=some (.int gate):=by rw[q0p (by decide) (by simp)];rfl
 have hc:=qcG (gate:=gate) (bs:=bs) ∅ hbs;have yt:=qbZ hc ∅ ∅ d2;have lo:=ylow hbs d2;have l1:=q9A (ms:=ms);have yl':q0l [.int gate,.lst (bs.map Y5)]=↥(.int (yl gate bs)):=qcC gate bs ∅ hbs;have kf:=qen (g:=gate) (ps:=ps) h5;obtain⟨ms2,row,y1,y2,_,y3,_,_⟩:=qfZ (g:=gate) (bs:=bs) ∅ ∅ hbs (λ_=>True) (λ_ _ _ _ _ _ _ _ _ _ _ _=>trivial) trivial;have l2:=q9A (ms:=row.map (zBW ms2));rw[qey y3,y2.len hbs]at l2;have bl:zAY [.lst (bs.map Y5)]=some (.fr (bs.map Y5)):=rfl;have bm:zAY [.lst (ms.map mvD)]=some (.fr (ms.map mvD)):=rfl;have c1:decide (yl gate bs<=(ms.map zAC).sum)=true:=vQ lo;generalize (gate::ps).map D.int=P at h2 h4 d1 i0;unfold q4B qaM;simp_arith -implicitDefEqProofs [h2,h4,qel,d1,bl,bm,i0,yt,l1,yl',y1,l2,c1]
theorem qgC{l:ZI}{w:vZ}{K:zA}{h:vn}{mg:Str->Option vB}{fa:vJ}(X:K.In h)(G:h.Ns vY mg)(hfa:mg "law" = some (.ref fa)){f0:vJ}{f1:vJ}{f2:vJ}{f3:vJ}{f4:vJ}{f5:vJ}{f6:vJ}{f7:vJ}{f8:vJ}{f9:vJ}{f10:vJ}{f11:vJ}{f12:vJ}{f13:vJ}{f14:vJ}{f15:vJ}{f16:vJ}{f17:vJ}{f18:vJ}{f19:vJ}{f20:vJ}{f21:vJ}{f22:vJ}{f23:vJ}{f24:vJ}{f25:vJ}{f26:vJ}{f27:vJ}{f28:vJ}{f29:vJ}{f30:vJ}{f31:vJ}{f32:vJ}{f33:vJ}{f34:vJ}{f35:vJ}{f36:vJ}{f37:vJ}{f38:vJ}{f39:vJ}(D0:Fd K "is_whole" q3F f0)(D1:Fd K "is_box" q5e f1)(D2:Fd K "is_errand" q2W f2)(D3:Fd K "leads_over" q2x f3)(D4:Fd K "crossed" q3P f4)(D5:Fd K "is_yard" q4f f5)(D6:Fd K "check_yard" q2J f6)(D7:Fd K "yard_places" q26 f7)(D8:Fd K "times_passed" q1N f8)(D9:Fd K "passes" q50 f9)(D10:Fd K "yard_least" q2B f10)(D11:Fd K "neighbours" q2q f11)(D12:Fd K "group_of" q3C f12)(D13:Fd K "numbers_by_start" q04 f13)(D14:Fd K "as_many_begin_as_end" q0i f14)(D15:Fd K "round_from" q0R f15)(D16:Fd K "row_of" q4Z f16)(D17:Fd K "is_go" q6z f17)(D18:Fd K "has_carry_form" q1g f18)(D19:Fd K "leads" q6h f19)(D20:Fd K "is_yard_carry" q1D f20)(D21:Fd K "brings_each_box" q0Z f21)(D22:Fd K "is_yard_tour" q1G f22)(D23:Fd K "whole_carries" q1n f23)(D24:Fd K "empty_moves" q2c f24)(D25:Fd K "arcs_of" q4d f25)(D26:Fd K "ends_of" q4b f26)(D27:Fd K "lies_amid" q36 f27)(D28:Fd K "cut_in_two" q2E f28)(D29:Fd K "with_one_cut" q1O f29)(D30:Fd K "hung_together" q1m f30)(D31:Fd K "yard_tour" q34 f31)(D32:Fd K "_law_cell" q31 f32)(D33:Fd K "_law_menu" q2X f33)(D34:Fd K "_law_boxes" q2I f34)(D35:Fd K "_law_gone" q38 f35)(D36:Fd K "_law_taken" q2D f36)(D37:Fd K "_law_drawn" q2F f37)(D38:Fd K "_law_length" q25 f38)(D39:Fd K "law" q4x f39)(z_isinstance:yM K vY "isinstance" = some none)(z_bool:yM K vY "bool" = some none)(z_int:yM K vY "int" = some none)(z_len:yM K vY "len" = some none)(z_tuple:yM K vY "tuple" = some none)(z_list:yM K vY "list" = some none)(z_all:yM K vY "all" = some none)(z_min:yM K vY "min" = some none)(z_sorted:yM K vY "sorted" = some none)(q1X:yM K vY "set" = some none)(z_max:yM K vY "max" = some none)(z_zip:yM K vY "zip" = some none)(z_sum:yM K vY "sum" = some none)(z_enumerate:yM K vY "enumerate" = some none)(z_reversed:yM K vY "reversed" = some none)(z_range:yM K vY "range" = some none)(z_abs:yM K vY "abs" = some none)(i_int:IsT K .int)(i_bool:IsT K .bl)(i_tuple:IsT K .tup)(i_list:IsT K .lst): ∃fd:vP,(∀(s:vG)(v:vB),sF s fd ⟨[v],[]⟩ [("script", v)])/\∀base:vn,K.In base->base.Ns vY mg->FnOk l.prog w K mg base CX0 9 fa fd ["script"] (spD K 1 q4B):=by
 have e:=hfa.symm.trans (xv X G D39.1);cases e;obtain⟨d0,F0⟩:=D0.2;obtain⟨d1,F1⟩:=D1.2;obtain⟨d2,F2⟩:=D2.2;obtain⟨d3,F3⟩:=D3.2;obtain⟨d4,F4⟩:=D4.2;obtain⟨d5,F5⟩:=D5.2;obtain⟨d6,F6⟩:=D6.2;obtain⟨d7,F7⟩:=D7.2;obtain⟨d8,F8⟩:=D8.2;obtain⟨d9,F9⟩:=D9.2;obtain⟨d10,F10⟩:=D10.2;obtain⟨d11,F11⟩:=D11.2;obtain⟨d12,F12⟩:=D12.2;obtain⟨d13,F13⟩:=D13.2;obtain⟨d14,F14⟩:=D14.2;obtain⟨d15,F15⟩:=D15.2;obtain⟨d16,F16⟩:=D16.2;obtain⟨d17,F17⟩:=D17.2;obtain⟨d18,F18⟩:=D18.2;obtain⟨d19,F19⟩:=D19.2;obtain⟨d20,F20⟩:=D20.2;obtain⟨d21,F21⟩:=D21.2;obtain⟨d22,F22⟩:=D22.2;obtain⟨d23,F23⟩:=D23.2;obtain⟨d24,F24⟩:=D24.2;obtain⟨d25,F25⟩:=D25.2;obtain⟨d26,F26⟩:=D26.2;obtain⟨d27,F27⟩:=D27.2;obtain⟨d28,F28⟩:=D28.2;obtain⟨d29,F29⟩:=D29.2;obtain⟨d30,F30⟩:=D30.2;obtain⟨d31,F31⟩:=D31.2;obtain⟨d32,F32⟩:=D32.2;obtain⟨d33,F33⟩:=D33.2;obtain⟨d34,F34⟩:=D34.2;obtain⟨d35,F35⟩:=D35.2;obtain⟨d36,F36⟩:=D36.2;obtain⟨d37,F37⟩:=D37.2;obtain⟨d38,F38⟩:=D38.2;obtain⟨_,F39⟩:=D39.2;obtain⟨_,_,kV,dc,pm,an,cd,ct,_,rfl,_,_⟩:=F39.ex;have y_isinstance:=zt X G z_isinstance;have y_bool:=zt X G z_bool;have y_int:=zt X G z_int;have y_len:=zt X G z_len;have y_tuple:=zt X G z_tuple;have y_list:=zt X G z_list;have y_all:=zt X G z_all;have y_min:=zt X G z_min;have y_sorted:=zt X G z_sorted;have y_set:=zt X G q1X;have y_max:=zt X G z_max;have y_zip:=zt X G z_zip;have y_sum:=zt X G z_sum;have y_enumerate:=zt X G z_enumerate;have y_reversed:=zt X G z_reversed;have y_range:=zt X G z_range;have y_abs:=zt X G z_abs;refine⟨xQ "law" "law" (X1 q4x) (Xf q4x) (Yk q4x) .none kV dc pm an cd ct,λs v=>.of_eq rfl,λbase _ _=>?_⟩;have C0:=qj l.prog w base X G D0 F0 (q9f F0 y_isinstance y_bool y_int i_int i_bool) λ_ _ _ _ _ _ us hl=>match us,hl with|[_],_=>rfl
 have C1:=qj l.prog w base X G D1 F1 (qd2 F1 C0 y_len y_isinstance y_tuple i_tuple) λ_ _ _ _ _ _ us hl=>match us,hl with|[_],_=>rfl
 have C2:=qj l.prog w base X G D2 F2 (q89 F2 C0 C1 y_isinstance y_list y_all i_list) λ_ _ _ _ _ _ us hl=>match us,hl with|[_,_,_],_=>rfl
 have C3:=qj l.prog w base X G D3 F3 (q7l F3) λ_ _ _ _ _ _ us hl=>match us,hl with|[_,_,_],_=>rfl
 have C4:=qj l.prog w base X G D4 F4 (qag F4 C3 y_len) λ_ _ _ _ _ _ us hl=>match us,hl with|[_,_],_=>rfl
 have C5:=qj l.prog w base X G D5 F5 (qaZ F5 C2 y_min y_all) λ_ _ _ _ _ _ us hl=>match us,hl with|[_,_],_=>rfl
 have C6:=qj l.prog w base X G D6 F6 (q7u F6 C5) λ_ _ _ _ _ _ us hl=>match us,hl with|[_,_],_=>rfl
 have C7:=qj l.prog w base X G D7 F7 (q66 F7 y_sorted y_set) λ_ _ _ _ _ _ us hl=>match us,hl with|[_,_],_=>rfl
 have C8:=qj l.prog w base X G D8 F8 (q5N F8 C4 y_max) λ_ _ _ _ _ _ us hl=>match us,hl with|[_,_],_=>rfl
 have C9:=qj l.prog w base X G D9 F9 (qcw F9 C6 C7 C8 y_zip) λ_ _ _ _ _ _ us hl=>match us,hl with|[_,_],_=>rfl
 have C10:=qj l.prog w base X G D10 F10 (q7k F10 C9 y_sum) λ_ _ _ _ _ _ us hl=>match us,hl with|[_,_],_=>rfl
 have C11:=qj l.prog w base X G D11 F11 (q7o F11) λ_ _ _ _ _ _ us hl=>match us,hl with|[_,_],_=>rfl
 have C12:=qj l.prog w base X G D12 F12 (q9d F12 y_sorted) λ_ _ _ _ _ _ us hl=>match us,hl with|[_,_],_=>rfl
 have C13:=q3N (P:=l.prog) (w:=w) (mg:=mg) (base:=base) F13 y_enumerate;have C14:=qj l.prog w base X G D14 F14 (q2N F14 y_sorted) λ_ _ _ _ _ _ us hl=>match us,hl with|[_],_=>rfl
 have C15:=qj l.prog w base X G D15 F15 (q7j F15 C13 (xv X G D13.1) F13.kp (F13.binds (ps:=["arcs"]) λ_ _ _ _ _ _ us hl=>match us,hl with|[_],_=>rfl) y_list y_reversed) λ_ _ _ _ _ _ us hl=>match us,hl with|[_,_],_=>rfl
 have C16:=qj l.prog w base X G D16 F16 (qc9 F16 C14 C15 y_len) λ_ _ _ _ _ _ us hl=>match us,hl with|[_,_],_=>rfl
 have C17:=qj l.prog w base X G D17 F17 (qdV F17 C0 y_len y_isinstance y_tuple i_tuple) λ_ _ _ _ _ _ us hl=>match us,hl with|[_],_=>rfl
 have C18:=qj l.prog w base X G D18 F18 (q4L F18 C0 y_len y_isinstance y_tuple y_all i_tuple) λ_ _ _ _ _ _ us hl=>match us,hl with|[_,_],_=>rfl
 have C19:=qj l.prog w base X G D19 F19 (qdT F19) λ_ _ _ _ _ _ us hl=>match us,hl with|[_,_,_],_=>rfl
 have C20:=qj l.prog w base X G D20 F20 (q5d F20 C18) λ_ _ _ _ _ _ us hl=>match us,hl with|[_,_],_=>rfl
 have C21:=qj l.prog w base X G D21 F21 (q49 F21) λ_ _ _ _ _ _ us hl=>match us,hl with|[_,_],_=>rfl
 have C22:=qj l.prog w base X G D22 F22 (q5v F22 C6 C20 C17 C21 C19 y_isinstance y_list y_all i_list) λ_ _ _ _ _ _ us hl=>match us,hl with|[_,_,_],_=>rfl
 have C23:=qj l.prog w base X G D23 F23 (q5b F23 y_enumerate) λ_ _ _ _ _ _ us hl=>match us,hl with|[_],_=>rfl
 have C24:=qj l.prog w base X G D24 F24 (q65 F24 C9 C4) λ_ _ _ _ _ _ us hl=>match us,hl with|[_,_],_=>rfl
 have C25:=qj l.prog w base X G D25 F25 (qbt F25) λ_ _ _ _ _ _ us hl=>match us,hl with|[_],_=>rfl
 have C26:=qj l.prog w base X G D26 F26 (qb4 F26 y_sorted y_set) λ_ _ _ _ _ _ us hl=>match us,hl with|[_],_=>rfl
 have C27:=qj l.prog w base X G D27 F27 (q8A F27 y_max y_min) λ_ _ _ _ _ _ us hl=>match us,hl with|[_,_],_=>rfl
 have C28:=qj l.prog w base X G D28 F28 (q7t F28) λ_ _ _ _ _ _ us hl=>match us,hl with|[_,_],_=>rfl
 have C29:=qj l.prog w base X G D29 F29 (q5B F29 C26 C27 C28 y_enumerate) λ_ _ _ _ _ _ us hl=>match us,hl with|[_,_],_=>rfl
 have C30:=qj l.prog w base X G D30 F30 (q4T F30 C26 C12 C11 C25 C29 y_len) λ_ _ _ _ _ _ us hl=>match us,hl with|[_,_],_=>rfl
 have C31:=qj l.prog w base X G D31 F31 (q8q F31 C6 C30 C23 C24 C16 C25) λ_ _ _ _ _ _ us hl=>match us,hl with|[_,_],_=>rfl
 have C32:=qj l.prog w base X G D32 F32 (q8g F32 y_len) λ_ _ _ _ _ _ us hl=>match us,hl with|[_,_],_=>rfl
 have C33:=qj l.prog w base X G D33 F33 (q86 F33 C32 y_range) λ_ _ _ _ _ _ us hl=>match us,hl with|[_],_=>rfl
 have C34:=qj l.prog w base X G D34 F34 (q7p F34 C32) λ_ _ _ _ _ _ us hl=>match us,hl with|[_,_],_=>rfl
 have C35:zCn _ _ _ _ _ _ _ _ _ _ _ _:=⟨q8i (P:=l.prog) (w:=w) (mg:=mg) (base:=base) F35,xv X G D35.1,F35.kp,F35.binds (ps:=["moves", "here", "there"]) λ_ _ _ _ _ _ us hl=>match us,hl with|[_,_,_],_=>rfl⟩;have C36:zCn _ _ _ _ _ _ _ _ _ _ _ _:=⟨q7n (P:=l.prog) (w:=w) (mg:=mg) (base:=base) F36 C35,xv X G D36.1,F36.kp,F36.binds (ps:=["moves", "lies", "here", "k", "there"]) λ_ _ _ _ _ _ us hl=>match us,hl with|[_,_,_,_,_],_=>rfl⟩;have C37:=qj l.prog w base X G D37 F37 (q7q F37 C35 C36 y_len y_range) λ_ _ _ _ _ _ us hl=>match us,hl with|[_,_,_],_=>rfl
 have C38:=qj l.prog w base X G D38 F38 (q6C F38 y_len y_abs) λ_ _ _ _ _ _ us hl=>match us,hl with|[_],_=>rfl
 exact qgi F39 C33 C34 C37 C22 C38 C31 C10 y_list
theorem walk{l:ZI}{q:vS}{loose:List Str}{XP:(Str->Option vB)->vn->Prop}{YP:vZ->vn->Prop}{d:DefRec}{K:Params->zA}(hn:l.most=some 63)(hdf:d.params.defaults=[])(hY:∀(w:vZ)(h:vn),YP w h->(K w.params).In h)(F:∀(w:vZ)(mg:Str->Option vB)(fa:vJ)(h:vn),(K w.params).In h->h.Ns vY mg->mg d.name=some (.ref fa) ->
   ∃fd:vP,(∀(s:vG)(u:vB),sF s fd ⟨[u],[]⟩ [("script", u)])/\∀base:vn,(K w.params).In base->base.Ns vY mg->FnOk l.prog w (K w.params) mg base CX0 9 fa fd ["script"] (spD (K w.params) 1 q4B)) :
  Ya q loose XP YP l.row.toRowW d [] (λf vs=>PySem.call f vs) :=
 L2.q9r (n:=63) (k:=9) (x := "script") (CX:=λ_=>CX0) (sp:=λw=>spD (K w.params) 1 q4B) hn (by decide) hdf ⟨rfl,by decide,by decide⟩ hY F
  (λ_ H a ns hl _ hS=>⟨H,[.scr ns],.sh (.bl true),qd9 ns hl,rfl,Yz.refl _,⟨.ref a,[],rfl,⟨a,rfl,hS⟩,rfl⟩,λ_ _ _ _ y=>y⟩) λ_ _ _ _ _ z=>z
end Kx
namespace PySem.W.Fast
def tw7307717989199400122:=0
def tw3070099496308513402:=0
def tw784621173325339363:=0
def tw16619362964375547407:=0
def tw15653075515403880708:=0
def tw2803643102381387248:=0
def tw14318707807243710375:=0
def tw17317529904578144133:=0
def tw9017788625099466755:=0
def tw415550102527790611:=0
def tw2104564691354811766:=0
def tw12051988952718738032:=0
def tw6568662382723962480:=0
def tw17273958578156237208:=0
def tw1850181710344915833:=0
def tw9923645728155571941:=0
def tw1163169131506725444:=0
def tw4194398633866324132:=0
def tw3225351623700685368:=0
def tw13018855242805875774:=0
def tw5356718466061749770:=0
def tw14072540310153240496:=0
def tw16261753730443489717:=0
def tw4806339500100659754:=0
def tw479230332251208880:=0
def tw6659106103802291711:=0
def tw13185321207988108462:=0
def tw14177843990318906302:=0
def tw11256069004211769488:=0
def tw12401933342360321166:=0
def tw3351882066214895878:=0
def tw2936650887792634298:=0
def tw17152595066548239577:=0
def tw10544673072902032832:=0
def tw10643449452520331300:=0
def tw10853299011109568882:=0
def tw14897382116429358664:=0
def tw11294291101482097827:=0
def tw6688407269501328686:=0
def tw12709548583090163909:=0
def tw10833571214548106878:=0
def tw5993432114751732848:=0
def tw7393759792682796411:=0
def tw2304345494131453968:=0
def tw2125397815274467557:=0
def tw1336508097117024069:=0
def tw15503206901540497746:=0
def tw2117838324035047394:=0
def tw5480908216212112062:=0
def tw14475440263943350569:=0
def tw6239211928435302565:=0
def tw2429269523378761697:=0
def tw6856467024822316761:=0
def tw16110058553236447449:=0
def tw14090862397278866783:=0
def tw11158130012066822578:=0
def tw6672216477404132624:=0
def tw17993138867419586209:=0
def tw1727581010996306986:=0
def tw16074298761318002280:=0
def tw10006308577995268654:=0
def tw8303458247773369833:=0
def tw16393235795232025973:=0
def tw7052597313266279568:=0
def tw3217421511047626750:=0
def tw13840217824422238861:=0
def tw705509980336766051:=0
def tw14277734005204598964:=0
def tw10648956419068327000:=0
def tw8390101872294667166:=0
def tw15664365900490495276:=0
def tw894676789693891318:=0
def tw3894624065974240868:=0
def tw16496789289785032536:=0
def tw984515690532357984:=0
def tw3157683215454513265:=0
def tw2902986965975819721:=0
def tw2073432132104119560:=0
def tw274325386697825572:=0
def tw11153596654283602235:=0
def tw17433390619904663285:=0
def tw4336584323168624529:=0
def tw12704158618997009174:=0
def tw15427917137935227040:=0
def tw14609816980804310904:=0
def tw1199256836925187755:=0
def tw14252948883408574275:=0
def tw2471512416676835409:=0
def tw420910744969727262:=0
def tw16374707274742623470:=0
def tw17746833502899219664:=0
def tw6495900745103296368:=0
def tw5002529349593168554:=0
def tw12572096848888379634:=0
def tw9790023060840574974:=0
def tw1880182040668411006:=0
def tw14523565138123708776:=0
def tw9519085326903796051:=0
def tw17774441662881688437:=0
def tw17558224231867532846:=0
def tw17068099570401987035:=0
def tw6767607749746008830:=0
def tw4598942223831578679:=0
def tw6484984154627364040:=0
def tw5258942857666460689:=0
def tw2193985553663955009:=0
def tw10860340312371710756:=0
def tw1114878946879727477:=0
def tw4829130073046373173:=0
def tw14414089715529464629:=0
def tw8121066996405069234:=0
def tw18335719091366091907:=0
def tw16478270633737144294:=0
def tw12735733180645624986:=0
def tw7521458042230272249:=0
def tw9441795875916269255:=0
def tw8421400637597588690:=0
def tw5514104204200295992:=0
def tw12932199563173094343:=0
def tw746472070114950005:=0
def tw778891537610903304:=0
def tw398158940720733375:=0
def tw11344630774616809139:=0
def tw15343287221325138742:=0
def tw13792225029343553005:=0
def tw14098325798724534648:=0
def tw16485242180884350829:=0
def tw5721732733987742457:=0
def tw5534848574754410781:=0
def tw9605029407431853244:=0
def tw13629142422845991433:=0
def tw16644941418123401770:=0
def tw1743460492284053511:=0
def tw12663138904336153852:=0
def tw17019386887503492889:=0
def tw10354162693617189645:=0
def tw2982896688048932232:=0
def tw10657205128810108178:=0
def tw14569767008922686120:=0
def tw5192657069855391524:=0
def tw9958633930139267904:=0
def tw13938967946213042534:=0
def tw12454582834750989634:=0
def tw17128494641004413937:=0
def tw17109876291338970304:=0
def tw17069752724905313287:=0
def tw18047665234074071727:=0
def tw5500757690286566932:=0
def tw1269554856319334435:=0
def tw13152133164357240715:=0
def tw15675709412767000514:=0
def tw15804950924502517570:=0
def tw13282743639053773702:=0
def tw3020785372986026795:=0
def tw2879541069452249523:=0
def tw10474740285521196329:=0
def tw10953666848870533212:=0
def tw13406232813826641947:=0
def tw8039485971048385109:=0
def tw6708936833329539262:=0
def tw5668820265845802014:=0
def tw690184138841920633:=0
def tw10348897483487603650:=0
def tw17000536403388458193:=0
def tw15886777444918907874:=0
def tw15990086414002575587:=0
def tw6255834310137188900:=0
def tw9698692722694030502:=0
def tw16796851780119568379:=0
def tw14834457164641262785:=0
def tw1261239266458976374:=0
def tw6174948112398483684:=0
def tw7157996267336532322:=0
def tw8569884746818500582:=0
def tw1276492380226467801:=0
def tw13862627694829164309:=0
def tw6383183178065777705:=0
def tw11204468181313127160:=0
def tw17355880496834179185:=0
def tw9567785501268519666:=0
def tw9008476356727185893:=0
def tw7500971486504793276:=0
def tw5769503287731904370:=0
def tw7603500060636370556:=0
def tw12664226407261986261:=0
def tw13591935857045972767:=0
def tw5545599299685325138:=0
def tw7348084363504643555:=0
def tw12538958911496196564:=0
def tw11445903589883620656:=0
def tw5037983617185205088:=0
def tw5197528574222961022:=0
def tw10833201250170310103:=0
def tw505428394815904159:=0
def tw10610605147428613345:=0
def tw8478534168455413570:=0
def tw12095300917063184331:=0
def tw10690104380752290835:=0
def tw7668941652603637017:=0
def tw1155961714893528347:=0
def tw14902415172893412965:=0
def tw5719581648390205075:=0
def tw15032569891238287599:=0
def tw4560605389713255588:=0
def tw17383072707890916676:=0
def tw891054562253922785:=0
def tw1312411720165958763:=0
def tw12064902633390302833:=0
def tw13255958339766628935:=0
def tw6391814861871777265:=0
def tw2407399509097677799:=0
def tw12651244976233918663:=0
def tw10704748993075354457:=0
def tw6650976376647244837:=0
def tw7845897095810841546:=0
def tw3325498091764951357:=0
def tw12279142873369815526:=0
def tw8718032855120672746:=0
def tw13640041749401950285:=0
def tw16043689870494929814:=0
def tw1415642360018316065:=0
def tw15949192216274850393:=0
def tw253045332569006441:=0
def tw16113648932159253105:=0
def tw2294134473219339858:=0
def tw11998826999517340238:=0
def tw14134843178401179736:=0
def tw15901479367000196195:=0
def tw2945617763048819460:=0
def tw17967757151658154556:=0
def tw5539953228737561323:=0
def tw14620253029985155574:=0
def tw18094873644210913891:=0
def tw2317930622694287141:=0
def tw21564208357707395:=0
def tw14460822767196450798:=0
def tw3586084384465086276:=0
def tw8751871377117224353:=0
def tw898731395507432101:=0
def tw13066662652134629451:=0
def tw1448666058693292186:=0
def tw16878018558743234773:=0
def tw12583589290104164419:=0
def tw2452095885102044141:=0
def tw5522925435297470893:=0
def tw13693301658532350095:=0
def tw6693998026190311998:=0
def tw5794283064739009840:=0
def tw6351606412417241434:=0
def tw8678238885484353292:=0
def tw17335053443043453973:=0
def tw9468594068520704017:=0
def tw1947143896237973087:=0
def tw5035270817599445903:=0
def tw1586362355536162443:=0
def tw56245678878464270:=0
def tw6814636627452511512:=0
def tw16552209622295523201:=0
def tw11447359694687168069:=0
def tw14654876881773166282:=0
def tw3297971826811901732:=0
def tw16025821053375506224:=0
def tw15611347343242086339:=0
def tw16887945346954538111:=0
def tw6053316444354575165:=0
def tw14258633885933751767:=0
def tw1997176556840113983:=0
def tw16462410475563707156:=0
def tw15906134780138312588:=0
def tw15161704598793471987:=0
def tw5183512706366190154:=0
def tw12747108085151291581:=0
def tw8126306641906765328:=0
def tw9855448472508940560:=0
def tw12696639892753183480:=0
def tw146096503908182824:=0
def tw8758332576189495567:=0
end PySem.W.Fast
open PySem PySem.W PyProof.Rows
set_option maxRecDepth 100000 in
set_option maxHeartbeats 0 in
theorem PySem.Challenge.cw_hookrail_k54_whole_no_yard_tour_is_short_holds : PySem.Challenge.rw_hookrail_k54_whole_no_yard_tour_is_short.Holds := by
 w_on;o_law;k_head;(case hw=>w_witness2)
 k_fill
 refine Kx.walk (l:=PySem.Challenge.rw_hookrail_k54_whole_no_yard_tour_is_short) rfl rfl (λw h Y=>YS Y) ?F
 case F =>
  intro w mg fa h KX G hmg;refine' Kx.qgC KX G hmg ?D0 ?D1 ?D2 ?D3 ?D4 ?D5 ?D6 ?D7 ?D8 ?D9 ?D10 ?D11 ?D12 ?D13 ?D14 ?D15 ?D16 ?D17 ?D18 ?D19 ?D20 ?D21 ?D22 ?D23 ?D24 ?D25 ?D26 ?D27 ?D28 ?D29 ?D30 ?D31 ?D32 ?D33 ?D34 ?D35 ?D36 ?D37 ?D38 ?D39 ?z_isinstance ?z_bool ?z_int ?z_len ?z_tuple ?z_list ?z_all ?z_min ?z_sorted ?q1X ?z_max ?z_zip ?z_sum ?z_enumerate ?z_reversed ?z_range ?z_abs ?i_int ?i_bool ?i_tuple ?i_list
  (case D0|D1|D2|D3|D4|D5|D6|D7|D8|D9|D10|D11|D12|D13|D14|D15|D16|D17|D18|D19|D20|D21|D22|D23|D24|D25|D26|D27|D28|D29|D30|D31|D32|D33|D34|D35|D36|D37|D38|D39=>(refine' Hk.qh2 ?a ?l ?c ?k;(case a=>k_is);(case l=>k_is);(case c=>k_is);(case k=>k_is)))
  (case z_isinstance|z_bool|z_int|z_len|z_tuple|z_list|z_all|z_min|z_sorted|q1X|z_max|z_zip|z_sum|z_enumerate|z_reversed|z_range|z_abs=>k_is)
  (case i_int=>intro t ht;cases t <;> first|(exact absurd rfl ht)|rfl|k_is)
  (case i_bool=>intro t ht;cases t <;> first|(exact absurd rfl ht)|rfl|k_is)
  (case i_tuple=>intro t ht;cases t <;> first|(exact absurd rfl ht)|rfl|k_is)
  (case i_list=>intro t ht;cases t <;> first|(exact absurd rfl ht)|rfl|k_is)
#print axioms PySem.Challenge.cw_hookrail_k54_whole_no_yard_tour_is_short_holds
